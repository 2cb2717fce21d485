import PyProof.Rows.All
import Wide.All
import OpenK.AllK
import Wide.FinOn
import PyProof.StrBlock2
import HandS.ForMost
import HandS.Wide
import HandS.IsInst
import HandS.Exc
import HandS.ExcOwn
import HandS.ExcCtx
import HandS.ExcIs
import HandS.Hot
import HandS.WordsExc
import HandS.Gcd
import HandS.AnyAll
import HandS.Style
import HandS.More
import HandS.Walk
import HandS.WideBits
import HandS.Dict
import HandS.HeadHook4
import HandS.HeadEnd
import HandS.HeadWalk
import HandS.Head0
import HandS.Head1
import HandS.Head2
import HandS.Head3
import PySem.Challenge.RW_ropedance_k22_undo
set_option Elab.async false
set_option linter.all false
set_option maxRecDepth 100000
set_option maxHeartbeats 4000000
namespace Rope
open PySem L2


/-! ### texts as lists of codes -/
def S (l : List Nat) : Str := ⟨l.toArray⟩
theorem S_len (l : List Nat) : (S l).length = l.length := by simp [S, Str.length]
theorem S_list (l : List Nat) : (S l).cps.toList = l := by simp [S]
theorem S_size (l : List Nat) : (S l).cps.size = l.length := by simp [S]
theorem S_get (l : List Nat) (i : Nat) : (S l).cps[i]? = l[i]? := by simp [S]
theorem S_inj {l m : List Nat} (h : S l = S m) : l = m := by
  have := congrArg (fun z : Str => z.cps.toList) h
  simpa [S] using this
theorem S_app (l m : List Nat) : S l ++ S m = S (l ++ m) := by
  show Str.append (S l) (S m) = S (l ++ m)
  simp [Str.append, S]
theorem S_mul (l : List Nat) (n : Int) : Txt.mul (S l) n = S (List.replicate n.toNat l).flatten := by
  unfold Txt.mul
  by_cases h1 : n < 1
  · rw [if_pos h1]
    have : n.toNat = 0 := by omega
    rw [this]
    rfl
  · rw [if_neg h1]
    by_cases h2 : (n == 1 || (S l).length == 0) = true
    · rw [if_pos h2]
      simp only [Bool.or_eq_true, beq_iff_eq] at h2
      rcases h2 with h2 | h2
      · subst h2
        show S l = S (List.replicate 1 l).flatten
        simp
      · rw [S_len] at h2
        have : l = [] := List.eq_nil_of_length_eq_zero h2
        subst this
        simp
    · rw [if_neg h2]
      have aux : ∀ (k : Nat) (a : Array Nat), ((List.replicate k (S l).cps).foldl (· ++ ·) a).toList = a.toList ++ (List.replicate k l).flatten := by
        intro k
        induction k with
        | zero => intro a; simp
        | succ k ih =>
          intro a
          rw [List.replicate_succ, List.foldl_cons, ih, List.replicate_succ, List.flatten_cons, Array.toList_append, List.append_assoc, S_list]
      have := aux n.toNat #[]
      unfold S
      congr 1
      apply Array.toList_inj.mp
      rw [show S l = (⟨l.toArray⟩ : Str) from rfl] at this
      rw [this]
      simp
theorem S_cut (l : List Nat) (lo hi : Option Int) : cutS (S l) lo hi = S ((l.drop (HT.sIx l.length 0 lo)).take (HT.sIx l.length l.length hi - HT.sIx l.length 0 lo)) := by
  unfold cutS
  rw [S_len, S_list]
  rfl
theorem S_take (l : List Nat) {m : Int} (h : 0 ≤ m) : cutS (S l) none (some m) = S (l.take m.toNat) := by
  obtain ⟨k, rfl⟩ := Int.eq_ofNat_of_zero_le h
  rw [S_cut, HT.sIx_none, HT.sIx_nat, List.drop_zero, Nat.sub_zero, Int.toNat_natCast]
  congr 1
  by_cases h2 : k ≤ l.length
  · rw [Nat.min_eq_left h2]
  · rw [Nat.min_eq_right (by omega), List.take_of_length_le (Nat.le_refl _), List.take_of_length_le (by omega)]
theorem S_drop (l : List Nat) {m : Int} (h : 0 ≤ m) : cutS (S l) (some m) none = S (l.drop m.toNat) := by
  obtain ⟨k, rfl⟩ := Int.eq_ofNat_of_zero_le h
  rw [S_cut, HT.sIx_none, HT.sIx_nat, Int.toNat_natCast]
  congr 1
  rw [List.take_of_length_le (by simp)]
  by_cases h2 : k ≤ l.length
  · rw [Nat.min_eq_left h2]
  · rw [Nat.min_eq_right (by omega), List.drop_length, List.drop_eq_nil_of_le (by omega)]
/-- a text times an int -/
theorem op_mul_str {X : Cx} : OpR X (binaryOp .Mult) (fun x y H Q => ∃ (l : List Nat) (n : Int), x = .str (S l) ∧ y = .int n ∧ 0 ≤ n ∧ n < 2 ^ 62 ∧ l.length * n.toNat ≤ 16777215 ∧ Q (.str (S (List.replicate n.toNat l).flatten)) H) := by
  intro pins s σ H x y v u Q I rx ry h
  obtain ⟨l, n, rfl, rfl, h0, h1, h2, q⟩ := h
  obtain ⟨t, rfl⟩ := rx
  obtain ⟨t', rfl⟩ := ry
  have e1 : decide (n < -(2 ^ 63 : Int)) = false := decide_eq_false (by omega)
  have e2 : decide (n ≥ 2 ^ 63) = false := decide_eq_false (by omega)
  refine SB.mul ⟨by rw [e1, e2]; rfl, fun z1 z2 => ?_, fun z1 z2 => ?_⟩ fun t' k => ⟨.str _, H, I.tok _, ⟨_, rfl⟩, by rw [S_mul]; exact q⟩
  · rw [S_len]
    have h3 : (l.length : Int) * n ≤ 16777215 := by
      have : ((l.length * n.toNat : Nat) : Int) ≤ 16777215 := Int.ofNat_le.mpr h2
      rw [Int.natCast_mul, Int.toNat_of_nonneg h0] at this
      exact this
    have hn : 0 < n := by omega
    intro hc
    have hc' : (2 ^ 63 - 1) / n < (l.length : Int) := hc
    have := (Int.ediv_lt_iff_lt_mul hn).mp hc'
    omega
  · rw [S_len]
    unfold Builtin.Str.tooLong
    rw [sizeLine_eq]
    exact decide_eq_false (by omega)
/-! ### the calls: a fraction by a letter -/
def called (v : Int × Int) (c : Nat) : Int × Int :=
  if c = 84 then (v.1 + v.2, v.2) else if c = 85 then (v.1 - v.2, v.2) else if 0 < v.1 then (0 - v.2, v.1) else if v.1 < 0 then (v.2, 0 - v.1) else (1, 0)
def run (v : Int × Int) (l : List Nat) : Int × Int := l.foldl called v
theorem run_nil (v : Int × Int) : run v [] = v := rfl
theorem run_app (v : Int × Int) (l m : List Nat) : run v (l ++ m) = run (run v l) m := List.foldl_append
theorem run_take {l : List Nat} {i c : Nat} (v : Int × Int) (h : l[i]? = some c) : run v (l.take (i + 1)) = called (run v (l.take i)) c := by
  rw [List.take_add_one, h, run_app]
  rfl
/-- what a fraction of the laws keeps: q positive or infinite, no common divisor -/
def Good (v : Int × Int) : Prop := (0 < v.2 ∨ v = (1, 0)) ∧ Int.gcd v.1 v.2 = 1
theorem Good.zero : Good (0, 1) := ⟨.inl (by decide), by decide⟩
theorem gcd_add' (p q : Int) : Int.gcd (p + q) q = Int.gcd p q := by
  have := Int.gcd_add_mul_right_left p q 1
  simpa using this
theorem Good.called {v : Int × Int} (h : Good v) (c : Nat) : Good (called v c) := by
  obtain ⟨p, q⟩ := v
  obtain ⟨h1, h2⟩ := h
  simp only at h1 h2
  unfold Rope.called
  by_cases c1 : c = 84
  · rw [if_pos c1]
    refine ⟨?_, ?_⟩
    · rcases h1 with h1 | h1
      · exact .inl h1
      · cases h1; exact .inr rfl
    · show Int.gcd (p + q) q = 1
      rw [gcd_add']; exact h2
  rw [if_neg c1]
  by_cases c2 : c = 85
  · rw [if_pos c2]
    refine ⟨?_, ?_⟩
    · rcases h1 with h1 | h1
      · exact .inl h1
      · cases h1; exact .inr rfl
    · show Int.gcd (p - q) q = 1
      have := gcd_add' (p - q) q
      rw [Int.sub_add_cancel] at this
      rw [← this]; exact h2
  rw [if_neg c2]
  by_cases c3 : 0 < p
  · rw [if_pos (show 0 < (p, q).1 from c3)]
    refine ⟨.inl c3, ?_⟩
    show Int.gcd (0 - q) p = 1
    rw [Int.zero_sub, Int.neg_gcd, Int.gcd_comm]; exact h2
  rw [if_neg (show ¬ 0 < (p, q).1 from c3)]
  by_cases c4 : p < 0
  · rw [if_pos (show (p, q).1 < 0 from c4)]
    refine ⟨.inl (by show 0 < 0 - p; omega), ?_⟩
    show Int.gcd q (0 - p) = 1
    rw [Int.zero_sub, Int.gcd_neg, Int.gcd_comm]; exact h2
  rw [if_neg (show ¬ (p, q).1 < 0 from c4)]
  exact ⟨.inr rfl, by decide⟩
theorem good_run : ∀ (l : List Nat) {v : Int × Int}, Good v → Good (run v l)
  | [], _, h => h
  | c :: r, _, h => good_run r (h.called c)
/-- its size grows by a bit a letter -/
theorem called_size {v : Int × Int} {n : Nat} (h1 : v.1.natAbs ≤ n) (h2 : v.2.natAbs ≤ n) (h0 : 1 ≤ n) (c : Nat) : (called v c).1.natAbs ≤ 2 * n ∧ (called v c).2.natAbs ≤ 2 * n := by
  unfold called
  repeat' split
  all_goals simp only
  all_goals omega
theorem run_size : ∀ (l : List Nat) {v : Int × Int} {n : Nat}, v.1.natAbs ≤ n → v.2.natAbs ≤ n → 1 ≤ n → (run v l).1.natAbs ≤ 2 ^ l.length * n ∧ (run v l).2.natAbs ≤ 2 ^ l.length * n
  | [], v, n, h1, h2, _ => by simpa [run] using ⟨h1, h2⟩
  | c :: r, v, n, h1, h2, h0 => by
    have q := called_size h1 h2 h0 c
    have ih := run_size r q.1 q.2 (by omega)
    have e : 2 ^ (c :: r).length * n = 2 ^ r.length * (2 * n) := by
      rw [List.length_cons, Nat.pow_succ, Nat.mul_assoc]
    rw [e]
    exact ih
/-! ### the divisor -/
theorem gcd_step (x y : Int) : Nat.gcd y.natAbs (x.fmod y).natAbs = Nat.gcd x.natAbs y.natAbs := by
  show Int.gcd y (x.fmod y) = Int.gcd x y
  have e : x.fmod y = x + y * (-(x.fdiv y)) := by
    have := Int.fmod_def x y
    rw [this, Int.mul_neg]
    rfl
  rw [e, Int.gcd_add_mul_left_right, Int.gcd_comm]
theorem fmod_less {x y : Int} (h : y ≠ 0) : (x.fmod y).natAbs < y.natAbs := by
  by_cases h0 : 0 < y
  · rw [Int.fmod_eq_emod_of_nonneg x (by omega)]
    have h1 := Int.emod_nonneg x h
    have h2 := Int.emod_lt_of_pos x h0
    omega
  · have e : x.fmod y = -((-x).fmod (-y)) := by
      have := Int.neg_fmod_neg (a := x) (b := y)
      omega
    rw [e, Int.fmod_eq_emod_of_nonneg _ (by omega)]
    have h1 := Int.emod_nonneg (-x) (b := -y) (by omega)
    have h2 := Int.emod_lt_of_pos (-x) (b := -y) (by omega)
    omega
/-- for letter in text -/
theorem for_str {l : List Nat} {g : TG} {tb : TS} {D : Ends} {σ : L2.St} {H : Hp} (Pv : Nat → L2.St → Hp → Prop) (h0 : Pv 0 σ H)
    (hs : ∀ i c σ H, l[i]? = some c → Pv i σ H → g (.str (S [c])) σ H fun σ2 H2 => tb { D with nx := Pv (i + 1), ct := Pv (i + 1), bk := D.nx } σ2 H2) (hd : ∀ σ H, Pv l.length σ H → D.nx σ H) :
    ∃ W : Nat → Nat → L2.St → Hp → Prop, (∃ m, W 0 m σ H) ∧ ∀ i m σ H, W i m σ H →
      ((Its (S l)).stop i H ∧ D.nx σ H) ∨ ((Its (S l)).go i H ∧ ∃ N : L2.St → Hp → Prop, (∀ σ' H', N σ' H' → ∃ m', m' < m ∧ W (i + 1) m' σ' H') ∧ ∀ x H', (Its (S l)).yld i H x H' → g x σ H' fun σ2 H2 => tb { D with nx := N, ct := N, bk := D.nx } σ2 H2) := by
  refine ⟨fun i m σ H => m = l.length - i ∧ i ≤ l.length ∧ Pv i σ H, ⟨l.length, by simp, Nat.zero_le _, h0⟩, ?_⟩
  rintro i m σ H ⟨rfl, hi, p⟩
  by_cases hlt : i < l.length
  · refine .inr ⟨by show i < (S l).cps.size; rw [S_size]; exact hlt, Pv (i + 1), fun σ' H' p' => ⟨l.length - (i + 1), by omega, rfl, hlt, p'⟩, fun x H' y => ?_⟩
    obtain ⟨e, c, hc, rfl⟩ := y
    subst e
    rw [S_get] at hc
    exact hs i c σ _ hc p
  · have e : i = l.length := by omega
    subst e
    exact .inl ⟨by show (S l).cps.size ≤ l.length; rw [S_size]; exact Nat.le_refl _, hd σ H p⟩

section
open PySem.F HotX
variable {prog : Program} {w : World} {A : Around} {E : Value → Shared → Prop} {s : Shared}
/-- the end of a list's walk while an exception is handled -/
theorem list_end_hot {it l x1 : Addr} {i : Nat} {items : Array Value} {Q : Option Value → Shared → Prop} (hot : HotAt A x1 s.heap) (hne : x1 ≠ it)
    (hit : s.heap.IsListIter it l i) (hl : s.heap.IsList l items) (hx : items[i]? = none)
    (hQ : ∀ h', Heap.ExtBut it s.heap h' → Q none { s with heap := h' }) : wpAny (model prog w) A (pyNext (.ref it)) Q E s := by
  obtain ⟨io, iAt, _, iDat⟩ := id hit
  obtain ⟨lo, lAt, _, ln, lDat⟩ := hl
  obtain ⟨he, xo, xv, xAt, xDat, xCtx⟩ := hot
  have typ := hit.typeIs
  unfold pyNext
  refine wpAny_bind (wpAny_attempt (wpAny_callSpecial?_slot (name := Str.ofString "__next__") typ slot_listiter_next (wpAny_call_entry slot_listiter_next typ entry_listiter_next ?body (args_listiter_next _))))
  -- the list, the place, the items: nothing is left
  show wpAny _ _ (field (.ref it) 0 >>= _) _ _ s; refine wpAny_bind (wpAny_field iAt iDat (x := .ref l) rfl ?_)
  show wpAny _ _ (if (Value.ref l == Value.none) = true then _ else _) _ _ s; rw [if_neg (show ¬ ((Value.ref l == Value.none) = true) from Bool.false_ne_true)]
  show wpAny _ _ (field (.ref it) 1 >>= _) _ _ s; refine wpAny_bind (wpAny_field iAt iDat (x := .int i 0) rfl ?_)
  show wpAny _ _ (seqItems? (.ref l) >>= _) _ _ s; refine wpAny_bind (wpAny_seqItems lAt lDat ?_); simp only [Int.toNat_natCast, hx]
  refine wpAny_bind (wpAny_rule (wpAny_bind (wpAny_setField iAt iDat (by simp) ?stop)))
  -- StopIteration is made and raised on top of the one that is handled
  show wpAny _ _ (newExc (.type "StopIteration") [] >>= _) _ _ _; refine wpAny_bind ?_; simp only [newExc, newTuple]
  refine wpAny_bind (wpAny_newObj_type (wpAny_bind (m := firstArgMember _ _) (wpAny_of_eq (a := Value.none) (by first | rfl | (simp only [firstArgMember]; rfl)) (wpAny_newObj_type ?_ (by size_fits)))) (by size_fits))
  have kept := (Heap.get?_update_other s.heap (Obj.mapFields (·.setIfInBounds 0 .none)) hne.symm).trans xAt
  have far := Heap.lt_size (Heap.get?_push_of_some { cls := .type "tuple", data := .seq #[] } kept)
  refine raiseNew_hot ⟨he, xo, xv, Heap.get?_push_of_some _ (Heap.get?_push_of_some _ kept), xDat, xCtx⟩ (Nat.ne_of_lt far) (Heap.get?_push_size _ rfl) rfl (by first | (simp; done) | (simp; omega) | (simp only [Array.size_append]; simp; omega)) ?_
  refine wpAny_bind (wpAny_isInstance (T := "StopIteration") (b := true) ⟨_, Heap.get?_update_self _ (Heap.get?_push_size _ rfl) rfl, rfl⟩ isSubtype_stop (wpAny_pure (hQ _ fun c u hc e => ?_)))
  have e2 := (Heap.SameBut.update s.heap it (Obj.mapFields (·.setIfInBounds 0 .none))).extBut c u hc e
  have e3 := Heap.get?_push_of_some { cls := .type "tuple", data := .seq #[] } e2
  exact (Heap.get?_update_other _ _ (Nat.ne_of_gt (Heap.lt_size e3))).trans (Heap.get?_push_of_some _ e3)
end
/-- a list walked while an exception is handled -/
theorem walks_list_hot {prog : Program} {w : World} {A : Around} {x1 : Addr} {o1 : Obj} {vs1 : Array Value} (hh : A.handled = some (.ref x1)) (d1 : o1.data = .fields vs1) (c1 : vs1[2]? = some .none) (I ax : Addr) (hne : ax ≠ I) (h1I : x1 ≠ I) (items : Array Value) :
    Walks prog w A I [I, ax, x1] [I] items.size (fun i v => items[i]? = some v) (fun i h => h.IsListIter I ax i ∧ h.IsList ax items ∧ h.get? x1 = some o1) where
  sub := fun b hb => by simp at hb; simp [hb]
  frame := fun _ _ _ st hk => ⟨st.1.at fun o e => hk I (by simp) o e, st.2.1.at fun o e => hk ax (by simp) o e, hk x1 (by simp) _ st.2.2⟩
  item := fun i s Q E hi st hQ => by
    exact wpAny_pyNext_list_item st.1 st.2.1 (x := items[i]) (by simp [hi]) fun h' hit' hs' => hQ _ h' s.toks (by simp [hi]) ⟨hit', st.2.1.extBut hs'.extBut hne, hs'.extBut x1 _ h1I st.2.2⟩ fun b o hb e => hs'.extBut b o (fun h => hb (by simp [h])) e
  done := fun s Q E st hQ => list_end_hot ⟨hh, o1, vs1, st.2.2, d1, c1⟩ h1I st.1 st.2.1 (by simp) fun h' he' => hQ h' s.toks fun b o hb e => he' b o (fun h => hb (by simp [h])) e
  self := fun _ _ _ _ st hQ => wpAny_pyIter_listiter st.1 hQ
section
variable {X : Cx} {a : Addr} {oe : Obj} {cls : Value} {d : Option Addr} {pn : List (Addr × Obj)}
/-- any(list of bools) within an except suite -/
theorem any_hot (hz : L2N.Zn cls d oe) (hf : ∃ vs, oe.data = .fields vs) : CallR (X.suite a ((a, oe) :: pn)) (.builtin "any") (rAny X.K) := fun pins s σ H vs us Q I r ⟨b, bs, ev, hs, q⟩ => by
  subst ev
  obtain ⟨its, rv, hl, _⟩ := Inv.list I hs
  obtain ⟨fv, hd⟩ := hf
  have here := (I.pin (a, oe) (List.mem_append_left _ List.mem_cons_self)).1
  have lt := Heap.lt_size here
  rw [Vals.ref1 r]
  have items := rv.bls
  refine call_any_walk (iter_any hl.isList fun z ez st ne => ?_); subst ez
  refine ⟨_, _, _, _, _, _, _, rfl, walks_list_hot (A := (X.suite a ((a, oe) :: pn)).A.in1) (x1 := a) (o1 := oe) rfl hd (hz.2.2 fv hd) _ b ne (Nat.ne_of_lt lt) its.toArray, ⟨st.1, st.2, Heap.get?_push_of_some _ here⟩, truth_bools items, fun h' tk hk => ?_⟩
  have all : ∀ c u, s.heap.get? c = some u → h'.get? c = some u := fun c u e => hk c u (fun m => by
    rw [List.mem_singleton.mp m] at e
    exact Nat.lt_irrefl _ (Heap.lt_size e)) (Heap.get?_push_of_some _ e)
  refine ⟨.bl (bs.any id), H, I.kept all, ?_, q⟩
  show Value.bool ((List.range its.toArray.size).any fun i => bs.getD i false) = .bool (bs.any id)
  rw [← any_range, items, List.size_toArray, List.length_map]
/-- isinstance(e, c) of the error that the suite holds -/
def rIsF (K : PySem.W.Frag) (D a : Addr) (cls : Value) (d : Option Addr) : List V → Hp → VK → Prop := fun xs H Q => cls = .ref D ∧ d = none ∧ rIsE K D a xs H Q
theorem call_isF {D : Addr} (C : ExcC X.K D) (hz : L2N.Zn cls d oe) (hf : ∃ vs, oe.data = .fields vs) : CallR (X.suite a ((a, oe) :: pn)) (.builtin "isinstance") (rIsF X.K D a cls d) := by
  intro pins s σ H xs us Q I r h
  obtain ⟨rfl, rfl, h⟩ := h
  exact call_isE C hz.zc hf pins s σ H xs us Q I r h
end
theorem takes0N {X : Cx} : L2N.Takes X (fun _ _ _ _ => False) := fun _ _ ⟨_, _, _, _, _, _, _, _, _, _, _, _, _, _, _, _, no⟩ => False.elim no
theorem okX {P : Program} {w : World} {K : PySem.W.Frag} {mg : Str → Option Value} {base : Heap} {x qual : Str} {st : Stmt} {f : Addr} {fd : FuncData} {N ps : List Str} {k : Nat} {sp : Sp} (F : Fun K x qual st f fd) (S : FnScope N ps (defScope st)) (len : ∀ vs H Q E, sp vs H Q E → vs.length = ps.length)
    (hbody : ∀ (cdv : Value) (A : Around) (outer : List Env) (s : Shared) (H : Hp) (vs : List V) (Q : VK) (E : XK), Room k (A.deeper (PyProof.Rows.envOfC qual (defScope st) s.heap.objs.size f cdv)) → sp vs H Q E →
      ∃ t, PSs (cxOf (L2N.CX P w) P w K mg base N qual (defScope st) f cdv A outer s H E) (defBody st) t ∧ t { nx := fun _ H' => Q .non H', rt := Q } (start N vs) H) : FnOk P w K mg base (L2N.CX P w) (k + 1) f fd ps sp := by
  obtain ⟨_, _, _, _, _, _, cdv, _, _, rfl, lk, hcd⟩ := F.ex
  exact fn_of lk hcd S len (hbody cdv)
/-! ### an error class of the program -/
structure Err (K : PySem.W.Frag) (mg : Str → Option Value) (x : Str) (C : Addr) : Prop where
  g : mg x = some (.ref C)
  x : PySem.W.excIn K C [.type "ValueError", .type "Exception", .type "BaseException", .type "object"] "ValueError.__new__" = true
  k : PySem.W.keepIn K (.ref C) = true
  b : PySem.W.subIn K (.ref C) (.type "BaseException") = some true
  t : PySem.W.typeIn K (.ref C) = some (.type "type")
  hd : PySem.W.hasDictIn K C = true
  hg : PySem.W.findIn K (.ref C) "__getattribute__" = some (some (.builtin "BaseException.__getattribute__"))
  hk : PySem.W.findIn K (.ref C) "__getattr__" = some none
  ha : PySem.W.findIn K (.ref C) "__class__" = some (some (.builtin "object.__class__"))
  hm : PySem.W.mroIn K C (.type "object") = some true
theorem Err.c {K : PySem.W.Frag} {mg : Str → Option Value} {x : Str} {C : Addr} (e : Err K mg x C) (hn : PySem.W.specialIn K (.builtin "object.__class__") "__get__" = some (some (.builtin "getset_descriptor.__get__"))) (ht : PySem.W.takesIn K (.builtin "object.__class__") = some true) : ExcC K C :=
  ⟨e.hg, e.hk, e.b, e.hd, e.ha, hn, ht, e.hm⟩
/-- // of great ints, of any sign -/
theorem op_fdivWN {X : Cx} : OpR X (binaryOp .FloorDiv) (rI (fun _ j => j ≠ 0 ∧ j.natAbs.log2 < 9000) fun i j => .int (i.fdiv j)) := opI fun i j _ _ _ _ _ hc q =>
  PyProof.Rows.floordiv_int hc.1 q (.inl (PyProof.noPylong_of_log2 hc.2))

/-! ### text[::-1] -/
theorem rev_pick (l : List Nat) (t : Tok) (a : Tok) : sliceMade (S l) t none none (some (-1, a)) = Made.str (S l.reverse) := by
  have hs : slicePicked (S l) none none (some (-1, a)) = (List.range l.length).reverse := by
    show sliceRange (((S l).length : Int) - 1) (-1) (-1) = _
    rw [S_len, PySem.W.krv_sliceRange, PySem.W.krv_range]
  have hf : ((List.range l.length).reverse.filterMap ((S l).cps[·]?)) = l.reverse := by
    rw [List.filterMap_reverse]
    congr 1
    have : ∀ m : List Nat, (List.range m.length).filterMap (fun i => m[i]?) = m := fun m => by
      induction m with
      | nil => rfl
      | cons c r ih =>
        rw [List.length_cons, List.range_succ_eq_map, List.filterMap_cons, List.filterMap_map]
        show c :: (List.range r.length).filterMap (fun i => r[i]?) = c :: r
        rw [ih]
    have h2 : (fun i => (S l).cps[i]?) = fun i => l[i]? := funext fun i => S_get l i
    rw [h2]
    exact this l
  unfold sliceMade
  rw [hs, hf]
  rfl
def tRevS (te : TE) : TE := fun σ H Q => te σ H fun x H1 => ∃ l : List Nat, x = .str (S l) ∧ l.length ≤ 16777216 ∧ Q (.str (S l.reverse)) H1
theorem pe_revS {X : Cx} {e : Expr} {te : TE} {k : Nat} {p1 p2 p3 pos : Pos} (he : PE X e te) : PE X (.Subscript e (.Slice none none (some (.UnaryOp .USub (.Constant (.int 1) k p1) p2)) p3) pos) (tRevS te) := by
  constructor
  intro pins s σ H Q I hyp
  apply PyProof.Rows.Subscript_
  refine thn (he.run pins s σ H _ I hyp) fun v s1 ⟨x, H1, I1, r1, l, ex, hl, q⟩ => ?_
  subst ex
  obtain ⟨tk, rfl⟩ := r1
  have minus : PO X (some (.UnaryOp .USub (.Constant (.int 1) k p1) p2)) (tPart (tUn (rU fun i => .int (-i)) (tC (.int 1)))) := po_some (pe_un un_neg pe_int)
  apply wpAny_Slice
  refine thn (po_none.run pins s1 σ H1 (fun o G => o = none ∧ G = H1) I1 ⟨rfl, rfl⟩) fun v1 s2 ⟨o1, G1, J1, a1, b1, c1⟩ => ?_
  subst b1; subst c1
  refine thn (po_none.run pins s2 σ G1 (fun o G => o = none ∧ G = G1) J1 ⟨rfl, rfl⟩) fun v2 s3 ⟨o2, G2, J2, a2, b2, c2⟩ => ?_
  subst b2; subst c2
  refine thn (minus.run pins s3 σ G2 (fun o G => o = some (-1) ∧ G = G2) J2 ⟨1, rfl, -1, rfl, rfl, rfl⟩) fun v3 s4 ⟨o3, G3, J3, a3, b3, c3⟩ => ?_
  subst b3; subst c3
  obtain ⟨y1, rfl, g1⟩ := IsPart.raw a1
  obtain ⟨y2, rfl, g2⟩ := IsPart.raw a2
  obtain ⟨y3, rfl, g3⟩ := IsPart.raw a3
  cases y1 with
  | some z => cases g1
  | none =>
  cases y2 with
  | some z => cases g2
  | none =>
  cases y3 with
  | none => cases g3
  | some z =>
  obtain ⟨z1, z2⟩ := z
  have ez : z1 = -1 := Option.some.inj g3
  subst ez
  show wpAny (model X.prog X.w) X.A (PyProof.Rows.subscriptTail e (.Slice none none (some (.UnaryOp .USub (.Constant (.int 1) k p1) p2)) p3) (.str (S l) tk) (.ref s4.heap.objs.size)) (EP X pins σ Q) X.xe { s4 with heap := s4.heap.push { cls := .type "slice", data := .fields #[partValue none, partValue none, partValue (some (-1, z2))] } }
  refine PyProof.Rows.tail_any (ops := [.str (S l) tk, .ref s4.heap.objs.size]) (typeIs_str _ _ _) PySem.F.slot_str_getitem.lookup ?_ (by with_unfolding_all rfl)
  refine wpAny_getItem_str_slice (l := none) (u := none) (st := some (-1, z2)) ⟨_, Heap.get?_push_size _ rfl, rfl, rfl⟩ (by rfl) ?_
  rw [rev_pick]
  exact ⟨by rw [S_len, List.length_reverse, sizeLine_eq]; exact hl, .str _, _, J3.kept (t' := s4.toks + 1) fun b ob w => Heap.get?_push_of_some _ w, ⟨_, rfl⟩, q⟩
/-! ### all(test for x in text), where the test may read what the top has written -/
section
open GxR
variable {X : Cx} {pins : List (Addr × Obj)} {σ : L2.St} {H : Hp} {s : Shared}
def EltG (X : Cx) (scope : Scope) (x : Str) (elt : Expr) (pb : Nat → Bool) : Prop :=
  ∀ (cenv : Env) (A' : Around) (E' : Value → Shared → Prop) (c : Nat) (t : Tok) (z : Shared) (m : Str → Option Value), X.Ok → cenv.scope = scope → cenv.globals = X.env.globals → (∀ b o, X.base.get? b = some o → z.heap.get? b = some o) →
    z.heap.Ns cenv.locals m → m x = some (.str ⟨#[c]⟩ t) → wpAny (model X.prog X.w) A' (eval elt cenv) (fun y z' => y = .bool (pb c) ∧ Keeps z z') E' z
theorem tbl_not {H : Hp} {P : Addr} {ps : Array Value} (hP : H P = some (.tbl ps)) {b : Addr} (h : H b = none) : b ≠ P := fun z => by rw [z, hP] at h; cases h
theorem gen_go {c P : Addr} {elt : Expr} {x : Str} {scope : Scope} {pb : Nat → Bool} {k : Nat} {Q' : Value → Shared → Prop} {a : Str} {o : Obj} {St : Nat → Heap → Prop} {ps : Array Value}
    (hr : Room k X.A) (TB : TabB X.base X.mg c P) (sc : GenS X.env scope x) (hel : EltG X scope x elt pb) (J : L2.Inv X pins σ H s) (hP : H P = some (.tbl ps)) (atP : s.heap.get? P = some { cls := .none, data := .fields ps }) (ltP : P < s.heap.objs.size)
    (W : ∀ A' : Around, A'.handled = none → Walks X.prog X.w A' s.heap.objs.size [s.heap.objs.size] [s.heap.objs.size] a.cps.size (SignAt a) St) (st0 : St 0 (s.heap.push o)) (code : Value) (h3 : Heap) (tk : Nat) (ps' more : Array Value) (em : ps' = ps ++ more)
    (hx : Heap.ExtBut P (s.heap.push o) h3) (hsz : (s.heap.push o).objs.size ≤ h3.objs.size) (h3P : h3.get? P = some { cls := .none, data := .fields ps' }) (ok' : TriplesOk ps'.toList) (lim : (s.heap.push o).NoLimit) (hQ : ∀ g z, Ready X pins σ H P a pb g z → Q' (.ref g) z) :
    wpAny (model X.prog X.w) X.A (builtinsFor X.env.globals X.env.builtins) (fun bi s₄ =>
      ∃ Ia fp wr n₀ Pf St₀ pz F, Value.ref s.heap.objs.size = .ref Ia ∧ (∀ A' : Around, A'.handled = none → Walks X.prog X.w A' Ia fp wr n₀ Pf St₀) ∧ St₀ 0 s₄.heap ∧ (∀ b ∈ fp, b < s₄.heap.objs.size) ∧ s₄.heap.NoLimit ∧ cStatics ∉ wr ∧
        (∀ href : Heap, (∀ b u, s₄.heap.get? b = some u → href.get? b = some u) → QuietGen X.prog X.w (genEnv scope (cloFrom X.env.cells scope.names []) s₄.heap.objs.size code bi X.env) x [] elt (List.range s₄.heap.objs.size) wr Pf pz F href) ∧
        (∀ g h₅ tk gs, gs.bare = true → s₄.heap.objs.size < g → h₅.objs.size = g + 1 → (∀ b u, s₄.heap.get? b = some u → h₅.get? b = some u) →
          WalksS X.prog X.w X.A.in4 g (g :: s₄.heap.objs.size :: List.range s₄.heap.objs.size) (s₄.heap.objs.size :: wr) (GenOnlyQ s₄.gens.size) (passing pz n₀ 0).length (fun j y => ∃ i, (passing pz n₀ 0)[j]? = some i ∧ F i y) (GenAt X.prog X.w X.A.in4 g s₄.gens.size s₄.heap.objs.size (List.range s₄.heap.objs.size) wr pz n₀ F) →
          GenAt X.prog X.w X.A.in4 g s₄.gens.size s₄.heap.objs.size (List.range s₄.heap.objs.size) wr pz n₀ F 0 { s₄ with gens := s₄.gens.push gs, toks := tk, heap := h₅ } → Q' (.ref g) { s₄ with gens := s₄.gens.push gs, toks := tk, heap := h₅ })) X.xe { s with heap := h3, toks := tk } := by
  obtain ⟨bm, ob, q1, q2, q3, q4, q5, q6, q7, q8⟩ := TB.bm
  obtain ⟨cm, cns, cnn⟩ := J.nolimit
  have cP : cStatics ≠ P := fun z => by
    obtain ⟨o2, es, ep, g1, g2, _⟩ := cns
    rw [z, atP] at g1
    cases g1
    cases g2
  have cL : cStatics < s.heap.objs.size := cns.lt
  have big : (s.heap.push o).objs.size = s.heap.objs.size + 1 := Heap.size_push ..
  have kept : ∀ b u, b ≠ P → s.heap.get? b = some u → h3.get? b = some u := fun b u n e => hx b u n (Heap.get?_push_of_some _ e)
  have bases : ∀ b u, X.base.get? b = some u → h3.get? b = some u := fun b u e => kept b u (tbl_not hP (J.bs b u e).2) (J.bk b u e)
  refine wpAny_builtinsFor (m := X.mg) (by rw [J.ok.glob]; exact J.mod.glob.keeps bases) q1 q2 (bases _ _ q5) q6 q7 q8 ?_
  refine ⟨s.heap.objs.size, [s.heap.objs.size], [s.heap.objs.size], a.cps.size, SignAt a, St, fun _ => true, fun i y => ∃ cc, a.cps[i]? = some cc ∧ y = .bool (pb cc), rfl, W, ?_, ?_, lim.extBut hx cP, ?_, ?_, ?_⟩
  · refine (W X.A hr.hd).frame _ _ _ st0 fun b hb u e => hx b u ?_ e
    rw [List.mem_singleton.mp hb]
    exact Nat.ne_of_gt ltP
  · intro b hb
    rw [List.mem_singleton.mp hb]
    exact Nat.lt_of_lt_of_le (by rw [big]; exact Nat.lt_succ_self _) hsz
  · rw [List.mem_singleton]
    exact Nat.ne_of_lt cL
  · intro href hh
    refine ⟨fun A' E' i v s₂ m₂ _ _ _ _ _ => ?_, fun A' E' i v s₂ m₂ _ hv _ hn hm hk => ?_⟩
    · rw [List.forIn_nil]
      exact wpAny_pure ⟨rfl, keeps_refl s₂⟩
    · obtain ⟨cc, u, hcc, rfl⟩ := hv
      refine wpAny_mono (hel _ A' E' cc u s₂ m₂ J.ok rfl rfl (fun b w e => ?_) hn hm) (fun y z r => ⟨⟨cc, hcc, r.1⟩, r.2⟩) fun _ _ e => e
      have lb := Heap.lt_size (J.bk b w e)
      exact hk b (List.mem_range.mpr (Nat.lt_of_lt_of_le (Nat.lt_of_lt_of_le lb (by rw [big]; exact Nat.le_succ _)) hsz)) (by rw [List.mem_singleton]; exact Nat.ne_of_lt lb) w (hh b w (bases b w e))
  · intro g h5 tk5 gs bare _ _ _ W5 at5
    have W6 := W5
    simp only [GxR.passing_true, List.length_range] at W6
    refine hQ g _ ⟨_, _, _, _, _, W6.in4_1, at5, fun j y sj Qj Ej hy hq => ?_, fun z mv => ?_⟩
    · obtain ⟨i, hi, cc, hcc, rfl⟩ := hy
      obtain ⟨_, ei⟩ := List.getElem?_eq_some_iff.mp hi
      rw [List.getElem_range] at ei
      subst ei
      have hq' : Qj (trF pb a.cps.toList j) sj := hq
      rw [trF_some (show a.cps.toList[j]? = some cc by rw [Array.getElem?_toList]; exact hcc)] at hq'
      exact wpAny_truthy_bool hq'
    · have off : ∀ b u, s.heap.get? b = some u → b ∉ h3.objs.size :: [s.heap.objs.size] := fun b u e hb => by
        have l1 := Heap.lt_size e
        have l2 : s.heap.objs.size < h3.objs.size := Nat.lt_of_lt_of_le (by rw [big]; exact Nat.lt_succ_self _) hsz
        rcases List.mem_cons.mp hb with r | r
        · rw [r] at l1; exact absurd (Nat.lt_trans l1 l2) (Nat.lt_irrefl _)
        · rw [List.mem_singleton.mp r] at l1; exact absurd l1 (Nat.lt_irrefl _)
      have five : ∀ b u, h3.get? b = some u → h5.get? b = some u := by assumption
      have L := inv_tab (more := more) (h' := z.heap) (g' := z.gens) (d' := z.drawn) (t' := z.toks) J hP (fun b u n e => mv.heap b u (off b u e) (five b u (kept b u n e))) (by rw [← em]; exact mv.heap P _ (off P _ atP) (five P _ h3P)) (PyProof.Rows.AllBare.movedS (J.bare.push bare) mv)
      rw [sh_eta s z mv.os] at L
      exact ⟨upd H P (.tbl (ps ++ more)), ⟨⟨ps ++ more, upd_same, by rw [← em]; exact ok'⟩, fun b n => upd_ne n⟩, L⟩
theorem gen_signs {c P : Addr} {elt iter : Expr} {x : Str} {px gpos : Pos} {scope : Scope} {pb : Nat → Bool} {te : TE} {k : Nat} {Q' : Value → Shared → Prop} {R : Str → Hp → Prop}
    (hr : Room k X.A) (TB : TabB X.base X.mg c P) (hcode : X.env.code = .ref c) (sc : GenS X.env scope x) (hi : PE X iter te) (hel : EltG X scope x elt pb) (hs : ∀ v, genFold iter X.env v = pure v)
    (I : L2.Inv X pins σ H s) (h : te σ H fun v G => ∃ a : Str, v = .str a ∧ TabG G P ∧ R a G) (hQ : ∀ a G g z, R a G → Ready X pins σ G P a pb g z → Q' (.ref g) z) :
    wpAny (model X.prog X.w) X.A (eval (.GeneratorExp elt [⟨.Name x px, iter, [], 0⟩] scope gpos) X.env) Q' X.xe s := by
  have room : X.A.depth < recursionLimit := by have := hr.dp; omega
  refine wpAny_GeneratorExp_walksQ hr.hd sc.co (closure_ok sc.free) sc.cell sc.dot sc.loc sc.kind room (thn (hi.run pins s σ H _ I h) fun u s1 ⟨v, G, J, rv, a, ev, ⟨ps, hP, ok⟩, hR⟩ => ?_) hs
  subst ev
  obtain ⟨t, rfl⟩ := id rv
  refine wpAny_pyIter_str fun o St W st0 => ?_
  -- the table, the sizes, what is kept
  have atP : s1.heap.get? P = some { cls := .none, data := .fields ps } := J.hok P _ hP
  have ltP : P < s1.heap.objs.size := Heap.lt_size atP
  have atP' : (s1.heap.push o).get? P = some { cls := .none, data := .fields ps } := Heap.get?_push_of_some _ atP
  have cd : PySem.W.CodeHd (s1.heap.push o) c P := TB.code.keeps fun b w e => Heap.get?_push_of_some _ (J.bk b w e)
  have lim : (s1.heap.push o).NoLimit := J.nolimit.push o
  have next : ∀ (code : Value) (h3 : Heap) (tk : Nat) (ps' more : Array Value), ps' = ps ++ more → Heap.ExtBut P (s1.heap.push o) h3 → (s1.heap.push o).objs.size ≤ h3.objs.size → h3.get? P = some { cls := .none, data := .fields ps' } → TriplesOk ps'.toList → _ :=
    fun code h3 tk ps' more em hx hsz h3P ok' => gen_go (elt := elt) hr TB sc hel J hP atP ltP W st0 code h3 tk ps' more em hx hsz h3P ok' lim fun g z rd => hQ a G g z hR rd
  refine ⟨lim, ?_⟩
  cases hf : codeAmong gpos ps.toList with
  | some cv => exact wpAny_genexprCode_hit hcode (cd.code atP' ok) hf (next cv (s1.heap.push o) s1.toks ps #[] (by simp) (Heap.ExtBut.refl _ _) (Nat.le_refl _) atP' ok)
  | none =>
    refine wpAny_genexprCodeX hcode (cd.code atP' ok) (cd.tab atP') hf fun c' h' tk hx hge hlt hco' _ htab' _ => ?_
    obtain ⟨o1, vs, f1, tf, fl, tg, inF, tx, tt, op, _, _, _, _, _, _, _, _, _, htr, _⟩ := hco'
    exact next _ h' tk _ _ rfl hx (Nat.le_trans hge (Nat.le_of_lt hlt)) htab'.2 htr
theorem pe_allG {c P : Addr} {elt iter : Expr} {x : Str} {px p pos gpos : Pos} {scope : Scope} {pb : Nat → Bool} {te : TE} {k : Nat} (hr : Room k X.A) (hg : Gl X "all") (hm : X.mg "all" = none) (TB : TabB X.base X.mg c P) (hcode : X.env.code = .ref c)
    (sc : GenS X.env scope x) (hi : PE X iter te) (hel : EltG X scope x elt pb) (hs : ∀ v, genFold iter X.env v = pure v)
    (he : starEach [.GeneratorExp elt [⟨.Name x px, iter, [], 0⟩] scope gpos] X.env = (false, eval (.GeneratorExp elt [⟨.Name x px, iter, [], 0⟩] scope gpos) X.env) :: starEach [] X.env := by rfl) :
    PE X (.Call (.Name "all" p) [.GeneratorExp elt [⟨.Name x px, iter, [], 0⟩] scope gpos] [] pos) (tAllS P pb te) := by
  constructor
  intro pins s σ H Q I hyp
  have hb : bootBuiltins "all" = some (.builtin "all") := by decide +kernel
  refine wpAny_Call_Name_kw (ld_blt I hg hm hb (PyProof.Rows.callWith_builtin1 ?_ he (by rfl)))
  rw [he]
  show wpAny _ _ (spliced ((false, eval (.GeneratorExp elt [⟨.Name x px, iter, [], 0⟩] scope gpos) X.env) :: backTo pos (starEach [] X.env))) _ _ s
  refine Calls.spliced_cons (gen_signs (R := fun a G => ∀ G', Tabbed P G G' → Q (.bl (a.cps.toList.all pb)) G') hr TB hcode sc hi hel hs I hyp fun a G g z hR rd => Calls.spliced_nil ?_)
  obtain ⟨fp, wr, Gs, F, St, W, st, tr, done⟩ := rd
  refine call_all_walkS (W.self 0 _ _ _ st ⟨g, fp, wr, Gs, _, F, St, _, rfl, W, st, tr, fun z' mv => ?_⟩)
  obtain ⟨G', tb, L⟩ := done z' mv
  refine ⟨.bl _, G', L, rfl, ?_⟩
  rw [all_signs a pb]
  exact hR G' tb
/-- x in D, D a dict that the top has written -/
theorem elt_in {scope : Scope} {x y : Str} {pb : Nat → Bool} {d : Addr} {es : Array DictEntry} {n : Nat} {p1 p2 p3 : Pos} (D : KDict X.K X.w d es n) (gy : X.mg y = some (.ref d)) (hp : ∀ c, ∃ r, PySem.W.nsIn X.K d (S [c]) = some r ∧ r.isSome = pb c)
    (hk : scope.kind = .function) (hl : scope.names.lookup x = some .local) (hy : scope.names.lookup y = some .globalImplicit) (hd : (x == ("__debug__" : Str)) = false := by decide) (hd2 : (y == ("__debug__" : Str)) = false := by decide) :
    EltG X scope x (.Compare (.Name x p1) [.In] [.Name y p2] p3) pb := by
  intro cenv A' E' c t z m ok hs hg hb hn hm
  have kind : cenv.scope.kind = .function := by rw [hs]; exact hk
  refine wpAny_Compare1 (wpAny_Name (wpAny_loadName_local kind (show cenv.scope.names.lookup x = some .local by rw [hs]; exact hl) hn hm ?_) hd)
  refine Calls.Name_function_global kind (show cenv.scope.names.lookup y = some .globalImplicit by rw [hs]; exact hy) (Calls.loadGlobal_global (by rw [hg, ok.glob]; exact ok.mod.glob.keeps hb) gy ?_) hd2
  obtain ⟨r, e1, e2⟩ := hp c
  refine wpAny_in_of (PySem.strKind_is X.prog X.w (S [c]) t) D.low (PySem.W.mapOf_K (prog := X.prog) (ok.mod.kin.keeps hb) D.at_ D.lit) ?_
  rw [PySem.W.find_K D.at_ e1, e2]
  exact ⟨rfl, keeps_tok _ _⟩
end
/-! ### ''.join of texts, comprehensions over a text -/
theorem join_empty (ys : List (List Nat)) : Txt.join (S []) (ys.map S) = S ys.flatten := by
  have go : ∀ (zs : List (List Nat)) (a : Array Nat), ((zs.map S).foldl (fun acc p => acc ++ (S []).cps ++ p.cps) a).toList = a.toList ++ zs.flatten := by
    intro zs
    induction zs with
    | nil => intro a; simp
    | cons z r ih =>
      intro a
      rw [List.map_cons, List.foldl_cons, ih]
      simp [S]
  show Builtin.Str.glued (S []) (ys.map S) = _
  unfold Builtin.Str.glued
  cases ys with
  | nil => rfl
  | cons y r =>
    have := go r (S y).cps
    show (⟨(r.map S).foldl (fun acc p => acc ++ (S []).cps ++ p.cps) (S y).cps⟩ : Str) = _
    unfold S at this ⊢
    congr 1
    apply Array.toList_inj.mp
    rw [this]
    simp
theorem join_signs (l : List Nat) : Txt.join (S []) (l.map fun c => S [c]) = S l := by
  have := join_empty (l.map fun c => [c])
  rw [List.map_map] at this
  rw [show (l.map fun c => S [c]) = l.map (S ∘ fun c => [c]) from rfl, this]
  congr 1
  induction l with
  | nil => rfl
  | cons c r ih => rw [List.map_cons, List.flatten_cons, ih (join_empty _ |>.trans rfl |> fun h => by rw [List.map_map] at h; exact h)]; rfl
theorem sum_ones (l : List Nat) : ((l.map fun c => S [c]).map (·.length)).sum = l.length := by
  induction l with
  | nil => rfl
  | cons c r ih =>
    rw [List.map_cons, List.map_cons, List.sum_cons, ih, S_len, List.length_cons]
    show 1 + r.length = r.length + 1
    omega
theorem lc_str {l : List Nat} {g : TG} {tt : TT} {te : TE} {vs : List Nat} {σ : L2.St} {H1 : Hp} {D : Addr} {Qd : Hp → Prop} (Pv : Nat → Hp → Prop) (h0 : Pv 0 (upd H1 D (.lst [])))
    (hs : ∀ i c H, l[i]? = some c → Pv i H → g (.str (S [c])) (wipe σ vs) H fun σ2 H2 => wipe σ2 vs = wipe σ vs ∧ tt σ2 H2 fun b H3 =>
      if b = true then te σ2 H3 fun y H4 => ∃ acc, H4 D = some (.lst acc) ∧ acc.length < sizeLine ∧ Pv (i + 1) (upd H4 D (.lst (acc ++ [y]))) else Pv (i + 1) H3) (hd : ∀ H, Pv l.length H → Qd H) :
    ∃ W : Nat → Nat → Hp → Prop, (∃ m, W 0 m (upd H1 D (.lst []))) ∧ ∀ i m H, W i m H →
      ((Its (S l)).stop i H ∧ Qd H) ∨ ((Its (S l)).go i H ∧ ∃ Nx : Hp → Prop, (∀ H', Nx H' → ∃ m', m' < m ∧ W (i + 1) m' H') ∧ ∀ x H', (Its (S l)).yld i H x H' → g x (wipe σ vs) H' fun σ2 H2 => wipe σ2 vs = wipe σ vs ∧ tt σ2 H2 fun b H3 =>
        if b = true then te σ2 H3 fun y H4 => ∃ acc, H4 D = some (.lst acc) ∧ acc.length < sizeLine ∧ Nx (upd H4 D (.lst (acc ++ [y]))) else Nx H3) := by
  refine ⟨fun i m H => m = l.length - i ∧ i ≤ l.length ∧ Pv i H, ⟨l.length, by simp, Nat.zero_le _, h0⟩, ?_⟩
  rintro i m H ⟨rfl, hi, p⟩
  by_cases hlt : i < l.length
  · refine .inr ⟨by show i < (S l).cps.size; rw [S_size]; exact hlt, Pv (i + 1), fun H' p' => ⟨l.length - (i + 1), by omega, rfl, hlt, p'⟩, fun x H' y => ?_⟩
    obtain ⟨e, c, hc, rfl⟩ := y
    subst e
    rw [S_get] at hc
    exact hs i c _ hc p
  · have e : i = l.length := by omega
    subst e
    exact .inl ⟨by show (S l).cps.size ≤ l.length; rw [S_size]; exact Nat.le_refl _, hd H p⟩
/-- a def whose code object is told -/
theorem okC {P : Program} {w : World} {K : PySem.W.Frag} {mg : Str → Option Value} {base : Heap} {x qual : Str} {st : Stmt} {f c : Addr} {fd : FuncData} {N ps : List Str} {k : Nat} {sp : Sp} (F : Fun K x qual st f fd) (hc : fd.code = .ref c) (S : FnScope N ps (defScope st)) (len : ∀ vs H Q E, sp vs H Q E → vs.length = ps.length)
    (body : ∀ (A : Around) (outer : List Env) (s : Shared) (H : Hp) (vs : List V) (Q : VK) (E : XK), Room k (A.deeper (PyProof.Rows.envOfC qual (defScope st) s.heap.objs.size f (.ref c))) → sp vs H Q E →
      ∃ t, PSs (cxOf CX0 P w K mg base N qual (defScope st) f (.ref c) A outer s H E).nox (defBody st) t ∧ t { nx := fun _ H' => Q .non H', rt := Q } (start N vs) H) : FnOk P w K mg base CX0 (k + 1) f fd ps sp := by
  obtain ⟨_, _, _, _, _, _, cdv, _, _, rfl, lk, hcd⟩ := F.ex
  have e : cdv = .ref c := hc
  subst e
  refine fn_of lk hcd S len fun A outer s H vs Q E hr h => ?_
  obtain ⟨t, a, b⟩ := body A outer s H vs Q E hr h
  exact ⟨t, a.nox, b⟩
def top (i : Nat) : Stmt := PySem.Challenge.pw_ropedance_k22_undo.main.body.getD i (.Pass ⟨0, 0, 0, 0⟩)
abbrev s_after : Stmt := top 1
theorem sc_after : FnScope ["fraction", "dance", "p", "q", "letter"] ["fraction", "dance"] (defScope s_after) := ⟨rfl, rfl, rfl, by decide +kernel, rfl, by decide +kernel, by decide +kernel⟩
abbrev s_turned : Stmt := top 2
theorem sc_turned : FnScope ["p", "q"] ["p", "q"] (defScope s_turned) := ⟨rfl, rfl, rfl, by decide +kernel, rfl, by decide +kernel, by decide +kernel⟩
abbrev s_quotients : Stmt := top 3
theorem sc_quotients : FnScope ["fraction", "p", "q", "parts", "rest"] ["fraction"] (defScope s_quotients) := ⟨rfl, rfl, rfl, by decide +kernel, rfl, by decide +kernel, by decide +kernel⟩
abbrev s_number : Stmt := top 6
theorem sc_number : FnScope ["dance"] ["dance"] (defScope s_number) := ⟨rfl, rfl, rfl, by decide +kernel, rfl, by decide +kernel, by decide +kernel⟩
abbrev s_backward : Stmt := top 7
theorem sc_backward : FnScope ["dance"] ["dance"] (defScope s_backward) := ⟨rfl, rfl, rfl, by decide +kernel, rfl, by decide +kernel, by decide +kernel⟩
abbrev s_mirrored : Stmt := top 8
theorem sc_mirrored : FnScope ["dance", "letter"] ["dance"] (defScope s_mirrored) := ⟨rfl, rfl, rfl, by decide +kernel, rfl, by decide +kernel, by decide +kernel⟩
abbrev s_runs : Stmt := top 10
theorem sc_runs : FnScope ["fraction", "letters", "k", "part"] ["fraction"] (defScope s_runs) := ⟨rfl, rfl, rfl, by decide +kernel, rfl, by decide +kernel, by decide +kernel⟩
abbrev s_undo : Stmt := top 11
theorem sc_undo : FnScope ["dance", "letter", "many"] ["dance"] (defScope s_undo) := ⟨rfl, rfl, rfl, by decide +kernel, rfl, by decide +kernel, by decide +kernel⟩
abbrev s_law_tape : Stmt := top 13
theorem sc_law_tape : FnScope ["script", "k", "cell"] ["script", "k"] (defScope s_law_tape) := ⟨rfl, rfl, rfl, by decide +kernel, rfl, by decide +kernel, by decide +kernel⟩
abbrev s_law_take : Stmt := top 14
theorem sc_law_take : FnScope ["tape", "many", "got", "mixed"] ["tape", "many"] (defScope s_law_take) := ⟨rfl, rfl, rfl, by decide +kernel, rfl, by decide +kernel, by decide +kernel⟩
abbrev s_law_dance : Stmt := top 15
theorem sc_law_dance : FnScope ["tape", "most", "dance", "size", "k"] ["tape", "most"] (defScope s_law_dance) := ⟨rfl, rfl, rfl, by decide +kernel, rfl, by decide +kernel, by decide +kernel⟩
abbrev s_law_called : Stmt := top 16
theorem sc_law_called : FnScope ["value", "letter", "p", "q"] ["value", "letter"] (defScope s_law_called) := ⟨rfl, rfl, rfl, by decide +kernel, rfl, by decide +kernel, by decide +kernel⟩
abbrev s_law_number : Stmt := top 17
theorem sc_law_number : FnScope ["dance", "value", "letter"] ["dance"] (defScope s_law_number) := ⟨rfl, rfl, rfl, by decide +kernel, rfl, by decide +kernel, by decide +kernel⟩
abbrev s_law_same : Stmt := top 18
theorem sc_law_same : FnScope ["told", "due", "k"] ["told", "due"] (defScope s_law_same) := ⟨rfl, rfl, rfl, by decide +kernel, rfl, by decide +kernel, by decide +kernel⟩
abbrev s_law_steps : Stmt := top 19
theorem sc_law_steps : FnScope ["value", "p", "q", "total"] ["value"] (defScope s_law_steps) := ⟨rfl, rfl, rfl, by decide +kernel, rfl, by decide +kernel, by decide +kernel⟩
abbrev s_law_due : Stmt := top 20
theorem sc_law_due : FnScope ["value", "dance", "left", "good", "letter"] ["value"] (defScope s_law_due) := ⟨rfl, rfl, rfl, by decide +kernel, rfl, by decide +kernel, by decide +kernel⟩
abbrev s_law_first : Stmt := top 21
theorem sc_law_first : FnScope ["value", "rows", "turn", "good", "longer", "dance", "one", "letter", "row"] ["value"] (defScope s_law_first) := ⟨rfl, rfl, rfl, by decide +kernel, rfl, by decide +kernel, by decide +kernel⟩
abbrev s_law : Stmt := top 22
theorem sc_law : FnScope ["script", "k", "tape", "dance", "value"] ["script"] (defScope s_law) := ⟨rfl, rfl, rfl, by decide +kernel, rfl, by decide +kernel, by decide +kernel⟩
/-! ### heaps, tapes, pairs -/
/-- all that was tracked is as it was, but what stands at a -/
def But (a : Addr) (H H' : Hp) : Prop := ∀ b o, b ≠ a → H b = some o → H' b = some o
theorem But.refl (a : Addr) (H : Hp) : But a H H := fun _ _ _ h => h
theorem But.trans {a : Addr} {H H1 H2 : Hp} (x : But a H H1) (y : But a H1 H2) : But a H H2 := fun b o n h => y b o n (x b o n h)
theorem But.of {a : Addr} {H H' : Hp} (x : Same H H') : But a H H' := fun b o _ h => x b o h
theorem But.upd {a : Addr} {H : Hp} {o : HO} : But a H (upd H a o) := fun b u n h => by rw [upd_ne n]; exact h
theorem But.same {a : Addr} {H0 H H' : Hp} (x : But a H H') (s : Same H0 H) (n : H0 a = none) : Same H0 H' := fun b o h => x b o (ne_of_none h n) (s b o h)
theorem same_new {H : Hp} {p : Addr} (h : H p = none) (o : HO) : Same H (L2.upd H p o) := fun b u q => by rw [upd_ne (ne_of_none q h)]; exact q
theorem Same.tup {K : PySem.W.Frag} {H H' : Hp} {a : Addr} {xs : List V} (e : Same H H') (h : SqT K H a xs) : SqT K H' a xs := by
  rcases h with (h | ⟨o, h⟩) | h
  · exact .inl (.inl (e _ _ h))
  · exact .inl (.inr ⟨o, e _ _ h⟩)
  · exact .inr h
def Tape (H : Hp) (a : Addr) : Prop := ∃ (t c s : Int) (b : Bool), H a = some (.lst [.int t, .bl b, .int c, .int s])
theorem Tape.same {H H' : Hp} {a : Addr} (t : Tape H a) (s : Same H H') : Tape H' a := by
  obtain ⟨x, c, y, b, h⟩ := t
  exact ⟨x, c, y, b, s _ _ h⟩
theorem Tape.ne {H : Hp} {a p : Addr} (t : Tape H a) (h : H p = none) : p ≠ a := by
  obtain ⟨x, c, y, b, e⟩ := t
  exact fun z => by rw [z, e] at h; cases h
theorem But.tup {K : PySem.W.Frag} {a : Addr} {H H' : Hp} {p : Addr} {xs : List V} (x : But a H H') (t : Tape H a) (h : SqT K H p xs) : SqT K H' p xs := by
  obtain ⟨y, c, z, b, e⟩ := t
  rcases h with (h | ⟨o, h⟩) | h
  · exact .inl (.inl (x _ _ (ne_of h e (by intro q; cases q)) h))
  · exact .inl (.inr ⟨o, x _ _ (ne_of h e (by intro q; cases q)) h⟩)
  · exact .inr h
/-- a dance: the letters T, U, R -/
def Lets (l : List Nat) : Prop := ∀ c ∈ l, c = 84 ∨ c = 85 ∨ c = 82
theorem atI_mk {α : Type} {xs : List α} {k : Int} (h0 : 0 ≤ k) (h1 : k < (xs.length : Int)) : ∃ v, atI xs k = some v ∧ v ∈ xs := by
  obtain ⟨n, rfl⟩ := Int.eq_ofNat_of_zero_le h0
  have h : n < xs.length := by omega
  exact ⟨xs[n], atI_nat (List.getElem?_eq_getElem h), List.getElem_mem h⟩
theorem atI_ints {ns : List Int} {k : Int} (h0 : 0 ≤ k) (h1 : k < (ns.length : Int)) : ∃ v : Int, atI (ns.map V.int) k = some (.int v) := by
  obtain ⟨v, e, m⟩ := atI_mk (xs := ns.map V.int) h0 (by rw [List.length_map]; exact h1)
  obtain ⟨i, _, rfl⟩ := List.mem_map.mp m
  exact ⟨i, e⟩
/-! ### a def of the text with its promise, ready to be called -/
structure Dfn (P : Program) (w : World) (K : PySem.W.Frag) (mg : Str → Option Value) (base : Heap) (x : Str) (k : Nat) (ps : List Str) (sp : Sp) : Prop where
  ex : ∃ (f : Addr) (fd : FuncData), FnOk P w K mg base CX0 k f fd ps sp ∧ mg x = some (.ref f) ∧ PySem.W.keepIn K (.ref f) = true ∧ Binds K fd ps []
theorem pe_do {X : Cx} {x : Str} {j : Nat} {ps : List Str} {sp : Sp} {e : Expr} {es : List Expr} {t : TA} {p pos : Pos} (D : Dfn X.prog X.w X.K X.mg X.base x j ps sp) (hr : Room j X.A)
    (ha : PA X (e :: es) t) (hg : Gl X x := by rfl) (hdb : (x == ("__debug__" : Str)) = false := by decide) (he : starEach (e :: es) X.env = (false, eval e X.env) :: starEach es X.env := by rfl) (hpl : (backTo pos (starEach es X.env)).any (·.1) = false := by rfl) :
    PE X (.Call (.Name x p) (e :: es) [] pos) (tCall sp [] E0 t) := by
  obtain ⟨f, fd, ok, mg, kp, bd⟩ := D.ex
  exact pe_call ok hr hg mg kp bd .nil pass0 ha hdb he hpl
theorem Dfn.mono {P : Program} {w : World} {K : PySem.W.Frag} {mg : Str → Option Value} {base : Heap} {x : Str} {j k : Nat} {ps : List Str} {sp : Sp} (D : Dfn P w K mg base x j ps sp) (h : j ≤ k) : Dfn P w K mg base x k ps sp := by
  obtain ⟨f, fd, ok, mg, kp, bd⟩ := D.ex
  exact ⟨f, fd, ok.mono h, mg, kp, bd⟩
section
variable {P : Program} {w : World} {K : PySem.W.Frag} {mg : Str → Option Value} {base : Heap} {f : Addr} {fd : FuncData}
/-! ### the tape of a law -/
def spTape (K : PySem.W.Frag) : Sp := fun vs H Q _ => ∃ (a : Addr) (ns : List Int) (k : Int), vs = [.ref a, .int k] ∧ SqL K H a (ns.map V.int) ∧ 0 ≤ k ∧ ∀ p H', Same H H' → H p = none → Tape H' p → Q (.ref p) H'
theorem ok_tape (F : Fun K "_law_tape" "_law_tape" s_law_tape f fd) (ml : mg "len" = none) (ma : mg "abs" = none) (mi : mg "int" = none) : FnOk P w K mg base CX0 1 f fd ["script", "k"] (spTape K) := by
  refine F.ok sc_law_tape (fun vs H Q E h => ?_) (fun cdv A outer s H vs Q E hr h => ?_)
  · obtain ⟨a, ns, k, rfl, _⟩ := h
    rfl
  obtain ⟨a, ns, k, rfl, hS, hk, q⟩ := h
  refine ⟨_, pss_cons (ps_set (i := 2) sc_law_tape.nd rfl (.inl rfl) pe_int)
    (pss_cons (ps_if (pt_cmpR op_lt (pv 1) (pe_callB call_len_seq rfl ml PySem.boot_len (pa_cons (pv 0) pa_nil)) (nomark _))
        (pss_one (ps_set (i := 2) sc_law_tape.nd rfl (.inl rfl) (pe_callB call_abs rfl ma (by decide +kernel) (pa_cons (pe_ix ix_list (pv 0) (pv 1) (fun _ _ => rfl)) pa_nil)))) pss_nil)
    (pss_one (ps_ret (pe_lst (pa_cons (pv 2) (pa_cons (pe_cmpR op_ge (pv 2) (pe_op op_pow pe_int pe_int) (nomark _)) (pa_cons pe_int
      (pa_cons (pe_op op_modN (pe_callTy call_int1 rfl mi (by decide +kernel) (pa_cons (pe_op op_add (pe_op op_mul (pv 2) pe_int) (pv 1)) pa_nil)) pe_int) pa_nil)))))))), ?_⟩
  refine ⟨_, rfl, _, rfl, a, _, rfl, .inl hS, _, _, rfl, rfl, _, rfl, ?_⟩
  refine ite2 (fun c => ?_) (fun c => ?_)
  · have c' : k < (((ns.map V.int).length : Nat) : Int) := of_decide_eq_true c
    rw [List.length_map] at c'
    obtain ⟨v, hv⟩ := atI_ints hk c'
    refine ⟨_, rfl, _, rfl, a, _, _, _, rfl, rfl, hS, hv, _, rfl, ?_⟩
    refine ⟨_, rfl, _, rfl, _, _, rfl, rfl, ⟨by decide, by decide, by decide⟩, _, _, rfl, rfl, _, rfl, _, _, rfl, rfl, .inr ⟨by decide, by decide⟩, _, rfl, _, _, rfl, rfl, .inl ⟨_, rfl, _, _, rfl, rfl, (show (2147483647 : Int) ≠ 0 by decide), ?_⟩⟩
    exact ⟨(by show 4 ≤ sizeLine; decide), fun p hp => q p _ (same_new hp _) hp ⟨_, _, _, _, upd_same⟩⟩
  · refine ⟨_, rfl, _, rfl, _, _, rfl, rfl, ⟨by decide, by decide, by decide⟩, _, _, rfl, rfl, _, rfl, _, _, rfl, rfl, .inr ⟨by decide, by decide⟩, _, rfl, _, _, rfl, rfl, .inl ⟨_, rfl, _, _, rfl, rfl, (show (2147483647 : Int) ≠ 0 by decide), ?_⟩⟩
    exact ⟨(by show 4 ≤ sizeLine; decide), fun p hp => q p _ (same_new hp _) hp ⟨_, _, _, _, upd_same⟩⟩
def spTake : Sp := fun vs H Q _ => ∃ (a : Addr) (m : Int), vs = [.ref a, .int m] ∧ Tape H a ∧ 0 < m ∧ m < 1073741824 ∧ ∀ r H', 0 ≤ r → r < m → But a H H' → Tape H' a → Q (.int r) H'
theorem ok_take (F : Fun K "_law_take" "_law_take" s_law_take f fd) (mi : mg "int" = none) : FnOk P w K mg base CX0 1 f fd ["tape", "many"] spTake := by
  refine F.ok sc_law_take (fun vs H Q E h => ?_) (fun cdv A outer s H vs Q E hr h => ?_)
  · obtain ⟨a, m, rfl, _⟩ := h
    rfl
  obtain ⟨a, m, rfl, ⟨t, c, sd, b, hT⟩, h0, h1, q⟩ := h
  refine ⟨_, pss_cons (ps_if (PW.pt (pw_and (pt_val (pe_ix ix_list (pv 0) pe_int (fun _ _ => rfl))) (pw_and1 (pt_cmpR op_gt (pe_ix ix_list (pv 0) pe_int (fun _ _ => rfl)) pe_int (nomark _)))))
      (pss_cons (ps_set (i := 2) sc_law_take.nd rfl (.inl rfl) (pe_op op_modN (pe_callTy call_int1 rfl mi (by decide +kernel) (pa_cons (pe_ix ix_list (pv 0) pe_int (fun _ _ => rfl)) pa_nil)) (pv 1)))
      (pss_cons (ps_asg (pe_op op_fdivN (pe_ix ix_list (pv 0) pe_int (fun _ _ => rfl)) (pv 1)) (pg_sub (pv 0) pe_int set_list))
      (pss_one (ps_ret (pv 2))))) pss_nil)
    (pss_cons (ps_asg (pe_op op_add (pe_ix ix_list (pv 0) pe_int (fun _ _ => rfl)) pe_int) (pg_sub (pv 0) pe_int set_list))
    (pss_cons (ps_set (i := 3) sc_law_take.nd rfl (.inl rfl) (pe_op op_modN (pe_callTy call_int1 rfl mi (by decide +kernel) (pa_cons (pe_op op_add (pe_op op_add (pe_op op_mul (pe_ix ix_list (pv 0) pe_int (fun _ _ => rfl)) pe_int) (pe_op op_mul (pe_ix ix_list (pv 0) pe_int (fun _ _ => rfl)) pe_int)) pe_int) pa_nil)) pe_int))
    (pss_cons (ps_set (i := 3) sc_law_take.nd rfl (.inl rfl) (pe_op op_modN (pe_callTy call_int1 rfl mi (by decide +kernel) (pa_cons (pe_op op_add (pe_op op_add (pe_op op_mul (pv 3) pe_int) (pe_op op_mul (pe_op op_fdivN (pv 3) pe_int) pe_int)) (pe_ix ix_list (pv 0) pe_int (fun _ _ => rfl))) pa_nil)) pe_int))
    (pss_one (ps_ret (pe_op op_modN (pe_callTy call_int1 rfl mi (by decide +kernel) (pa_cons (pe_op op_fdivN (pv 3) pe_int) pa_nil)) (pv 1))))))), ?_⟩
  have rest : ∀ x : Int, 0 ≤ x.fmod m ∧ x.fmod m < m := fun x => by
    rw [Int.fmod_eq_emod_of_nonneg x (Int.le_of_lt h0)]
    exact ⟨Int.emod_nonneg x (by omega), Int.emod_lt_of_pos x h0⟩
  refine ⟨_, rfl, a, _, _, _, rfl, rfl, SqL.of hT, rfl, b, rfl, ?_⟩
  refine ite2 (fun hb => ?_) (fun hb => ?_)
  · refine ⟨_, rfl, a, _, _, _, rfl, rfl, SqL.of hT, rfl, _, _, rfl, rfl, _, rfl, ?_⟩
    refine ite2 (fun hc => ?_) (fun hc => ?_)
    · refine ⟨_, rfl, a, _, _, _, rfl, rfl, SqL.of hT, rfl, .inl ⟨_, rfl, _, rfl, _, _, rfl, rfl, (show m ≠ 0 by omega), ?_⟩⟩
      refine ⟨_, rfl, a, _, _, _, rfl, rfl, SqL.of hT, rfl, _, rfl, _, _, rfl, rfl, (show m ≠ 0 ∧ m.natAbs < 1073741824 by omega), _, rfl, a, _, _, _, rfl, rfl, hT, rfl, ?_⟩
      exact ⟨_, rfl, q _ _ (rest _).1 (rest _).2 But.upd ⟨_, _, _, _, upd_same⟩⟩
    · refine ⟨_, rfl, a, _, _, _, rfl, rfl, SqL.of hT, rfl, _, _, rfl, rfl, _, rfl, a, _, _, _, rfl, rfl, hT, rfl, ?_⟩
      refine ⟨_, rfl, a, _, _, _, rfl, rfl, SqL.of upd_same, rfl, _, _, rfl, rfl, .inr ⟨by decide, by decide⟩, _, rfl, a, _, _, _, rfl, rfl, SqL.of upd_same, rfl, _, _, rfl, rfl, .inr ⟨by decide, by decide⟩, _, _, rfl, rfl, _, _, rfl, rfl, .inl ⟨_, rfl, _, _, rfl, rfl, (show (2147483647 : Int) ≠ 0 by decide), ?_⟩⟩
      refine ⟨_, rfl, _, _, rfl, rfl, .inr ⟨by decide, by decide⟩, _, rfl, _, _, rfl, rfl, ⟨by decide, by decide⟩, _, _, rfl, rfl, .inr ⟨by decide, by decide⟩, _, _, rfl, rfl, _, rfl, a, _, _, _, rfl, rfl, SqL.of upd_same, rfl, _, _, rfl, rfl, .inl ⟨_, rfl, _, _, rfl, rfl, (show (2147483399 : Int) ≠ 0 by decide), ?_⟩⟩
      exact ⟨_, rfl, _, _, rfl, rfl, ⟨by decide, by decide⟩, .inl ⟨_, rfl, _, rfl, _, _, rfl, rfl, (show m ≠ 0 by omega), q _ _ (rest _).1 (rest _).2 But.upd ⟨_, _, _, _, upd_same⟩⟩⟩
  · refine ⟨_, rfl, a, _, _, _, rfl, rfl, SqL.of hT, rfl, _, _, rfl, rfl, _, rfl, a, _, _, _, rfl, rfl, hT, rfl, ?_⟩
    refine ⟨_, rfl, a, _, _, _, rfl, rfl, SqL.of upd_same, rfl, _, _, rfl, rfl, .inr ⟨by decide, by decide⟩, _, rfl, a, _, _, _, rfl, rfl, SqL.of upd_same, rfl, _, _, rfl, rfl, .inr ⟨by decide, by decide⟩, _, _, rfl, rfl, _, _, rfl, rfl, .inl ⟨_, rfl, _, _, rfl, rfl, (show (2147483647 : Int) ≠ 0 by decide), ?_⟩⟩
    refine ⟨_, rfl, _, _, rfl, rfl, .inr ⟨by decide, by decide⟩, _, rfl, _, _, rfl, rfl, ⟨by decide, by decide⟩, _, _, rfl, rfl, .inr ⟨by decide, by decide⟩, _, _, rfl, rfl, _, rfl, a, _, _, _, rfl, rfl, SqL.of upd_same, rfl, _, _, rfl, rfl, .inl ⟨_, rfl, _, _, rfl, rfl, (show (2147483399 : Int) ≠ 0 by decide), ?_⟩⟩
    exact ⟨_, rfl, _, _, rfl, rfl, ⟨by decide, by decide⟩, .inl ⟨_, rfl, _, rfl, _, _, rfl, rfl, (show m ≠ 0 by omega), q _ _ (rest _).1 (rest _).2 But.upd ⟨_, _, _, _, upd_same⟩⟩⟩
/-! ### dances, fractions -/
theorem six_letters {r : Int} (h0 : 0 ≤ r) (h1 : r < 6) : ∃ c, atI (("TTUURR" : Str)).cps.toList r = some c ∧ (c = 84 ∨ c = 85 ∨ c = 82) := by
  have e : (("TTUURR" : Str)).cps.toList = [84, 84, 85, 85, 82, 82] := by decide +kernel
  rw [e]
  obtain ⟨c, hc, m⟩ := atI_mk (xs := [84, 84, 85, 85, 82, 82]) h0 h1
  refine ⟨c, hc, ?_⟩
  simp at m
  omega
theorem four_sizes {r : Int} (h0 : 0 ≤ r) (h1 : r < 4) : ∃ z : Int, atI [V.int 1, .int 1, .int 3, .int 9] r = some (.int z) ∧ 1 ≤ z ∧ z ≤ 9 := by
  obtain ⟨c, hc, m⟩ := atI_mk (xs := [V.int 1, .int 1, .int 3, .int 9]) h0 h1
  simp at m
  rcases m with rfl | rfl | rfl
  · exact ⟨1, hc, by decide, by decide⟩
  · exact ⟨3, hc, by decide, by decide⟩
  · exact ⟨9, hc, by decide, by decide⟩
theorem e_empty : (("" : Str)) = S [] := by decide +kernel
theorem sizeLine_big : 16777216 ≤ sizeLine := by rw [sizeLine_eq]; decide
theorem fits {n : Nat} (h : n ≤ 16777216) : n ≤ sizeLine := Nat.le_trans h sizeLine_big
def spDance : Sp := fun vs H Q _ => ∃ (a : Addr) (m : Int), vs = [.ref a, .int m] ∧ Tape H a ∧ 0 ≤ m ∧ m ≤ 1000 ∧ ∀ l H', Lets l → (l.length : Int) ≤ m → But a H H' → Tape H' a → Q (.str (S l)) H'
theorem ok_dance (F : Fun K "_law_dance" "_law_dance" s_law_dance f fd) (DT : Dfn P w K mg base "_law_take" 1 ["tape", "many"] spTake) (mr : mg "range" = none) : FnOk P w K mg base CX0 2 f fd ["tape", "most"] spDance := by
  refine F.ok sc_law_dance (fun vs H Q E h => ?_) (fun cdv A outer s H vs Q E hr h => ?_)
  · obtain ⟨a, m, rfl, _⟩ := h
    rfl
  obtain ⟨a, m, rfl, hT, h0, h1, q⟩ := h
  refine ⟨_, pss_cons (ps_set (i := 2) sc_law_dance.nd rfl (.inl rfl) pe_str)
    (pss_cons (ps_set (i := 3) sc_law_dance.nd rfl (.inl rfl) (pe_ix ix_list (pe_lst (pa_cons pe_int (pa_cons pe_int (pa_cons pe_int (pa_cons pe_int pa_nil))))) (pe_do DT hr (pa_cons (pv 0) (pa_cons pe_int pa_nil))) (fun _ _ => rfl)))
    (pss_cons (ps_for PassesOwn.never rfl (pi_range1 rfl mr (pa_cons (pe_do DT hr (pa_cons (pv 0) (pa_cons (pe_op op_add (pv 1) pe_int) pa_nil))) pa_nil)) (pg_name (i := 4) sc_law_dance.nd rfl (.inl rfl))
      (pss_one (ps_set (i := 2) sc_law_dance.nd rfl (.inl rfl) (pe_op op_add_str (pv 2) (pe_op op_mul_str (pe_ix ix_str pe_str (pe_do DT hr (pa_cons (pv 0) (pa_cons pe_int pa_nil))) (fun _ _ => rfl))
        (pe_op op_add pe_int (pe_do DT hr (pa_cons (pv 0) (pa_cons (pv 3) pa_nil)))))))))
    (pss_one (ps_ret (pe_slice sl_str (pv 2) po_none (po_some (pv 1))))))), ?_⟩
  refine ⟨(by show 4 ≤ sizeLine; exact fits (by decide)), fun p hp => ?_⟩
  have np := hT.ne hp
  refine ⟨_, rfl, a, 4, rfl, hT.same (same_new hp _), by decide, by decide, fun r H1 r0 r1 b1 t1 => ?_⟩
  obtain ⟨z, hz, z1, z9⟩ := four_sizes r0 r1
  refine ⟨p, _, _, _, rfl, rfl, SqL.of (b1 _ _ np upd_same), hz, ?_⟩
  have B1 : But a H H1 := (But.of (same_new hp _)).trans b1
  refine ⟨_, rfl, _, rfl, _, _, rfl, rfl, a, _, rfl, t1, (show 0 < m + 1 by omega), (show m + 1 < 1073741824 by omega), fun r2 H2 r20 r21 b2 t2 => ?_⟩
  refine ⟨r2, rfl, by omega, by omega, for_range (lo := 0) (n := r2.toNat) (fun i σ H' => ∃ (l : List Nat) (v : Option V), σ = [some (.ref a), some (.int m), some (.str (S l)), some (.int z), v] ∧ Lets l ∧ l.length ≤ 9 * i ∧ But a H H' ∧ Tape H' a) ?_ ?_ ?_⟩
  · exact ⟨[], none, by rw [← e_empty]; rfl, fun _ h => (by cases h), Nat.zero_le _, B1.trans b2, t2⟩
  · rintro i σ H' hi ⟨l, v, rfl, hl, hz2, bt, tp⟩
    refine ⟨_, rfl, _, rfl, a, 6, rfl, tp, by decide, by decide, fun r3 H3 r30 r31 b3 t3 => ?_⟩
    obtain ⟨c, hc, hcl⟩ := six_letters r30 r31
    refine ⟨_, _, c, rfl, rfl, (fits (by decide +kernel)), hc, _, rfl, _, rfl, a, z, rfl, t3, by omega, by omega, fun r4 H4 r40 r41 b4 t4 => ?_⟩
    have hn : (1 + r4).toNat ≤ 9 := by omega
    refine ⟨_, _, rfl, rfl, [c], 1 + r4, rfl, rfl, by omega, by omega, by simp only [List.length_singleton]; omega, _, _, rfl, rfl, ?_, ?_⟩
    · rw [S_len, S_len]
      refine fits ?_
      rw [List.length_flatten, List.map_replicate, List.sum_replicate_nat]
      simp only [List.length_singleton]
      omega
    · refine ⟨l ++ (List.replicate (1 + r4).toNat [c]).flatten, _, by rw [S_app]; rfl, fun x hx => ?_, ?_, (bt.trans b3).trans b4, t4⟩
      · rcases List.mem_append.mp hx with hx | hx
        · exact hl x hx
        · obtain ⟨y, hy, hxy⟩ := List.mem_flatten.mp hx
          rw [(List.mem_replicate.mp hy).2] at hxy
          rw [List.mem_singleton.mp hxy]
          exact hcl
      · rw [List.length_append, List.length_flatten, List.map_replicate, List.sum_replicate_nat]
        simp only [List.length_singleton]
        omega
  · rintro σ H' ⟨l, v, rfl, hl, hz2, bt, tp⟩
    refine ⟨_, rfl, _, rfl, _, rfl, _, rfl, (by rw [S_len]; exact fits (by omega)), ?_⟩
    rw [S_take l h0]
    refine q _ _ (fun x hx => hl x (List.mem_of_mem_take hx)) ?_ bt tp
    rw [List.length_take]
    omega
end
section
variable {P : Program} {w : World} {K : PySem.W.Frag} {mg : Str → Option Value} {base : Heap} {f : Addr} {fd : FuncData}
/-! ### the same data -/
inductive Dt where
  | int (i : Int) | str (z : Str) | non | tup (xs : List Dt) | lst (xs : List Dt)
/-- v stands for d, in at most n levels -/
def Is (H : Hp) : Nat → V → Dt → Prop
  | _, v, .int i => v = .int i
  | _, v, .str z => v = .str z
  | _, v, .non => v = .non
  | 0, _, .tup _ => False
  | 0, _, .lst _ => False
  | n + 1, v, .tup ds => ∃ (a : Addr) (xs : List V), v = .ref a ∧ H a = some (.tup xs) ∧ xs.length = ds.length ∧ ds.length ≤ 1000000 ∧ ∀ (i : Nat) (x : V) (d : Dt), xs[i]? = some x → ds[i]? = some d → Is H n x d
  | n + 1, v, .lst ds => ∃ (a : Addr) (xs : List V), v = .ref a ∧ H a = some (.lst xs) ∧ xs.length = ds.length ∧ ds.length ≤ 1000000 ∧ ∀ (i : Nat) (x : V) (d : Dt), xs[i]? = some x → ds[i]? = some d → Is H n x d
def spSame : Nat → Sp
  | 0 => fun _ _ _ _ => False
  | n + 1 => fun vs H Q _ => ∃ (x y : V) (d : Dt), vs = [x, y] ∧ Is H n x d ∧ Is H n y d ∧ Q (.bl true) H
theorem ok_same {n : Nat} (F : Fun K "_law_same" "_law_same" s_law_same f fd) (DS : Dfn P w K mg base "_law_same" n ["told", "due"] (spSame n)) (mI : mg "isinstance" = none) (mT : mg "tuple" = none) (mL : mg "list" = none) (ml : mg "len" = none) (mr : mg "range" = none)
    (ms : mg "str" = none) (mi : mg "int" = none) (mb : mg "bool" = none) : FnOk P w K mg base CX0 (n + 1) f fd ["told", "due"] (spSame (n + 1)) := by
  refine F.ok sc_law_same (fun vs H Q E h => ?_) (fun cdv A outer s H vs Q E hr h => ?_)
  · obtain ⟨x, y, d, rfl, _⟩ := h
    rfl
  obtain ⟨x, y, d, rfl, hx, hy, q⟩ := h
  have bT : bootBuiltins "tuple" = some (.type "tuple") := by decide +kernel
  have bL : bootBuiltins "list" = some (.type "list") := by decide +kernel
  have bS : bootBuiltins "str" = some (.type "str") := by decide +kernel
  have bI : bootBuiltins "int" = some (.type "int") := by decide +kernel
  have bB : bootBuiltins "bool" = some (.type "bool") := by decide +kernel
  have bi : bootBuiltins "isinstance" = some (.builtin "isinstance") := by decide +kernel
  refine ⟨_, pss_cons (ps_if (PW.pt (pw_or (pt_val (pe_callB call_isi rfl mI bi (pa_cons (pv 1) (pa_cons (pe_bltn (v := .ty "tuple") rfl mT bT rfl) pa_nil)))) (pw_or1 (pt_val (pe_callB call_isi rfl mI bi (pa_cons (pv 1) (pa_cons (pe_bltn (v := .ty "list") rfl mL bL rfl) pa_nil)))))))
      (pss_cons (ps_if (PW.pt (pw_or (pt_cmpR op_ne (pe_callB call_isi rfl mI bi (pa_cons (pv 1) (pa_cons (pe_bltn (v := .ty "tuple") rfl mT bT rfl) pa_nil))) (pe_callB call_isi rfl mI bi (pa_cons (pv 0) (pa_cons (pe_bltn (v := .ty "tuple") rfl mT bT rfl) pa_nil))) (nomark _))
          (pw_or1 (pt_cmpR op_ne (pe_callB call_isi rfl mI bi (pa_cons (pv 1) (pa_cons (pe_bltn (v := .ty "list") rfl mL bL rfl) pa_nil))) (pe_callB call_isi rfl mI bi (pa_cons (pv 0) (pa_cons (pe_bltn (v := .ty "list") rfl mL bL rfl) pa_nil))) (nomark _)))))
        (pss_one (ps_ret pe_bl)) pss_nil)
      (pss_cons (ps_if (pt_cmpR op_ne (pe_callB call_len_seq rfl ml PySem.boot_len (pa_cons (pv 0) pa_nil)) (pe_callB call_len_seq rfl ml PySem.boot_len (pa_cons (pv 1) pa_nil)) (nomark _)) (pss_one (ps_ret pe_bl)) pss_nil)
      (pss_cons (ps_for PassesOwn.never rfl (pi_range1 rfl mr (pa_cons (pe_callB call_len_seq rfl ml PySem.boot_len (pa_cons (pv 1) pa_nil)) pa_nil)) (pg_name (i := 2) sc_law_same.nd rfl (.inl rfl))
        (pss_one (ps_if (pt_not (pt_val (pe_do DS hr (pa_cons (pe_ix ix_seq (pv 0) (pv 2) (fun _ _ => rfl)) (pa_cons (pe_ix ix_seq (pv 1) (pv 2) (fun _ _ => rfl)) pa_nil))))) (pss_one (ps_ret pe_bl)) pss_nil)))
      (pss_one (ps_ret pe_bl))))) pss_nil)
    (pss_cons (ps_if (pt_cmpR op_isN (pv 1) pe_non (nomark _)) (pss_one (ps_ret (pe_cmpR op_isN (pv 0) pe_non (nomark _)))) pss_nil)
    (pss_cons (ps_if (pt_val (pe_callB call_isi rfl mI bi (pa_cons (pv 1) (pa_cons (pe_bltn (v := .ty "str") rfl ms bS rfl) pa_nil))))
      (pss_one (ps_ret (pe_and (pe_callB call_isi rfl mI bi (pa_cons (pv 0) (pa_cons (pe_bltn (v := .ty "str") rfl ms bS rfl) pa_nil))) (pe_one (pe_cmpR op_eq (pv 0) (pv 1) (nomark _)))))) pss_nil)
    (pss_one (ps_ret (pe_and (pe_callB call_isi rfl mI bi (pa_cons (pv 0) (pa_cons (pe_bltn (v := .ty "int") rfl mi bI rfl) pa_nil)))
      (pe_and (pe_not (pe_callB call_isi rfl mI bi (pa_cons (pv 0) (pa_cons (pe_bltn (v := .ty "bool") rfl mb bB rfl) pa_nil)))) (pe_one (pe_cmpR op_eq (pv 0) (pv 1) (nomark _))))))))), ?_⟩
  have isn : ∀ (a b : String) (r : Bool), kitB a b = some r → PySem.W.kitOne K (.type a) (.type b) = some r := fun a b r h => kit_ty h
  cases d with
  | int i =>
    cases (show x = .int i by cases n <;> exact hx)
    cases (show y = .int i by cases n <;> exact hy)
    refine ⟨_, rfl, _, _, _, _, false, rfl, .ty _, .base (.int _), kit_ty (by decide +kernel), _, rfl, iteF ?_⟩
    refine ⟨_, rfl, _, _, _, _, false, rfl, .ty _, .base (.int _), kit_ty (by decide +kernel), _, rfl, iteF ?_⟩
    refine ⟨_, rfl, rfl, _, rfl, iteF ?_⟩
    refine ⟨_, rfl, _, _, _, _, false, rfl, .ty _, .base (.int _), kit_ty (by decide +kernel), _, rfl, iteF ?_⟩
    refine ⟨_, rfl, _, _, _, _, true, rfl, .ty _, .base (.int _), kit_ty (by decide +kernel), _, rfl, iteT ?_⟩
    refine ⟨_, rfl, _, _, _, _, false, rfl, .ty _, .base (.int _), kit_ty (by decide +kernel), _, rfl, _, rfl, iteT ?_⟩
    refine ⟨_, rfl, _, rfl, rfl, ?_⟩
    rw [decide_eq_true rfl]
    exact q
  | str z =>
    cases (show x = .str z by cases n <;> exact hx)
    cases (show y = .str z by cases n <;> exact hy)
    refine ⟨_, rfl, _, _, _, _, false, rfl, .ty _, .base (.str _), kit_ty (by decide +kernel), _, rfl, iteF ?_⟩
    refine ⟨_, rfl, _, _, _, _, false, rfl, .ty _, .base (.str _), kit_ty (by decide +kernel), _, rfl, iteF ?_⟩
    refine ⟨_, rfl, rfl, _, rfl, iteF ?_⟩
    refine ⟨_, rfl, _, _, _, _, true, rfl, .ty _, .base (.str _), kit_ty (by decide +kernel), _, rfl, iteT ?_⟩
    refine ⟨_, rfl, _, _, _, _, true, rfl, .ty _, .base (.str _), kit_ty (by decide +kernel), _, rfl, iteT ?_⟩
    refine ⟨_, rfl, _, rfl, rfl, ?_⟩
    rw [decide_eq_true rfl]
    exact q
  | non =>
    cases (show x = .non by cases n <;> exact hx)
    cases (show y = .non by cases n <;> exact hy)
    refine ⟨_, rfl, _, _, _, _, false, rfl, .ty _, .base .non, kit_ty (by decide +kernel), _, rfl, iteF ?_⟩
    refine ⟨_, rfl, _, _, _, _, false, rfl, .ty _, .base .non, kit_ty (by decide +kernel), _, rfl, iteF ?_⟩
    exact ⟨_, rfl, rfl, _, rfl, iteT ⟨_, rfl, rfl, q⟩⟩
  | tup ds =>
    cases n with
    | zero => exact hx.elim
    | succ n =>
      obtain ⟨a, xs, rfl, ha, la, ln, ka⟩ := hx
      obtain ⟨b, ys, rfl, hb, lb, _, kb⟩ := hy
      refine ⟨_, rfl, _, _, _, _, true, rfl, .ty _, .base (.tup hb), kit_ty (by decide +kernel), _, rfl, iteT ?_⟩
      refine ⟨_, rfl, _, _, _, _, true, rfl, .ty _, .base (.tup hb), kit_ty (by decide +kernel), _, rfl, _, _, _, _, true, rfl, .ty _, .base (.tup ha), kit_ty (by decide +kernel), rfl, _, rfl, iteF ?_⟩
      refine ⟨_, rfl, _, _, _, _, false, rfl, .ty _, .base (.tup hb), kit_ty (by decide +kernel), _, rfl, _, _, _, _, false, rfl, .ty _, .base (.tup ha), kit_ty (by decide +kernel), rfl, _, rfl, iteF ?_⟩
      refine ⟨_, rfl, a, xs, rfl, .inr (SqT.of ha), _, rfl, b, ys, rfl, .inr (SqT.of hb), rfl, _, rfl, ?_⟩
      rw [show (decide (V.int (xs.length : Int) = V.int (ys.length : Int))) = true from decide_eq_true (by rw [la, lb])]
      refine iteF ?_
      refine ⟨_, rfl, b, ys, rfl, .inr (SqT.of hb), (ys.length : Int), rfl, by omega, by omega, for_range (lo := 0) (n := (ys.length : Int).toNat) (fun i σ H' => H' = H ∧ ∃ v, σ = [some (.ref a), some (.ref b), v]) ⟨rfl, none, rfl⟩ ?_ ?_⟩
      · rintro i σ _ hi ⟨rfl, v, rfl⟩
        have hi1 : i < ys.length := by omega
        have hi2 : i < xs.length := by omega
        have hi3 : i < ds.length := by omega
        refine ⟨_, rfl, _, rfl, .inr (.inl ⟨a, xs, _, _, rfl, rfl, SqT.of ha, at_of (j := i) (by omega) (List.getElem?_eq_getElem hi2), ?_⟩)⟩
        refine ⟨_, rfl, _, rfl, .inr (.inl ⟨b, ys, _, _, rfl, rfl, SqT.of hb, at_of (j := i) (by omega) (List.getElem?_eq_getElem hi1), ?_⟩)⟩
        refine ⟨_, _, ds[i], rfl, ka i _ _ (List.getElem?_eq_getElem hi2) (List.getElem?_eq_getElem hi3), kb i _ _ (List.getElem?_eq_getElem hi1) (List.getElem?_eq_getElem hi3), _, rfl, iteF ⟨rfl, _, rfl⟩⟩
      · rintro σ _ ⟨rfl, v, rfl⟩
        exact q
  | lst ds =>
    cases n with
    | zero => exact hx.elim
    | succ n =>
      obtain ⟨a, xs, rfl, ha, la, ln, ka⟩ := hx
      obtain ⟨b, ys, rfl, hb, lb, _, kb⟩ := hy
      refine ⟨_, rfl, _, _, _, _, false, rfl, .ty _, .base (.lst hb), kit_ty (by decide +kernel), _, rfl, iteF ?_⟩
      refine ⟨_, rfl, _, _, _, _, true, rfl, .ty _, .base (.lst hb), kit_ty (by decide +kernel), _, rfl, iteT ?_⟩
      refine ⟨_, rfl, _, _, _, _, false, rfl, .ty _, .base (.lst hb), kit_ty (by decide +kernel), _, rfl, _, _, _, _, false, rfl, .ty _, .base (.lst ha), kit_ty (by decide +kernel), rfl, _, rfl, iteF ?_⟩
      refine ⟨_, rfl, _, _, _, _, true, rfl, .ty _, .base (.lst hb), kit_ty (by decide +kernel), _, rfl, _, _, _, _, true, rfl, .ty _, .base (.lst ha), kit_ty (by decide +kernel), rfl, _, rfl, iteF ?_⟩
      refine ⟨_, rfl, a, xs, rfl, .inl (SqL.of ha), _, rfl, b, ys, rfl, .inl (SqL.of hb), rfl, _, rfl, ?_⟩
      rw [show (decide (V.int (xs.length : Int) = V.int (ys.length : Int))) = true from decide_eq_true (by rw [la, lb])]
      refine iteF ?_
      refine ⟨_, rfl, b, ys, rfl, .inl (SqL.of hb), (ys.length : Int), rfl, by omega, by omega, for_range (lo := 0) (n := (ys.length : Int).toNat) (fun i σ H' => H' = H ∧ ∃ v, σ = [some (.ref a), some (.ref b), v]) ⟨rfl, none, rfl⟩ ?_ ?_⟩
      · rintro i σ _ hi ⟨rfl, v, rfl⟩
        have hi1 : i < ys.length := by omega
        have hi2 : i < xs.length := by omega
        have hi3 : i < ds.length := by omega
        refine ⟨_, rfl, _, rfl, .inl ⟨a, xs, _, _, rfl, rfl, SqL.of ha, at_of (j := i) (by omega) (List.getElem?_eq_getElem hi2), ?_⟩⟩
        refine ⟨_, rfl, _, rfl, .inl ⟨b, ys, _, _, rfl, rfl, SqL.of hb, at_of (j := i) (by omega) (List.getElem?_eq_getElem hi1), ?_⟩⟩
        refine ⟨_, _, ds[i], rfl, ka i _ _ (List.getElem?_eq_getElem hi2) (List.getElem?_eq_getElem hi3), kb i _ _ (List.getElem?_eq_getElem hi1) (List.getElem?_eq_getElem hi3), _, rfl, iteF ⟨rfl, _, rfl⟩⟩
      · rintro σ _ ⟨rfl, v, rfl⟩
        exact q
theorem none_same : FnOk P w K mg base CX0 0 f fd ["told", "due"] (spSame 0) := by
  have no : ∀ vs H Q E, ¬ spSame 0 vs H Q E := fun vs H Q E h => h
  exact ⟨fun vs H Q E h => absurd h (no vs H Q E), fun A outer s H args us vs Q E _ _ _ _ h => absurd h (no vs H Q E)⟩
end
section
variable {P : Program} {w : World} {K : PySem.W.Frag} {mg : Str → Option Value} {base : Heap} {f : Addr} {fd : FuncData}
theorem sign_eq {c n : Nat} {z : Str} (e : z = S [n]) : (V.str (S [c]) = V.str z) ↔ c = n := by
  subst e
  constructor
  · intro h
    have := S_inj (V.str.inj h)
    simpa using this
  · rintro rfl; rfl
theorem e_T : (("T" : Str)) = S [84] := by decide +kernel
theorem e_U : (("U" : Str)) = S [85] := by decide +kernel
theorem e_R : (("R" : Str)) = S [82] := by decide +kernel
def Tup2 (H : Hp) (t : Addr) (v : Int × Int) : Prop := H t = some (.tup [.int v.1, .int v.2])
def spCalled (K : PySem.W.Frag) : Sp := fun vs H Q _ => ∃ (t : Addr) (v : Int × Int) (c : Nat), vs = [.ref t, .str (S [c])] ∧ Tup2 H t v ∧ ∀ t' H', Same H H' → Tup2 H' t' (called v c) → Q (.ref t') H'
theorem ok_called (F : Fun K "_law_called" "_law_called" s_law_called f fd) : FnOk P w K mg base CX0 1 f fd ["value", "letter"] (spCalled K) := by
  refine F.ok sc_law_called (fun vs H Q E h => ?_) (fun cdv A outer s H vs Q E hr h => ?_)
  · obtain ⟨a, m, c, rfl, _⟩ := h
    rfl
  obtain ⟨t, ⟨p, q'⟩, c, rfl, hT, q⟩ := h
  refine ⟨_, pss_cons (ps_asg (pv 0) (pg_tup (by rfl) (pgs_cons (pg_name (i := 2) sc_law_called.nd rfl (.inl rfl)) (pgs_cons (pg_name (i := 3) sc_law_called.nd rfl (.inl rfl)) pgs_nil))))
    (pss_cons (ps_if (pt_cmpR op_eq (pv 1) pe_str (nomark _)) (pss_one (ps_ret (pe_tup (pa_cons (pe_op op_add (pv 2) (pv 3)) (pa_cons (pv 3) pa_nil))))) pss_nil)
    (pss_cons (ps_if (pt_cmpR op_eq (pv 1) pe_str (nomark _)) (pss_one (ps_ret (pe_tup (pa_cons (pe_op op_sub (pv 2) (pv 3)) (pa_cons (pv 3) pa_nil))))) pss_nil)
    (pss_cons (ps_if (pt_cmpR op_gt (pv 2) pe_int (nomark _)) (pss_one (ps_ret (pe_tup (pa_cons (pe_op op_sub pe_int (pv 3)) (pa_cons (pv 2) pa_nil))))) pss_nil)
    (pss_cons (ps_if (pt_cmpR op_lt (pv 2) pe_int (nomark _)) (pss_one (ps_ret (pe_tup (pa_cons (pv 3) (pa_cons (pe_op op_sub pe_int (pv 2)) pa_nil))))) pss_nil)
    (pss_one (ps_ret (pe_tup (pa_cons pe_int (pa_cons pe_int pa_nil))))))))), ?_⟩
  have two : 2 ≤ sizeLine := fits (by decide)
  refine ⟨_, rfl, t, _, rfl, SqT.of hT, rfl, _, _, rfl, _, _, rfl, rfl, ?_⟩
  refine ⟨_, rfl, rfl, _, rfl, ite2 (fun c1 => ?_) (fun c1 => ?_)⟩
  · have k1 : c = 84 := (sign_eq e_T).mp (of_decide_eq_true c1)
    refine ⟨_, rfl, _, rfl, _, _, rfl, rfl, _, rfl, two, fun n hn => q n _ (same_new hn _) ?_⟩
    unfold Tup2 called
    rw [upd_same, if_pos k1]
  have k1 : ¬ c = 84 := fun z => c1 (decide_eq_true ((sign_eq e_T).mpr z))
  refine ⟨_, rfl, rfl, _, rfl, ite2 (fun c2 => ?_) (fun c2 => ?_)⟩
  · have k2 : c = 85 := (sign_eq e_U).mp (of_decide_eq_true c2)
    refine ⟨_, rfl, _, rfl, _, _, rfl, rfl, _, rfl, two, fun n hn => q n _ (same_new hn _) ?_⟩
    unfold Tup2 called
    rw [upd_same, if_neg k1, if_pos k2]
  have k2 : ¬ c = 85 := fun z => c2 (decide_eq_true ((sign_eq e_U).mpr z))
  refine ⟨_, rfl, _, _, rfl, rfl, _, rfl, ite2 (fun c3 => ?_) (fun c3 => ?_)⟩
  · have k3 : 0 < p := of_decide_eq_true c3
    refine ⟨_, rfl, _, _, rfl, rfl, _, rfl, two, fun n hn => q n _ (same_new hn _) ?_⟩
    unfold Tup2 called
    rw [upd_same, if_neg k1, if_neg k2, if_pos k3]
  have k3 : ¬ 0 < p := fun z => c3 (decide_eq_true z)
  refine ⟨_, rfl, _, _, rfl, rfl, _, rfl, ite2 (fun c4 => ?_) (fun c4 => ?_)⟩
  · have k4 : p < 0 := of_decide_eq_true c4
    refine ⟨_, rfl, _, rfl, _, _, rfl, rfl, two, fun n hn => q n _ (same_new hn _) ?_⟩
    unfold Tup2 called
    rw [upd_same, if_neg k1, if_neg k2, if_neg k3, if_pos k4]
  have k4 : ¬ p < 0 := fun z => c4 (decide_eq_true z)
  refine ⟨two, fun n hn => q n _ (same_new hn _) ?_⟩
  unfold Tup2 called
  rw [upd_same, if_neg k1, if_neg k2, if_neg k3, if_neg k4]
theorem Tup2.same {H H' : Hp} {t : Addr} {v : Int × Int} (h : Tup2 H t v) (s : Same H H') : Tup2 H' t v := s _ _ h
theorem Tup2.but {H H' : Hp} {a t : Addr} {v : Int × Int} (h : Tup2 H t v) (s : But a H H') (tp : Tape H a) : Tup2 H' t v := by
  obtain ⟨y, c, z, b, e⟩ := tp
  exact s _ _ (ne_of h e (by intro q; cases q)) h
def spNumber (K : PySem.W.Frag) : Sp := fun vs H Q _ => ∃ l : List Nat, vs = [.str (S l)] ∧ ∀ t' H', Same H H' → Tup2 H' t' (run (0, 1) l) → Q (.ref t') H'
theorem ok_number (F : Fun K "_law_number" "_law_number" s_law_number f fd) (DC : Dfn P w K mg base "_law_called" 1 ["value", "letter"] (spCalled K)) : FnOk P w K mg base CX0 2 f fd ["dance"] (spNumber K) := by
  refine F.ok sc_law_number (fun vs H Q E h => ?_) (fun cdv A outer s H vs Q E hr h => ?_)
  · obtain ⟨l, rfl, _⟩ := h
    rfl
  obtain ⟨l, rfl, q⟩ := h
  refine ⟨_, pss_cons (ps_set (i := 1) sc_law_number.nd rfl (.inl rfl) (pe_tup (pa_cons pe_int (pa_cons pe_int pa_nil))))
    (pss_cons (ps_for PassesOwn.never rfl (pi_str (pv 0)) (pg_name (i := 2) sc_law_number.nd rfl (.inl rfl))
      (pss_one (ps_set (i := 1) sc_law_number.nd rfl (.inl rfl) (pe_do DC hr (pa_cons (pv 1) (pa_cons (pv 2) pa_nil))))))
    (pss_one (ps_ret (pv 1)))), ?_⟩
  refine ⟨fits (by decide), fun p hp => ?_⟩
  refine ⟨_, rfl, _, rfl, for_str (l := l) (fun i σ H' => ∃ (t : Addr) (v : Option V), σ = [some (.str (S l)), some (.ref t), v] ∧ Same H H' ∧ Tup2 H' t (run (0, 1) (l.take i))) ?_ ?_ ?_⟩
  · exact ⟨p, _, rfl, same_new hp _, upd_same⟩
  · rintro i c σ H' hc ⟨t, v, rfl, sm, tt⟩
    refine ⟨_, rfl, _, rfl, t, _, c, rfl, tt, fun t' H2 s2 tt2 => ?_⟩
    exact ⟨t', _, rfl, sm.trans s2, by rw [run_take _ hc]; exact tt2⟩
  · rintro σ H' ⟨t, v, rfl, sm, tt⟩
    rw [List.take_of_length_le (Nat.le_refl _)] at tt
    exact ⟨_, rfl, q t H' sm tt⟩
end
section
variable {P : Program} {w : World} {K : PySem.W.Frag} {mg : Str → Option Value} {base : Heap} {f : Addr} {fd : FuncData}
/-! ### the program: turned, after -/
def spTurned : Sp := fun vs H Q _ => ∃ p q' : Int, vs = [.int p, .int q'] ∧ ∀ t' H', Same H H' → Tup2 H' t' (called (p, q') 82) → Q (.ref t') H'
theorem ok_turned (F : Fun K "turned" "turned" s_turned f fd) : FnOk P w K mg base CX0 1 f fd ["p", "q"] spTurned := by
  refine F.ok sc_turned (fun vs H Q E h => ?_) (fun cdv A outer s H vs Q E hr h => ?_)
  · obtain ⟨p, q', rfl, _⟩ := h
    rfl
  obtain ⟨p, q', rfl, q⟩ := h
  refine ⟨_, pss_cons (ps_if (pt_cmpR op_eq (pv 0) pe_int (nomark _)) (pss_one (ps_ret (pe_tup (pa_cons pe_int (pa_cons pe_int pa_nil))))) pss_nil)
    (pss_cons (ps_if (pt_cmpR op_lt (pv 0) pe_int (nomark _)) (pss_one (ps_ret (pe_tup (pa_cons (pv 1) (pa_cons (pe_un un_neg (pv 0)) pa_nil))))) pss_nil)
    (pss_one (ps_ret (pe_tup (pa_cons (pe_un un_neg (pv 1)) (pa_cons (pv 0) pa_nil)))))), ?_⟩
  have two : 2 ≤ sizeLine := fits (by decide)
  have e1 : ¬ (82 : Nat) = 84 := by decide
  have e2 : ¬ (82 : Nat) = 85 := by decide
  refine ⟨_, rfl, rfl, _, rfl, ite2 (fun c1 => ?_) (fun c1 => ?_)⟩
  · have k1 : p = 0 := V.int.inj (of_decide_eq_true c1)
    subst k1
    refine ⟨two, fun n hn => q n _ (same_new hn _) ?_⟩
    unfold Tup2 called
    rw [upd_same, if_neg e1, if_neg e2, if_neg (show ¬ (0 : Int) < 0 by decide), if_neg (show ¬ (0 : Int) < 0 by decide)]
  have k1 : ¬ p = 0 := fun z => c1 (decide_eq_true (by rw [z]))
  refine ⟨_, rfl, _, _, rfl, rfl, _, rfl, ite2 (fun c2 => ?_) (fun c2 => ?_)⟩
  · have k2 : p < 0 := of_decide_eq_true c2
    refine ⟨_, rfl, _, rfl, _, rfl, two, fun n hn => q n _ (same_new hn _) ?_⟩
    unfold Tup2 called
    rw [upd_same, if_neg e1, if_neg e2, if_neg (show ¬ (0 : Int) < p by omega), if_pos k2, Int.zero_sub]
  have k2 : ¬ p < 0 := fun z => c2 (decide_eq_true z)
  refine ⟨_, rfl, _, rfl, _, rfl, two, fun n hn => q n _ (same_new hn _) ?_⟩
  unfold Tup2 called
  rw [upd_same, if_neg e1, if_neg e2, if_pos (show (0 : Int) < p by omega), Int.zero_sub]
theorem called_other {v : Int × Int} {c : Nat} (h1 : ¬ c = 84) (h2 : ¬ c = 85) : called v c = called v 82 := by
  unfold called
  rw [if_neg h1, if_neg h2, if_neg (show ¬ (82 : Nat) = 84 by decide), if_neg (show ¬ (82 : Nat) = 85 by decide)]
def spAfter : Sp := fun vs H Q _ => ∃ (t : Addr) (v : Int × Int) (l : List Nat), vs = [.ref t, .str (S l)] ∧ Tup2 H t v ∧ ∀ t' H', Same H H' → Tup2 H' t' (run v l) → Q (.ref t') H'
theorem ok_after (F : Fun K "after" "after" s_after f fd) (DT : Dfn P w K mg base "turned" 1 ["p", "q"] spTurned) : FnOk P w K mg base CX0 2 f fd ["fraction", "dance"] spAfter := by
  refine F.ok sc_after (fun vs H Q E h => ?_) (fun cdv A outer s H vs Q E hr h => ?_)
  · obtain ⟨t, v, l, rfl, _⟩ := h
    rfl
  obtain ⟨t, v, l, rfl, hT, q⟩ := h
  refine ⟨_, pss_cons (ps_asg (pv 0) (pg_tup (by rfl) (pgs_cons (pg_name (i := 2) sc_after.nd rfl (.inl rfl)) (pgs_cons (pg_name (i := 3) sc_after.nd rfl (.inl rfl)) pgs_nil))))
    (pss_cons (ps_for PassesOwn.never rfl (pi_str (pv 1)) (pg_name (i := 4) sc_after.nd rfl (.inl rfl))
      (pss_one (ps_if (pt_cmpR op_eq (pv 4) pe_str (nomark _)) (pss_one (ps_aug (i := 2) sc_after.nd rfl (.inl rfl) (pv 3) ip_add))
        (pss_one (ps_if (pt_cmpR op_eq (pv 4) pe_str (nomark _)) (pss_one (ps_aug (i := 2) sc_after.nd rfl (.inl rfl) (pv 3) ip_sub))
          (pss_one (ps_asg (pe_do DT hr (pa_cons (pv 2) (pa_cons (pv 3) pa_nil))) (pg_tup (by rfl) (pgs_cons (pg_name (i := 2) sc_after.nd rfl (.inl rfl)) (pgs_cons (pg_name (i := 3) sc_after.nd rfl (.inl rfl)) pgs_nil))))))))))
    (pss_one (ps_ret (pe_tup (pa_cons (pv 2) (pa_cons (pv 3) pa_nil)))))), ?_⟩
  refine ⟨_, rfl, t, _, rfl, SqT.of hT, rfl, _, _, rfl, _, _, rfl, rfl, ?_⟩
  refine ⟨_, rfl, _, rfl, for_str (l := l) (fun i σ H' => ∃ (x : Option V), σ = [some (.ref t), some (.str (S l)), some (.int (run v (l.take i)).1), some (.int (run v (l.take i)).2), x] ∧ Same H H') ?_ ?_ ?_⟩
  · exact ⟨none, rfl, Same.refl H⟩
  · rintro i c σ H' hc ⟨x, rfl, sm⟩
    have st := run_take v hc
    generalize run v (l.take i) = u at *
    obtain ⟨p, q'⟩ := u
    refine ⟨_, rfl, rfl, _, rfl, ite2 (fun c1 => ?_) (fun c1 => ?_)⟩
    · have k1 : c = 84 := (sign_eq e_T).mp (of_decide_eq_true c1)
      refine ⟨_, rfl, _, rfl, _, _, rfl, rfl, some (.str (S [c])), ?_, sm⟩
      rw [st]
      unfold called
      rw [if_pos k1]
      rfl
    have k1 : ¬ c = 84 := fun z => c1 (decide_eq_true ((sign_eq e_T).mpr z))
    refine ⟨_, rfl, rfl, _, rfl, ite2 (fun c2 => ?_) (fun c2 => ?_)⟩
    · have k2 : c = 85 := (sign_eq e_U).mp (of_decide_eq_true c2)
      refine ⟨_, rfl, _, rfl, _, _, rfl, rfl, some (.str (S [c])), ?_, sm⟩
      rw [st]
      unfold called
      rw [if_neg k1, if_pos k2]
      rfl
    have k2 : ¬ c = 85 := fun z => c2 (decide_eq_true ((sign_eq e_U).mpr z))
    refine ⟨_, rfl, _, rfl, p, q', rfl, fun t' H2 s2 tt => ?_⟩
    refine ⟨t', _, rfl, SqT.of tt, rfl, _, _, rfl, _, _, rfl, rfl, some (.str (S [c])), ?_, sm.trans s2⟩
    rw [st, called_other k1 k2]
    rfl
  · rintro σ H' ⟨x, rfl, sm⟩
    rw [List.take_of_length_le (Nat.le_refl _)]
    exact ⟨_, rfl, _, rfl, fits (by show 2 ≤ 16777216; decide), fun n hn => q n _ (sm.trans (same_new hn _)) upd_same⟩
end
section
theorem int_is {H : Hp} {n : Nat} {i : Int} : Is H n (.int i) (.int i) := by cases n <;> rfl
theorem str_is {H : Hp} {n : Nat} {z : Str} : Is H n (.str z) (.str z) := by cases n <;> rfl
theorem is_tup {H : Hp} {n : Nat} {a : Addr} {xs : List V} {ds : List Dt} (h : H a = some (.tup xs)) (z : xs.length = ds.length) (m : ds.length ≤ 1000000) (k : ∀ (i : Nat) (x : V) (d : Dt), xs[i]? = some x → ds[i]? = some d → Is H n x d) : Is H (n + 1) (.ref a) (.tup ds) := ⟨a, xs, rfl, h, z, m, k⟩
theorem is_lst {H : Hp} {n : Nat} {a : Addr} {xs : List V} {ds : List Dt} (h : H a = some (.lst xs)) (z : xs.length = ds.length) (m : ds.length ≤ 1000000) (k : ∀ (i : Nat) (x : V) (d : Dt), xs[i]? = some x → ds[i]? = some d → Is H n x d) : Is H (n + 1) (.ref a) (.lst ds) := ⟨a, xs, rfl, h, z, m, k⟩
end
theorem S_eta (z : Str) : S z.cps.toList = z := by
  cases z
  simp [S]
def tx (l : List Nat) : V := .str (S l)
theorem tx_inj {a b : List Nat} (h : tx a = tx b) : a = b := S_inj (V.str.inj h)
theorem tx_iff {a b : List Nat} : V.str (S a) = V.str (S b) ↔ a = b := ⟨fun h => tx_inj h, fun h => by rw [h]⟩
section
open TL (joinL tl tl_join join_eq split_join)
/-! ### standard dances -/
def nx (p q : Int) : Int := (p / q + 1) * q - p
theorem nx_eq (p q : Int) : nx p q = q - p % q := by
  unfold nx
  have := Int.mul_ediv_add_emod p q
  rw [Int.add_mul, Int.one_mul, Int.mul_comm]
  omega
theorem nx_gcd (p q : Int) : Int.gcd q (nx p q) = Int.gcd p q := by
  unfold nx
  rw [show (p / q + 1) * q - p = -p + q * (p / q + 1) by rw [Int.mul_comm]; omega, Int.gcd_add_mul_left_right, Int.gcd_neg, Int.gcd_comm]
theorem nx_pos {p q : Int} (h : 0 < q) : 0 < nx p q := by
  rw [nx_eq]
  have := Int.emod_lt_of_pos p h
  omega
theorem nx_lt {p q : Int} (h : 1 < q) (g : Int.gcd p q = 1) : nx p q < q := by
  rw [nx_eq]
  have h1 := Int.emod_nonneg p (show q ≠ 0 by omega)
  have h2 : p % q ≠ 0 := fun z => by
    have d : q ∣ p := Int.dvd_of_emod_eq_zero z
    have := Int.gcd_eq_natAbs_right d
    omega
  omega
def rn (b : Int) : List Nat := if b < 0 then List.replicate (-b).toNat 85 else List.replicate b.toNat 84
def bsF : Nat → Int → Int → List Int
  | 0, p, _ => [p]
  | n + 1, p, q => if q ≤ 1 then [p] else bsF n q (nx p q) ++ [p / q + 1]
def bs (p q : Int) : List Int := bsF q.toNat p q
theorem bsF_more : ∀ (n m : Nat) (p q : Int), 0 < q → Int.gcd p q = 1 → q ≤ n → q ≤ m → bsF n p q = bsF m p q
  | 0, _, p, q, h, _, hn, _ => by omega
  | n + 1, 0, p, q, h, _, _, hm => by omega
  | n + 1, m + 1, p, q, h, g, hn, hm => by
    unfold bsF
    by_cases c : q ≤ 1
    · rw [if_pos c, if_pos c]
    · rw [if_neg c, if_neg c, bsF_more n m q (nx p q) (nx_pos h) (by rw [nx_gcd]; exact g) (by have := nx_lt (show 1 < q by omega) g; omega) (by have := nx_lt (show 1 < q by omega) g; omega)]
theorem bs_one (p : Int) : bs p 1 = [p] := rfl
theorem bs_step {p q : Int} (h : 1 < q) (g : Int.gcd p q = 1) : bs p q = bs q (nx p q) ++ [p / q + 1] := by
  have l := nx_lt h g
  have l0 := nx_pos (p := p) (show 0 < q by omega)
  have e : q.toNat = (q.toNat - 1) + 1 := by omega
  have e1 : bs p q = bsF (q.toNat - 1) q (nx p q) ++ [p / q + 1] := by
    unfold bs
    generalize q.toNat - 1 = m at e
    rw [e]
    show (if q ≤ 1 then [p] else bsF m q (nx p q) ++ [p / q + 1]) = _
    rw [if_neg (by omega)]
  rw [e1]
  unfold bs
  rw [bsF_more (q.toNat - 1) (nx p q).toNat q (nx p q) l0 (by rw [nx_gcd]; exact g) (by omega) (by omega)]
theorem bs_ne {p q : Int} : bs p q ≠ [] := by
  unfold bs
  cases q.toNat with
  | zero => intro h; cases h
  | succ n =>
    unfold bsF
    split
    · intro h; cases h
    · intro h; simp at h
def stv (v : Int × Int) : List Nat := if v.2 = 0 then [82] else joinL [82] ((bs v.1 v.2).map rn)
theorem joinL_snoc (S y : List Nat) : ∀ {xs : List (List Nat)}, xs ≠ [] → joinL S (xs ++ [y]) = joinL S xs ++ (S ++ y)
  | [], h => absurd rfl h
  | [x], _ => rfl
  | x :: z :: r, _ => by
    show x ++ (S ++ joinL S ((z :: r) ++ [y])) = (x ++ (S ++ joinL S (z :: r))) ++ (S ++ y)
    rw [joinL_snoc S y (xs := z :: r) (by simp)]
    simp
theorem run_rn (p q b : Int) : run (p, q) (rn b) = (p + b * q, q) := by
  have up : ∀ (n : Nat) (p : Int), run (p, q) (List.replicate n 84) = (p + n * q, q) := by
    intro n
    induction n with
    | zero => intro p; simp [run]
    | succ n ih =>
      intro p
      rw [List.replicate_succ]
      show run (called (p, q) 84) _ = _
      rw [show called (p, q) 84 = (p + q, q) from rfl, ih]
      congr 1
      rw [Int.natCast_add, Int.add_mul, Int.natCast_one, Int.one_mul]
      omega
  have dn : ∀ (n : Nat) (p : Int), run (p, q) (List.replicate n 85) = (p - n * q, q) := by
    intro n
    induction n with
    | zero => intro p; simp [run]
    | succ n ih =>
      intro p
      rw [List.replicate_succ]
      show run (called (p, q) 85) _ = _
      rw [show called (p, q) 85 = (p - q, q) from rfl, ih]
      congr 1
      rw [Int.natCast_add, Int.add_mul, Int.natCast_one, Int.one_mul]
      omega
  unfold rn
  by_cases c : b < 0
  · rw [if_pos c, dn, Int.toNat_of_nonneg (by omega)]
    congr 1
    rw [Int.neg_mul]
    omega
  · rw [if_neg c, up, Int.toNat_of_nonneg (by omega)]
theorem num_bs : ∀ (n : Nat) (p q : Int), 0 < q → Int.gcd p q = 1 → q ≤ n → run (0, 1) (joinL [82] ((bs p q).map rn)) = (p, q)
  | 0, p, q, h, _, hn => by omega
  | n + 1, p, q, h, g, hn => by
    by_cases c : q = 1
    · subst c
      rw [bs_one]
      show run (0, 1) (rn p) = (p, 1)
      rw [run_rn]
      simp
    · have hq : 1 < q := by omega
      have l := nx_lt hq g
      rw [bs_step hq g, List.map_append, List.map_singleton, joinL_snoc [82] _ (fun z => bs_ne (List.map_eq_nil_iff.mp z)), run_app, num_bs n q (nx p q) (nx_pos h) (by rw [nx_gcd]; exact g) (by omega), run_app]
      show run (called (q, nx p q) 82) _ = _
      have e : called (q, nx p q) 82 = (0 - nx p q, q) := by
        unfold called
        rw [if_neg (by decide), if_neg (by decide), if_pos (show 0 < (q, nx p q).1 from h)]
      rw [e, run_rn]
      congr 1
      unfold nx
      omega
theorem num_stv {v : Int × Int} (h : Good v) : run (0, 1) (stv v) = v := by
  obtain ⟨p, q⟩ := v
  obtain ⟨h1, h2⟩ := h
  unfold stv
  by_cases c : q = 0
  · rcases h1 with h1 | h1
    · have : (0 : Int) < q := h1
      omega
    · cases h1
      rfl
  · rw [if_neg (show ¬ (p, q).2 = 0 from c)]
    have h0 : 0 < q := by
      rcases h1 with h1 | h1
      · exact h1
      · cases h1; exact absurd rfl c
    exact num_bs q.toNat p q h0 h2 (by omega)
theorem rn_len (b : Int) : (rn b).length = b.natAbs := by
  unfold rn
  split
  · rw [List.length_replicate]; omega
  · rw [List.length_replicate]; omega
theorem one_le_div {p q : Int} (h : 0 < q) (hp : q ≤ p) : 1 ≤ p / q := Int.le_ediv_of_mul_le h (by omega)
theorem len_in : ∀ (n : Nat) (p q : Int), 0 < q → q < p → Int.gcd p q = 1 → q ≤ n → ((joinL [82] ((bs p q).map rn)).length : Int) ≤ 3 * p
  | 0, p, q, h, _, _, hn => by omega
  | n + 1, p, q, h, hp, g, hn => by
    by_cases c : q = 1
    · subst c
      rw [bs_one]
      show ((rn p).length : Int) ≤ _
      rw [rn_len]
      omega
    · have hq : 1 < q := by omega
      have l := nx_lt hq g
      have l0 := nx_pos (p := p) h
      have ih := len_in n q (nx p q) l0 l (by rw [nx_gcd]; exact g) (by omega)
      rw [bs_step hq g, List.map_append, List.map_singleton, joinL_snoc [82] _ (fun z => bs_ne (List.map_eq_nil_iff.mp z)), List.length_append, List.length_append, rn_len]
      have e := Int.mul_ediv_add_emod p q
      have r0 := Int.emod_lt_of_pos p h
      rw [nx_eq] at l0 l
      have a1 : 1 ≤ p / q := one_le_div h (by omega)
      have m : (p / q - 1) * 1 ≤ (p / q - 1) * q := Int.mul_le_mul_of_nonneg_left (by omega) (by omega)
      have m2 : (p / q - 1) * q = q * (p / q) - q := by rw [Int.sub_mul, Int.one_mul, Int.mul_comm]
      rw [m2, Int.mul_one] at m
      show ((_ + ([82].length + (p / q + 1).natAbs) : Nat) : Int) ≤ _
      have : ([82] : List Nat).length = 1 := rfl
      omega
theorem ediv_abs {p q : Int} (h : 0 < q) : (p / q + 1).natAbs ≤ p.natAbs + 1 := by
  have e := Int.mul_ediv_add_emod p q
  have r0 := Int.emod_lt_of_pos p h
  have r1 := Int.emod_nonneg p (show q ≠ 0 by omega)
  have a := Int.natAbs_ediv_le_natAbs p q.toNat
  rw [Int.toNat_of_nonneg (by omega)] at a
  omega
theorem len_out {p q : Int} (h : 0 < q) (g : Int.gcd p q = 1) : ((joinL [82] ((bs p q).map rn)).length : Int) ≤ p.natAbs + 3 * q + 2 := by
  by_cases c : q = 1
  · subst c
    rw [bs_one]
    show ((rn p).length : Int) ≤ _
    rw [rn_len]
    omega
  · have hq : 1 < q := by omega
    have l := nx_lt hq g
    have l0 := nx_pos (p := p) h
    have ih := len_in q.toNat q (nx p q) l0 l (by rw [nx_gcd]; exact g) (by omega)
    rw [bs_step hq g, List.map_append, List.map_singleton, joinL_snoc [82] _ (fun z => bs_ne (List.map_eq_nil_iff.mp z)), List.length_append, List.length_append, rn_len]
    have := ediv_abs (p := p) h
    have : ([82] : List Nat).length = 1 := rfl
    omega
/-- the runs but the last one -/
theorem bs_two : ∀ (n : Nat) (p q : Int), 0 < q → q < p → Int.gcd p q = 1 → q ≤ n → ∀ b ∈ bs p q, 2 ≤ b
  | 0, p, q, h, _, _, hn => by omega
  | n + 1, p, q, h, hp, g, hn => by
    intro b hb
    by_cases c : q = 1
    · subst c
      rw [bs_one] at hb
      rw [List.mem_singleton.mp hb]
      omega
    · have hq : 1 < q := by omega
      have l := nx_lt hq g
      rw [bs_step hq g] at hb
      rcases List.mem_append.mp hb with hb | hb
      · exact bs_two n q (nx p q) (nx_pos h) l (by rw [nx_gcd]; exact g) (by omega) b hb
      · rw [List.mem_singleton.mp hb]
        have := one_le_div h (show q ≤ p by omega)
        omega
theorem bs_front {p q : Int} (h : 0 < q) (g : Int.gcd p q = 1) : ∀ b ∈ (bs p q).dropLast, 2 ≤ b := by
  intro b hb
  by_cases c : q = 1
  · subst c
    rw [bs_one] at hb
    cases hb
  · have hq : 1 < q := by omega
    rw [bs_step hq g, List.dropLast_concat] at hb
    exact bs_two q.toNat q (nx p q) (nx_pos h) (nx_lt hq g) (by rw [nx_gcd]; exact g) (by have := nx_lt hq g; omega) b hb
/-! ### how great a dance's number is -/
def Grow (n : Nat) (v : Int × Int) : Prop := ∃ k B : Nat, B ^ 3 * 3 ^ k ≤ 3 ^ n ∧ v.2.natAbs ≤ B ∧ v.1.natAbs ≤ (k + 1) * B
theorem cube_three : ∀ k : Nat, (k + 1) ^ 3 ≤ 3 ^ (k + 1)
  | 0 => by decide
  | 1 => by decide
  | 2 => by decide
  | k + 3 => by
    have ih := cube_three (k + 2)
    have e : (3 : Nat) ^ (k + 3 + 1) = 3 * 3 ^ (k + 2 + 1) := by rw [show k + 3 + 1 = (k + 2 + 1) + 1 from rfl, Nat.pow_succ (n := 3) (m := k + 2 + 1), Nat.mul_comm]
    rw [e]
    have h : (k + 3 + 1) ^ 3 ≤ 3 * (k + 2 + 1) ^ 3 := by
      have h1 : (3 * (k + 3 + 1)) ^ 3 ≤ (4 * (k + 2 + 1)) ^ 3 := Nat.pow_le_pow_left (by omega) 3
      rw [Nat.mul_pow, Nat.mul_pow] at h1
      omega
    exact Nat.le_trans h (Nat.mul_le_mul_left 3 ih)
theorem Grow.called {n : Nat} {v : Int × Int} (h : Grow n v) (c : Nat) : Grow (n + 1) (called v c) := by
  obtain ⟨k, B, hb, h2, h1⟩ := h
  have up : B ^ 3 * 3 ^ (k + 1) ≤ 3 ^ (n + 1) := by
    rw [Nat.pow_succ (m := k), Nat.pow_succ (m := n), ← Nat.mul_assoc]
    exact Nat.mul_le_mul_right 3 hb
  have e : (k + 1 + 1) * B = (k + 1) * B + B := by rw [Nat.add_mul (k + 1) 1 B, Nat.one_mul]
  unfold Rope.called
  by_cases c1 : c = 84
  · rw [if_pos c1]
    exact ⟨k + 1, B, up, h2, by rw [e]; show (v.1 + v.2).natAbs ≤ _; omega⟩
  rw [if_neg c1]
  by_cases c2 : c = 85
  · rw [if_pos c2]
    exact ⟨k + 1, B, up, h2, by rw [e]; show (v.1 - v.2).natAbs ≤ _; omega⟩
  rw [if_neg c2]
  have turn : ((k + 1) * B) ^ 3 * 3 ^ 0 ≤ 3 ^ (n + 1) := by
    rw [Nat.pow_zero, Nat.mul_one, Nat.mul_pow]
    exact Nat.le_trans (Nat.mul_le_mul_right _ (cube_three k)) (by rw [Nat.mul_comm]; exact up)
  have hBk : B ≤ (k + 1) * B := by rw [Nat.add_mul, Nat.one_mul]; omega
  by_cases c3 : 0 < v.1
  · rw [if_pos c3]
    exact ⟨0, (k + 1) * B, turn, h1, by show (0 - v.2).natAbs ≤ _; omega⟩
  rw [if_neg c3]
  by_cases c4 : v.1 < 0
  · rw [if_pos c4]
    exact ⟨0, (k + 1) * B, turn, by show (0 - v.1).natAbs ≤ _; omega, by show v.2.natAbs ≤ _; omega⟩
  rw [if_neg c4]
  refine ⟨0, 1, ?_, by show (0 : Int).natAbs ≤ 1; decide, by show (1 : Int).natAbs ≤ (0 + 1) * 1; decide⟩
  exact Nat.pow_pos (by decide)
theorem grow_run : ∀ (l : List Nat) {n : Nat} {v : Int × Int}, Grow n v → Grow (n + l.length) (run v l)
  | [], n, v, h => h
  | c :: r, n, v, h => by
    have := grow_run r (h.called c)
    rw [List.length_cons]
    rw [show n + (r.length + 1) = n + 1 + r.length by omega]
    exact this
theorem grow_cube {n : Nat} {v : Int × Int} (h : Grow n v) : v.1.natAbs ^ 3 ≤ 3 ^ (n + 1) ∧ v.2.natAbs ^ 3 ≤ 3 ^ (n + 1) := by
  obtain ⟨k, B, hb, h2, h1⟩ := h
  have up : B ^ 3 * 3 ^ (k + 1) ≤ 3 ^ (n + 1) := by
    rw [Nat.pow_succ (m := k), Nat.pow_succ (m := n), ← Nat.mul_assoc]
    exact Nat.mul_le_mul_right 3 hb
  have turn : ((k + 1) * B) ^ 3 ≤ 3 ^ (n + 1) := by
    rw [Nat.mul_pow]
    exact Nat.le_trans (Nat.mul_le_mul_right _ (cube_three k)) (by rw [Nat.mul_comm]; exact up)
  have hBk : B ≤ (k + 1) * B := by rw [Nat.add_mul, Nat.one_mul]; omega
  exact ⟨Nat.le_trans (Nat.pow_le_pow_left h1 3) turn, Nat.le_trans (Nat.pow_le_pow_left (Nat.le_trans h2 hBk) 3) turn⟩
/-- small enough to be written out -/
structure Sv (v : Int × Int) : Prop where
  good : Good v
  s1 : v.1.natAbs ≤ 3400000
  s2 : v.2.natAbs ≤ 3400000
theorem cube_small {x : Nat} (h : x ^ 3 ≤ 3 ^ 41) : x ≤ 3400000 := by
  by_cases c : x ≤ 3400000
  · exact c
  · have : (3400001 : Nat) ^ 3 ≤ x ^ 3 := Nat.pow_le_pow_left (by omega) 3
    have e : ¬ (3400001 : Nat) ^ 3 ≤ 3 ^ 41 := by decide +kernel
    exact absurd (Nat.le_trans this h) e
theorem sv_run {l : List Nat} (h : (l.length : Int) ≤ 40) : Sv (run (0, 1) l) := by
  have g := grow_run l (n := 0) (v := (0, 1)) ⟨0, 1, by decide, by decide, by decide⟩
  have q := grow_cube g
  have e : (3 : Nat) ^ (0 + l.length + 1) ≤ 3 ^ 41 := Nat.pow_le_pow_right (by decide) (by omega)
  exact ⟨good_run l Good.zero, cube_small (Nat.le_trans q.1 e), cube_small (Nat.le_trans q.2 e)⟩
theorem stv_len {v : Int × Int} (h : Sv v) : (stv v).length ≤ 14000000 := by
  obtain ⟨p, q⟩ := v
  obtain ⟨⟨h1, h2⟩, s1, s2⟩ := h
  unfold stv
  by_cases c : q = 0
  · rw [if_pos (show (p, q).2 = 0 from c)]
    decide
  · rw [if_neg (show ¬ (p, q).2 = 0 from c)]
    have h0 : 0 < q := by
      rcases h1 with h1 | h1
      · exact h1
      · cases h1; exact absurd rfl c
    have := len_out h0 h2
    simp only at s1 s2 this ⊢
    omega
theorem tl_S (l : List Nat) : tl (S l) = l := S_list l
theorem join_S (xs : List (List Nat)) : Txt.join (S [82]) (xs.map S) = S (joinL [82] xs) := by
  have e := tl_join (S [82]) (xs.map S)
  rw [← join_eq, List.map_map] at e
  have e2 : (tl ∘ S) = id := by funext l; exact tl_S l
  rw [e2, List.map_id, tl_S] at e
  exact (S_eta (Txt.join (S [82]) (xs.map S))).symm.trans (congrArg S e)
theorem sum_S (xs : List (List Nat)) : ((xs.map S).map (·.length)).sum = (xs.map List.length).sum := by
  rw [List.map_map]
  congr 1
theorem le_sum {x : Nat} : ∀ {l : List Nat}, x ∈ l → x ≤ l.sum
  | [], h => by cases h
  | y :: r, h => by
    rw [List.sum_cons]
    rcases List.mem_cons.mp h with rfl | h
    · omega
    · have := le_sum h
      omega
theorem joinL_len : ∀ (xs : List (List Nat)), xs ≠ [] → (joinL [82] xs).length + 1 = (xs.map List.length).sum + xs.length
  | [], h => absurd rfl h
  | [x], _ => by simp [joinL]
  | x :: y :: r, _ => by
    have := joinL_len (y :: r) (by simp)
    show (x ++ ([82] ++ joinL [82] (y :: r))).length + 1 = _
    rw [List.length_append, List.length_append, List.map_cons, List.sum_cons, List.length_cons]
    show x.length + (1 + _) + 1 = x.length + _ + (_ + 1)
    omega
def spRun : Sp := fun vs H Q _ => ∃ b : Int, vs = [.int b] ∧ b.natAbs ≤ 16000000 ∧ Q (.str (S (rn b))) H
def spStd : Sp := fun vs H Q _ => ∃ (t : Addr) (v : Int × Int), vs = [.ref t] ∧ Tup2 H t v ∧ Sv v ∧ ∀ H', Same H H' → Q (.str (S (stv v))) H'
theorem rn_up {b : Int} (h : 0 ≤ b) : (List.replicate b.toNat [84]).flatten = rn b := by
  unfold rn
  rw [if_neg (by omega)]
  induction b.toNat with
  | zero => rfl
  | succ n ih => rw [List.replicate_succ, List.flatten_cons, ih, List.replicate_succ]; rfl
theorem rn_dn {b : Int} (h : b < 0) : (List.replicate (-b).toNat [85]).flatten = rn b := by
  unfold rn
  rw [if_pos h]
  induction (-b).toNat with
  | zero => rfl
  | succ n ih => rw [List.replicate_succ, List.flatten_cons, ih, List.replicate_succ]; rfl
theorem fdiv_pos {p q : Int} (h : 0 < q) : p.fdiv q = p / q := Int.fdiv_eq_ediv_of_nonneg p (by omega)
def spNum : Sp := fun vs H Q _ => ∃ l : List Nat, vs = [.str (S l)] ∧ ∀ t' H', Same H H' → Tup2 H' t' (run (0, 1) l) → Q (.ref t') H'
theorem cut_last (xs : List V) : cutV xs none (some (-1)) = xs.dropLast := by
  unfold cutV
  rw [HT.sIx_none, List.drop_zero, Nat.sub_zero, List.dropLast_eq_take]
  congr 1
  unfold HT.sIx
  show (if (-1 : Int) < 0 then ((-1 : Int) + (xs.length : Int)).toNat else _) = _
  rw [if_pos (by decide)]
  omega
theorem sv_div {p q : Int} (hp : p.natAbs ≤ 400) (hq : q.natAbs ≤ 400) (h0 : 0 < q) : Sv (p / (Int.gcd p q : Int), q / (Int.gcd p q : Int)) := by
  have g0 : 0 < Int.gcd p q := Int.gcd_pos_of_ne_zero_right p (by omega)
  have a : ∀ (x : Int) (g : Nat), (x / (g : Int)).natAbs ≤ x.natAbs := fun x g => Int.natAbs_ediv_le_natAbs x g
  refine ⟨⟨.inl ?_, Int.gcd_ediv_gcd_ediv_gcd g0⟩, Nat.le_trans (a p _) (by omega), Nat.le_trans (a q _) (by omega)⟩
  exact Int.ediv_pos_of_pos_of_dvd h0 (by omega) (Int.gcd_dvd_right _ _)
theorem sv_chain {n : Int} (h0 : 2 ≤ n) (h1 : n ≤ 1000) : Sv (n, n - 1) := by
  refine ⟨⟨.inl (by show 0 < n - 1; omega), ?_⟩, by show n.natAbs ≤ _; omega, by show (n - 1).natAbs ≤ _; omega⟩
  show Int.gcd n (n - 1) = 1
  have := gcd_add' 1 (n - 1)
  rw [show 1 + (n - 1) = n by omega, Int.one_gcd] at this
  exact this
def Vi (H : Hp) (y : V) : Prop := ∃ (t : Addr) (v : Int × Int), y = .ref t ∧ Tup2 H t v ∧ Sv v
theorem Vi.same {H H' : Hp} {y : V} (h : Vi H y) (s : Same H H') : Vi H' y := by
  obtain ⟨t, v, e, a, b⟩ := h
  exact ⟨t, v, e, a.same s, b⟩
theorem rn_no (b : Int) : 82 ∉ rn b := by
  unfold rn
  intro h
  split at h
  · have := (List.mem_replicate.mp h).2; omega
  · have := (List.mem_replicate.mp h).2; omega
theorem rn_T {b : Int} (h : 0 ≤ b) : (List.replicate (rn b).length [84]).flatten = rn b := by
  rw [rn_len, show b.natAbs = b.toNat by omega]
  exact rn_up h
theorem tup2_is {H : Hp} {n : Nat} {t : Addr} {v : Int × Int} (h : Tup2 H t v) : Is H (n + 1) (.ref t) (.tup [.int v.1, .int v.2]) :=
  is_tup h rfl (by show 2 ≤ 1000000; decide) fun i x d hx hd => by
    match i with
    | 0 => cases hx; cases hd; exact int_is
    | 1 => cases hx; cases hd; exact int_is
    | i + 2 => cases hx
def spSmall : Sp := fun vs H Q _ => ∃ (a : Addr), vs = [.ref a] ∧ Tape H a ∧ ∀ (t : Addr) (v : Int × Int) H', Sv v → But a H H' → Tape H' a → Tup2 H' t v → Q (.ref t) H'
end
/-! ### the quotients of a fraction and the number of its steps -/
def QL (p q : Nat) : List Nat := if h : q = 0 then [] else p / q :: QL q (p % q)
termination_by q
decreasing_by exact Nat.mod_lt _ (Nat.pos_of_ne_zero h)
theorem QL_zero (p : Nat) : QL p 0 = [] := by rw [QL]; exact dif_pos rfl
theorem QL_step {p q : Nat} (h : 0 < q) : QL p q = p / q :: QL q (p % q) := by
  conv => lhs; rw [QL]
  exact dif_neg (by omega)
/-- the sum of the quotients and their number -/
def EQ (p q : Nat) : Nat := (QL p q).sum + (QL p q).length
theorem EQ_zero (p : Nat) : EQ p 0 = 0 := by unfold EQ; rw [QL_zero]; rfl
theorem EQ_step {p q : Nat} (h : 0 < q) : EQ p q = p / q + 1 + EQ q (p % q) := by
  unfold EQ
  rw [QL_step h, List.sum_cons, List.length_cons]
  omega
theorem EQ_pos {p q : Nat} (h : 0 < q) : 1 ≤ EQ p q := by
  rw [EQ_step h]
  exact Nat.le_trans (Nat.le_add_left 1 (p / q)) (Nat.le_add_right _ _)
theorem EQ_add {p q : Nat} (h : 0 < q) : EQ (p + q) q = EQ p q + 1 := by
  rw [EQ_step h, EQ_step h, Nat.add_div_right _ h, Nat.add_mod_right]
  omega
theorem EQ_swap {p q : Nat} (h : p < q) : EQ p q = 1 + EQ q p := by
  rw [EQ_step (by omega), Nat.div_eq_of_lt h, Nat.mod_eq_of_lt h]
theorem EQ_half {p q : Nat} (h0 : 0 < p) (h : 2 * p < q) : EQ (q - p) q = EQ p q + 1 := by
  have e : EQ (q - p) q = 1 + EQ q (q - p) := EQ_swap (by omega)
  have e1 : EQ q (q - p) = EQ p (q - p) + 1 := by
    have := EQ_add (p := p) (q := q - p) (by omega)
    rw [show p + (q - p) = q by omega] at this
    exact this
  have e2 : EQ p (q - p) = 1 + EQ (q - p) p := EQ_swap (by omega)
  have e3 : EQ p q = 1 + EQ q p := EQ_swap (by omega)
  have e4 : EQ q p = EQ (q - p) p + 1 := by
    have := EQ_add (p := q - p) (q := p) h0
    rw [show q - p + p = q by omega] at this
    exact this
  omega
theorem EQ_sub {p q : Nat} (h0 : 0 < p) (h : p < q) : EQ (q - p) q = EQ p q + 1 ∨ EQ p q = EQ (q - p) q + 1 ∨ EQ (q - p) q = EQ p q := by
  rcases Nat.lt_trichotomy (2 * p) q with c | c | c
  · exact .inl (EQ_half h0 c)
  · exact .inr (.inr (by rw [show q - p = p by omega]))
  · have := EQ_half (p := q - p) (q := q) (by omega) (by omega)
    rw [show q - (q - p) = p by omega] at this
    exact .inr (.inl this)
/-- the steps of a fraction -/
def stp (v : Int × Int) : Nat := if v.2 = 0 then 1 else EQ v.1.natAbs v.2.natAbs - 1
theorem stp_inf {p : Int} : stp (p, 0) = 1 := if_pos rfl
theorem stp_fin {p q : Int} (h : 0 < q) : stp (p, q) + 1 = EQ p.natAbs q.natAbs := by
  unfold stp
  rw [if_neg (show ¬ (p, q).2 = 0 by show ¬ q = 0; omega)]
  have := EQ_pos (p := p.natAbs) (q := q.natAbs) (by omega)
  show EQ p.natAbs q.natAbs - 1 + 1 = _
  omega
theorem stp_zero : stp (0, 1) = 0 := by
  have := stp_fin (p := 0) (q := 1) (by decide)
  rw [EQ_step (by decide)] at this
  have e : (0 : Int).natAbs % (1 : Int).natAbs = 0 := rfl
  rw [e, EQ_zero] at this
  have : (0 : Int).natAbs / (1 : Int).natAbs = 0 := rfl
  omega
theorem stp_neg (p q : Int) : stp (-p, q) = stp (p, q) := by
  unfold stp
  rw [Int.natAbs_neg]
theorem EQ_one {p q : Nat} (h : 0 < q) (e : EQ p q = 1) : p = 0 := by
  rw [EQ_step h] at e
  generalize hd : p / q = d at e
  have e1 : EQ q (p % q) = 0 := by omega
  have e2 : p / q = 0 := by omega
  have e3 : p % q = 0 := Decidable.byContradiction fun z => by
    have := EQ_pos (p := q) (q := p % q) (by omega)
    omega
  have := Nat.div_add_mod p q
  rw [e2, e3] at this
  omega
theorem stp_eq_zero {v : Int × Int} (g : Good v) (e : stp v = 0) : v = (0, 1) := by
  obtain ⟨p, q⟩ := v
  obtain ⟨h1, h2⟩ := g
  rcases h1 with h1 | h1
  · have h1' : 0 < q := h1
    have := stp_fin (p := p) h1'
    rw [e] at this
    have z := EQ_one (by omega) this.symm
    have hp : p = 0 := Int.natAbs_eq_zero.mp z
    subst hp
    have h2' : Int.gcd 0 q = 1 := h2
    rw [Int.gcd_zero_left] at h2'
    have : q = 1 := by omega
    rw [this]
  · cases h1
    rw [stp_inf] at e
    cases e
theorem stp_twist {p q : Int} : stp (p + q, q) ≤ stp (p, q) + 1 ∧ stp (p, q) ≤ stp (p + q, q) + 1 := by
  by_cases hq : 0 < q
  · have a := stp_fin (p := p) hq
    have b := stp_fin (p := p + q) hq
    rcases Int.lt_or_le p 0 with c | c
    · rcases Int.lt_or_le (-q) p with d | d
      · have e : (p + q).natAbs = q.natAbs - p.natAbs := by omega
        rw [e] at b
        have := EQ_sub (p := p.natAbs) (q := q.natAbs) (by omega) (by omega)
        omega
      · have e : p.natAbs = (p + q).natAbs + q.natAbs := by omega
        rw [e, EQ_add (by omega)] at a
        omega
    · have e : (p + q).natAbs = p.natAbs + q.natAbs := by omega
      rw [e, EQ_add (by omega)] at b
      omega
  · rcases Int.lt_or_le q 0 with c | c
    · have a : stp (p, q) = EQ p.natAbs q.natAbs - 1 := if_neg (show ¬ q = 0 by omega)
      have b : stp (p + q, q) = EQ (p + q).natAbs q.natAbs - 1 := if_neg (show ¬ q = 0 by omega)
      have a1 := EQ_pos (p := p.natAbs) (q := q.natAbs) (by omega)
      have b1 := EQ_pos (p := (p + q).natAbs) (q := q.natAbs) (by omega)
      rcases Int.lt_or_le 0 p with e | e
      · rcases Int.lt_or_le p (-q) with d | d
        · have e : (p + q).natAbs = q.natAbs - p.natAbs := by omega
          rw [e] at b b1
          have := EQ_sub (p := p.natAbs) (q := q.natAbs) (by omega) (by omega)
          omega
        · have e : p.natAbs = (p + q).natAbs + q.natAbs := by omega
          rw [e, EQ_add (by omega)] at a a1
          omega
      · have e : (p + q).natAbs = p.natAbs + q.natAbs := by omega
        rw [e, EQ_add (by omega)] at b b1
        omega
    · have : q = 0 := by omega
      subst this
      rw [stp_inf, stp_inf]
      omega
theorem EQ_turn {p q : Nat} (hp : 0 < p) (hq : 0 < q) : EQ q p = EQ p q + 1 ∨ EQ p q = EQ q p + 1 ∨ EQ p q = EQ q p := by
  rcases Nat.lt_trichotomy p q with c | c | c
  · exact .inr (.inl (by rw [EQ_swap c]; omega))
  · subst c; exact .inr (.inr rfl)
  · exact .inl (by rw [EQ_swap c]; omega)
/-- along each call the steps change by at most one -/
theorem stp_near {v : Int × Int} (g : Good v) (c : Nat) : stp (called v c) ≤ stp v + 1 ∧ stp v ≤ stp (called v c) + 1 := by
  obtain ⟨p, q⟩ := v
  unfold called
  by_cases c1 : c = 84
  · rw [if_pos c1]; exact stp_twist
  rw [if_neg c1]
  by_cases c2 : c = 85
  · rw [if_pos c2]
    have := stp_twist (p := p - q) (q := q)
    rw [Int.sub_add_cancel] at this
    exact ⟨this.2, this.1⟩
  rw [if_neg c2]
  have hq : 0 < q ∨ (p = 1 ∧ q = 0) := by
    rcases g.1 with h | h
    · exact .inl h
    · cases h; exact .inr ⟨rfl, rfl⟩
  by_cases c3 : 0 < p
  · rw [if_pos (show 0 < (p, q).1 from c3)]
    show stp (0 - q, p) ≤ stp (p, q) + 1 ∧ stp (p, q) ≤ stp (0 - q, p) + 1
    have b := stp_fin (p := 0 - q) c3
    rw [show (0 - q).natAbs = q.natAbs by omega] at b
    rcases hq with h | ⟨rfl, rfl⟩
    · have a := stp_fin (p := p) h
      have := EQ_turn (p := p.natAbs) (q := q.natAbs) (by omega) (by omega)
      omega
    · rw [stp_inf]
      rw [EQ_step (by decide)] at b
      have e : (0 : Int).natAbs % (1 : Int).natAbs = 0 := rfl
      rw [e, EQ_zero] at b
      have : (0 : Int).natAbs / (1 : Int).natAbs = 0 := rfl
      omega
  rw [if_neg (show ¬ 0 < (p, q).1 from c3)]
  by_cases c4 : p < 0
  · rw [if_pos (show (p, q).1 < 0 from c4)]
    show stp (q, 0 - p) ≤ stp (p, q) + 1 ∧ stp (p, q) ≤ stp (q, 0 - p) + 1
    have b := stp_fin (p := q) (q := 0 - p) (by omega)
    rw [show (0 - p).natAbs = p.natAbs by omega] at b
    rcases hq with h | ⟨rfl, rfl⟩
    · have a := stp_fin (p := p) h
      have := EQ_turn (p := p.natAbs) (q := q.natAbs) (by omega) (by omega)
      omega
    · omega
  rw [if_neg (show ¬ (p, q).1 < 0 from c4)]
  have hp : p = 0 := by omega
  subst hp
  have z : (0, q) = ((0, 1) : Int × Int) := by
    rcases hq with h | ⟨h, _⟩
    · have h2 : Int.gcd 0 q = 1 := g.2
      rw [Int.gcd_zero_left] at h2
      rw [show q = 1 by omega]
    · cases h
  rw [z, stp_zero, stp_inf]
  omega
/-- for each fraction but 0 one of the calls makes the steps less by one -/
theorem stp_down {v : Int × Int} (g : Good v) (n : v ≠ (0, 1)) : ∃ c, (c = 84 ∨ c = 85 ∨ c = 82) ∧ stp (called v c) + 1 = stp v := by
  obtain ⟨p, q⟩ := v
  have hq : 0 < q ∨ (p = 1 ∧ q = 0) := by
    rcases g.1 with h | h
    · exact .inl h
    · cases h; exact .inr ⟨rfl, rfl⟩
  rcases hq with h | ⟨rfl, rfl⟩
  · have a := stp_fin (p := p) h
    rcases Int.lt_or_le (-q) p with d | d
    · rcases Int.lt_or_le p q with e | e
      · have p0 : p ≠ 0 := fun z => by
          subst z
          have h2 : Int.gcd 0 q = 1 := g.2
          rw [Int.gcd_zero_left] at h2
          exact n (by rw [show q = 1 by omega])
        refine ⟨82, .inr (.inr rfl), ?_⟩
        rw [EQ_swap (show p.natAbs < q.natAbs by omega)] at a
        by_cases c3 : 0 < p
        · have e1 : called (p, q) 82 = (0 - q, p) := by
            unfold called
            rw [if_neg (by decide), if_neg (by decide), if_pos (show 0 < (p, q).1 from c3)]
          rw [e1]
          have b := stp_fin (p := 0 - q) c3
          rw [show (0 - q).natAbs = q.natAbs by omega] at b
          omega
        · have c4 : p < 0 := by omega
          have e1 : called (p, q) 82 = (q, 0 - p) := by
            unfold called
            rw [if_neg (by decide), if_neg (by decide), if_neg (show ¬ 0 < (p, q).1 from c3), if_pos (show (p, q).1 < 0 from c4)]
          rw [e1]
          have b := stp_fin (p := q) (q := 0 - p) (by omega)
          rw [show (0 - p).natAbs = p.natAbs by omega] at b
          omega
      · refine ⟨85, .inr (.inl rfl), ?_⟩
        have e1 : called (p, q) 85 = (p - q, q) := rfl
        rw [e1]
        have b := stp_fin (p := p - q) h
        have e2 : p.natAbs = (p - q).natAbs + q.natAbs := by omega
        rw [e2, EQ_add (by omega)] at a
        omega
    · refine ⟨84, .inl rfl, ?_⟩
      have e1 : called (p, q) 84 = (p + q, q) := rfl
      rw [e1]
      have b := stp_fin (p := p + q) h
      have e2 : p.natAbs = (p + q).natAbs + q.natAbs := by omega
      rw [e2, EQ_add (by omega)] at a
      omega
  · refine ⟨82, .inr (.inr rfl), ?_⟩
    have e1 : called (1, 0) 82 = (0, 1) := rfl
    rw [e1, stp_zero, stp_inf]
theorem stp_run : ∀ (l : List Nat) {v : Int × Int}, Good v → stp (run v l) ≤ stp v + l.length
  | [], _, _ => Nat.le_refl _
  | c :: l, v, g => by
    have a := stp_run l (g.called c)
    have b := (stp_near g c).1
    show stp (run (called v c) l) ≤ _
    rw [List.length_cons]
    omega
/-- the quotients that the program has -/
def quo (v : Int × Int) : List Nat := if v.2 = 0 then [0, 0] else QL v.1.natAbs v.2.natAbs
theorem quo_stp {v : Int × Int} (g : Good v) : (quo v).sum + (quo v).length = stp v + 1 := by
  unfold quo
  by_cases h : v.2 = 0
  · rw [if_pos h]
    unfold stp
    rw [if_pos h]
    rfl
  · rw [if_neg h]
    have h0 : 0 < v.2 := by
      rcases g.1 with h1 | h1
      · exact h1
      · rw [h1] at h; exact absurd rfl h
    exact (stp_fin (p := v.1) h0).symm
theorem QL_len : ∀ (n p q : Nat), q < 2 ^ n → (QL p q).length ≤ 2 * n
  | 0, p, q, h => by
    have : q = 0 := by omega
    subst this
    rw [QL_zero]
    exact Nat.le_refl _
  | n + 1, p, q, h => by
    by_cases q0 : 0 < q
    · rw [QL_step q0, List.length_cons]
      by_cases r0 : 0 < p % q
      · rw [QL_step r0, List.length_cons]
        have l1 := Nat.mod_lt p q0
        have l2 := Nat.mod_lt q r0
        have l3 : q % (p % q) + p % q ≤ q := by
          have e := Nat.div_add_mod q (p % q)
          have : 1 ≤ q / (p % q) := Nat.div_pos (Nat.le_of_lt l1) r0
          have : p % q * 1 ≤ p % q * (q / (p % q)) := Nat.mul_le_mul_left _ this
          omega
        have := QL_len n (p % q) (q % (p % q)) (by rw [Nat.pow_succ] at h; omega)
        omega
      · rw [show p % q = 0 by omega, QL_zero]
        show 0 + 1 ≤ _
        omega
    · rw [show q = 0 by omega, QL_zero]
      exact Nat.zero_le _
theorem quo_len {v : Int × Int} {n : Nat} (h : v.2.natAbs < 2 ^ n) (n0 : 0 < n) : (quo v).length ≤ 2 * n := by
  unfold quo
  split
  · show 2 ≤ _; omega
  · exact QL_len n _ _ h
section
/-! ### the levels of the walk from 0 -/
def inv3 (c : Nat) : Nat := if c = 84 then 85 else if c = 85 then 84 else c
theorem called_inv {v : Int × Int} {c : Nat} (hv : Good v) (hc : c = 84 ∨ c = 85 ∨ c = 82) : called (called v c) (inv3 c) = v := by
  obtain ⟨p, q⟩ := v
  rcases hc with rfl | rfl | rfl
  · show (p + q - q, q) = (p, q)
    rw [Int.add_sub_cancel]
  · show (p - q + q, q) = (p, q)
    rw [Int.sub_add_cancel]
  · have e1 : ∀ u : Int × Int, called u 82 = if 0 < u.1 then (0 - u.2, u.1) else if u.1 < 0 then (u.2, 0 - u.1) else (1, 0) := fun u => rfl
    show called (called (p, q) 82) 82 = (p, q)
    have hq : 0 < q ∨ (p = 1 ∧ q = 0) := by
      rcases hv.1 with h | h
      · exact .inl h
      · cases h; exact .inr ⟨rfl, rfl⟩
    by_cases h1 : 0 < p
    · rw [e1 (p, q), if_pos (show 0 < (p, q).1 from h1), e1]
      rcases hq with hq | ⟨rfl, rfl⟩
      · rw [if_neg (show ¬ 0 < (0 - q, p).1 by show ¬ 0 < 0 - q; omega), if_pos (show (0 - q, p).1 < 0 by show 0 - q < 0; omega)]
        show (p, 0 - (0 - q)) = (p, q)
        rw [show 0 - (0 - q) = q by omega]
      · rfl
    · rw [e1 (p, q), if_neg (show ¬ 0 < (p, q).1 from h1)]
      by_cases h2 : p < 0
      · rw [if_pos (show (p, q).1 < 0 from h2), e1]
        have hq' : 0 < q := by rcases hq with hq | ⟨rfl, rfl⟩; exact hq; omega
        rw [if_pos (show 0 < (q, 0 - p).1 from hq')]
        show (0 - (0 - p), q) = (p, q)
        rw [show 0 - (0 - p) = p by omega]
      · have h3 : p = 0 := by omega
        subst h3
        have h2' : Int.gcd 0 q = 1 := hv.2
        rw [Int.gcd_zero_left] at h2'
        rcases hq with hq | ⟨h, _⟩
        · rw [show q = 1 by omega]; rfl
        · cases h
theorem inv3_mem {c : Nat} (hc : c = 84 ∨ c = 85 ∨ c = 82) : inv3 c = 82 ∨ inv3 c = 84 ∨ inv3 c = 85 := by
  rcases hc with rfl | rfl | rfl
  · exact .inr (.inr rfl)
  · exact .inr (.inl rfl)
  · exact .inl rfl
/-- each fraction but 0 is reached by a call from one with a step less -/
theorem stp_from {v : Int × Int} {n : Nat} (g : Good v) (e : stp v = n + 1) : ∃ (u : Int × Int) (c : Nat), (c = 82 ∨ c = 84 ∨ c = 85) ∧ Good u ∧ stp u = n ∧ called u c = v := by
  have ne : v ≠ (0, 1) := fun z => by rw [z, stp_zero] at e; cases e
  obtain ⟨c, hc, h⟩ := stp_down g ne
  exact ⟨called v c, inv3 c, inv3_mem hc, g.called c, by omega, called_inv g hc⟩
theorem stp_size : ∀ (n : Nat) (v : Int × Int), Good v → stp v = n → v.1.natAbs ≤ 2 ^ n ∧ v.2.natAbs ≤ 2 ^ n
  | 0, v, g, e => by
    rw [stp_eq_zero g e]
    exact ⟨by decide, by decide⟩
  | n + 1, v, g, e => by
    obtain ⟨u, c, _, gu, eu, rfl⟩ := stp_from g e
    have ih := stp_size n u gu eu
    have := called_size ih.1 ih.2 Nat.one_le_two_pow c
    rw [Nat.pow_succ']
    exact this
/-- a level: just the fractions of so many steps, each once -/
structure Lev (k : Nat) (L : List (Int × Int)) : Prop where
  mem : ∀ v, v ∈ L ↔ Good v ∧ stp v = k
  nd : L.Nodup
  len : L.length ≤ 4 ^ k
theorem lev_zero : Lev 0 [(0, 1)] := by
  refine ⟨fun v => ?_, by simp, by decide⟩
  rw [List.mem_singleton]
  constructor
  · rintro rfl; exact ⟨Good.zero, stp_zero⟩
  · rintro ⟨g, e⟩; exact stp_eq_zero g e
/-- what stands in the next level when the first i of L are done, and of the next one the letters before -/
structure Half (n : Nat) (L : List (Int × Int)) (i j : Nat) (M : List (Int × Int)) : Prop where
  mem : ∀ v ∈ M, Good v ∧ stp v = n + 1
  nd : M.Nodup
  len : M.length ≤ 3 * i + j
  done : ∀ (a : Nat) (u : Int × Int) (b c : Nat), L[a]? = some u → ([82, 84, 85] : List Nat)[b]? = some c → (a < i ∨ (a = i ∧ b < j)) → stp (called u c) = n + 1 → called u c ∈ M
theorem Half.start (n : Nat) (L : List (Int × Int)) : Half n L 0 0 [] := ⟨fun v h => by (cases h), by simp, by simp, fun a u b c _ _ h => by omega⟩
theorem Half.turn {n i : Nat} {L M : List (Int × Int)} (h : Half n L i 3 M) : Half n L (i + 1) 0 M := by
  refine ⟨h.mem, h.nd, by have := h.len; omega, fun a u b c ha hb hd e => h.done a u b c ha hb ?_ e⟩
  have : b < 3 := (List.getElem?_eq_some_iff.mp hb).1
  omega
theorem Half.old {n i j c : Nat} {L M : List (Int × Int)} {u : Int × Int} (h : Half n L i j M) (hu : L[i]? = some u) (hc : ([82, 84, 85] : List Nat)[j]? = some c) (k : stp (called u c) = n + 1 → called u c ∈ M) : Half n L i (j + 1) M := by
  refine ⟨h.mem, h.nd, by have := h.len; omega, fun a u' b c' ha hb hd e => ?_⟩
  by_cases z : a = i ∧ b = j
  · obtain ⟨rfl, rfl⟩ := z
    rw [hu] at ha
    rw [hc] at hb
    cases ha; cases hb
    exact k e
  · exact h.done a u' b c' ha hb (by omega) e
theorem Half.new {n i j c : Nat} {L M : List (Int × Int)} {u : Int × Int} (h : Half n L i j M) (hu : L[i]? = some u) (hc : ([82, 84, 85] : List Nat)[j]? = some c) (g : Good (called u c)) (e : stp (called u c) = n + 1) (no : called u c ∉ M) : Half n L i (j + 1) (M ++ [called u c]) := by
  refine ⟨fun v hv => ?_, ?_, by have := h.len; rw [List.length_append]; show _ + 1 ≤ _; omega, fun a u' b c' ha hb hd e' => ?_⟩
  · rcases List.mem_append.mp hv with hv | hv
    · exact h.mem v hv
    · rw [List.mem_singleton.mp hv]; exact ⟨g, e⟩
  · rw [List.nodup_append]
    refine ⟨h.nd, by simp, fun x hx y hy z => ?_⟩
    rw [List.mem_singleton.mp hy] at z
    exact no (z ▸ hx)
  · by_cases z : a = i ∧ b = j
    · obtain ⟨rfl, rfl⟩ := z
      rw [hu] at ha
      rw [hc] at hb
      cases ha; cases hb
      exact List.mem_append_right _ (List.mem_singleton.mpr rfl)
    · exact List.mem_append_left _ (h.done a u' b c' ha hb (by omega) e')
theorem Half.lev {n : Nat} {L M : List (Int × Int)} (l : Lev n L) (h : Half n L L.length 0 M) : Lev (n + 1) M := by
  refine ⟨fun v => ⟨h.mem v, fun ⟨g, e⟩ => ?_⟩, h.nd, ?_⟩
  · obtain ⟨u, c, hc, gu, eu, rfl⟩ := stp_from g e
    obtain ⟨a, ha⟩ := List.getElem?_of_mem ((l.mem u).mpr ⟨gu, eu⟩)
    obtain ⟨b, hb⟩ : ∃ b, ([82, 84, 85] : List Nat)[b]? = some c := by
      rcases hc with rfl | rfl | rfl
      · exact ⟨0, rfl⟩
      · exact ⟨1, rfl⟩
      · exact ⟨2, rfl⟩
    exact h.done a u b c ha hb (.inl (List.getElem?_eq_some_iff.mp ha).1) e
  · have := h.len
    have := l.len
    rw [Nat.pow_succ]
    omega
/-- the keys of the dict of all that is known -/
def kyv (v : Int × Int) : List Key := [Sum.inl v.1, Sum.inl v.2]
theorem kyv_inj {v u : Int × Int} (h : kyv v = kyv u) : v = u := by
  obtain ⟨a, b⟩ := v
  obtain ⟨c, d⟩ := u
  unfold kyv at h
  simp only [List.cons.injEq, Sum.inl.injEq, and_true] at h
  rw [h.1, h.2]
/-- known: all of at most n steps, and M -/
def Kn (n : Nat) (M : List (Int × Int)) (kvs : List (List Key × V)) : Prop := ∀ v, (valV kvs (kyv v)).isSome = true ↔ (Good v ∧ stp v ≤ n) ∨ v ∈ M
theorem kn_zero : Kn 0 [] [(kyv (0, 1), V.int 0)] := by
  intro v
  by_cases e : kyv (0, 1) = kyv v
  · rw [valV_pos e]
    have := kyv_inj e
    subst this
    exact ⟨fun _ => .inl ⟨Good.zero, Nat.le_of_eq stp_zero⟩, fun _ => rfl⟩
  · rw [valV_neg e, valV_nil]
    constructor
    · intro h; cases h
    · rintro (⟨g, h⟩ | h)
      · exact absurd (congrArg kyv (stp_eq_zero g (by omega)).symm) e
      · cases h
theorem Kn.new {n : Nat} {M : List (Int × Int)} {kvs : List (List Key × V)} (h : Kn n M kvs) (v : Int × Int) (y : V) : Kn n (M ++ [v]) (putK kvs (kyv v) y) := by
  intro u
  rw [valV_put]
  by_cases e : kyv u = kyv v
  · rw [if_pos e]
    have := kyv_inj e
    subst this
    exact ⟨fun _ => .inr (List.mem_append_right _ (List.mem_singleton.mpr rfl)), fun _ => rfl⟩
  · rw [if_neg e, h u, List.mem_append, List.mem_singleton]
    constructor
    · rintro (h | h)
      · exact .inl h
      · exact .inr (.inl h)
    · rintro (h | h | h)
      · exact .inl h
      · exact .inr h
      · exact absurd (congrArg kyv h) e
theorem Kn.next {n : Nat} {M : List (Int × Int)} {kvs : List (List Key × V)} (h : Kn n M kvs) (l : Lev (n + 1) M) : Kn (n + 1) [] kvs := by
  intro u
  rw [h u, l.mem u]
  constructor
  · rintro (⟨g, h⟩ | ⟨g, h⟩)
    · exact .inl ⟨g, by omega⟩
    · exact .inl ⟨g, by omega⟩
  · rintro (⟨g, h⟩ | h)
    · by_cases c : stp u ≤ n
      · exact .inl ⟨g, c⟩
      · exact .inr ⟨g, by omega⟩
    · cases h
/-- a list of fractions in the heap -/
def LvAt (H : Hp) (q : Addr) (L : List (Int × Int)) : Prop := ∃ ts : List Addr, H q = some (.lst (ts.map V.ref)) ∧ ts.length = L.length ∧ ∀ (i : Nat) (t : Addr) (v : Int × Int), ts[i]? = some t → L[i]? = some v → Tup2 H t v
theorem LvAt.but {H H' : Hp} {a q : Addr} {L : List (Int × Int)} (h : LvAt H q L) (b : But a H H') (n : q ≠ a) (nt : ∀ o, H a = some o → ∀ xs, o ≠ .tup xs) : LvAt H' q L := by
  obtain ⟨ts, h1, h2, h3⟩ := h
  refine ⟨ts, b _ _ n h1, h2, fun i t v ht hv => b _ _ (fun z => ?_) (h3 i t v ht hv)⟩
  subst z
  exact nt _ (h3 i _ v ht hv) _ rfl
theorem LvAt.same {H H' : Hp} {q : Addr} {L : List (Int × Int)} (h : LvAt H q L) (b : Same H H') : LvAt H' q L := by
  obtain ⟨ts, h1, h2, h3⟩ := h
  exact ⟨ts, b _ _ h1, h2, fun i t v ht hv => b _ _ (h3 i t v ht hv)⟩
theorem LvAt.add {H : Hp} {q t : Addr} {L : List (Int × Int)} {v : Int × Int} {ts : List Addr} (h1 : H q = some (.lst (ts.map V.ref))) (h2 : ts.length = L.length) (h3 : ∀ (i : Nat) (t : Addr) (v : Int × Int), ts[i]? = some t → L[i]? = some v → Tup2 H t v) (T : Tup2 H t v) :
    LvAt (upd H q (.lst (ts.map V.ref ++ [V.ref t]))) q (L ++ [v]) := by
  refine ⟨ts ++ [t], by rw [upd_same, List.map_append]; rfl, by rw [List.length_append, List.length_append, h2]; rfl, fun i t' v' ht hv => ?_⟩
  have key : ∀ t v, Tup2 H t v → Tup2 (upd H q (.lst (ts.map V.ref ++ [V.ref t']))) t v := fun t v T => by
    unfold Tup2
    rw [upd_ne (ne_of T h1 (fun z => nomatch z))]
    exact T
  have key2 : ∀ t0 v, Tup2 H t0 v → Tup2 (upd H q (.lst (ts.map V.ref ++ [V.ref t]))) t0 v := fun t0 v T => by
    unfold Tup2
    rw [upd_ne (ne_of T h1 (fun z => nomatch z))]
    exact T
  by_cases c : i < ts.length
  · rw [List.getElem?_append_left c] at ht
    rw [List.getElem?_append_left (by omega)] at hv
    exact key2 _ _ (h3 i t' v' ht hv)
  · rw [List.getElem?_append_right (by omega)] at ht
    rw [List.getElem?_append_right (by omega)] at hv
    have e1 : i = ts.length := by
      have := (List.getElem?_eq_some_iff.mp ht).1
      have : i - ts.length < 1 := this
      omega
    subst e1
    rw [Nat.sub_self] at ht
    rw [h2, Nat.sub_self] at hv
    cases ht; cases hv
    exact key2 _ _ T
theorem atI_end {α : Type} {xs : List α} {y : α} : atI (xs ++ [y]) (-1) = some y := by
  unfold atI ixN
  rw [if_neg (by decide), List.length_append, if_pos (by show -((xs.length + 1 : Nat) : Int) ≤ -1; omega)]
  show (xs ++ [y])[((-1 : Int) + ((xs.length + 1 : Nat) : Int)).toNat]? = some y
  rw [show ((-1 : Int) + ((xs.length + 1 : Nat) : Int)).toNat = xs.length by omega, List.getElem?_append_right (Nat.le_refl _), Nat.sub_self]
  rfl
end
section
variable {P : Program} {w : World} {K : PySem.W.Frag} {mg : Str → Option Value} {base : Heap} {f : Addr} {fd : FuncData}
/-! ### the letters and their opposites -/
def letter (c : Nat) : Bool := c == 84 || c == 85 || c == 82
theorem letter_iff {c : Nat} : letter c = true ↔ (c = 84 ∨ c = 85 ∨ c = 82) := by
  unfold letter
  simp [or_assoc]
def opp (c : Nat) : Nat := if c = 84 then 85 else if c = 85 then 84 else c
def mir (l : List Nat) : List Nat := l.map opp
theorem mir_take {l : List Nat} {i c : Nat} (h : l[i]? = some c) : mir (l.take (i + 1)) = mir (l.take i) ++ [opp c] := by
  unfold mir
  rw [List.take_add_one, h, List.map_append]
  rfl
theorem lets_mir {l : List Nat} (h : Lets l) : Lets (mir l) := fun c hc => by
  obtain ⟨x, hx, rfl⟩ := List.mem_map.mp hc
  rcases h x hx with rfl | rfl | rfl
  · exact .inr (.inl rfl)
  · exact .inl rfl
  · exact .inr (.inr rfl)
/-- the program's table of opposites, at d -/
structure Opp (K : PySem.W.Frag) (w : World) (d : Addr) : Prop where
  dct : ∃ es n, KDict K w d es n
  yes : ∀ c, letter c = true → ∃ u, PySem.W.nsIn K d (S [c]) = some (some u) ∧ RelV (.str (S [opp c])) u
  no : ∀ c, letter c = false → PySem.W.nsIn K d (S [c]) = some none
def spMir : Sp := fun vs H Q _ => ∃ l : List Nat, vs = [.str (S l)] ∧ Lets l ∧ l.length ≤ 1000000 ∧ ∀ H', Same H H' → Q (.str (S (mir l))) H'
theorem ok_mirrored {d : Addr} (F : Fun K "mirrored" "mirrored" s_mirrored f fd) (O : Opp K w d) (gO : mg "OPPOSITES" = some (.ref d)) : FnOk P w K mg base CX0 1 f fd ["dance"] spMir := by
  refine F.ok sc_mirrored (fun vs H Q E h => ?_) (fun cdv A outer s H vs Q E hr h => ?_)
  · obtain ⟨l, rfl, _⟩ := h
    rfl
  obtain ⟨l, rfl, hl, hz, q⟩ := h
  obtain ⟨es, n, D⟩ := O.dct
  refine ⟨_, pss_one (ps_ret (pe_join pe_str (pe_lc (own := [("letter", 1)]) (g := gName 1) (tt := tYes) (by rfl) sc_mirrored.nd (pi_str (pv 0)) (blkOk_by (own := [("letter", 1)]) (N := ["dance", "letter"]) (sc := defScope s_mirrored) (by decide +kernel))
    (fun _ _ _ _ _ => pg_name (i := 1) sc_mirrored.nd rfl (Or.inl rfl)) (fun _ _ _ _ _ => pts_nil) (fun _ _ _ _ _ => pe_ix (r := rIxD K w) ix_kdict (pe_glob (v := .ref d) rfl gO rfl) (pv 1) (fun _ _ => rfl))))), ?_⟩
  refine ⟨⟨_, rfl⟩, _, rfl, _, rfl, fun D' hD => lc_str (l := l) (fun i G => Same H G ∧ G D' = some (.lst ((mir (l.take i)).map fun c => V.str (S [c])))) ⟨same_new hD _, upd_same⟩ ?_ ?_⟩
  · rintro i c G hc ⟨sm, hG⟩
    have hlc := hl c (List.mem_of_getElem? hc)
    obtain ⟨u, hu, ru⟩ := O.yes c (letter_iff.mpr hlc)
    have hi : i < l.length := (List.getElem?_eq_some_iff.mp hc).1
    refine ⟨rfl, ?_⟩
    refine ⟨_, rfl, d, S [c], .str (S [opp c]), rfl, rfl, ⟨es, n, u, D.at_, D.lit, hu, ru⟩, _, hG, ?_, fun b o hb => ?_, ?_⟩
    · rw [List.length_map, mir, List.length_map, List.length_take]
      exact Nat.lt_of_lt_of_le (show min i l.length < 16777216 by omega) sizeLine_big
    · rw [upd_ne (ne_of_none hb hD)]; exact sm _ _ hb
    · rw [upd_same, mir_take hc, List.map_append]
      rfl
  · rintro G ⟨sm, hG⟩
    rw [List.take_of_length_le (Nat.le_refl _)] at hG
    refine ⟨S [], D', (mir l).map fun c => S [c], e_empty ▸ rfl, rfl, .inl (SqL.of ?_), ?_, ?_⟩
    · rw [hG, List.map_map]; rfl
    · rw [sum_ones, S_len, List.length_map, mir, List.length_map]
      show l.length + l.length * 0 ≤ 16777216
      omega
    · rw [join_signs]; exact q G sm
def spBack : Sp := fun vs H Q _ => ∃ l : List Nat, vs = [.str (S l)] ∧ Lets l ∧ l.length ≤ 1000000 ∧ ∀ H', Same H H' → Q (.str (S (mir l.reverse))) H'
theorem ok_backward (F : Fun K "backward" "backward" s_backward f fd) (DM : Dfn P w K mg base "mirrored" 1 ["dance"] spMir) : FnOk P w K mg base CX0 2 f fd ["dance"] spBack := by
  refine F.ok sc_backward (fun vs H Q E h => ?_) (fun cdv A outer s H vs Q E hr h => ?_)
  · obtain ⟨l, rfl, _⟩ := h
    rfl
  obtain ⟨l, rfl, hl, hz, q⟩ := h
  refine ⟨_, pss_one (ps_ret (pe_do DM hr (pa_cons (pe_revS (pv 0)) pa_nil))), ?_⟩
  exact ⟨_, rfl, l, rfl, by omega, l.reverse, rfl, fun c hc => hl c (List.mem_reverse.mp hc), by rw [List.length_reverse]; exact hz, q⟩
end
section
/-! ### backward and mirrored dances, by the numbers -/
theorem Good.zero_one {q : Int} (h : Good (0, q)) : q = 1 := by
  obtain ⟨h1, h2⟩ := h
  rcases h1 with h1 | h1
  · have : Int.gcd 0 q = q.natAbs := Int.gcd_zero_left q
    have h3 : (0 : Int) < q := h1
    have h4 : Int.gcd 0 q = 1 := h2
    omega
  · cases h1
theorem called_opp {v : Int × Int} {c : Nat} (hv : Good v) (hc : c = 84 ∨ c = 85 ∨ c = 82) : called (called v c) (opp c) = v := by
  obtain ⟨p, q⟩ := v
  rcases hc with rfl | rfl | rfl
  · show called (p + q, q) 85 = (p, q)
    show (p + q - q, q) = (p, q)
    rw [Int.add_sub_cancel]
  · show called (p - q, q) 84 = (p, q)
    show (p - q + q, q) = (p, q)
    rw [Int.sub_add_cancel]
  · have e1 : ∀ u : Int × Int, called u 82 = if 0 < u.1 then (0 - u.2, u.1) else if u.1 < 0 then (u.2, 0 - u.1) else (1, 0) := fun u => rfl
    show called (called (p, q) 82) 82 = (p, q)
    have hq : 0 < q ∨ (p = 1 ∧ q = 0) := by
      rcases hv.1 with h | h
      · exact .inl h
      · cases h; exact .inr ⟨rfl, rfl⟩
    by_cases h1 : 0 < p
    · rw [e1 (p, q), if_pos (show 0 < (p, q).1 from h1), e1]
      rcases hq with hq | ⟨rfl, rfl⟩
      · rw [if_neg (show ¬ 0 < (0 - q, p).1 by show ¬ 0 < 0 - q; omega), if_pos (show (0 - q, p).1 < 0 by show 0 - q < 0; omega)]
        show (p, 0 - (0 - q)) = (p, q)
        rw [show 0 - (0 - q) = q by omega]
      · rfl
    · rw [e1 (p, q), if_neg (show ¬ 0 < (p, q).1 from h1)]
      by_cases h2 : p < 0
      · rw [if_pos (show (p, q).1 < 0 from h2), e1]
        have hq' : 0 < q := by rcases hq with hq | ⟨rfl, rfl⟩; exact hq; omega
        rw [if_pos (show 0 < (q, 0 - p).1 from hq')]
        show (0 - (0 - p), q) = (p, q)
        rw [show 0 - (0 - p) = p by omega]
      · have h3 : p = 0 := by omega
        subst h3
        have := hv.zero_one
        subst this
        rfl
theorem run_back : ∀ (l : List Nat) {v : Int × Int}, Good v → Lets l → run (run v l) (mir l.reverse) = v
  | [], v, _, _ => rfl
  | c :: r, v, hv, hl => by
    have hc := hl c (List.mem_cons_self ..)
    have ih := run_back r (v := called v c) (hv.called c) fun x hx => hl x (List.mem_cons_of_mem _ hx)
    have e : mir (c :: r).reverse = mir r.reverse ++ [opp c] := by
      unfold mir
      rw [List.reverse_cons, List.map_append]
      rfl
    show run (run (called v c) r) (mir (c :: r).reverse) = v
    rw [e, run_app, ih]
    exact called_opp hv hc
end
section
open TL (joinL)
/-! ### the runs of the first least dance -/
def swc (c : Nat) : Nat := if c = 84 then 85 else 84
def al : Nat → List Nat → List (Nat × Nat)
  | _, [] => []
  | c, a :: r => (c, a) :: al (swc c) r
theorem al_len : ∀ (c : Nat) (qs : List Nat), (al c qs).length = qs.length
  | _, [] => rfl
  | c, a :: r => by
    show (al (swc c) r).length + 1 = r.length + 1
    rw [al_len (swc c) r]
theorem swc_swc {c : Nat} (h : c = 84 ∨ c = 85) : swc (swc c) = c := by rcases h with rfl | rfl <;> rfl
theorem swc_or {c : Nat} (h : c = 84 ∨ c = 85) : swc c = 84 ∨ swc c = 85 := by rcases h with rfl | rfl <;> decide
theorem al_get : ∀ (qs : List Nat) (c k : Nat), c = 84 ∨ c = 85 → (al c qs)[k]? = qs[k]?.map fun a => (if k % 2 = 0 then c else swc c, a)
  | [], c, k, _ => by simp [al]
  | a :: r, c, 0, _ => rfl
  | a :: r, c, k + 1, h => by
    show (al (swc c) r)[k]? = r[k]?.map _
    rw [al_get r (swc c) k (swc_or h)]
    have e : (if k % 2 = 0 then swc c else swc (swc c)) = if (k + 1) % 2 = 0 then c else swc c := by
      rw [swc_swc h]
      by_cases p : k % 2 = 0
      · rw [if_pos p, if_neg (by omega)]
      · rw [if_neg p, if_pos (by omega)]
    rw [e]
theorem al_or : ∀ (qs : List Nat) (c : Nat), c = 84 ∨ c = 85 → ∀ p ∈ al c qs, p.1 = 84 ∨ p.1 = 85
  | [], _, _, p, hp => by cases hp
  | a :: r, c, h, p, hp => by
    rcases List.mem_cons.mp hp with rfl | hp
    · exact h
    · exact al_or r (swc c) (swc_or h) p hp
def wd (p : Nat × Nat) : List Nat := List.replicate p.2 p.1
/-- the dance that the runs make -/
def dr (c : Nat) (qs : List Nat) : List Nat := joinL [82] ((al c qs).reverse.map wd)
theorem dr_one (c a : Nat) : dr c [a] = List.replicate a c := rfl
theorem dr_cons (c a : Nat) {r : List Nat} (h : r ≠ []) : dr c (a :: r) = dr (swc c) r ++ ([82] ++ List.replicate a c) := by
  unfold dr
  show joinL [82] (((c, a) :: al (swc c) r).reverse.map wd) = _
  rw [List.reverse_cons, List.map_append, List.map_singleton, joinL_snoc [82] _ (fun z => ?_)]
  · rfl
  · have e := congrArg List.length z
    rw [List.length_map, List.length_reverse, al_len] at e
    exact h (List.length_eq_zero_iff.mp e)
theorem dr_lets : ∀ (qs : List Nat) (c : Nat), c = 84 ∨ c = 85 → Lets (dr c qs)
  | [], _, _ => fun x hx => by cases hx
  | a :: [], c, h => fun x hx => by
    rw [List.eq_of_mem_replicate hx]
    omega
  | a :: b :: r, c, h => fun x hx => by
    rw [dr_cons c a (by simp)] at hx
    rcases List.mem_append.mp hx with hx | hx
    · exact dr_lets (b :: r) (swc c) (swc_or h) x hx
    · rcases List.mem_append.mp hx with hx | hx
      · exact .inr (.inr (List.mem_singleton.mp hx))
      · rw [List.eq_of_mem_replicate hx]
        omega
theorem dr_len : ∀ (qs : List Nat) (c : Nat), qs ≠ [] → (dr c qs).length + 1 = qs.sum + qs.length
  | [], _, h => absurd rfl h
  | a :: [], c, _ => by
    rw [dr_one, List.length_replicate]
    simp
  | a :: b :: r, c, _ => by
    have ih := dr_len (b :: r) (swc c) (by simp)
    rw [dr_cons c a (by simp)]
    simp only [List.length_append, List.length_replicate, List.sum_cons, List.length_cons, List.length_nil] at *
    omega
theorem QL_ne {p q : Nat} (h : 0 < q) : QL p q ≠ [] := by rw [QL_step h]; exact List.cons_ne_nil _ _
theorem run_rep84 : ∀ (a : Nat) (p q : Int), run (p, q) (List.replicate a 84) = (p + a * q, q)
  | 0, p, q => by rw [List.replicate_zero, run_nil]; simp
  | a + 1, p, q => by
    rw [List.replicate_succ]
    show run (p + q, q) _ = _
    rw [run_rep84 a (p + q) q]
    have : p + q + (a : Int) * q = p + ((a + 1 : Nat) : Int) * q := by
      rw [Int.natCast_add, Int.add_mul]
      omega
    rw [this]
theorem run_rep85 : ∀ (a : Nat) (p q : Int), run (p, q) (List.replicate a 85) = (p - a * q, q)
  | 0, p, q => by rw [List.replicate_zero, run_nil]; simp
  | a + 1, p, q => by
    rw [List.replicate_succ]
    show run (p - q, q) _ = _
    rw [run_rep85 a (p - q) q]
    have : p - q - (a : Int) * q = p - ((a + 1 : Nat) : Int) * q := by
      rw [Int.natCast_add, Int.add_mul]
      omega
    rw [this]
theorem run_dr : ∀ (n p q : Nat), q ≤ n → 0 < q → Nat.gcd p q = 1 → run (0, 1) (dr 84 (QL p q)) = ((p : Int), (q : Int)) ∧ run (0, 1) (dr 85 (QL p q)) = (-(p : Int), (q : Int))
  | 0, p, q, h, h0, _ => by omega
  | n + 1, p, q, h, h0, g => by
    rw [QL_step h0]
    by_cases r0 : 0 < p % q
    · have g2 : Nat.gcd q (p % q) = 1 := by
        rw [← g, Nat.gcd_comm p q, Nat.gcd_rec q p, Nat.gcd_comm]
      have ih := run_dr n q (p % q) (by have := Nat.mod_lt p h0; omega) r0 g2
      have dm : (p : Int) = ((p % q : Nat) : Int) + ((p / q : Nat) : Int) * (q : Int) := by
        have := Nat.mod_add_div p q
        rw [Nat.mul_comm] at this
        exact_mod_cast this.symm
      have rp : (0 : Int) < ((p % q : Nat) : Int) := by omega
      have qp : (0 : Int) < (q : Int) := by omega
      rw [dr_cons 84 _ (QL_ne r0), dr_cons 85 _ (QL_ne r0), show swc 84 = 85 from rfl, show swc 85 = 84 from rfl, run_app, run_app, run_app, run_app, ih.1, ih.2]
      have e1 : run (-(q : Int), ((p % q : Nat) : Int)) [82] = (((p % q : Nat) : Int), (q : Int)) := by
        show called (-(q : Int), ((p % q : Nat) : Int)) 82 = _
        unfold called
        rw [if_neg (by decide), if_neg (by decide), if_neg (show ¬ (0 : Int) < -(q : Int) by omega), if_pos (show -(q : Int) < 0 by omega)]
        show (((p % q : Nat) : Int), 0 - -(q : Int)) = _
        rw [show 0 - -(q : Int) = (q : Int) by omega]
      have e2 : run ((q : Int), ((p % q : Nat) : Int)) [82] = (-((p % q : Nat) : Int), (q : Int)) := by
        show called ((q : Int), ((p % q : Nat) : Int)) 82 = _
        unfold called
        rw [if_neg (by decide), if_neg (by decide), if_pos (show (0 : Int) < (q : Int) by omega)]
        show (0 - ((p % q : Nat) : Int), (q : Int)) = _
        rw [Int.zero_sub]
      rw [e1, e2, run_rep84, run_rep85, ← dm]
      refine ⟨rfl, ?_⟩
      have : -((p % q : Nat) : Int) - ((p / q : Nat) : Int) * (q : Int) = -(p : Int) := by omega
      rw [this]
    · have e0 : p % q = 0 := by omega
      have eg : Nat.gcd p q = q := by rw [Nat.gcd_comm, Nat.gcd_rec, e0, Nat.gcd_zero_left]
      have q1 : q = 1 := by omega
      subst q1
      rw [e0, QL_zero, dr_one, dr_one, run_rep84, run_rep85]
      rw [Nat.div_one]
      exact ⟨by simp, by simp⟩
/-- the letter of the first quotient -/
def fl (v : Int × Int) : Nat := if v.1 < 0 then 85 else 84
theorem fl_or (v : Int × Int) : fl v = 84 ∨ fl v = 85 := by
  unfold fl
  split
  · exact .inr rfl
  · exact .inl rfl
/-- the first least dance -/
def dl (v : Int × Int) : List Nat := dr (fl v) (quo v)
theorem run_dl {v : Int × Int} (g : Good v) : run (0, 1) (dl v) = v := by
  obtain ⟨p, q⟩ := v
  rcases g.1 with h | h
  · have h0 : 0 < q := h
    have eq0 : quo (p, q) = QL p.natAbs q.natAbs := if_neg (show ¬ q = 0 by omega)
    have := run_dr q.natAbs p.natAbs q.natAbs (Nat.le_refl _) (by omega) g.2
    unfold dl
    rw [eq0]
    unfold fl
    by_cases c : p < 0
    · rw [if_pos (show (p, q).1 < 0 from c), this.2]
      rw [show -((p.natAbs : Nat) : Int) = p by omega, show ((q.natAbs : Nat) : Int) = q by omega]
    · rw [if_neg (show ¬ (p, q).1 < 0 from c), this.1]
      rw [show ((p.natAbs : Nat) : Int) = p by omega, show ((q.natAbs : Nat) : Int) = q by omega]
  · rw [h]
    rfl
theorem quo_ne {v : Int × Int} (g : Good v) : quo v ≠ [] := by
  unfold quo
  split
  · simp
  · rename_i hne
    refine QL_ne ?_
    rcases g.1 with h | h
    · omega
    · rw [h] at hne; exact absurd rfl hne
theorem len_dl {v : Int × Int} (g : Good v) : (dl v).length = stp v := by
  have h1 := dr_len (quo v) (fl v) (quo_ne g)
  have h2 := quo_stp g
  unfold dl
  omega
theorem lets_dl (v : Int × Int) : Lets (dl v) := dr_lets _ _ (fl_or v)
/-- a list of runs in the heap -/
def Rn (H : Hp) (p : Addr) (ps : List (Nat × Nat)) : Prop := ∃ ts : List Addr, H p = some (.lst (ts.map V.ref)) ∧ ts.length = ps.length ∧ ∀ (i : Nat) (t : Addr) (r : Nat × Nat), ts[i]? = some t → ps[i]? = some r → H t = some (.tup [.str (S [r.1]), .int (r.2 : Int)])
theorem Rn.same {H H' : Hp} {p : Addr} {ps : List (Nat × Nat)} (h : Rn H p ps) (s : Same H H') : Rn H' p ps := by
  obtain ⟨ts, h1, h2, h3⟩ := h
  exact ⟨ts, s _ _ h1, h2, fun i t r ht hr => s _ _ (h3 i t r ht hr)⟩
end
section
/-! ### the first of the shortest dances back, letter by letter -/
def ud (v : Int × Int) : List Nat := mir (dl v).reverse
theorem ud_of {v u : Int × Int} {c : Nat} (h : dl v = dl u ++ [c]) : ud v = opp c :: ud u := by
  unfold ud
  rw [h, List.reverse_append]
  rfl
theorem dr_more {c a : Nat} {r : List Nat} : dr c ((a + 1) :: r) = dr c (a :: r) ++ [c] := by
  cases r with
  | nil =>
    rw [dr_one, dr_one]
    exact List.replicate_succ'
  | cons b r =>
    rw [dr_cons c (a + 1) (List.cons_ne_nil _ _), dr_cons c a (List.cons_ne_nil _ _), List.replicate_succ']
    simp
theorem QL_add {p q : Nat} (h : 0 < q) : ∃ a r, QL p q = a :: r ∧ QL (p + q) q = (a + 1) :: r := by
  refine ⟨p / q, QL q (p % q), QL_step h, ?_⟩
  rw [QL_step h, Nat.add_div_right _ h, Nat.add_mod_right]
theorem quo_fin {p q : Int} (h : 0 < q) : quo (p, q) = QL p.natAbs q.natAbs := if_neg (show ¬ q = 0 by omega)
theorem dl_up {p q : Int} (h : 0 < q) (c : q ≤ p) : dl (p, q) = dl (p - q, q) ++ [84] := by
  unfold dl
  rw [quo_fin h, quo_fin h]
  have f1 : fl (p, q) = 84 := if_neg (show ¬ p < 0 by omega)
  have f2 : fl (p - q, q) = 84 := if_neg (show ¬ p - q < 0 by omega)
  rw [f1, f2]
  obtain ⟨a, r, e1, e2⟩ := QL_add (p := (p - q).natAbs) (q := q.natAbs) (by omega)
  rw [show (p - q).natAbs + q.natAbs = p.natAbs by omega] at e2
  rw [e1, e2]
  exact dr_more
theorem dl_dn {p q : Int} (g : Good (p, q)) (h : 0 < q) (c : p ≤ -q) : dl (p, q) = dl (p + q, q) ++ [85] := by
  unfold dl
  rw [quo_fin h, quo_fin h]
  have f1 : fl (p, q) = 85 := if_pos (show p < 0 by omega)
  obtain ⟨a, r, e1, e2⟩ := QL_add (p := (p + q).natAbs) (q := q.natAbs) (by omega)
  rw [show (p + q).natAbs + q.natAbs = p.natAbs by omega] at e2
  rw [e1, e2, f1]
  by_cases z : p + q < 0
  · have f2 : fl (p + q, q) = 85 := if_pos z
    rw [f2]
    exact dr_more
  · have hp : p = -q := by omega
    subst hp
    have g2 : Int.gcd (-q) q = 1 := g.2
    rw [Int.neg_gcd, Int.gcd_self] at g2
    have q1 : q = 1 := by omega
    subst q1
    have e3 : (-1 + 1 : Int).natAbs = 0 := rfl
    rw [e3, QL_step (show 0 < (1 : Int).natAbs by decide)] at e1
    have e4 : 0 / (1 : Int).natAbs = 0 := rfl
    have e5 : 0 % (1 : Int).natAbs = 0 := rfl
    rw [e4, e5, QL_zero] at e1
    cases e1
    rfl
theorem dl_in {p q : Int} (h : 0 < q) (p0 : p ≠ 0) (c1 : -q < p) (c2 : p < q) : dl (p, q) = dl (called (p, q) 82) ++ [82] := by
  have lt : p.natAbs < q.natAbs := by omega
  have e1 : QL p.natAbs q.natAbs = 0 :: QL q.natAbs p.natAbs := by rw [QL_step (by omega), Nat.div_eq_of_lt lt, Nat.mod_eq_of_lt lt]
  have hn : QL q.natAbs p.natAbs ≠ [] := QL_ne (by omega)
  by_cases c3 : 0 < p
  · have e : called (p, q) 82 = (0 - q, p) := by
      unfold called
      rw [if_neg (by decide), if_neg (by decide), if_pos (show 0 < (p, q).1 from c3)]
    rw [e]
    unfold dl
    rw [quo_fin h, quo_fin c3, e1, show (0 - q).natAbs = q.natAbs by omega, show fl (p, q) = 84 from if_neg (show ¬ p < 0 by omega), show fl (0 - q, p) = 85 from if_pos (show 0 - q < 0 by omega), dr_cons 84 0 hn]
    rfl
  · have c4 : p < 0 := by omega
    have e : called (p, q) 82 = (q, 0 - p) := by
      unfold called
      rw [if_neg (by decide), if_neg (by decide), if_neg (show ¬ 0 < (p, q).1 from c3), if_pos (show (p, q).1 < 0 from c4)]
    rw [e]
    unfold dl
    rw [quo_fin h, quo_fin (show 0 < 0 - p by omega), e1, show (0 - p).natAbs = p.natAbs by omega, show fl (p, q) = 85 from if_pos c4, show fl (q, 0 - p) = 84 from if_neg (show ¬ q < 0 by omega), dr_cons 85 0 hn]
    rfl
def down (v : Int × Int) (c : Nat) : Bool := decide (stp (called v c) + 1 = stp v)
def gl (v : Int × Int) : Nat := if down v 82 = true then 82 else if down v 84 = true then 84 else 85
theorem ud_zero : ud (0, 1) = [] := by
  unfold ud dl
  rw [quo_fin (by decide), QL_step (by decide)]
  have e4 : (0 : Int).natAbs / (1 : Int).natAbs = 0 := rfl
  have e5 : (0 : Int).natAbs % (1 : Int).natAbs = 0 := rfl
  rw [e4, e5, QL_zero]
  rfl
theorem ud_step {v : Int × Int} (g : Good v) (n : v ≠ (0, 1)) : ud v = gl v :: ud (called v (gl v)) ∧ down v (gl v) = true := by
  obtain ⟨p, q⟩ := v
  have hq : 0 < q ∨ (p = 1 ∧ q = 0) := by
    rcases g.1 with h | h
    · exact .inl h
    · cases h; exact .inr ⟨rfl, rfl⟩
  rcases hq with h | ⟨rfl, rfl⟩
  · have a := stp_fin (p := p) h
    have hR : q ≤ p ∨ p ≤ -q → down (p, q) 82 = false := fun z => decide_eq_false fun e => by
      have b : EQ q.natAbs p.natAbs = stp (called (p, q) 82) + 1 := by
        by_cases c3 : 0 < p
        · have e1 : called (p, q) 82 = (0 - q, p) := by
            unfold called
            rw [if_neg (by decide), if_neg (by decide), if_pos (show 0 < (p, q).1 from c3)]
          rw [e1, stp_fin c3, show (0 - q).natAbs = q.natAbs by omega]
        · have c4 : p < 0 := by omega
          have e1 : called (p, q) 82 = (q, 0 - p) := by
            unfold called
            rw [if_neg (by decide), if_neg (by decide), if_neg (show ¬ 0 < (p, q).1 from c3), if_pos (show (p, q).1 < 0 from c4)]
          rw [e1, stp_fin (show 0 < 0 - p by omega), show (0 - p).natAbs = p.natAbs by omega]
      rcases Nat.lt_or_ge q.natAbs p.natAbs with c | c
      · rw [EQ_swap c] at b
        omega
      · have : p.natAbs = q.natAbs := by omega
        rw [this] at a b
        omega
    by_cases c1 : q ≤ p
    · have d82 := hR (.inl c1)
      have d84 : down (p, q) 84 = false := decide_eq_false fun e => by
        have b := stp_fin (p := p + q) h
        rw [show (p + q).natAbs = p.natAbs + q.natAbs by omega, EQ_add (by omega)] at b
        have e' : stp (p + q, q) + 1 = stp (p, q) := e
        omega
      have e : gl (p, q) = 85 := by
        unfold gl
        rw [d82, d84]
        rfl
      rw [e]
      refine ⟨ud_of (dl_up h c1), decide_eq_true ?_⟩
      have b := stp_fin (p := p - q) h
      rw [show p.natAbs = (p - q).natAbs + q.natAbs by omega, EQ_add (by omega)] at a
      show stp (p - q, q) + 1 = stp (p, q)
      omega
    · by_cases c2 : p ≤ -q
      · have d82 := hR (.inr c2)
        have d84 : down (p, q) 84 = true := decide_eq_true (by
          have b := stp_fin (p := p + q) h
          rw [show p.natAbs = (p + q).natAbs + q.natAbs by omega, EQ_add (by omega)] at a
          show stp (p + q, q) + 1 = stp (p, q)
          omega)
        have e : gl (p, q) = 84 := by
          unfold gl
          rw [d82, d84]
          rfl
        rw [e]
        exact ⟨ud_of (dl_dn g h c2), d84⟩
      · have p0 : p ≠ 0 := fun z => by
          subst z
          have h2 : Int.gcd 0 q = 1 := g.2
          rw [Int.gcd_zero_left] at h2
          exact n (by rw [show q = 1 by omega])
        have d82 : down (p, q) 82 = true := decide_eq_true (by
          rw [EQ_swap (show p.natAbs < q.natAbs by omega)] at a
          by_cases c3 : 0 < p
          · have e1 : called (p, q) 82 = (0 - q, p) := by
              unfold called
              rw [if_neg (by decide), if_neg (by decide), if_pos (show 0 < (p, q).1 from c3)]
            rw [e1]
            have b := stp_fin (p := 0 - q) c3
            rw [show (0 - q).natAbs = q.natAbs by omega] at b
            omega
          · have c4 : p < 0 := by omega
            have e1 : called (p, q) 82 = (q, 0 - p) := by
              unfold called
              rw [if_neg (by decide), if_neg (by decide), if_neg (show ¬ 0 < (p, q).1 from c3), if_pos (show (p, q).1 < 0 from c4)]
            rw [e1]
            have b := stp_fin (p := q) (q := 0 - p) (by omega)
            rw [show (0 - p).natAbs = p.natAbs by omega] at b
            omega)
        have e : gl (p, q) = 82 := by
          unfold gl
          rw [d82]
          rfl
        rw [e]
        exact ⟨ud_of (dl_in h p0 (by omega) (by omega)), d82⟩
  · have e1 : called (1, 0) 82 = (0, 1) := rfl
    have d82 : down (1, 0) 82 = true := decide_eq_true (by rw [e1, stp_zero, stp_inf])
    have e : gl (1, 0) = 82 := by
      unfold gl
      rw [d82]
      rfl
    rw [e, e1, ud_zero]
    exact ⟨rfl, d82⟩
theorem gl_or (v : Int × Int) : gl v = 82 ∨ gl v = 84 ∨ gl v = 85 := by
  unfold gl
  split
  · exact .inl rfl
  · split
    · exact .inr (.inl rfl)
    · exact .inr (.inr rfl)
theorem gl_head {v : Int × Int} (g : Good v) (n : v ≠ (0, 1)) : ∃ r, ([82, 84, 85] : List Nat).filter (down v) = gl v :: r := by
  have h := (ud_step g n).2
  unfold gl at h ⊢
  by_cases c1 : down v 82 = true
  · rw [if_pos c1]
    exact ⟨_, by rw [List.filter_cons_of_pos c1]⟩
  · rw [if_neg c1] at h ⊢
    rw [List.filter_cons_of_neg c1]
    by_cases c2 : down v 84 = true
    · rw [if_pos c2]
      exact ⟨_, by rw [List.filter_cons_of_pos c2]⟩
    · rw [if_neg c2] at h ⊢
      rw [List.filter_cons_of_neg c2, List.filter_cons_of_pos h]
      exact ⟨_, rfl⟩
theorem ud_len {v : Int × Int} (g : Good v) : (ud v).length = stp v := by
  unfold ud mir
  rw [List.length_map, List.length_reverse, len_dl g]
/-! all dances of one length, in their order -/
abbrev Row := List Nat × (Int × Int)
def ext (r : Row) : List Row := [(r.1 ++ [82], called r.2 82), (r.1 ++ [84], called r.2 84), (r.1 ++ [85], called r.2 85)]
def rws (v : Int × Int) : Nat → List Row
  | 0 => [([], v)]
  | j + 1 => (rws v j).flatMap ext
def pre (c : Nat) (r : Row) : Row := (c :: r.1, r.2)
theorem ext_pre (c : Nat) (r : Row) : ext (pre c r) = (ext r).map (pre c) := rfl
theorem rws_head : ∀ (j : Nat) (v : Int × Int), rws v (j + 1) = (rws (called v 82) j).map (pre 82) ++ ((rws (called v 84) j).map (pre 84) ++ (rws (called v 85) j).map (pre 85))
  | 0, v => rfl
  | j + 1, v => by
    have e : ∀ (c : Nat) (l : List Row), (l.map (pre c)).flatMap ext = (l.flatMap ext).map (pre c) := fun c l => by
      rw [List.flatMap_map, List.map_flatMap]
      rfl
    show (rws v (j + 1)).flatMap ext = _
    rw [rws_head j v, List.flatMap_append, List.flatMap_append, e, e, e]
    rfl
theorem rws_len (v : Int × Int) : ∀ j : Nat, (rws v j).length = 3 ^ j
  | 0 => rfl
  | j + 1 => by
    show ((rws v j).flatMap ext).length = _
    rw [List.length_flatMap, Nat.pow_succ, ← rws_len v j]
    have : ∀ l : List Row, (l.map fun r => (ext r).length).sum = l.length * 3 := fun l => by
      induction l with
      | nil => rfl
      | cons a l ih =>
        rw [List.map_cons, List.sum_cons, ih, List.length_cons]
        show 3 + _ = _
        omega
    exact this _
theorem rws_good {v : Int × Int} (g : Good v) : ∀ (j : Nat) (r : Row), r ∈ rws v j → Good r.2 ∧ stp v ≤ stp r.2 + j ∧ r.1.length = j ∧ stp r.2 ≤ stp v + j ∧ Lets r.1
  | 0, r, h => by
    rw [List.mem_singleton.mp h]
    exact ⟨g, Nat.le_refl _, rfl, Nat.le_refl _, fun c hc => by cases hc⟩
  | j + 1, r, h => by
    obtain ⟨s, hs, hr⟩ := List.mem_flatMap.mp h
    obtain ⟨gs, h1, h2, h3, h4⟩ := rws_good g j s hs
    have key : ∀ c, (c = 84 ∨ c = 85 ∨ c = 82) → r = (s.1 ++ [c], called s.2 c) → Good r.2 ∧ stp v ≤ stp r.2 + (j + 1) ∧ r.1.length = j + 1 ∧ stp r.2 ≤ stp v + (j + 1) ∧ Lets r.1 := fun c hc e => by
      rw [e]
      have n1 := stp_near gs c
      refine ⟨gs.called c, ?_, by show (s.1 ++ [c]).length = _; rw [List.length_append, h2]; rfl, ?_, fun x hx => ?_⟩
      · show _ ≤ stp (called s.2 c) + _
        omega
      · show stp (called s.2 c) ≤ _
        omega
      · rcases List.mem_append.mp hx with hx | hx
        · exact h4 x hx
        · rw [List.mem_singleton.mp hx]; exact hc
    unfold ext at hr
    simp only [List.mem_cons, List.not_mem_nil, or_false] at hr
    rcases hr with e | e | e
    · exact key 82 (.inr (.inr rfl)) e
    · exact key 84 (.inl rfl) e
    · exact key 85 (.inr (.inl rfl)) e
def zro (r : Row) : Bool := decide (r.2 = (0, 1))
def firsts (v : Int × Int) (j : Nat) : List (List Nat) := ((rws v j).filter zro).map (·.1)
theorem firsts_none {v : Int × Int} (g : Good v) {j : Nat} (h : j < stp v) : firsts v j = [] := by
  unfold firsts
  rw [List.map_eq_nil_iff, List.filter_eq_nil_iff]
  intro r hr hz
  have := (rws_good g j r hr).2.1
  rw [of_decide_eq_true hz, stp_zero] at this
  omega
theorem firsts_head (v : Int × Int) (j : Nat) : firsts v (j + 1) = (firsts (called v 82) j).map (82 :: ·) ++ ((firsts (called v 84) j).map (84 :: ·) ++ (firsts (called v 85) j).map (85 :: ·)) := by
  have e : ∀ (c : Nat) (l : List Row), ((l.map (pre c)).filter zro).map (·.1) = ((l.filter zro).map (·.1)).map (c :: ·) := fun c l => by
    induction l with
    | nil => rfl
    | cons a l ih =>
      rw [List.map_cons]
      by_cases h : zro a = true
      · rw [List.filter_cons_of_pos (show zro (pre c a) = true from h), List.filter_cons_of_pos h, List.map_cons, List.map_cons, List.map_cons, ih]
        rfl
      · rw [List.filter_cons_of_neg (show ¬ zro (pre c a) = true from h), List.filter_cons_of_neg h, ih]
  unfold firsts
  rw [rws_head, List.filter_append, List.filter_append, List.map_append, List.map_append, e, e, e]
theorem firsts_some : ∀ (j : Nat) (v : Int × Int), Good v → stp v = j → ∃ r, firsts v j = ud v :: r
  | 0, v, g, e => by
    rw [stp_eq_zero g e, ud_zero]
    exact ⟨[], rfl⟩
  | j + 1, v, g, e => by
    have n : v ≠ (0, 1) := fun z => by rw [z, stp_zero] at e; cases e
    have us := ud_step g n
    rw [us.1, firsts_head]
    have yes : ∀ c, down v c = true → ∃ r, (firsts (called v c) j).map (c :: ·) = (c :: ud (called v c)) :: r := fun c hc => by
      have := of_decide_eq_true hc
      obtain ⟨r, hr⟩ := firsts_some j (called v c) (g.called c) (by omega)
      exact ⟨_, by rw [hr, List.map_cons]⟩
    have no : ∀ c, ¬ down v c = true → (firsts (called v c) j).map (c :: ·) = [] := fun c hc => by
      have h1 : stp (called v c) + 1 ≠ stp v := fun z => hc (decide_eq_true z)
      have h2 := stp_near g c
      rw [firsts_none (g.called c) (by omega)]
      rfl
    have gd := us.2
    unfold gl at gd ⊢
    by_cases c1 : down v 82 = true
    · rw [if_pos c1]
      obtain ⟨r, hr⟩ := yes 82 c1
      exact ⟨_, by rw [hr, List.cons_append]⟩
    · rw [if_neg c1] at gd ⊢
      rw [no 82 c1, List.nil_append]
      by_cases c2 : down v 84 = true
      · rw [if_pos c2]
        obtain ⟨r, hr⟩ := yes 84 c2
        exact ⟨_, by rw [hr, List.cons_append]⟩
      · rw [if_neg c2] at gd ⊢
        rw [no 84 c2, List.nil_append]
        exact yes 85 gd
/-- rows in the heap -/
def RwAt (H : Hp) (p : Addr) (L : List Row) : Prop := ∃ ts : List Addr, H p = some (.lst (ts.map V.ref)) ∧ ts.length = L.length ∧ ∀ (i : Nat) (t : Addr) (r : Row), ts[i]? = some t → L[i]? = some r → ∃ u, H t = some (.tup [.str (S r.1), .ref u]) ∧ Tup2 H u r.2
theorem RwAt.same {H H' : Hp} {p : Addr} {L : List Row} (h : RwAt H p L) (s : Same H H') : RwAt H' p L := by
  obtain ⟨ts, h1, h2, h3⟩ := h
  refine ⟨ts, s _ _ h1, h2, fun i t r ht hr => ?_⟩
  obtain ⟨u, a, b⟩ := h3 i t r ht hr
  exact ⟨u, s _ _ a, s _ _ b⟩
theorem RwAt.add {H : Hp} {q t u : Addr} {L : List Row} {r : Row} {ts : List Addr} (h1 : H q = some (.lst (ts.map V.ref))) (h2 : ts.length = L.length) (h3 : ∀ (i : Nat) (t : Addr) (r : Row), ts[i]? = some t → L[i]? = some r → ∃ u, H t = some (.tup [.str (S r.1), .ref u]) ∧ Tup2 H u r.2)
    (T : H t = some (.tup [.str (S r.1), .ref u])) (T2 : Tup2 H u r.2) : RwAt (upd H q (.lst (ts.map V.ref ++ [V.ref t]))) q (L ++ [r]) := by
  refine ⟨ts ++ [t], by rw [upd_same, List.map_append]; rfl, by rw [List.length_append, List.length_append, h2]; rfl, fun i t' r' ht hr => ?_⟩
  have key : ∀ t0 (r0 : Row), (∃ u, H t0 = some (.tup [.str (S r0.1), .ref u]) ∧ Tup2 H u r0.2) → ∃ u, (upd H q (.lst (ts.map V.ref ++ [V.ref t]))) t0 = some (.tup [.str (S r0.1), .ref u]) ∧ Tup2 (upd H q (.lst (ts.map V.ref ++ [V.ref t]))) u r0.2 := by
    rintro t0 r0 ⟨u0, a, b⟩
    refine ⟨u0, by rw [upd_ne (ne_of a h1 (fun z => nomatch z))]; exact a, ?_⟩
    unfold Tup2
    rw [upd_ne (ne_of b h1 (fun z => nomatch z))]
    exact b
  by_cases c : i < ts.length
  · rw [List.getElem?_append_left c] at ht
    rw [List.getElem?_append_left (by omega)] at hr
    exact key _ _ (h3 i t' r' ht hr)
  · rw [List.getElem?_append_right (by omega)] at ht
    rw [List.getElem?_append_right (by omega)] at hr
    have e1 : i = ts.length := by
      have := (List.getElem?_eq_some_iff.mp ht).1
      have : i - ts.length < 1 := this
      omega
    subst e1
    rw [Nat.sub_self] at ht
    rw [h2, Nat.sub_self] at hr
    cases ht; cases hr
    exact key _ _ ⟨u, T, T2⟩
end
section
variable {P : Program} {w : World} {K : PySem.W.Frag} {mg : Str → Option Value} {base : Heap} {f : Addr} {fd : FuncData}
theorem ok_num (F : Fun K "number" "number" s_number f fd) (D_after : Dfn P w K mg base "after" 2 ["fraction", "dance"] spAfter)  : FnOk P w K mg base CX0 3 f fd ["dance"] spNum := by
  refine F.ok sc_number (fun vs H Q E h => ?_) (fun cdv A outer s H vs Q E hr h => ?_)
  · obtain ⟨l, rfl, q⟩ := h
    rfl
  obtain ⟨l, rfl, q⟩ := h
  refine ⟨_, (pss_one (ps_ret (pe_do D_after hr (pa_cons (pe_tup (pa_cons pe_int (pa_cons pe_int pa_nil))) (pa_cons (pv 0) pa_nil))))), ?_⟩
  exact ⟨fits (by decide), fun p hp => ⟨_, rfl, p, (0, 1), l, rfl, upd_same, fun t' H' sm tt => q t' H' ((same_new hp _).trans sm) tt⟩⟩
end
def spQuo (K : PySem.W.Frag) : Sp := fun vs H Q _ => ∃ (t : Addr) (v : Int × Int), vs = [.ref t] ∧ Tup2 H t v ∧ Good v ∧ v.1.natAbs < 2 ^ 8000 ∧ v.2.natAbs < 2 ^ 8000 ∧ ∀ a H', Same H H' → H a = none → H' a = some (.lst (((quo v).map Int.ofNat).map V.int)) → Q (.ref a) H'
def spSteps : Sp := fun vs H Q _ => ∃ (t : Addr) (v : Int × Int), vs = [.ref t] ∧ Tup2 H t v ∧ Good v ∧ v.1.natAbs < 2 ^ 8000 ∧ v.2.natAbs < 2 ^ 8000 ∧ ∀ H', Same H H' → Q (.int (stp v)) H'
theorem same_upd {H0 G : Hp} {a : Addr} {o : HO} (s : Same H0 G) (n : H0 a = none) : Same H0 (upd G a o) := fun b u h => by rw [upd_ne (ne_of_none h n)]; exact s b u h
theorem sum_nat : ∀ l : List Nat, ((l.map Int.ofNat).sum : Int) = ((l.sum : Nat) : Int)
  | [] => rfl
  | a :: l => by
    rw [List.map_cons, List.sum_cons, List.sum_cons, sum_nat l]
    rfl
section
variable {P : Program} {w : World} {K : PySem.W.Frag} {mg : Str → Option Value} {base : Heap} {f : Addr} {fd : FuncData}
theorem ok_quotients (F : Fun K "quotients" "quotients" s_quotients f fd) (y_abs : mg "abs" = none)  : FnOk P w K mg base CX0 1 f fd ["fraction"] (spQuo K) := by
  refine F.ok sc_quotients (fun vs H Q E h => ?_) (fun cdv A outer s H vs Q E hr h => ?_)
  · obtain ⟨t, v, rfl, hT, g, z1, z2, q⟩ := h
    rfl
  obtain ⟨t, v, rfl, hT, g, z1, z2, q⟩ := h
  refine ⟨_, (pss_cons (ps_asg (pv 0) (pg_tup (by rfl) (pgs_cons (pg_name (i := 1) sc_quotients.nd rfl (.inl rfl)) (pgs_cons (pg_name (i := 2) sc_quotients.nd rfl (.inl rfl)) pgs_nil))))
    (pss_cons (ps_if (pt_cmpR op_eq (pv 2) pe_int (nomark _)) (pss_one (ps_ret (pe_lst (pa_cons pe_int (pa_cons pe_int pa_nil))))) pss_nil)
    (pss_cons (ps_set (i := 3) sc_quotients.nd rfl (.inl rfl) (pe_lst pa_nil))
    (pss_cons (ps_set (i := 4) sc_quotients.nd rfl (.inl rfl) (pe_callB call_abs rfl y_abs (by decide +kernel) (pa_cons (pv 1) pa_nil)))
    (pss_cons (ps_while PassesOwn.never (pt_cmpR op_gt (pv 2) pe_int (nomark _)) (pss_cons (ps_expr (pe_bm PySem.F.plainAttrs_list PySem.F.slot_list_append PySem.F.type_list_append mt_append (pv 3) (pa_cons (pe_op op_fdivW (pv 4) (pv 2)) pa_nil)))
    (pss_one (ps_par (i := 4) (j := 2) (by rfl) sc_quotients.nd rfl rfl (by decide) rfl rfl (pa_cons (pv 2) (pa_cons (pe_op op_modN (pv 4) (pv 2)) pa_nil)) (by rfl)))))
    (pss_one (ps_ret (pv 3)))))))), ?_⟩
  obtain ⟨p, q'⟩ := v
  refine ⟨_, rfl, t, _, rfl, SqT.of hT, rfl, _, _, rfl, _, _, rfl, rfl, ?_⟩
  refine ⟨_, rfl, rfl, _, rfl, ite2 (fun c => ?_) (fun c => ?_)⟩
  · have k : q' = 0 := V.int.inj (of_decide_eq_true c)
    subst k
    refine ⟨fits (by decide), fun a ha => q a _ (same_new ha _) ha ?_⟩
    rw [upd_same]
    rfl
  have k : ¬ q' = 0 := fun z => c (decide_eq_true (congrArg V.int z))
  have h0 : 0 < q' := by
    rcases g.1 with h1 | h1
    · exact h1
    · cases h1; exact absurd rfl k
  have eq0 : quo (p, q') = QL p.natAbs q'.natAbs := if_neg k
  have ql := quo_len (v := (p, q')) (n := 8000) z2 (by decide)
  rw [eq0] at q ql
  refine ⟨fits (by decide), fun pa hpa => ⟨_, rfl, _, rfl, ?_⟩⟩
  have e2 : (if p < 0 then -p else p) = (p.natAbs : Int) := by split <;> omega
  rw [e2]
  refine while_by (fun σ G => ∃ (x y : Nat) (cs : List Nat), σ = [some (.ref t), some (.int p), some (.int (y : Int)), some (.ref pa), some (.int (x : Int))] ∧ Same H G ∧ G pa = some (.lst ((cs.map Int.ofNat).map V.int)) ∧ QL p.natAbs q'.natAbs = cs ++ QL x y ∧ y < 2 ^ 8000) (fun σ _ => match σ with | [_, _, some (.int b), _, _] => b.natAbs | _ => 0) ⟨p.natAbs, q'.natAbs, [], by rw [Int.natAbs_of_nonneg (Int.le_of_lt h0)]; rfl, same_new hpa _, upd_same, rfl, z2⟩ ?_ ?_
  · rintro σ G ⟨x, y, cs, rfl, sm, hG, ej, yb⟩
    refine ⟨_, rfl, _, _, rfl, rfl, _, rfl, ite2 (fun c1 => ?_) (fun c1 => ?_)⟩
    · have y0 : 0 < y := by
        have : (0 : Int) < (y : Int) := of_decide_eq_true c1
        omega
      have gd := wide_div (i := (x : Int)) (j := (y : Int)) (b := 8000) (by omega) (by rw [Int.natAbs_natCast]; exact yb) (by decide) (by decide)
      have lc : cs.length + 1 ≤ 16000 := by
        rw [ej, QL_step y0, List.length_append, List.length_cons] at ql
        omega
      refine ⟨_, rfl, .inl ⟨rfl, _, SqL.of hG⟩, _, rfl, _, rfl, _, _, rfl, rfl, gd, pa, _, _, rfl, rfl, hG, Nat.lt_of_lt_of_le (show ((cs.map Int.ofNat).map V.int).length < 16777216 by rw [List.length_map, List.length_map]; omega) sizeLine_big, ?_⟩
      refine ⟨_, rfl, _, rfl, _, rfl, _, _, rfl, rfl, (show (y : Int) ≠ 0 by omega), _, _, rfl, ⟨y, x % y, cs ++ [x / y], ?_, same_upd sm hpa, ?_, ?_, Nat.lt_trans (Nat.mod_lt _ y0) yb⟩, ?_⟩
      · have em : ((x : Int).fmod (y : Int)) = ((x % y : Nat) : Int) := by
          rw [Int.fmod_eq_emod_of_nonneg _ (Int.natCast_nonneg y)]
          rfl
        rw [← em]
        rfl
      · rw [upd_same, List.map_append, List.map_append]
        rfl
      · rw [ej, QL_step y0, List.append_assoc]
        rfl
      · show ((x : Int).fmod (y : Int)).natAbs < (y : Int).natAbs
        exact fmod_less (by omega)
    · have y0 : y = 0 := by
        have : ¬ (0 : Int) < (y : Int) := fun z => c1 (decide_eq_true z)
        omega
      subst y0
      rw [QL_zero, List.append_nil] at ej
      rw [ej] at q
      exact ⟨_, rfl, q pa G sm hpa hG⟩
  · rintro σ H' Q1 Q2 hm ⟨v, e, i, j, e1, e2, b, e3, qq⟩
    exact ⟨v, e, i, j, e1, e2, b, e3, hm _ _ qq⟩
end
theorem lc_enum {K : PySem.W.Frag} {a : Addr} {xs : List V} {g : TG} {tt : TT} {te : TE} {vs : List Nat} {σ : L2.St} {H1 : Hp} {D : Addr} {Qd : Hp → Prop} (Pv : Nat → Hp → Prop) (h0 : Pv 0 (upd H1 D (.lst []))) (hl : ∀ i H, i ≤ xs.length → Pv i H → SqL K H a xs)
    (hs : ∀ i x H T, xs[i]? = some x → Pv i H → H T = none → g (.ref T) (wipe σ vs) (upd H T (.tup [.int (i : Nat), x])) fun σ2 H2 => wipe σ2 vs = wipe σ vs ∧ tt σ2 H2 fun b H3 =>
      if b = true then te σ2 H3 fun y H4 => ∃ acc, H4 D = some (.lst acc) ∧ acc.length < sizeLine ∧ Pv (i + 1) (upd H4 D (.lst (acc ++ [y]))) else Pv (i + 1) H3) (hd : ∀ H, Pv xs.length H → Qd H) :
    ∃ W : Nat → Nat → Hp → Prop, (∃ m, W 0 m (upd H1 D (.lst []))) ∧ ∀ i m H, W i m H →
      ((Ite K a).stop i H ∧ Qd H) ∨ ((Ite K a).go i H ∧ ∃ Nx : Hp → Prop, (∀ H', Nx H' → ∃ m', m' < m ∧ W (i + 1) m' H') ∧ ∀ x H', (Ite K a).yld i H x H' → g x (wipe σ vs) H' fun σ2 H2 => wipe σ2 vs = wipe σ vs ∧ tt σ2 H2 fun b H3 =>
        if b = true then te σ2 H3 fun y H4 => ∃ acc, H4 D = some (.lst acc) ∧ acc.length < sizeLine ∧ Nx (upd H4 D (.lst (acc ++ [y]))) else Nx H3) := by
  refine ⟨fun j n G => n = xs.length - j ∧ j ≤ xs.length ∧ Pv j G, ⟨xs.length, by simp, Nat.zero_le _, h0⟩, ?_⟩
  rintro j n G ⟨rfl, hj, p⟩
  have at_ := hl j G hj p
  by_cases c : j < xs.length
  · refine .inr ⟨⟨xs, xs[j], at_, by simp [c]⟩, Pv (j + 1), fun G' p' => ⟨xs.length - (j + 1), by omega, rfl, c, p'⟩, fun x G' y => ?_⟩
    obtain ⟨T, z, rfl, hT, rfl, e⟩ := y
    exact hs j z G T (e xs at_) p hT
  · have e : j = xs.length := by omega
    subst e
    exact .inl ⟨⟨xs, at_, Nat.le_refl _⟩, hd G p⟩
abbrev rtup (r : Nat × Nat) : HO := .tup [.str (S [r.1]), .int (r.2 : Int)]
theorem rn_add {G : Hp} {D u : Addr} {ts : List Addr} {ps : List (Nat × Nat)} {r : Nat × Nat} (hG : G D = some (.lst (ts.map V.ref))) (tv : ∀ (j : Nat) (u : Addr) (r : Nat × Nat), ts[j]? = some u → ps[j]? = some r → G u = some (rtup r)) (hr : ps[ts.length]? = some r) (T : G u = some (rtup r)) :
    ∀ (j : Nat) (u' : Addr) (r' : Nat × Nat), (ts ++ [u])[j]? = some u' → ps[j]? = some r' → (upd G D (.lst (ts.map V.ref ++ [V.ref u]))) u' = some (rtup r') := by
  intro j u' r' hu' hr'
  have key : G u' = some (rtup r') := by
    by_cases c : j < ts.length
    · rw [List.getElem?_append_left c] at hu'
      exact tv j u' r' hu' hr'
    · have e : j = ts.length := by
        have := (List.getElem?_eq_some_iff.mp hu').1
        rw [List.length_append] at this
        have : ([u] : List Addr).length = 1 := rfl
        omega
      subst e
      rw [List.getElem?_append_right (Nat.le_refl _), Nat.sub_self] at hu'
      cases hu'
      rw [hr] at hr'
      cases hr'
      exact T
  rw [upd_ne (ne_of key hG (fun z => nomatch z))]
  exact key
theorem rn_rev {G : Hp} {p : Addr} {ts : List Addr} {ps : List (Nat × Nat)} (hp : G p = some (.lst (ts.map V.ref).reverse)) (hl : ts.length = ps.length) (tv : ∀ (j : Nat) (u : Addr) (r : Nat × Nat), ts[j]? = some u → ps[j]? = some r → G u = some (rtup r)) : Rn G p ps.reverse := by
  refine ⟨ts.reverse, by rw [hp, List.map_reverse], by rw [List.length_reverse, List.length_reverse, hl], fun i t r ht hr => ?_⟩
  have hi : i < ts.length := by
    have := (List.getElem?_eq_some_iff.mp ht).1
    rw [List.length_reverse] at this
    exact this
  rw [List.getElem?_reverse hi] at ht
  rw [List.getElem?_reverse (by omega), ← hl] at hr
  exact tv _ t r ht hr
def spRuns : Sp := fun vs H Q _ => ∃ (t : Addr) (v : Int × Int), vs = [.ref t] ∧ Tup2 H t v ∧ Good v ∧ v.1.natAbs < 2 ^ 8000 ∧ v.2.natAbs < 2 ^ 8000 ∧ ∀ a H', Same H H' → H a = none → Rn H' a (al (fl v) (quo v)).reverse → Q (.ref a) H'
def spUndo : Sp := fun vs H Q _ => ∃ (l : List Nat), vs = [.str (S l)] ∧ Lets l ∧ l.length ≤ 1000 ∧ ∀ H', Same H H' → Q (.str (S (mir (dl (run (0, 1) l)).reverse))) H'
theorem e_UT3 : (("UT" : Str)) = S [85, 84] := by decide +kernel
theorem e_TU3 : (("TU" : Str)) = S [84, 85] := by decide +kernel
theorem pick_fl {c : Nat} (h : c = 84 ∨ c = 85) (i : Nat) : atI [c, swc c] ((i % 2 : Nat) : Int) = some (if i % 2 = 0 then c else swc c) := by
  have : i % 2 = 0 ∨ i % 2 = 1 := by omega
  rcases this with e | e
  · rw [e]; rfl
  · rw [e]; rfl
theorem run_two (l : List Nat) : (run (0, 1) l).1.natAbs ≤ 2 ^ l.length ∧ (run (0, 1) l).2.natAbs ≤ 2 ^ l.length := by
  have := run_size l (v := (0, 1)) (n := 1) (by decide) (by decide) (Nat.le_refl _)
  rw [Nat.mul_one] at this
  exact this
theorem run_small {l : List Nat} (h : l.length ≤ 7000) : (run (0, 1) l).1.natAbs < 2 ^ 8000 ∧ (run (0, 1) l).2.natAbs < 2 ^ 8000 := by
  have e : 2 ^ l.length < 2 ^ 8000 := Nat.pow_lt_pow_right (by decide) (by omega)
  exact ⟨Nat.lt_of_le_of_lt (run_two l).1 e, Nat.lt_of_le_of_lt (run_two l).2 e⟩
theorem flat_one (c n : Nat) : (List.replicate n [c]).flatten = List.replicate n c := by simp
theorem sum_wd (ps : List (Nat × Nat)) : ((ps.map wd).map List.length).sum = (ps.map (·.2)).sum := by
  congr 1
  rw [List.map_map]
  apply List.map_congr_left
  intro p _
  show (List.replicate p.2 p.1).length = p.2
  rw [List.length_replicate]
theorem al_two : ∀ (qs : List Nat) (c : Nat), (al c qs).map (·.2) = qs
  | [], _ => rfl
  | a :: r, c => by
    show a :: (al (swc c) r).map (·.2) = a :: r
    rw [al_two r (swc c)]
theorem back_dl {l : List Nat} (h : Lets l) : run (0, 1) (l ++ mir (dl (run (0, 1) l)).reverse) = (0, 1) := by
  have g := good_run l Good.zero
  rw [run_app]
  have := run_back (dl (run (0, 1) l)) Good.zero (lets_dl _)
  rw [run_dl g] at this
  exact this
section
variable {P : Program} {w : World} {K : PySem.W.Frag} {mg : Str → Option Value} {base : Heap} {f : Addr} {fd : FuncData}
theorem ok_runs (F : Fun K "runs" "runs" s_runs f fd) (D_quotients : Dfn P w K mg base "quotients" 1 ["fraction"] (spQuo K)) (y_enumerate : mg "enumerate" = none)  : FnOk P w K mg base CX0 2 f fd ["fraction"] spRuns := by
  refine F.ok sc_runs (fun vs H Q E h => ?_) (fun cdv A outer s H vs Q E hr h => ?_)
  · obtain ⟨t, v, rfl, hT, g, z1, z2, q⟩ := h
    rfl
  obtain ⟨t, v, rfl, hT, g, z1, z2, q⟩ := h
  refine ⟨_, (pss_cons (ps_set (i := 1) sc_runs.nd rfl (.inr rfl) (pe_ifExp (pt_cmpR op_lt (pe_ix ix_tup (pv 0) pe_int (fun _ _ => rfl)) pe_int (nomark _)) pe_str pe_str))
    (pss_one (ps_ret (pe_revL (pe_lc (own := [("k", 2), ("part", 3)]) (g := (gTup K 2 (gCons (gName 2) (gCons (gName 3) gNil)))) (tt := tYes) (by rfl) sc_runs.nd (pi_enum rfl y_enumerate (pa_cons (pe_do D_quotients hr (pa_cons (pv 0) pa_nil)) pa_nil)) (blkOk_by (own := [("k", 2), ("part", 3)]) (N := ["fraction", "letters", "k", "part"]) (sc := defScope s_runs) (by decide +kernel)) (fun _ _ _ _ _ => pg_tup (by rfl) (pgs_cons (pg_name (i := 2) sc_runs.nd rfl (.inl rfl)) (pgs_cons (pg_name (i := 3) sc_runs.nd rfl (.inl rfl)) pgs_nil))) (fun _ _ _ _ _ => pts_nil) (fun _ _ _ _ _ => (pe_tup (pa_cons (pe_ix ix_str (pv 1) (pe_op op_odd (pv 2) pe_int) (fun _ _ => rfl)) (pa_cons (pv 3) pa_nil))))))))), ?_⟩
  rw [e_UT3, e_TU3]
  have two : 2 ≤ sizeLine := fits (by decide)
  refine ⟨_, rfl, t, _, _, _, rfl, rfl, SqT.of hT, rfl, _, _, rfl, rfl, _, rfl, ite2 (fun k => ?A) (fun k => ?B)⟩
  case A =>
    have hc : (85 = 84 ∨ 85 = 85) ∧ fl v = 85 := ⟨.inr rfl, if_pos (of_decide_eq_true k)⟩
    rw [show S [85, 84] = S [85, swc 85] from rfl]
    obtain ⟨hc, hf⟩ := hc
    rw [hf] at q
    refine ⟨_, rfl, t, v, rfl, hT, g, z1, z2, fun a H1 s1 na ha => ⟨a, _, rfl, SqL.of ha, fun D hD => lc_enum (K := K) (a := a) (xs := ((quo v).map Int.ofNat).map V.int) (fun i G => Same H1 G ∧ ∃ ts : List Addr, G D = some (.lst (ts.map V.ref)) ∧ ts.length = i ∧ ∀ (j : Nat) (u : Addr) (r : Nat × Nat), ts[j]? = some u → (al 85 (quo v))[j]? = some r → G u = some (rtup r)) ⟨same_new hD _, [], upd_same, rfl, fun j u r hu => by cases hu⟩ ?_ ?_ ?_⟩⟩
    · rintro i G _ ⟨sG, _⟩
      exact SqL.of (sG _ _ ha)
    · rintro i x G T hx ⟨sG, ts, hG, tl, tv⟩ hT2
      rw [List.getElem?_map, List.getElem?_map] at hx
      cases hq : (quo v)[i]? with
      | none => rw [hq] at hx; cases hx
      | some b =>
        rw [hq] at hx
        cases hx
        have hi : i < (quo v).length := (List.getElem?_eq_some_iff.mp hq).1
        have ql := quo_len z2 (by decide)
        refine ⟨T, _, rfl, SqT.of upd_same, rfl, _, _, rfl, _, _, rfl, rfl, rfl, ?_⟩
        refine ⟨_, rfl, _, rfl, i, rfl, rfl, S [85, swc 85], _, _, rfl, rfl, fits (by decide +kernel), pick_fl hc i, _, rfl, two, fun u hu => ?_⟩
        have S2 : Same G (upd (upd G T (.tup [V.int (i : Nat), V.int (Int.ofNat b)])) u (.tup [.str (S [if i % 2 = 0 then 85 else swc 85]), V.int (Int.ofNat b)])) := (same_new hT2 _).trans (same_new hu _)
        refine ⟨_, S2 _ _ hG, Nat.lt_of_lt_of_le (show (ts.map V.ref).length < 16777216 by rw [List.length_map]; omega) sizeLine_big, fun x o hx => ?_, ts ++ [u], by rw [upd_same, List.map_append]; rfl, by rw [List.length_append, tl]; rfl, rn_add (r := (if i % 2 = 0 then 85 else swc 85, b)) (S2 _ _ hG) (fun j u' r' h1 h2 => S2 _ _ (tv j u' r' h1 h2)) (by rw [tl, al_get _ _ _ hc, hq]; rfl) upd_same⟩
        rw [upd_ne (ne_of_none hx hD)]
        exact S2 _ _ (sG _ _ hx)
    · rintro G ⟨sG, ts, hG, tl, tv⟩
      rw [List.length_map, List.length_map] at tl
      refine ⟨D, _, rfl, SqL.of hG, fun rp hrp => ?_⟩
      have S3 := same_new hrp (.lst (ts.map V.ref).reverse)
      have hn : H rp = none := by
        cases e : H rp with
        | none => rfl
        | some o =>
          have := (s1.trans sG) _ _ e
          rw [hrp] at this
          cases this
      exact q rp _ ((s1.trans sG).trans S3) hn (rn_rev upd_same (by rw [tl, al_len]) (fun j u r h1 h2 => S3 _ _ (tv j u r h1 h2)))
  case B =>
    have hc : (84 = 84 ∨ 84 = 85) ∧ fl v = 84 := ⟨.inl rfl, if_neg (fun z => k (decide_eq_true z))⟩
    rw [show S [84, 85] = S [84, swc 84] from rfl]
    obtain ⟨hc, hf⟩ := hc
    rw [hf] at q
    refine ⟨_, rfl, t, v, rfl, hT, g, z1, z2, fun a H1 s1 na ha => ⟨a, _, rfl, SqL.of ha, fun D hD => lc_enum (K := K) (a := a) (xs := ((quo v).map Int.ofNat).map V.int) (fun i G => Same H1 G ∧ ∃ ts : List Addr, G D = some (.lst (ts.map V.ref)) ∧ ts.length = i ∧ ∀ (j : Nat) (u : Addr) (r : Nat × Nat), ts[j]? = some u → (al 84 (quo v))[j]? = some r → G u = some (rtup r)) ⟨same_new hD _, [], upd_same, rfl, fun j u r hu => by cases hu⟩ ?_ ?_ ?_⟩⟩
    · rintro i G _ ⟨sG, _⟩
      exact SqL.of (sG _ _ ha)
    · rintro i x G T hx ⟨sG, ts, hG, tl, tv⟩ hT2
      rw [List.getElem?_map, List.getElem?_map] at hx
      cases hq : (quo v)[i]? with
      | none => rw [hq] at hx; cases hx
      | some b =>
        rw [hq] at hx
        cases hx
        have hi : i < (quo v).length := (List.getElem?_eq_some_iff.mp hq).1
        have ql := quo_len z2 (by decide)
        refine ⟨T, _, rfl, SqT.of upd_same, rfl, _, _, rfl, _, _, rfl, rfl, rfl, ?_⟩
        refine ⟨_, rfl, _, rfl, i, rfl, rfl, S [84, swc 84], _, _, rfl, rfl, fits (by decide +kernel), pick_fl hc i, _, rfl, two, fun u hu => ?_⟩
        have S2 : Same G (upd (upd G T (.tup [V.int (i : Nat), V.int (Int.ofNat b)])) u (.tup [.str (S [if i % 2 = 0 then 84 else swc 84]), V.int (Int.ofNat b)])) := (same_new hT2 _).trans (same_new hu _)
        refine ⟨_, S2 _ _ hG, Nat.lt_of_lt_of_le (show (ts.map V.ref).length < 16777216 by rw [List.length_map]; omega) sizeLine_big, fun x o hx => ?_, ts ++ [u], by rw [upd_same, List.map_append]; rfl, by rw [List.length_append, tl]; rfl, rn_add (r := (if i % 2 = 0 then 84 else swc 84, b)) (S2 _ _ hG) (fun j u' r' h1 h2 => S2 _ _ (tv j u' r' h1 h2)) (by rw [tl, al_get _ _ _ hc, hq]; rfl) upd_same⟩
        rw [upd_ne (ne_of_none hx hD)]
        exact S2 _ _ (sG _ _ hx)
    · rintro G ⟨sG, ts, hG, tl, tv⟩
      rw [List.length_map, List.length_map] at tl
      refine ⟨D, _, rfl, SqL.of hG, fun rp hrp => ?_⟩
      have S3 := same_new hrp (.lst (ts.map V.ref).reverse)
      have hn : H rp = none := by
        cases e : H rp with
        | none => rfl
        | some o =>
          have := (s1.trans sG) _ _ e
          rw [hrp] at this
          cases this
      exact q rp _ ((s1.trans sG).trans S3) hn (rn_rev upd_same (by rw [tl, al_len]) (fun j u r h1 h2 => S3 _ _ (tv j u r h1 h2)))
end
section
variable {P : Program} {w : World} {K : PySem.W.Frag} {mg : Str → Option Value} {base : Heap} {f : Addr} {fd : FuncData}
theorem ok_undo (F : Fun K "undo" "undo" s_undo f fd) (D_backward : Dfn P w K mg base "backward" 4 ["dance"] spBack) (D_runs : Dfn P w K mg base "runs" 4 ["fraction"] spRuns) (D_num : Dfn P w K mg base "number" 4 ["dance"] spNum)  : FnOk P w K mg base CX0 5 f fd ["dance"] spUndo := by
  refine F.ok sc_undo (fun vs H Q E h => ?_) (fun cdv A outer s H vs Q E hr h => ?_)
  · obtain ⟨l, rfl, hl, zl, q⟩ := h
    rfl
  obtain ⟨l, rfl, hl, zl, q⟩ := h
  refine ⟨_, (pss_one (ps_ret (pe_do D_backward hr (pa_cons (pe_join pe_str (pe_lc (own := [("letter", 1), ("many", 2)]) (g := (gTup K 2 (gCons (gName 1) (gCons (gName 2) gNil)))) (tt := tYes) (by rfl) sc_undo.nd (pi_list (pe_do D_runs hr (pa_cons (pe_do D_num hr (pa_cons (pv 0) pa_nil)) pa_nil))) (blkOk_by (own := [("letter", 1), ("many", 2)]) (N := ["dance", "letter", "many"]) (sc := defScope s_undo) (by decide +kernel)) (fun _ _ _ _ _ => pg_tup (by rfl) (pgs_cons (pg_name (i := 1) sc_undo.nd rfl (.inl rfl)) (pgs_cons (pg_name (i := 2) sc_undo.nd rfl (.inl rfl)) pgs_nil))) (fun _ _ _ _ _ => pts_nil) (fun _ _ _ _ _ => (pe_op op_mul_str (pv 1) (pv 2))))) pa_nil)))), ?_⟩
  have g := good_run l Good.zero
  have rs := run_small (l := l) (by omega)
  have st := stp_run l Good.zero
  rw [stp_zero] at st
  have ld := len_dl g
  refine ⟨⟨_, rfl⟩, _, rfl, l, rfl, fun t H1 s1 T1 => ⟨t, _, rfl, T1, g, rs.1, rs.2, fun a H2 s2 na hR => ?_⟩⟩
  obtain ⟨ts, ha, tl, tv⟩ := hR
  have ps_mem : ∀ r ∈ (al (fl (run (0, 1) l)) (quo (run (0, 1) l))).reverse, (r.1 = 84 ∨ r.1 = 85) ∧ r.2 ≤ 1000 := fun r hr => by
    have hr' := List.mem_reverse.mp hr
    refine ⟨al_or _ _ (fl_or _) r hr', ?_⟩
    have : r.2 ∈ quo (run (0, 1) l) := by
      rw [← al_two (quo (run (0, 1) l)) (fl (run (0, 1) l))]
      exact List.mem_map.mpr ⟨r, hr', rfl⟩
    have := le_sum this
    have h2 := quo_stp g
    have h3 : 0 < (quo (run (0, 1) l)).length := List.length_pos_iff.mpr (quo_ne g)
    omega
  have jl := joinL_len ((al (fl (run (0, 1) l)) (quo (run (0, 1) l))).reverse.map wd) (fun z => by
    have := congrArg List.length z
    rw [List.length_map, List.length_reverse, al_len] at this
    exact quo_ne g (List.length_eq_zero_iff.mp this))
  have eD : TL.joinL [82] ((al (fl (run (0, 1) l)) (quo (run (0, 1) l))).reverse.map wd) = dl (run (0, 1) l) := rfl
  rw [eD] at jl
  generalize (al (fl (run (0, 1) l)) (quo (run (0, 1) l))).reverse = ps at *
  refine ⟨a, rfl, ⟨_, SqL.of ha⟩, fun D hD => lc_list (K := K) (a := a) (xs := ts.map V.ref) (fun i G => Same H2 G ∧ G D = some (.lst ((ps.take i).map fun r => V.str (S (wd r))))) ⟨same_new hD _, upd_same⟩ ?_ ?_ ?_⟩
  · rintro i G _ ⟨sG, _⟩
    exact SqL.of (sG _ _ ha)
  · rintro i x G hx ⟨sG, hG⟩
    rw [List.getElem?_map] at hx
    have hi : i < ts.length := by
      cases e : ts[i]? with
      | none => rw [e] at hx; cases hx
      | some u => exact (List.getElem?_eq_some_iff.mp e).1
    have hti : ts[i]? = some ts[i] := List.getElem?_eq_getElem hi
    rw [hti] at hx
    cases hx
    have hpi : ps[i]? = some ps[i] := List.getElem?_eq_getElem (by omega)
    have pm := ps_mem ps[i] (List.getElem_mem (by omega))
    generalize ps[i] = r at hpi pm
    generalize ts[i] = u at hti ⊢
    have T := sG _ _ (tv i u r hti hpi)
    refine ⟨u, _, rfl, SqT.of T, rfl, _, _, rfl, _, _, rfl, rfl, rfl, ?_⟩
    refine ⟨_, rfl, _, rfl, [r.1], (r.2 : Int), rfl, rfl, by omega, by omega, by rw [Int.toNat_natCast]; show 1 * r.2 ≤ _; omega, ?_⟩
    rw [Int.toNat_natCast, flat_one]
    refine ⟨_, hG, ?_, fun b o hb => ?_, ?_⟩
    · rw [List.length_map, List.length_take]
      have : ps.length ≤ 1001 := by
        rw [List.length_map] at jl
        omega
      exact Nat.lt_of_lt_of_le (show min i ps.length < 16777216 by omega) sizeLine_big
    · rw [upd_ne (ne_of_none hb hD)]
      exact sG _ _ hb
    · rw [upd_same, List.take_add_one, hpi, List.map_append]
      rfl
  · rintro G ⟨sG, hG⟩
    rw [List.length_map, tl, List.take_of_length_le (Nat.le_refl _)] at hG
    refine ⟨S [82], D, (ps.map wd).map S, by rw [e_R], rfl, .inl (SqL.of ?_), ?_, ?_⟩
    · rw [hG, List.map_map, List.map_map]
      rfl
    · rw [sum_S, S_len, List.length_map]
      show _ + _ * 1 ≤ 16777216
      omega
    · rw [join_S, eD]
      exact ⟨_, rfl, lets_dl _, by omega, fun H' s' => q H' ((s1.trans s2).trans (sG.trans s'))⟩
end
section
variable {P : Program} {w : World} {K : PySem.W.Frag} {mg : Str → Option Value} {base : Heap} {f : Addr} {fd : FuncData}
theorem ok_law_steps (F : Fun K "_law_steps" "_law_steps" s_law_steps f fd) (y_abs : mg "abs" = none) (y_int : mg "int" = none)  : FnOk P w K mg base CX0 1 f fd ["value"] spSteps := by
  refine F.ok sc_law_steps (fun vs H Q E h => ?_) (fun cdv A outer s H vs Q E hr h => ?_)
  · obtain ⟨t, v, rfl, hT, g, z1, z2, q⟩ := h
    rfl
  obtain ⟨t, v, rfl, hT, g, z1, z2, q⟩ := h
  refine ⟨_, (pss_cons (ps_set (i := 1) sc_law_steps.nd rfl (.inl rfl) (pe_callB call_abs rfl y_abs (by decide +kernel) (pa_cons (pe_ix ix_tup (pv 0) pe_int (fun _ _ => rfl)) pa_nil)))
    (pss_cons (ps_set (i := 2) sc_law_steps.nd rfl (.inl rfl) (pe_ix ix_tup (pv 0) pe_int (fun _ _ => rfl)))
    (pss_cons (ps_if (pt_cmpR op_eq (pv 2) pe_int (nomark _)) (pss_one (ps_ret pe_int)) pss_nil)
    (pss_cons (ps_set (i := 3) sc_law_steps.nd rfl (.inl rfl) (pe_op op_sub pe_int pe_int))
    (pss_cons (ps_while PassesOwn.never (pt_cmpR op_gt (pv 2) pe_int (nomark _)) (pss_cons (ps_set (i := 3) sc_law_steps.nd rfl (.inl rfl) (pe_op op_add (pe_op op_add (pv 3) pe_int) (pe_op op_fdivW (pv 1) (pv 2))))
    (pss_one (ps_par (i := 1) (j := 2) (by rfl) sc_law_steps.nd rfl rfl (by decide) rfl rfl (pa_cons (pv 2) (pa_cons (pe_op op_modN (pe_callTy call_int1 rfl y_int (by decide +kernel) (pa_cons (pv 1) pa_nil)) (pv 2)) pa_nil)) (by rfl)))))
    (pss_one (ps_ret (pv 3)))))))), ?_⟩
  obtain ⟨p, q'⟩ := v
  refine ⟨_, rfl, t, _, _, _, rfl, rfl, SqT.of hT, rfl, _, rfl, ?_⟩
  have e2 : (if p < 0 then -p else p) = (p.natAbs : Int) := by split <;> omega
  simp only [e2]
  refine ⟨_, rfl, t, _, _, _, rfl, rfl, SqT.of hT, rfl, ?_⟩
  refine ⟨_, rfl, rfl, _, rfl, ite2 (fun c => ?_) (fun c => ?_)⟩
  · have k : q' = 0 := V.int.inj (of_decide_eq_true c)
    subst k
    have := q H (Same.refl H)
    rw [stp_inf] at this
    exact this
  have k : ¬ q' = 0 := fun z => c (decide_eq_true (congrArg V.int z))
  have h0 : 0 < q' := by
    rcases g.1 with h1 | h1
    · exact h1
    · cases h1; exact absurd rfl k
  have es := stp_fin (p := p) h0
  refine ⟨_, _, rfl, rfl, ?_⟩
  refine while_by (fun σ G => G = H ∧ ∃ (x y : Nat) (a : Int), σ = [some (.ref t), some (.int (x : Int)), some (.int (y : Int)), some (.int a)] ∧ a + (EQ x y : Int) = (stp (p, q') : Int) ∧ y < 2 ^ 8000) (fun σ _ => match σ with | [_, _, some (.int b), _] => b.natAbs | _ => 0) ⟨rfl, p.natAbs, q'.natAbs, 0 - 1, by rw [Int.natAbs_of_nonneg (Int.le_of_lt h0)]; rfl, by omega, z2⟩ ?_ ?_
  · rintro σ _ ⟨rfl, x, y, a, rfl, ea, yb⟩
    refine ⟨_, rfl, _, _, rfl, rfl, _, rfl, ite2 (fun c1 => ?_) (fun c1 => ?_)⟩
    · have y0 : 0 < y := by
        have : (0 : Int) < (y : Int) := of_decide_eq_true c1
        omega
      have gd := wide_div (i := (x : Int)) (j := (y : Int)) (b := 8000) (by omega) (by rw [Int.natAbs_natCast]; exact yb) (by decide) (by decide)
      refine ⟨_, rfl, _, _, rfl, rfl, _, rfl, _, rfl, _, _, rfl, rfl, gd, _, _, rfl, rfl, ?_⟩
      refine ⟨_, rfl, _, rfl, .inl ⟨_, rfl, _, rfl, _, _, rfl, rfl, (show (y : Int) ≠ 0 by omega), _, _, rfl, ⟨rfl, y, x % y, a + 1 + ((x / y : Nat) : Int), ?_, ?_, Nat.lt_trans (Nat.mod_lt _ y0) yb⟩, ?_⟩⟩
      · have em : ((x : Int).fmod (y : Int)) = ((x % y : Nat) : Int) := by
          rw [Int.fmod_eq_emod_of_nonneg _ (Int.natCast_nonneg y)]
          rfl
        rw [← em]
        rfl
      · rw [EQ_step y0] at ea
        generalize EQ y (x % y) = e3 at ea ⊢
        generalize x / y = e4 at ea ⊢
        omega
      · show ((x : Int).fmod (y : Int)).natAbs < (y : Int).natAbs
        exact fmod_less (by omega)
    · have y0 : y = 0 := by
        have : ¬ (0 : Int) < (y : Int) := fun z => c1 (decide_eq_true z)
        omega
      subst y0
      rw [EQ_zero] at ea
      have : a = (stp (p, q') : Int) := by omega
      subst this
      exact ⟨_, rfl, q _ (Same.refl _)⟩
  · rintro σ H' Q1 Q2 hm ⟨v, e, i, j, e1, e2, b, e3, qq⟩
    exact ⟨v, e, i, j, e1, e2, b, e3, hm _ _ qq⟩
end
def spDue : Sp := fun vs H Q _ => ∃ (t : Addr) (v : Int × Int), vs = [.ref t] ∧ Tup2 H t v ∧ Good v ∧ stp v ≤ 1000 ∧ ∀ H', Same H H' → Q (.str (S (ud v))) H'
def spFirst : Sp := fun vs H Q _ => ∃ (t : Addr) (v : Int × Int), vs = [.ref t] ∧ Tup2 H t v ∧ Good v ∧ stp v < 6 ∧ ∀ H', Same H H' → Q (.str (S (ud v))) H'
def spLaw (K : PySem.W.Frag) : Sp := fun vs H Q _ => ∃ (a : Addr) (ns : List Int), vs = [.ref a] ∧ SqL K H a (ns.map V.int) ∧ ns.length ≤ 63 ∧ ∀ H', Q (.bl true) H'
def spLawK (K : PySem.W.Frag) : Sp := spLaw K
theorem e_RTU : (("RTU" : Str)) = S [82, 84, 85] := by decide +kernel
theorem size8 {v : Int × Int} (g : Good v) (h : stp v ≤ 7000) : v.1.natAbs < 2 ^ 8000 ∧ v.2.natAbs < 2 ^ 8000 := by
  have := stp_size _ v g rfl
  have e : 2 ^ stp v < 2 ^ 8000 := Nat.pow_lt_pow_right (by decide) (by omega)
  exact ⟨Nat.lt_of_le_of_lt this.1 e, Nat.lt_of_le_of_lt this.2 e⟩
theorem filt_len (v : Int × Int) (i : Nat) : ((([82, 84, 85] : List Nat).take i).filter (down v)).length ≤ 3 := by
  have h1 := List.length_filter_le (down v) (([82, 84, 85] : List Nat).take i)
  rw [List.length_take] at h1
  have : ([82, 84, 85] : List Nat).length = 3 := rfl
  omega
theorem pick2 {r : Int} (h0 : 0 ≤ r) (h1 : r < 2) : ∃ z : Int, atI [V.int 40, .int 6] r = some (.int z) ∧ 0 ≤ z ∧ z ≤ 40 := by
  obtain ⟨c, hc, m⟩ := atI_mk (xs := [V.int 40, .int 6]) h0 h1
  simp only [List.mem_cons, List.not_mem_nil, or_false] at m
  rcases m with rfl | rfl
  · exact ⟨40, hc, by decide, by decide⟩
  · exact ⟨6, hc, by decide, by decide⟩
section
/-! ### what the head tells: the table of opposites, the law's promise -/
theorem key_is {e : DictEntry} {x : Str} {k : Int} (h : He.keyOf e = some (x, k)) : ∃ t, e.key = .str x t := by
  unfold He.keyOf at h
  split at h
  · rename_i y t q
    obtain ⟨h1, _⟩ := Prod.mk.inj (Option.some.inj h)
    exact ⟨t, by rw [q, h1]⟩
  · cases h
theorem opp_of {K : PySem.W.Frag} {w : World} {a : Addr} (hd : He.dicW K a = some (He.keysIn w.params ["T", "U", "R"])) (hv : He.valsB K a [("T", .str "U"), ("U", .str "T"), ("R", .str "R")] = true) : Opp K w a := by
  obtain ⟨es, n, D⟩ := He.dicW_ok hd
  have v1 := He.valsB_ok hv (q := ("T", .str "U")) (List.mem_cons_self ..)
  have v2 := He.valsB_ok hv (q := ("U", .str "T")) (List.mem_cons_of_mem _ (List.mem_cons_self ..))
  have v3 := He.valsB_ok hv (q := ("R", .str "R")) (List.mem_cons_of_mem _ (List.mem_cons_of_mem _ (List.mem_cons_self ..)))
  refine ⟨⟨es, n, D⟩, fun c hc => ?_, fun c hc => ?_⟩
  · rcases letter_iff.mp hc with rfl | rfl | rfl
    · rw [← e_T, show opp 84 = 85 from rfl, ← e_U]; exact v1
    · rw [← e_U, show opp 85 = 84 from rfl, ← e_T]; exact v2
    · rw [← e_R, show opp 82 = 82 from rfl, ← e_R]; exact v3
  · have lk := D.at_
    unfold He.dicW at hd
    rw [lk] at hd
    have keys : es.toList.map He.keyOf = He.keysIn w.params ["T", "U", "R"] := by
      simp only at hd
      split at hd
      · exact Option.some.inj hd
      · cases hd
    obtain ⟨e1, r1, q1, k1, m1⟩ := List.map_eq_cons_iff.mp keys
    obtain ⟨e2, r2, q2, k2, m2⟩ := List.map_eq_cons_iff.mp m1
    obtain ⟨e3, r3, q3, k3, m3⟩ := List.map_eq_cons_iff.mp m2
    have q4 : r3 = [] := List.map_eq_nil_iff.mp m3
    subst q4
    obtain ⟨t1, k1⟩ := key_is k1
    obtain ⟨t2, k2⟩ := key_is k2
    obtain ⟨t3, k3⟩ := key_is k3
    have no : ∀ {b : Nat} {z : Str}, z = S [b] → letter b = true → ¬ z = S [c] := fun {b z} e hb q => by
      rw [e] at q
      have := S_inj q
      simp at this
      rw [this, hc] at hb
      cases hb
    have n1 := no e_T (by decide)
    have n2 := no e_U (by decide)
    have n3 := no e_R (by decide)
    unfold PySem.W.nsIn
    rw [lk]
    simp only
    rw [q1, q2, q3]
    simp [k1, k2, k3, Value.isStr, DictEntry.refKey, n1, n2, n3]
end
section
theorem dp_tup2 {K : PySem.W.Frag} {H : Hp} {t : Addr} {v : Int × Int} (h : Tup2 H t v) : Dp K H (.ref t) (.tuple [.int v.1, .int v.2]) := .tup (SqT.of h) (.cons (.int _) (.cons (.int _) .nil))
theorem can2 (a b : Int) : PyData.canLay0 (.tuple [.int a, .int b]) = true := by
  simp [PyData.canLay0, PyData.canLayAll0]
theorem sh2 (a b : Int) : SeqAt.shaped (.tuple [.int a, .int b]) = true := by
  unfold SeqAt.shaped
  rw [can2]
  simp [PyData.depth, PyData.depthAll]
theorem eqv2 (v u : Int × Int) : PyData.eqv (.tuple [.int v.1, .int v.2]) (.tuple [.int u.1, .int u.2]) = decide (v = u) := by
  obtain ⟨a, b⟩ := v
  obtain ⟨c, d⟩ := u
  by_cases h1 : a = c <;> by_cases h2 : b = d <;> simp [PyData.eqv, PyData.eqvAll, h1, h2]
end
theorem op_eqK {K : PySem.W.Frag} {X : Cx} (hK : X.K = K) (hu : X.A.units + 64 < cLine) : OpR X (compareOp .Eq) (rEqD K) := hK ▸ op_eqD hu
section
variable {P : Program} {w : World} {K : PySem.W.Frag} {mg : Str → Option Value} {base : Heap} {f : Addr} {fd : FuncData}
theorem ok_law_due (F : Fun K "_law_due" "_law_due" s_law_due f fd) (D_law_steps : Dfn P w K mg base "_law_steps" 1 ["value"] spSteps) (D_called : Dfn P w K mg base "_law_called" 1 ["value", "letter"] (spCalled K)) (y_range : mg "range" = none)  : FnOk P w K mg base CX0 2 f fd ["value"] spDue := by
  refine F.ok sc_law_due (fun vs H Q E h => ?_) (fun cdv A outer s H vs Q E hr h => ?_)
  · obtain ⟨t, v, rfl, hT, g, zv, q⟩ := h
    rfl
  obtain ⟨t, v, rfl, hT, g, zv, q⟩ := h
  refine ⟨_, (pss_cons (ps_set (i := 1) sc_law_due.nd rfl (.inl rfl) pe_str)
    (pss_cons (ps_for PassesOwn.never rfl (pi_range1 rfl y_range (pa_cons (pe_do D_law_steps hr (pa_cons (pv 0) pa_nil)) pa_nil)) (pg_name (i := 2) sc_law_due.nd rfl (.inl rfl))
    (pss_cons (ps_setLc (i := 3) (own := [("letter", 4)]) (g := (gName 4)) (by rfl) sc_law_due.nd rfl rfl (sw_true rfl rfl rfl (by decide +kernel)) (pi_str pe_str) (blkOk_by (own := [("letter", 4)]) (N := ["value", "dance", "left", "good", "letter"]) (sc := defScope s_law_due) (by decide +kernel)) (fun _ _ _ _ _ => pg_name (i := 4) sc_law_due.nd rfl (Or.inl rfl)) (fun _ _ _ _ _ => (pts_one (pt_cmpR op_eq (pe_do D_law_steps hr (pa_cons (pe_do D_called hr (pa_cons (pv 0) (pa_cons (pv 4) pa_nil))) pa_nil)) (pe_op op_sub (pe_do D_law_steps hr (pa_cons (pv 0) pa_nil)) pe_int) (nomark _)))) (fun _ _ _ _ _ => (pv 4)))
    (pss_cons (ps_set (i := 1) sc_law_due.nd rfl (.inl rfl) (pe_op op_add_str (pv 1) (pe_ix ix_list (pv 3) pe_int (fun _ _ => rfl))))
    (pss_one (ps_set (i := 0) sc_law_due.nd rfl (.inr rfl) (pe_do D_called hr (pa_cons (pv 0) (pa_cons (pe_ix ix_list (pv 3) pe_int (fun _ _ => rfl)) pa_nil))))))))
    (pss_one (ps_ret (pv 1))))), ?_⟩
  have z8 := size8 g (by omega)
  refine ⟨_, rfl, t, v, rfl, hT, g, z8.1, z8.2, fun H1 s1 => ?_⟩
  refine ⟨(stp v : Int), rfl, by omega, by omega, for_range (lo := 0) (n := (stp v : Int).toNat) (fun i σ G => ∃ (t' : Addr) (v' : Int × Int) (s : List Nat) (x2 x3 x4 : Option V), σ = [some (.ref t'), some (.str (S s)), x2, x3, x4] ∧ Same H G ∧ Tup2 G t' v' ∧ Good v' ∧ stp v' + i = stp v ∧ s.length = i ∧ ud v = s ++ ud v') ?_ ?_ ?_⟩
  · exact ⟨t, v, [], _, _, _, by rw [e_empty]; rfl, s1, hT.same s1, g, rfl, rfl, rfl⟩
  · rintro i σ G hi ⟨t', v', s, x2, x3, x4, rfl, sG, T', g', es, ls, eu⟩
    rw [Int.toNat_natCast] at hi
    have n' : v' ≠ (0, 1) := fun z => by rw [z, stp_zero] at es; omega
    have us := ud_step g' n'
    have z8' := size8 g' (by omega)
    rw [e_RTU]
    refine ⟨_, rfl, fun D hD => lc_str (l := [82, 84, 85]) (fun j F => Same G F ∧ F D = some (.lst (((([82, 84, 85] : List Nat).take j).filter (down v')).map fun c => V.str (S [c])))) ⟨same_new hD _, upd_same⟩ ?_ ?_⟩
    · rintro j c F hc ⟨sF, hF⟩
      have near := stp_near g' c
      have zc := size8 (g'.called c) (by omega)
      refine ⟨rfl, _, rfl, _, rfl, t', v', c, rfl, T'.same sF, fun u F1 f1 U1 => ⟨u, _, rfl, U1, g'.called c, zc.1, zc.2, fun F2 f2 => ?_⟩⟩
      refine ⟨_, rfl, t', v', rfl, ((T'.same sF).same f1).same f2, g', z8'.1, z8'.2, fun F3 f3 => ⟨_, _, rfl, rfl, rfl, _, rfl, ?_⟩⟩
      have ed : decide (V.int (stp (called v' c) : Int) = V.int ((stp v' : Int) - 1)) = down v' c := by
        unfold down
        rw [decide_eq_decide]
        constructor
        · intro h
          have := V.int.inj h
          omega
        · intro h
          have : (stp (called v' c) : Int) = (stp v' : Int) - 1 := by omega
          rw [this]
      have S3 := f1.trans (f2.trans f3)
      have ft : ([82, 84, 85] : List Nat).take (j + 1) = ([82, 84, 85] : List Nat).take j ++ [c] := by rw [List.take_add_one, hc]; rfl
      rw [ed]
      refine ite2 (fun k => ?_) (fun k => ?_)
      · refine ⟨_, rfl, _, S3 _ _ hF, ?_, fun b o hb => ?_, ?_⟩
        · rw [List.length_map]
          have := filt_len v' j
          exact Nat.lt_of_lt_of_le (show (List.filter (down v') (([82, 84, 85] : List Nat).take j)).length < 16777216 by omega) sizeLine_big
        · rw [upd_ne (ne_of_none hb hD)]
          exact S3 _ _ (sF _ _ hb)
        · rw [upd_same, ft, List.filter_append, List.filter_cons_of_pos k, List.map_append]
          rfl
      · refine ⟨sF.trans S3, ?_⟩
        rw [ft, List.filter_append, List.filter_cons_of_neg k, List.filter_nil, List.append_nil]
        exact S3 _ _ hF
    · rintro F ⟨sF, hF⟩
      have hF' : F D = some (.lst ((([82, 84, 85] : List Nat).filter (down v')).map fun c => V.str (S [c]))) := hF
      obtain ⟨r, er⟩ := gl_head g' n'
      rw [er, List.map_cons] at hF'
      have dn := of_decide_eq_true us.2
      refine ⟨_, rfl, _, rfl, D, _, _, _, rfl, rfl, SqL.of hF', (atI_nat (j := 0) rfl : atI (V.str (S [gl v']) :: _) ((0 : Nat) : Int) = some (V.str (S [gl v']))), _, _, rfl, rfl, by rw [S_len, S_len]; exact fits (by show _ + 1 ≤ _; omega), ?_⟩
      rw [S_app]
      refine ⟨_, rfl, _, rfl, D, _, _, _, rfl, rfl, SqL.of hF', (atI_nat (j := 0) rfl : atI (V.str (S [gl v']) :: _) ((0 : Nat) : Int) = some (V.str (S [gl v']))), t', v', gl v', rfl, T'.same sF, fun u F1 f1 U1 => ?_⟩
      exact ⟨u, called v' (gl v'), s ++ [gl v'], _, _, _, rfl, sG.trans (sF.trans f1), U1, g'.called _, by omega, by rw [List.length_append, ls]; rfl, by rw [eu, us.1, List.append_assoc]; rfl⟩
  · rintro σ G ⟨t', v', s, x2, x3, x4, rfl, sG, T', g', es, ls, eu⟩
    rw [Int.toNat_natCast] at es
    have : v' = (0, 1) := stp_eq_zero g' (by omega)
    rw [this, ud_zero, List.append_nil] at eu
    rw [eu] at q
    exact ⟨_, rfl, q G sG⟩
end
section
variable {P : Program} {w : World} {K : PySem.W.Frag} {mg : Str → Option Value} {base : Heap} {f : Addr} {fd : FuncData}
theorem ok_law_first (F : Fun K "_law_first" "_law_first" s_law_first f fd) (D_called : Dfn P w K mg base "_law_called" 1 ["value", "letter"] (spCalled K)) (y_range : mg "range" = none) (y_len : mg "len" = none)  : FnOk P w K mg base CX0 2 f fd ["value"] spFirst := by
  refine F.ok sc_law_first (fun vs H Q E h => ?_) (fun cdv A outer s H vs Q E hr h => ?_)
  · obtain ⟨t, v, rfl, hT, g, zv, q⟩ := h
    rfl
  obtain ⟨t, v, rfl, hT, g, zv, q⟩ := h
  refine ⟨_, (pss_cons (ps_set (i := 1) sc_law_first.nd rfl (.inl rfl) (pe_lst (pa_cons (pe_tup (pa_cons pe_str (pa_cons (pv 0) pa_nil))) pa_nil)))
    (pss_cons (ps_for PassesOwn.never rfl (pi_range1 rfl y_range (pa_cons pe_int pa_nil)) (pg_name (i := 2) sc_law_first.nd rfl (.inl rfl))
    (pss_cons (ps_setLc (i := 3) (own := [("row", 8)]) (g := (gName 8)) (by rfl) sc_law_first.nd rfl rfl (sw_true rfl rfl rfl (by decide +kernel)) (pi_list (pv 1)) (blkOk_by (own := [("row", 8)]) (N := ["value", "rows", "turn", "good", "longer", "dance", "one", "letter", "row"]) (sc := defScope s_law_first) (by decide +kernel)) (fun _ _ _ _ _ => pg_name (i := 8) sc_law_first.nd rfl (Or.inl rfl)) (fun _ _ _ _ _ => (pts_one (pt_cmpR (op_eqK (K := K) rfl hr.units) (pe_ix (r := rIxT K) ix_tup (pv 8) pe_int (fun _ _ => rfl)) (pe_tup (pa_cons pe_int (pa_cons pe_int pa_nil))) (nomark _)))) (fun _ _ _ _ _ => (pe_ix (r := rIxT K) ix_tup (pv 8) pe_int (fun _ _ => rfl))))
    (pss_cons (ps_if (pt_cmpR op_gt (pe_callB call_len_seq rfl y_len PySem.boot_len (pa_cons (pv 3) pa_nil)) pe_int (nomark _)) (pss_one (ps_ret (pe_ix ix_list (pv 3) pe_int (fun _ _ => rfl)))) pss_nil)
    (pss_cons (ps_set (i := 4) sc_law_first.nd rfl (.inl rfl) (pe_lst pa_nil))
    (pss_cons (ps_for PassesOwn.never rfl (pi_list (pv 1)) (pg_tup (by rfl) (pgs_cons (pg_name (i := 5) sc_law_first.nd rfl (.inl rfl)) (pgs_cons (pg_name (i := 6) sc_law_first.nd rfl (.inl rfl)) pgs_nil)))
    (pss_one (ps_for PassesOwn.never rfl (pi_str pe_str) (pg_name (i := 7) sc_law_first.nd rfl (.inl rfl))
    (pss_one (ps_expr (pe_bm PySem.F.plainAttrs_list PySem.F.slot_list_append PySem.F.type_list_append mt_append (pv 4) (pa_cons (pe_tup (pa_cons (pe_op op_add_str (pv 5) (pv 7)) (pa_cons (pe_do D_called hr (pa_cons (pv 6) (pa_cons (pv 7) pa_nil))) pa_nil))) pa_nil)))))))
    (pss_one (ps_set (i := 1) sc_law_first.nd rfl (.inl rfl) (pv 4))))))))
    (pss_one (ps_ret pe_non)))), ?_⟩
  have two : 2 ≤ sizeLine := fits (by decide)
  have sl := ud_len g
  refine ⟨_, rfl, two, fun t0 h0 => ⟨fits (by show 1 ≤ 16777216; decide), fun p0 hp0 => ?_⟩⟩
  have S0 : Same H (upd (upd H t0 (.tup [.str "", .ref t])) p0 (.lst [V.ref t0])) := (same_new h0 _).trans (same_new hp0 _)
  have R0 : RwAt (upd (upd H t0 (.tup [.str "", .ref t])) p0 (.lst [V.ref t0])) p0 (rws v 0) := by
    refine ⟨[t0], upd_same, rfl, fun i t' r ht hr => ?_⟩
    have : i = 0 := by
      have := (List.getElem?_eq_some_iff.mp ht).1
      have : i < 1 := this
      omega
    subst this
    cases ht; cases hr
    refine ⟨t, ?_, hT.same S0⟩
    rw [upd_ne (ne_of_none upd_same hp0), upd_same, e_empty]
  generalize upd (upd H t0 (.tup [.str "", .ref t])) p0 (.lst [V.ref t0]) = H1 at S0 R0
  refine ⟨6, rfl, by decide, by decide, for_range (lo := 0) (n := 6) (fun j σ G => ∃ (p : Addr) (x2 x3 x4 x5 x6 x7 x8 : Option V), σ = [some (.ref t), some (.ref p), x2, x3, x4, x5, x6, x7, x8] ∧ Same H G ∧ RwAt G p (rws v j) ∧ j ≤ stp v) ?_ ?_ ?_⟩
  · exact ⟨p0, _, _, _, _, _, _, _, rfl, S0, R0, Nat.zero_le _⟩
  · rintro j σ G hj ⟨p, x2, x3, x4, x5, x6, x7, x8, rfl, sG, hR, js⟩
    obtain ⟨ts, hp, tl, tv⟩ := id hR
    have rl : (rws v j).length ≤ 243 := by
      rw [rws_len]
      exact Nat.le_trans (Nat.pow_le_pow_right (by decide) (show j ≤ 5 by omega)) (by decide)
    refine ⟨_, rfl, p, rfl, ⟨_, SqL.of hp⟩, fun D hD => lc_list (K := K) (a := p) (xs := ts.map V.ref) (fun i F => Same G F ∧ F D = some (.lst (((((rws v j).take i).filter zro).map (·.1)).map fun s => V.str (S s)))) ⟨same_new hD _, upd_same⟩ ?_ ?_ ?_⟩
    · rintro i F _ ⟨sF, _⟩
      exact SqL.of (sF _ _ hp)
    · rintro i x F hx ⟨sF, hF⟩
      rw [List.getElem?_map] at hx
      have hi : i < ts.length := by
        cases e : ts[i]? with
        | none => rw [e] at hx; cases hx
        | some t => exact (List.getElem?_eq_some_iff.mp e).1
      have hti : ts[i]? = some ts[i] := List.getElem?_eq_getElem hi
      rw [hti] at hx
      cases hx
      have hri : (rws v j)[i]? = some (rws v j)[i] := List.getElem?_eq_getElem (by omega)
      generalize ts[i] = t' at hti ⊢
      generalize (rws v j)[i] = r at hri
      obtain ⟨u, a, b⟩ := tv i t' r hti hri
      have a' := sF _ _ a
      refine ⟨rfl, _, rfl, t', _, _, _, rfl, rfl, SqT.of a', rfl, two, fun tb hb => ⟨_, _, dp_tup2 ((b.same sF).same (same_new hb (.tup [.int 0, .int 1]))), dp_tup2 (H := upd F tb (.tup [.int 0, .int 1])) (t := tb) (v := (0, 1)) upd_same, sh2 _ _, sh2 _ _, ?_⟩⟩
      rw [eqv2]
      have Sb := same_new hb (.tup [.int 0, .int 1])
      have ft : ((rws v j).take (i + 1)) = (rws v j).take i ++ [r] := by rw [List.take_add_one, hri]; rfl
      refine ⟨_, rfl, ite2 (fun k => ?_) (fun k => ?_)⟩
      · refine ⟨_, rfl, t', _, _, _, rfl, rfl, SqT.of (Sb _ _ a'), rfl, _, Sb _ _ hF, ?_, fun x o hx => ?_, ?_⟩
        · rw [List.length_map, List.length_map]
          have := List.length_filter_le zro ((rws v j).take i)
          rw [List.length_take] at this
          exact Nat.lt_of_lt_of_le (show (List.filter zro ((rws v j).take i)).length < 16777216 by omega) sizeLine_big
        · rw [upd_ne (ne_of_none hx hD)]
          exact Sb _ _ (sF _ _ hx)
        · rw [upd_same, ft, List.filter_append, List.filter_cons_of_pos (show zro r = true from k), List.map_append, List.map_append]
          rfl
      · refine ⟨sF.trans Sb, ?_⟩
        rw [ft, List.filter_append, List.filter_cons_of_neg (show ¬ zro r = true from k), List.filter_nil, List.append_nil]
        exact Sb _ _ hF
    · rintro F ⟨sF, hF⟩
      rw [List.length_map, tl, List.take_of_length_le (Nat.le_refl _)] at hF
      have hF' : F D = some (.lst ((firsts v j).map fun s => V.str (S s))) := hF
      by_cases c : j = stp v
      · obtain ⟨r, er⟩ := firsts_some j v g c.symm
        rw [er, List.map_cons] at hF'
        refine ⟨_, rfl, D, _, rfl, .inl (SqL.of hF'), _, _, rfl, rfl, _, rfl, ite2 (fun _ => ?_) (fun k => absurd (decide_eq_true (by rw [List.length_cons]; omega)) k)⟩
        exact ⟨_, rfl, D, _, _, _, rfl, rfl, SqL.of hF', (atI_nat (j := 0) rfl : atI (V.str (S (ud v)) :: _) ((0 : Nat) : Int) = some (V.str (S (ud v)))), q F (sG.trans sF)⟩
      · rw [firsts_none g (show j < stp v by omega), List.map_nil] at hF'
        refine ⟨_, rfl, D, _, rfl, .inl (SqL.of hF'), _, _, rfl, rfl, _, rfl, iteF ?_⟩
        refine ⟨Nat.zero_le _, fun lp hlp => ?_⟩
        have S1 := same_new hlp (.lst [])
        have SG1 := sF.trans S1
        have nlG : G lp = none := by
          cases e : G lp with
          | none => rfl
          | some o => rw [sF _ _ e] at hlp; cases hlp
        refine ⟨_, rfl, p, rfl, ⟨_, SqL.of (SG1 _ _ hp)⟩, for_list (K := K) (a := p) (xs := ts.map V.ref) (fun i σ F => ∃ (x5 x6 x7 x8 : Option V), σ = [some (.ref t), some (.ref p), some (.int (0 + (j : Int))), some (.ref D), some (.ref lp), x5, x6, x7, x8] ∧ Same G F ∧ RwAt F lp (((rws v j).take i).flatMap ext)) ?_ ?_ ?_ ?_⟩
        · exact ⟨_, _, _, _, rfl, SG1, [], upd_same, rfl, fun i t' r ht => by cases ht⟩
        · rintro i σ F _ ⟨x5, x6, x7, x8, _, sF, _⟩
          exact SqL.of (sF _ _ hp)
        · rintro i x σ F hx ⟨x5, x6, x7, x8, rfl, sF, hQ⟩
          rw [List.getElem?_map] at hx
          have hi : i < ts.length := by
            cases e : ts[i]? with
            | none => rw [e] at hx; cases hx
            | some t => exact (List.getElem?_eq_some_iff.mp e).1
          have hti : ts[i]? = some ts[i] := List.getElem?_eq_getElem hi
          rw [hti] at hx
          cases hx
          have hri : (rws v j)[i]? = some (rws v j)[i] := List.getElem?_eq_getElem (by omega)
          have hrm : (rws v j)[i] ∈ rws v j := List.getElem_mem (by omega)
          generalize ts[i] = t' at hti ⊢
          generalize (rws v j)[i] = r at hri hrm
          obtain ⟨u, a, b⟩ := tv i t' r hti hri
          have rg := rws_good g j r hrm
          rw [e_RTU]
          refine ⟨t', _, rfl, SqT.of (sF _ _ a), rfl, _, _, rfl, _, _, rfl, rfl, ?_⟩
          refine ⟨_, rfl, for_str (l := [82, 84, 85]) (fun m σ F => ∃ (x7 x8 : Option V), σ = [some (.ref t), some (.ref p), some (.int (0 + (j : Int))), some (.ref D), some (.ref lp), some (.str (S r.1)), some (.ref u), x7, x8] ∧ Same G F ∧ RwAt F lp (((rws v j).take i).flatMap ext ++ (ext r).take m)) ?_ ?_ ?_⟩
          · refine ⟨_, _, rfl, sF, ?_⟩
            rw [List.take_zero, List.append_nil]
            exact hQ
          · rintro m c σ F2 hc ⟨x7, x8, rfl, sF2, hQ2⟩
            obtain ⟨ts2, hq2, tl2, tv2⟩ := hQ2
            have lq : (((rws v j).take i).flatMap ext ++ (ext r).take m).length ≤ 2000 := by
              have e : ∀ l : List Row, (l.flatMap ext).length = l.length * 3 := fun l => by
                induction l with
                | nil => rfl
                | cons a l ih =>
                  rw [List.flatMap_cons, List.length_append, ih, List.length_cons]
                  show 3 + _ = _
                  omega
              rw [List.length_append, e, List.length_take, List.length_take]
              have : (ext r).length = 3 := rfl
              omega
            refine ⟨_, rfl, .inl ⟨rfl, _, SqL.of hq2⟩, _, rfl, _, rfl, _, _, rfl, rfl, by rw [S_len, S_len]; exact fits (by show _ + 1 ≤ _; omega), ?_⟩
            rw [S_app]
            refine ⟨_, rfl, _, rfl, u, r.2, c, rfl, b.same sF2, fun u2 F3 f3 U2 => ⟨two, fun t2 ht2 => ?_⟩⟩
            have S3 := f3.trans (same_new ht2 (.tup [.str (S (r.1 ++ [c])), .ref u2]))
            refine ⟨lp, _, _, rfl, rfl, S3 _ _ hq2, Nat.lt_of_lt_of_le (show (ts2.map V.ref).length < 16777216 by rw [List.length_map]; omega) sizeLine_big, ?_⟩
            refine ⟨_, _, rfl, same_upd (sF2.trans S3) nlG, ?_⟩
            have et : (ext r).take (m + 1) = (ext r).take m ++ [(r.1 ++ [c], called r.2 c)] := by
              have hm : m < 3 := (List.getElem?_eq_some_iff.mp hc).1
              have : m = 0 ∨ m = 1 ∨ m = 2 := by omega
              rcases this with rfl | rfl | rfl <;> cases hc <;> rfl
            rw [et, ← List.append_assoc]
            exact RwAt.add (r := (r.1 ++ [c], called r.2 c)) (S3 _ _ hq2) tl2 (fun k t3 r3 h1 h2 => by
              obtain ⟨u3, a3, b3⟩ := tv2 k t3 r3 h1 h2
              exact ⟨u3, S3 _ _ a3, b3.same S3⟩) upd_same (U2.same (same_new ht2 _))
          · rintro σ F2 ⟨x7, x8, rfl, sF2, hQ2⟩
            refine ⟨_, _, _, _, rfl, sF2, ?_⟩
            rw [List.take_add_one, hri, List.flatMap_append]
            exact hQ2
        · rintro σ F ⟨x5, x6, x7, x8, rfl, sF, hQ⟩
          rw [List.length_map, tl, List.take_of_length_le (Nat.le_refl _)] at hQ
          exact ⟨_, rfl, lp, _, _, _, _, _, _, _, rfl, sG.trans sF, hQ, by omega⟩
  · rintro σ G ⟨p, x2, x3, x4, x5, x6, x7, x8, rfl, sG, hR, js⟩
    omega
end
section
variable {P : Program} {w : World} {K : PySem.W.Frag} {mg : Str → Option Value} {base : Heap} {f : Addr} {fd : FuncData}
theorem ok_law (F : Fun K "law" "law" s_law f fd) (D_tape : Dfn P w K mg base "_law_tape" 5 ["script", "k"] (spTape K)) (D_dance : Dfn P w K mg base "_law_dance" 5 ["tape", "most"] spDance) (D_take : Dfn P w K mg base "_law_take" 5 ["tape", "many"] spTake) (D_number : Dfn P w K mg base "_law_number" 5 ["dance"] (spNumber K)) (D_same1 : Dfn P w K mg base "_law_same" 5 ["told", "due"] (spSame 1)) (D_law_due : Dfn P w K mg base "_law_due" 5 ["value"] spDue) (D_undo : Dfn P w K mg base "undo" 5 ["dance"] spUndo) (D_law_first : Dfn P w K mg base "_law_first" 5 ["value"] spFirst) (D_law_steps : Dfn P w K mg base "_law_steps" 5 ["value"] spSteps) (y_range : mg "range" = none)  : FnOk P w K mg base CX0 6 f fd ["script"] (spLaw K) := by
  refine F.ok sc_law (fun vs H Q E h => ?_) (fun cdv A outer s H vs Q E hr h => ?_)
  · obtain ⟨sa, ns, rfl, hS, h63, q⟩ := h
    rfl
  obtain ⟨sa, ns, rfl, hS, h63, q⟩ := h
  refine ⟨_, (pss_cons (ps_for PassesOwn.never rfl (pi_range1 rfl y_range (pa_cons pe_int pa_nil)) (pg_name (i := 1) sc_law.nd rfl (.inl rfl))
    (pss_cons (ps_set (i := 2) sc_law.nd rfl (.inl rfl) (pe_do D_tape hr (pa_cons (pv 0) (pa_cons (pv 1) pa_nil))))
    (pss_cons (ps_set (i := 3) sc_law.nd rfl (.inl rfl) (pe_do D_dance hr (pa_cons (pv 2) (pa_cons (pe_ix ix_list (pe_lst (pa_cons pe_int (pa_cons pe_int pa_nil))) (pe_do D_take hr (pa_cons (pv 2) (pa_cons pe_int pa_nil))) (fun _ _ => rfl)) pa_nil))))
    (pss_cons (ps_set (i := 4) sc_law.nd rfl (.inl rfl) (pe_do D_number hr (pa_cons (pv 3) pa_nil)))
    (pss_cons (ps_if (pt_not (pt_val (pe_do D_same1 hr (pa_cons (pe_do D_undo hr (pa_cons (pv 3) pa_nil)) (pa_cons (pe_do D_law_due hr (pa_cons (pv 4) pa_nil)) pa_nil))))) (pss_one (ps_ret pe_bl)) pss_nil)
    (pss_one (ps_if (PW.pt (pw_and (pt_cmpR op_lt (pv 1) pe_int (nomark _)) (pw_and (pt_cmpR op_lt (pe_do D_law_steps hr (pa_cons (pv 4) pa_nil)) pe_int (nomark _)) (pw_and1 (pt_cmpR op_ne (pe_do D_undo hr (pa_cons (pv 3) pa_nil)) (pe_do D_law_first hr (pa_cons (pv 4) pa_nil)) (nomark _)))))) (pss_one (ps_ret pe_bl)) pss_nil)))))))
    (pss_one (ps_ret pe_bl))), ?_⟩
  refine ⟨6, rfl, by decide, by decide, for_range (lo := 0) (n := 6) (fun i σ F => ∃ (x1 x2 x3 x4 : Option V), σ = [some (.ref sa), x1, x2, x3, x4] ∧ Same H F) ?_ ?_ ?_⟩
  · exact ⟨_, _, _, _, rfl, Same.refl _⟩
  · rintro i σ F hi ⟨x1, x2, x3, x4, rfl, sF⟩
    refine ⟨_, rfl, _, rfl, sa, ns, 0 + (i : Int), rfl, sF.seq hS, by omega, fun tp F1 s1 ntp t1 => ?_⟩
    refine ⟨_, rfl, fits (by show 2 ≤ 16777216; decide), fun lp hlp => ?_⟩
    have nl := t1.ne hlp
    refine ⟨_, rfl, tp, 2, rfl, t1.same (same_new hlp _), by decide, by decide, fun r F3 r0 r1 b3 t3 => ?_⟩
    obtain ⟨z, hz2, z0, z1⟩ := pick2 r0 r1
    refine ⟨lp, _, _, _, rfl, rfl, SqL.of (b3 _ _ nl upd_same), hz2, tp, z, rfl, t3, by omega, by omega, fun l F4 hl hz b4 t4 => ?_⟩
    have S4 : Same F F4 := (((But.of s1).trans (But.of (same_new hlp _))).trans (b3.trans b4)).same (Same.refl F) ntp
    have g := good_run l Good.zero
    have st := stp_run l Good.zero
    rw [stp_zero] at st
    have z8 := size8 g (by omega)
    refine ⟨_, rfl, l, rfl, fun t F5 s5 T5 => ?_⟩
    refine ⟨_, rfl, l, rfl, hl, by omega, fun F6 s6 => ⟨_, rfl, t, _, rfl, T5.same s6, g, by omega, fun F7 s7 => ⟨_, _, .str _, rfl, str_is, str_is, _, rfl, iteF ?_⟩⟩⟩
    have S7 : Same H F7 := sF.trans (S4.trans (s5.trans (s6.trans s7)))
    refine ⟨_, rfl, _, _, rfl, rfl, _, rfl, ite2 (fun _ => ?_) (fun _ => iteF ⟨_, _, _, _, rfl, S7⟩)⟩
    refine ⟨_, rfl, t, _, rfl, (T5.same s6).same s7, g, z8.1, z8.2, fun F8 s8 => ⟨_, _, rfl, rfl, _, rfl, ite2 (fun c => ?_) (fun _ => iteF ⟨_, _, _, _, rfl, S7.trans s8⟩)⟩⟩
    have lt6 : stp (run (0, 1) l) < 6 := by
      have : (stp (run (0, 1) l) : Int) < 6 := of_decide_eq_true c
      omega
    refine ⟨_, rfl, l, rfl, hl, by omega, fun F9 s9 => ⟨_, rfl, t, _, rfl, (((T5.same s6).same s7).same s8).same s9, g, lt6, fun F10 s10 => ⟨rfl, _, rfl, ?_⟩⟩⟩
    rw [show ud (run (0, 1) l) = mir (dl (run (0, 1) l)).reverse from rfl, decide_eq_true rfl]
    exact iteF ⟨_, _, _, _, rfl, S7.trans (s8.trans (s9.trans s10))⟩
  · rintro σ F ⟨x1, x2, x3, x4, rfl, sF⟩
    exact q F
end
def d_after : He.DefD := ⟨("after", none), "after", "after", defArgs s_after, defBody s_after, defScope s_after, [], []⟩
def d_turned : He.DefD := ⟨("turned", none), "turned", "turned", defArgs s_turned, defBody s_turned, defScope s_turned, [], []⟩
def d_quotients : He.DefD := ⟨("quotients", none), "quotients", "quotients", defArgs s_quotients, defBody s_quotients, defScope s_quotients, [], []⟩
def d_number : He.DefD := ⟨("number", none), "number", "number", defArgs s_number, defBody s_number, defScope s_number, [], []⟩
def d_backward : He.DefD := ⟨("backward", none), "backward", "backward", defArgs s_backward, defBody s_backward, defScope s_backward, [], []⟩
def d_mirrored : He.DefD := ⟨("mirrored", none), "mirrored", "mirrored", defArgs s_mirrored, defBody s_mirrored, defScope s_mirrored, [], []⟩
def d_runs : He.DefD := ⟨("runs", none), "runs", "runs", defArgs s_runs, defBody s_runs, defScope s_runs, [], []⟩
def d_undo : He.DefD := ⟨("undo", none), "undo", "undo", defArgs s_undo, defBody s_undo, defScope s_undo, [], []⟩
def d__law_tape : He.DefD := ⟨("_law_tape", none), "_law_tape", "_law_tape", defArgs s_law_tape, defBody s_law_tape, defScope s_law_tape, [], []⟩
def d__law_take : He.DefD := ⟨("_law_take", none), "_law_take", "_law_take", defArgs s_law_take, defBody s_law_take, defScope s_law_take, [], []⟩
def d__law_dance : He.DefD := ⟨("_law_dance", none), "_law_dance", "_law_dance", defArgs s_law_dance, defBody s_law_dance, defScope s_law_dance, [], []⟩
def d__law_called : He.DefD := ⟨("_law_called", none), "_law_called", "_law_called", defArgs s_law_called, defBody s_law_called, defScope s_law_called, [], []⟩
def d__law_number : He.DefD := ⟨("_law_number", none), "_law_number", "_law_number", defArgs s_law_number, defBody s_law_number, defScope s_law_number, [], []⟩
def d__law_same : He.DefD := ⟨("_law_same", none), "_law_same", "_law_same", defArgs s_law_same, defBody s_law_same, defScope s_law_same, [], []⟩
def d__law_steps : He.DefD := ⟨("_law_steps", none), "_law_steps", "_law_steps", defArgs s_law_steps, defBody s_law_steps, defScope s_law_steps, [], []⟩
def d__law_due : He.DefD := ⟨("_law_due", none), "_law_due", "_law_due", defArgs s_law_due, defBody s_law_due, defScope s_law_due, [], []⟩
def d__law_first : He.DefD := ⟨("_law_first", none), "_law_first", "_law_first", defArgs s_law_first, defBody s_law_first, defScope s_law_first, [], []⟩
def d_law : He.DefD := ⟨("law", none), "law", "law", defArgs s_law, defBody s_law, defScope s_law, [], []⟩
def dfs : List He.DefD := [d_after, d_turned, d_quotients, d_number, d_backward, d_mirrored, d_runs, d_undo, d__law_tape, d__law_take, d__law_dance, d__law_called, d__law_number, d__law_same, d__law_steps, d__law_due, d__law_first, d_law]
def fas : List He.Fa := [.glo "after", .glo "turned", .glo "quotients", .glo "number", .glo "backward", .glo "mirrored", .glo "runs", .glo "undo", .glo "_law_tape", .glo "_law_take", .glo "_law_dance", .glo "_law_called", .glo "_law_number", .glo "_law_same", .glo "_law_steps", .glo "_law_due", .glo "_law_first", .glo "law", .glo "OPPOSITES", .free "len", .free "abs", .free "int", .free "range", .free "isinstance", .free "tuple", .free "list", .free "str", .free "bool", .free "enumerate"]
def tbs : List He.Tab := [(fun K => He.ga K "OPPOSITES", ["T", "U", "R"])]
def tfs : List He.Defn := []
def exs (K : PySem.W.Frag) : Bool := He.valsB K (He.ga K "OPPOSITES") [("T", .str "U"), ("U", .str "T"), ("R", .str "R")]
abbrev Rw : PySem.W.OpenRow := PySem.W.OpenLaw.row PySem.Challenge.rw_ropedance_k22_undo
abbrev hk : PySem.W.Hook := He.hookX 6 fas dfs tbs tfs exs
def ob (s : PySem.W.SharedT) : He.AlX := He.obsX 6 fas dfs tbs tfs exs (HandSHeadRun.getT s)
theorem ob_eq (s : PySem.W.SharedT) : ob s = hk.obs s.abs := He.obsX_eq (HandSHeadRun.getT_eq s)
theorem head_run (w : World) : HandSHeadRun.RunEq Rw (PySem.W.view Rw.prog [22]) hk ob 3000 ["after", "turned", "quotients", "number", "backward", "mirrored", "runs", "undo", "_law_tape", "_law_take", "_law_dance", "_law_called", "_law_number", "_law_same", "_law_steps", "_law_due", "_law_first", "OPPOSITES"] w :=
  PySem.W.byRow2 "special-get-raises" (P := fun w => HandSHeadRun.RunEq Rw (PySem.W.view Rw.prog [22]) hk ob 3000 ["after", "turned", "quotients", "number", "backward", "mirrored", "runs", "undo", "_law_tape", "_law_take", "_law_dance", "_law_called", "_law_number", "_law_same", "_law_steps", "_law_due", "_law_first", "OPPOSITES"] w) (fun w => by intro os; kernel_rfl) (fun w => by intro os; kernel_rfl) w
theorem fun_of {K : PySem.W.Frag} {d : He.DefD} {f : Addr} {fd : FuncData} {st : Stmt} (h : FunD K d.name d.qual d.params d.body d.scope (d.dvs K) (d.kws K) f fd) (ha : d.params = defArgs st) (hb : d.body = defBody st) (hs : d.scope = defScope st) (h0 : d.dfl = []) (h1 : d.kwd = []) : Fun K d.name d.qual st f fd := by
  obtain ⟨oc, od, dV, kV, doc, pm, an, cdv, ct, osl, e, lk, cd, dfl, kw⟩ := h.ex
  have e0 : d.dvs K = [] := by unfold He.DefD.dvs; rw [h0]; rfl
  rw [e0] at dfl
  have ed : dV = .none := by
    rcases dfl with ⟨_, q⟩ | ⟨q, _⟩
    · exact q
    · exact absurd rfl q
  subst ed
  rw [ha, hb, hs] at e
  exact ⟨⟨oc, od, kV, doc, pm, an, cdv, ct, osl, e, lk, cd⟩, h.kp⟩
theorem spLaw_from (K : PySem.W.Frag) : ∀ (H : Hp) (a : Addr) (ns : List Int), ns.length ≤ 63 → (∀ z ∈ ns, Builtin.Int.intBits z ≤ 1048576) → (∀ p ∈ tfs.map (He.cT K), H p.2 = some (.tbl #[])) → SqL K H a (ns.map V.int) → spLawK K [.ref a] H (fun v _ => v = .bl true) fun _ _ _ => False :=
  fun H a ns hl _ hT hS => ⟨a, ns, rfl, hS, hl, fun _ => rfl⟩
theorem all_facts {P : Program} {w : World} {K : PySem.W.Frag} {h : Heap} {mg : Str → Option Value} {fa : Addr} (X : K.In h) (G : h.Ns mainGlobals mg) (hfa : mg ("law" : Str) = some (.ref fa)) (c : He.SaysX fas dfs tbs tfs exs w h K) :
    ∃ fd : FuncData, (∀ (s : Shared) (v : Value), BindsTo s fd ⟨[v], []⟩ [("script", v)]) ∧ ∀ base : Heap, K.In base → base.Ns mainGlobals mg → (∀ p ∈ tfs.map (He.cT K), LamX.TabB base mg p.1 p.2) → FnOk P w K mg base CX0 6 fa fd ["script"] (spLawK K) := by
  have cd := c.t.d
  obtain ⟨fd0, G0⟩ := cd.def_ 0 (d := d_after) rfl
  have F_after : Fun K "after" "after" s_after _ fd0 := fun_of G0 rfl rfl rfl rfl rfl
  have m_after := He.glo_ok X G (cd.fact 0 (f := .glo "after") rfl)
  have b_after := F_after.binds (ps := ["fraction", "dance"]) fun _ _ _ _ _ _ us hl => match us, hl with | [_, _], _ => rfl
  obtain ⟨fd1, G1⟩ := cd.def_ 1 (d := d_turned) rfl
  have F_turned : Fun K "turned" "turned" s_turned _ fd1 := fun_of G1 rfl rfl rfl rfl rfl
  have m_turned := He.glo_ok X G (cd.fact 1 (f := .glo "turned") rfl)
  have b_turned := F_turned.binds (ps := ["p", "q"]) fun _ _ _ _ _ _ us hl => match us, hl with | [_, _], _ => rfl
  obtain ⟨fd2, G2⟩ := cd.def_ 2 (d := d_quotients) rfl
  have F_quotients : Fun K "quotients" "quotients" s_quotients _ fd2 := fun_of G2 rfl rfl rfl rfl rfl
  have m_quotients := He.glo_ok X G (cd.fact 2 (f := .glo "quotients") rfl)
  have b_quotients := F_quotients.binds (ps := ["fraction"]) fun _ _ _ _ _ _ us hl => match us, hl with | [_], _ => rfl
  obtain ⟨fd3, G3⟩ := cd.def_ 3 (d := d_number) rfl
  have F_number : Fun K "number" "number" s_number _ fd3 := fun_of G3 rfl rfl rfl rfl rfl
  have m_number := He.glo_ok X G (cd.fact 3 (f := .glo "number") rfl)
  have b_number := F_number.binds (ps := ["dance"]) fun _ _ _ _ _ _ us hl => match us, hl with | [_], _ => rfl
  obtain ⟨fd4, G4⟩ := cd.def_ 4 (d := d_backward) rfl
  have F_backward : Fun K "backward" "backward" s_backward _ fd4 := fun_of G4 rfl rfl rfl rfl rfl
  have m_backward := He.glo_ok X G (cd.fact 4 (f := .glo "backward") rfl)
  have b_backward := F_backward.binds (ps := ["dance"]) fun _ _ _ _ _ _ us hl => match us, hl with | [_], _ => rfl
  obtain ⟨fd5, G5⟩ := cd.def_ 5 (d := d_mirrored) rfl
  have F_mirrored : Fun K "mirrored" "mirrored" s_mirrored _ fd5 := fun_of G5 rfl rfl rfl rfl rfl
  have m_mirrored := He.glo_ok X G (cd.fact 5 (f := .glo "mirrored") rfl)
  have b_mirrored := F_mirrored.binds (ps := ["dance"]) fun _ _ _ _ _ _ us hl => match us, hl with | [_], _ => rfl
  obtain ⟨fd6, G6⟩ := cd.def_ 6 (d := d_runs) rfl
  have F_runs : Fun K "runs" "runs" s_runs _ fd6 := fun_of G6 rfl rfl rfl rfl rfl
  have m_runs := He.glo_ok X G (cd.fact 6 (f := .glo "runs") rfl)
  have b_runs := F_runs.binds (ps := ["fraction"]) fun _ _ _ _ _ _ us hl => match us, hl with | [_], _ => rfl
  obtain ⟨fd7, G7⟩ := cd.def_ 7 (d := d_undo) rfl
  have F_undo : Fun K "undo" "undo" s_undo _ fd7 := fun_of G7 rfl rfl rfl rfl rfl
  have m_undo := He.glo_ok X G (cd.fact 7 (f := .glo "undo") rfl)
  have b_undo := F_undo.binds (ps := ["dance"]) fun _ _ _ _ _ _ us hl => match us, hl with | [_], _ => rfl
  obtain ⟨fd8, G8⟩ := cd.def_ 8 (d := d__law_tape) rfl
  have F__law_tape : Fun K "_law_tape" "_law_tape" s_law_tape _ fd8 := fun_of G8 rfl rfl rfl rfl rfl
  have m__law_tape := He.glo_ok X G (cd.fact 8 (f := .glo "_law_tape") rfl)
  have b__law_tape := F__law_tape.binds (ps := ["script", "k"]) fun _ _ _ _ _ _ us hl => match us, hl with | [_, _], _ => rfl
  obtain ⟨fd9, G9⟩ := cd.def_ 9 (d := d__law_take) rfl
  have F__law_take : Fun K "_law_take" "_law_take" s_law_take _ fd9 := fun_of G9 rfl rfl rfl rfl rfl
  have m__law_take := He.glo_ok X G (cd.fact 9 (f := .glo "_law_take") rfl)
  have b__law_take := F__law_take.binds (ps := ["tape", "many"]) fun _ _ _ _ _ _ us hl => match us, hl with | [_, _], _ => rfl
  obtain ⟨fd10, G10⟩ := cd.def_ 10 (d := d__law_dance) rfl
  have F__law_dance : Fun K "_law_dance" "_law_dance" s_law_dance _ fd10 := fun_of G10 rfl rfl rfl rfl rfl
  have m__law_dance := He.glo_ok X G (cd.fact 10 (f := .glo "_law_dance") rfl)
  have b__law_dance := F__law_dance.binds (ps := ["tape", "most"]) fun _ _ _ _ _ _ us hl => match us, hl with | [_, _], _ => rfl
  obtain ⟨fd11, G11⟩ := cd.def_ 11 (d := d__law_called) rfl
  have F__law_called : Fun K "_law_called" "_law_called" s_law_called _ fd11 := fun_of G11 rfl rfl rfl rfl rfl
  have m__law_called := He.glo_ok X G (cd.fact 11 (f := .glo "_law_called") rfl)
  have b__law_called := F__law_called.binds (ps := ["value", "letter"]) fun _ _ _ _ _ _ us hl => match us, hl with | [_, _], _ => rfl
  obtain ⟨fd12, G12⟩ := cd.def_ 12 (d := d__law_number) rfl
  have F__law_number : Fun K "_law_number" "_law_number" s_law_number _ fd12 := fun_of G12 rfl rfl rfl rfl rfl
  have m__law_number := He.glo_ok X G (cd.fact 12 (f := .glo "_law_number") rfl)
  have b__law_number := F__law_number.binds (ps := ["dance"]) fun _ _ _ _ _ _ us hl => match us, hl with | [_], _ => rfl
  obtain ⟨fd13, G13⟩ := cd.def_ 13 (d := d__law_same) rfl
  have F__law_same : Fun K "_law_same" "_law_same" s_law_same _ fd13 := fun_of G13 rfl rfl rfl rfl rfl
  have m__law_same := He.glo_ok X G (cd.fact 13 (f := .glo "_law_same") rfl)
  have b__law_same := F__law_same.binds (ps := ["told", "due"]) fun _ _ _ _ _ _ us hl => match us, hl with | [_, _], _ => rfl
  obtain ⟨fd14, G14⟩ := cd.def_ 14 (d := d__law_steps) rfl
  have F__law_steps : Fun K "_law_steps" "_law_steps" s_law_steps _ fd14 := fun_of G14 rfl rfl rfl rfl rfl
  have m__law_steps := He.glo_ok X G (cd.fact 14 (f := .glo "_law_steps") rfl)
  have b__law_steps := F__law_steps.binds (ps := ["value"]) fun _ _ _ _ _ _ us hl => match us, hl with | [_], _ => rfl
  obtain ⟨fd15, G15⟩ := cd.def_ 15 (d := d__law_due) rfl
  have F__law_due : Fun K "_law_due" "_law_due" s_law_due _ fd15 := fun_of G15 rfl rfl rfl rfl rfl
  have m__law_due := He.glo_ok X G (cd.fact 15 (f := .glo "_law_due") rfl)
  have b__law_due := F__law_due.binds (ps := ["value"]) fun _ _ _ _ _ _ us hl => match us, hl with | [_], _ => rfl
  obtain ⟨fd16, G16⟩ := cd.def_ 16 (d := d__law_first) rfl
  have F__law_first : Fun K "_law_first" "_law_first" s_law_first _ fd16 := fun_of G16 rfl rfl rfl rfl rfl
  have m__law_first := He.glo_ok X G (cd.fact 16 (f := .glo "_law_first") rfl)
  have b__law_first := F__law_first.binds (ps := ["value"]) fun _ _ _ _ _ _ us hl => match us, hl with | [_], _ => rfl
  obtain ⟨fd17, G17⟩ := cd.def_ 17 (d := d_law) rfl
  have F_law : Fun K "law" "law" s_law _ fd17 := fun_of G17 rfl rfl rfl rfl rfl
  have m_law := He.glo_ok X G (cd.fact 17 (f := .glo "law") rfl)
  have b_law := F_law.binds (ps := ["script"]) fun _ _ _ _ _ _ us hl => match us, hl with | [_], _ => rfl
  have t_OPPOSITES := He.glo_ok X G (cd.fact 18 (f := .glo "OPPOSITES") rfl)
  have y_len := He.free_ok X G (cd.fact 19 (f := .free "len") rfl)
  have y_abs := He.free_ok X G (cd.fact 20 (f := .free "abs") rfl)
  have y_int := He.free_ok X G (cd.fact 21 (f := .free "int") rfl)
  have y_range := He.free_ok X G (cd.fact 22 (f := .free "range") rfl)
  have y_isinstance := He.free_ok X G (cd.fact 23 (f := .free "isinstance") rfl)
  have y_tuple := He.free_ok X G (cd.fact 24 (f := .free "tuple") rfl)
  have y_list := He.free_ok X G (cd.fact 25 (f := .free "list") rfl)
  have y_str := He.free_ok X G (cd.fact 26 (f := .free "str") rfl)
  have y_bool := He.free_ok X G (cd.fact 27 (f := .free "bool") rfl)
  have y_enumerate := He.free_ok X G (cd.fact 28 (f := .free "enumerate") rfl)
  have e := hfa.symm.trans m_law
  cases e
  refine ⟨fd17, fun s v => ?_, fun base KB GB TB => ?_⟩
  · obtain ⟨oc, od, kV, doc, pm, an, cdv, ct, osl, e, _⟩ := F_law.ex
    rw [e]
    exact .of_eq rfl
  have O : Opp K w (He.ga K "OPPOSITES") := by
    have e : He.obsT fas dfs tbs K = He.valT dfs tbs w := c.t
    have e2 := congrArg (fun z : He.AlT => z.2) e
    have e3 : [He.dicW K (He.ga K "OPPOSITES")] = [some (He.keysIn w.params ["T", "U", "R"])] := e2
    exact opp_of (List.cons.inj e3).1 c.more
  have D_tape : Dfn P w K mg base "_law_tape" 1 _ (spTape K) := ⟨_, _, ok_tape F__law_tape y_len y_abs y_int, m__law_tape, F__law_tape.kp, b__law_tape⟩
  have D_take : Dfn P w K mg base "_law_take" 1 _ spTake := ⟨_, _, ok_take F__law_take y_int, m__law_take, F__law_take.kp, b__law_take⟩
  have D_dance : Dfn P w K mg base "_law_dance" 2 _ spDance := ⟨_, _, ok_dance F__law_dance D_take y_range, m__law_dance, F__law_dance.kp, b__law_dance⟩
  have D_called : Dfn P w K mg base "_law_called" 1 _ (spCalled K) := ⟨_, _, ok_called F__law_called, m__law_called, F__law_called.kp, b__law_called⟩
  have D_number : Dfn P w K mg base "_law_number" 2 _ (spNumber K) := ⟨_, _, ok_number F__law_number D_called, m__law_number, F__law_number.kp, b__law_number⟩
  have D_same0 : Dfn P w K mg base "_law_same" 0 _ (spSame 0) := ⟨_, _, none_same, m__law_same, F__law_same.kp, b__law_same⟩
  have D_same1 : Dfn P w K mg base "_law_same" 1 _ (spSame 1) := ⟨_, _, ok_same F__law_same D_same0 y_isinstance y_tuple y_list y_len y_range y_str y_int y_bool, m__law_same, F__law_same.kp, b__law_same⟩
  have D_turned : Dfn P w K mg base "turned" 1 _ spTurned := ⟨_, _, ok_turned F_turned, m_turned, F_turned.kp, b_turned⟩
  have D_after : Dfn P w K mg base "after" 2 _ spAfter := ⟨_, _, ok_after F_after D_turned, m_after, F_after.kp, b_after⟩
  have D_num : Dfn P w K mg base "number" 3 _ spNum := ⟨_, _, ok_num F_number D_after , m_number, F_number.kp, b_number⟩
  have D_quotients : Dfn P w K mg base "quotients" 1 _ (spQuo K) := ⟨_, _, ok_quotients F_quotients y_abs , m_quotients, F_quotients.kp, b_quotients⟩
  have D_runs : Dfn P w K mg base "runs" 2 _ spRuns := ⟨_, _, ok_runs F_runs D_quotients y_enumerate , m_runs, F_runs.kp, b_runs⟩
  have D_mirrored : Dfn P w K mg base "mirrored" 1 _ spMir := ⟨_, _, ok_mirrored F_mirrored O t_OPPOSITES, m_mirrored, F_mirrored.kp, b_mirrored⟩
  have D_backward : Dfn P w K mg base "backward" 2 _ spBack := ⟨_, _, ok_backward F_backward D_mirrored, m_backward, F_backward.kp, b_backward⟩
  have D_undo : Dfn P w K mg base "undo" 5 _ spUndo := ⟨_, _, ok_undo F_undo (D_backward.mono (by decide)) (D_runs.mono (by decide)) (D_num.mono (by decide)) , m_undo, F_undo.kp, b_undo⟩
  have D_law_steps : Dfn P w K mg base "_law_steps" 1 _ spSteps := ⟨_, _, ok_law_steps F__law_steps y_abs y_int , m__law_steps, F__law_steps.kp, b__law_steps⟩
  have D_law_due : Dfn P w K mg base "_law_due" 2 _ spDue := ⟨_, _, ok_law_due F__law_due D_law_steps D_called y_range , m__law_due, F__law_due.kp, b__law_due⟩
  have D_law_first : Dfn P w K mg base "_law_first" 2 _ spFirst := ⟨_, _, ok_law_first F__law_first D_called y_range y_len , m__law_first, F__law_first.kp, b__law_first⟩
  exact ok_law F_law (D_tape.mono (by decide)) (D_dance.mono (by decide)) (D_take.mono (by decide)) (D_number.mono (by decide)) (D_same1.mono (by decide)) (D_law_due.mono (by decide)) D_undo (D_law_first.mono (by decide)) (D_law_steps.mono (by decide)) y_range
end Rope
open PySem PySem.W PySem.Calls PyProof.Rows
set_option maxRecDepth 100000 in
set_option maxHeartbeats 0 in
theorem PySem.Challenge.cw_ropedance_k22_undo_holds : PySem.Challenge.rw_ropedance_k22_undo.Holds := by
  w_on; o_law
  refine HandSHeadRun.head_any (r := OpenLaw.row PySem.Challenge.rw_ropedance_k22_undo) (q := view (OpenLaw.row PySem.Challenge.rw_ropedance_k22_undo).prog [22]) (H := Rope.hk) (ob := Rope.ob) (M := 3000) (loose := ["after", "turned", "quotients", "number", "backward", "mirrored", "runs", "undo", "_law_tape", "_law_take", "_law_dance", "_law_called", "_law_number", "_law_same", "_law_steps", "_law_due", "_law_first", "OPPOSITES"]) (d := HandSHeadRun.topDef (OpenLaw.row PySem.Challenge.rw_ropedance_k22_undo).prog 22) (kwd := []) Rope.ob_eq
    (by kernel_rfl) (fun s => by kernel_rfl) Rope.head_run (by kernel_rfl) (by kernel_rfl) (by kernel_rfl) (by rfl) (by first | assumption | decide +kernel) (by decide +kernel) ⟨rfl, rfl, rfl, rfl, rfl, by decide +kernel⟩ ?hw ?hc
  case hw => w_witness2
  case hc =>
    refine LamX.walk_ofTsE (l := PySem.Challenge.rw_ropedance_k22_undo) (n := 63) (k := 6) (x := "script") (CX := fun _ => L2.CX0) rfl (by decide) (by kernel_rfl) ⟨rfl, by decide, by decide⟩ ?F (fun _ _ _ _ _ z => z)
    intro w mg fa h Y G hmg0
    obtain ⟨K, KX, c⟩ := Y
    have hmg : mg ("law" : PySem.Str) = some (.ref fa) := by
      have e : (HandSHeadRun.topDef (OpenLaw.row PySem.Challenge.rw_ropedance_k22_undo).prog 22).name = ("law" : PySem.Str) := by kernel_rfl
      rw [← e]
      exact hmg0
    obtain ⟨fd, hb, hF⟩ := Rope.all_facts (P := (PySem.Challenge.rw_ropedance_k22_undo).prog) (w := w) KX G hmg c
    refine ⟨K, KX, fd, Rope.tfs.map (He.cT K), Rope.spLawK K, fun p hp => ?_, fun p hp => ?_, fun p hp => ?_, hb, Rope.spLaw_from K, hF⟩
    · obtain ⟨x, hx, rfl⟩ := List.mem_map.mp hp
      exact c.empty x hx
    · obtain ⟨x, hx, rfl⟩ := List.mem_map.mp hp
      exact c.out x hx
    · obtain ⟨x, hx, rfl⟩ := List.mem_map.mp hp
      exact PySem.W.codeHd_of_K KX (c.hd x hx)
