import PyProof.Rows.All
import Wide.All
import OpenK.AllK
import Wide.FinOn
import PyProof.StrBlock2
import HandS.ForMost
import HandS.Wide
import HandS.IsInst
import HandS.Exc
import HandS.ExcOwn
import HandS.ExcCtx
import HandS.ExcIs
import HandS.Hot
import HandS.WordsExc
import HandS.Gcd
import HandS.AnyAll
import HandS.Style
import HandS.More
import HandS.Walk
import HandS.WideBits
import HandS.HeadHook4
import HandS.HeadEnd
import HandS.HeadWalk
import HandS.Head0
import HandS.Head1
import HandS.Head2
import HandS.Head3
import PySem.Challenge.RW_ropedance_k30_whole_closed_ropes
set_option Elab.async false
set_option linter.all false
set_option maxRecDepth 100000
set_option maxHeartbeats 4000000
namespace Rope
open PySem L2


/-! ### texts as lists of codes -/
def S (l : List Nat) : Str := ⟨l.toArray⟩
theorem S_len (l : List Nat) : (S l).length = l.length := by simp [S, Str.length]
theorem S_list (l : List Nat) : (S l).cps.toList = l := by simp [S]
theorem S_size (l : List Nat) : (S l).cps.size = l.length := by simp [S]
theorem S_get (l : List Nat) (i : Nat) : (S l).cps[i]? = l[i]? := by simp [S]
theorem S_inj {l m : List Nat} (h : S l = S m) : l = m := by
  have := congrArg (fun z : Str => z.cps.toList) h
  simpa [S] using this
theorem S_app (l m : List Nat) : S l ++ S m = S (l ++ m) := by
  show Str.append (S l) (S m) = S (l ++ m)
  simp [Str.append, S]
theorem S_mul (l : List Nat) (n : Int) : Txt.mul (S l) n = S (List.replicate n.toNat l).flatten := by
  unfold Txt.mul
  by_cases h1 : n < 1
  · rw [if_pos h1]
    have : n.toNat = 0 := by omega
    rw [this]
    rfl
  · rw [if_neg h1]
    by_cases h2 : (n == 1 || (S l).length == 0) = true
    · rw [if_pos h2]
      simp only [Bool.or_eq_true, beq_iff_eq] at h2
      rcases h2 with h2 | h2
      · subst h2
        show S l = S (List.replicate 1 l).flatten
        simp
      · rw [S_len] at h2
        have : l = [] := List.eq_nil_of_length_eq_zero h2
        subst this
        simp
    · rw [if_neg h2]
      have aux : ∀ (k : Nat) (a : Array Nat), ((List.replicate k (S l).cps).foldl (· ++ ·) a).toList = a.toList ++ (List.replicate k l).flatten := by
        intro k
        induction k with
        | zero => intro a; simp
        | succ k ih =>
          intro a
          rw [List.replicate_succ, List.foldl_cons, ih, List.replicate_succ, List.flatten_cons, Array.toList_append, List.append_assoc, S_list]
      have := aux n.toNat #[]
      unfold S
      congr 1
      apply Array.toList_inj.mp
      rw [show S l = (⟨l.toArray⟩ : Str) from rfl] at this
      rw [this]
      simp
theorem S_cut (l : List Nat) (lo hi : Option Int) : cutS (S l) lo hi = S ((l.drop (HT.sIx l.length 0 lo)).take (HT.sIx l.length l.length hi - HT.sIx l.length 0 lo)) := by
  unfold cutS
  rw [S_len, S_list]
  rfl
theorem S_take (l : List Nat) {m : Int} (h : 0 ≤ m) : cutS (S l) none (some m) = S (l.take m.toNat) := by
  obtain ⟨k, rfl⟩ := Int.eq_ofNat_of_zero_le h
  rw [S_cut, HT.sIx_none, HT.sIx_nat, List.drop_zero, Nat.sub_zero, Int.toNat_natCast]
  congr 1
  by_cases h2 : k ≤ l.length
  · rw [Nat.min_eq_left h2]
  · rw [Nat.min_eq_right (by omega), List.take_of_length_le (Nat.le_refl _), List.take_of_length_le (by omega)]
theorem S_drop (l : List Nat) {m : Int} (h : 0 ≤ m) : cutS (S l) (some m) none = S (l.drop m.toNat) := by
  obtain ⟨k, rfl⟩ := Int.eq_ofNat_of_zero_le h
  rw [S_cut, HT.sIx_none, HT.sIx_nat, Int.toNat_natCast]
  congr 1
  rw [List.take_of_length_le (by simp)]
  by_cases h2 : k ≤ l.length
  · rw [Nat.min_eq_left h2]
  · rw [Nat.min_eq_right (by omega), List.drop_length, List.drop_eq_nil_of_le (by omega)]
/-- a text times an int -/
theorem op_mul_str {X : Cx} : OpR X (binaryOp .Mult) (fun x y H Q => ∃ (l : List Nat) (n : Int), x = .str (S l) ∧ y = .int n ∧ 0 ≤ n ∧ n < 2 ^ 62 ∧ l.length * n.toNat ≤ 16777215 ∧ Q (.str (S (List.replicate n.toNat l).flatten)) H) := by
  intro pins s σ H x y v u Q I rx ry h
  obtain ⟨l, n, rfl, rfl, h0, h1, h2, q⟩ := h
  obtain ⟨t, rfl⟩ := rx
  obtain ⟨t', rfl⟩ := ry
  have e1 : decide (n < -(2 ^ 63 : Int)) = false := decide_eq_false (by omega)
  have e2 : decide (n ≥ 2 ^ 63) = false := decide_eq_false (by omega)
  refine SB.mul ⟨by rw [e1, e2]; rfl, fun z1 z2 => ?_, fun z1 z2 => ?_⟩ fun t' k => ⟨.str _, H, I.tok _, ⟨_, rfl⟩, by rw [S_mul]; exact q⟩
  · rw [S_len]
    have h3 : (l.length : Int) * n ≤ 16777215 := by
      have : ((l.length * n.toNat : Nat) : Int) ≤ 16777215 := Int.ofNat_le.mpr h2
      rw [Int.natCast_mul, Int.toNat_of_nonneg h0] at this
      exact this
    have hn : 0 < n := by omega
    intro hc
    have hc' : (2 ^ 63 - 1) / n < (l.length : Int) := hc
    have := (Int.ediv_lt_iff_lt_mul hn).mp hc'
    omega
  · rw [S_len]
    unfold Builtin.Str.tooLong
    rw [sizeLine_eq]
    exact decide_eq_false (by omega)
/-! ### the calls: a fraction by a letter -/
def called (v : Int × Int) (c : Nat) : Int × Int :=
  if c = 84 then (v.1 + v.2, v.2) else if c = 85 then (v.1 - v.2, v.2) else if 0 < v.1 then (0 - v.2, v.1) else if v.1 < 0 then (v.2, 0 - v.1) else (1, 0)
def run (v : Int × Int) (l : List Nat) : Int × Int := l.foldl called v
theorem run_nil (v : Int × Int) : run v [] = v := rfl
theorem run_app (v : Int × Int) (l m : List Nat) : run v (l ++ m) = run (run v l) m := List.foldl_append
theorem run_take {l : List Nat} {i c : Nat} (v : Int × Int) (h : l[i]? = some c) : run v (l.take (i + 1)) = called (run v (l.take i)) c := by
  rw [List.take_add_one, h, run_app]
  rfl
/-- what a fraction of the laws keeps: q positive or infinite, no common divisor -/
def Good (v : Int × Int) : Prop := (0 < v.2 ∨ v = (1, 0)) ∧ Int.gcd v.1 v.2 = 1
theorem Good.zero : Good (0, 1) := ⟨.inl (by decide), by decide⟩
theorem gcd_add' (p q : Int) : Int.gcd (p + q) q = Int.gcd p q := by
  have := Int.gcd_add_mul_right_left p q 1
  simpa using this
theorem Good.called {v : Int × Int} (h : Good v) (c : Nat) : Good (called v c) := by
  obtain ⟨p, q⟩ := v
  obtain ⟨h1, h2⟩ := h
  simp only at h1 h2
  unfold Rope.called
  by_cases c1 : c = 84
  · rw [if_pos c1]
    refine ⟨?_, ?_⟩
    · rcases h1 with h1 | h1
      · exact .inl h1
      · cases h1; exact .inr rfl
    · show Int.gcd (p + q) q = 1
      rw [gcd_add']; exact h2
  rw [if_neg c1]
  by_cases c2 : c = 85
  · rw [if_pos c2]
    refine ⟨?_, ?_⟩
    · rcases h1 with h1 | h1
      · exact .inl h1
      · cases h1; exact .inr rfl
    · show Int.gcd (p - q) q = 1
      have := gcd_add' (p - q) q
      rw [Int.sub_add_cancel] at this
      rw [← this]; exact h2
  rw [if_neg c2]
  by_cases c3 : 0 < p
  · rw [if_pos (show 0 < (p, q).1 from c3)]
    refine ⟨.inl c3, ?_⟩
    show Int.gcd (0 - q) p = 1
    rw [Int.zero_sub, Int.neg_gcd, Int.gcd_comm]; exact h2
  rw [if_neg (show ¬ 0 < (p, q).1 from c3)]
  by_cases c4 : p < 0
  · rw [if_pos (show (p, q).1 < 0 from c4)]
    refine ⟨.inl (by show 0 < 0 - p; omega), ?_⟩
    show Int.gcd q (0 - p) = 1
    rw [Int.zero_sub, Int.gcd_neg, Int.gcd_comm]; exact h2
  rw [if_neg (show ¬ (p, q).1 < 0 from c4)]
  exact ⟨.inr rfl, by decide⟩
theorem good_run : ∀ (l : List Nat) {v : Int × Int}, Good v → Good (run v l)
  | [], _, h => h
  | c :: r, _, h => good_run r (h.called c)
/-- its size grows by a bit a letter -/
theorem called_size {v : Int × Int} {n : Nat} (h1 : v.1.natAbs ≤ n) (h2 : v.2.natAbs ≤ n) (h0 : 1 ≤ n) (c : Nat) : (called v c).1.natAbs ≤ 2 * n ∧ (called v c).2.natAbs ≤ 2 * n := by
  unfold called
  repeat' split
  all_goals simp only
  all_goals omega
theorem run_size : ∀ (l : List Nat) {v : Int × Int} {n : Nat}, v.1.natAbs ≤ n → v.2.natAbs ≤ n → 1 ≤ n → (run v l).1.natAbs ≤ 2 ^ l.length * n ∧ (run v l).2.natAbs ≤ 2 ^ l.length * n
  | [], v, n, h1, h2, _ => by simpa [run] using ⟨h1, h2⟩
  | c :: r, v, n, h1, h2, h0 => by
    have q := called_size h1 h2 h0 c
    have ih := run_size r q.1 q.2 (by omega)
    have e : 2 ^ (c :: r).length * n = 2 ^ r.length * (2 * n) := by
      rw [List.length_cons, Nat.pow_succ, Nat.mul_assoc]
    rw [e]
    exact ih
/-! ### the divisor -/
theorem gcd_step (x y : Int) : Nat.gcd y.natAbs (x.fmod y).natAbs = Nat.gcd x.natAbs y.natAbs := by
  show Int.gcd y (x.fmod y) = Int.gcd x y
  have e : x.fmod y = x + y * (-(x.fdiv y)) := by
    have := Int.fmod_def x y
    rw [this, Int.mul_neg]
    rfl
  rw [e, Int.gcd_add_mul_left_right, Int.gcd_comm]
theorem fmod_less {x y : Int} (h : y ≠ 0) : (x.fmod y).natAbs < y.natAbs := by
  by_cases h0 : 0 < y
  · rw [Int.fmod_eq_emod_of_nonneg x (by omega)]
    have h1 := Int.emod_nonneg x h
    have h2 := Int.emod_lt_of_pos x h0
    omega
  · have e : x.fmod y = -((-x).fmod (-y)) := by
      have := Int.neg_fmod_neg (a := x) (b := y)
      omega
    rw [e, Int.fmod_eq_emod_of_nonneg _ (by omega)]
    have h1 := Int.emod_nonneg (-x) (b := -y) (by omega)
    have h2 := Int.emod_lt_of_pos (-x) (b := -y) (by omega)
    omega
/-- for letter in text -/
theorem for_str {l : List Nat} {g : TG} {tb : TS} {D : Ends} {σ : L2.St} {H : Hp} (Pv : Nat → L2.St → Hp → Prop) (h0 : Pv 0 σ H)
    (hs : ∀ i c σ H, l[i]? = some c → Pv i σ H → g (.str (S [c])) σ H fun σ2 H2 => tb { D with nx := Pv (i + 1), ct := Pv (i + 1), bk := D.nx } σ2 H2) (hd : ∀ σ H, Pv l.length σ H → D.nx σ H) :
    ∃ W : Nat → Nat → L2.St → Hp → Prop, (∃ m, W 0 m σ H) ∧ ∀ i m σ H, W i m σ H →
      ((Its (S l)).stop i H ∧ D.nx σ H) ∨ ((Its (S l)).go i H ∧ ∃ N : L2.St → Hp → Prop, (∀ σ' H', N σ' H' → ∃ m', m' < m ∧ W (i + 1) m' σ' H') ∧ ∀ x H', (Its (S l)).yld i H x H' → g x σ H' fun σ2 H2 => tb { D with nx := N, ct := N, bk := D.nx } σ2 H2) := by
  refine ⟨fun i m σ H => m = l.length - i ∧ i ≤ l.length ∧ Pv i σ H, ⟨l.length, by simp, Nat.zero_le _, h0⟩, ?_⟩
  rintro i m σ H ⟨rfl, hi, p⟩
  by_cases hlt : i < l.length
  · refine .inr ⟨by show i < (S l).cps.size; rw [S_size]; exact hlt, Pv (i + 1), fun σ' H' p' => ⟨l.length - (i + 1), by omega, rfl, hlt, p'⟩, fun x H' y => ?_⟩
    obtain ⟨e, c, hc, rfl⟩ := y
    subst e
    rw [S_get] at hc
    exact hs i c σ _ hc p
  · have e : i = l.length := by omega
    subst e
    exact .inl ⟨by show (S l).cps.size ≤ l.length; rw [S_size]; exact Nat.le_refl _, hd σ H p⟩

section
open PySem.F HotX
variable {prog : Program} {w : World} {A : Around} {E : Value → Shared → Prop} {s : Shared}
/-- the end of a list's walk while an exception is handled -/
theorem list_end_hot {it l x1 : Addr} {i : Nat} {items : Array Value} {Q : Option Value → Shared → Prop} (hot : HotAt A x1 s.heap) (hne : x1 ≠ it)
    (hit : s.heap.IsListIter it l i) (hl : s.heap.IsList l items) (hx : items[i]? = none)
    (hQ : ∀ h', Heap.ExtBut it s.heap h' → Q none { s with heap := h' }) : wpAny (model prog w) A (pyNext (.ref it)) Q E s := by
  obtain ⟨io, iAt, _, iDat⟩ := id hit
  obtain ⟨lo, lAt, _, ln, lDat⟩ := hl
  obtain ⟨he, xo, xv, xAt, xDat, xCtx⟩ := hot
  have typ := hit.typeIs
  unfold pyNext
  refine wpAny_bind (wpAny_attempt (wpAny_callSpecial?_slot (name := Str.ofString "__next__") typ slot_listiter_next (wpAny_call_entry slot_listiter_next typ entry_listiter_next ?body (args_listiter_next _))))
  -- the list, the place, the items: nothing is left
  show wpAny _ _ (field (.ref it) 0 >>= _) _ _ s; refine wpAny_bind (wpAny_field iAt iDat (x := .ref l) rfl ?_)
  show wpAny _ _ (if (Value.ref l == Value.none) = true then _ else _) _ _ s; rw [if_neg (show ¬ ((Value.ref l == Value.none) = true) from Bool.false_ne_true)]
  show wpAny _ _ (field (.ref it) 1 >>= _) _ _ s; refine wpAny_bind (wpAny_field iAt iDat (x := .int i 0) rfl ?_)
  show wpAny _ _ (seqItems? (.ref l) >>= _) _ _ s; refine wpAny_bind (wpAny_seqItems lAt lDat ?_); simp only [Int.toNat_natCast, hx]
  refine wpAny_bind (wpAny_rule (wpAny_bind (wpAny_setField iAt iDat (by simp) ?stop)))
  -- StopIteration is made and raised on top of the one that is handled
  show wpAny _ _ (newExc (.type "StopIteration") [] >>= _) _ _ _; refine wpAny_bind ?_; simp only [newExc, newTuple]
  refine wpAny_bind (wpAny_newObj_type (wpAny_bind (m := firstArgMember _ _) (wpAny_of_eq (a := Value.none) (by first | rfl | (simp only [firstArgMember]; rfl)) (wpAny_newObj_type ?_ (by size_fits)))) (by size_fits))
  have kept := (Heap.get?_update_other s.heap (Obj.mapFields (·.setIfInBounds 0 .none)) hne.symm).trans xAt
  have far := Heap.lt_size (Heap.get?_push_of_some { cls := .type "tuple", data := .seq #[] } kept)
  refine raiseNew_hot ⟨he, xo, xv, Heap.get?_push_of_some _ (Heap.get?_push_of_some _ kept), xDat, xCtx⟩ (Nat.ne_of_lt far) (Heap.get?_push_size _ rfl) rfl (by first | (simp; done) | (simp; omega) | (simp only [Array.size_append]; simp; omega)) ?_
  refine wpAny_bind (wpAny_isInstance (T := "StopIteration") (b := true) ⟨_, Heap.get?_update_self _ (Heap.get?_push_size _ rfl) rfl, rfl⟩ isSubtype_stop (wpAny_pure (hQ _ fun c u hc e => ?_)))
  have e2 := (Heap.SameBut.update s.heap it (Obj.mapFields (·.setIfInBounds 0 .none))).extBut c u hc e
  have e3 := Heap.get?_push_of_some { cls := .type "tuple", data := .seq #[] } e2
  exact (Heap.get?_update_other _ _ (Nat.ne_of_gt (Heap.lt_size e3))).trans (Heap.get?_push_of_some _ e3)
end
/-- a list walked while an exception is handled -/
theorem walks_list_hot {prog : Program} {w : World} {A : Around} {x1 : Addr} {o1 : Obj} {vs1 : Array Value} (hh : A.handled = some (.ref x1)) (d1 : o1.data = .fields vs1) (c1 : vs1[2]? = some .none) (I ax : Addr) (hne : ax ≠ I) (h1I : x1 ≠ I) (items : Array Value) :
    Walks prog w A I [I, ax, x1] [I] items.size (fun i v => items[i]? = some v) (fun i h => h.IsListIter I ax i ∧ h.IsList ax items ∧ h.get? x1 = some o1) where
  sub := fun b hb => by simp at hb; simp [hb]
  frame := fun _ _ _ st hk => ⟨st.1.at fun o e => hk I (by simp) o e, st.2.1.at fun o e => hk ax (by simp) o e, hk x1 (by simp) _ st.2.2⟩
  item := fun i s Q E hi st hQ => by
    exact wpAny_pyNext_list_item st.1 st.2.1 (x := items[i]) (by simp [hi]) fun h' hit' hs' => hQ _ h' s.toks (by simp [hi]) ⟨hit', st.2.1.extBut hs'.extBut hne, hs'.extBut x1 _ h1I st.2.2⟩ fun b o hb e => hs'.extBut b o (fun h => hb (by simp [h])) e
  done := fun s Q E st hQ => list_end_hot ⟨hh, o1, vs1, st.2.2, d1, c1⟩ h1I st.1 st.2.1 (by simp) fun h' he' => hQ h' s.toks fun b o hb e => he' b o (fun h => hb (by simp [h])) e
  self := fun _ _ _ _ st hQ => wpAny_pyIter_listiter st.1 hQ
section
variable {X : Cx} {a : Addr} {oe : Obj} {cls : Value} {d : Option Addr} {pn : List (Addr × Obj)}
/-- any(list of bools) within an except suite -/
theorem any_hot (hz : L2N.Zn cls d oe) (hf : ∃ vs, oe.data = .fields vs) : CallR (X.suite a ((a, oe) :: pn)) (.builtin "any") (rAny X.K) := fun pins s σ H vs us Q I r ⟨b, bs, ev, hs, q⟩ => by
  subst ev
  obtain ⟨its, rv, hl, _⟩ := Inv.list I hs
  obtain ⟨fv, hd⟩ := hf
  have here := (I.pin (a, oe) (List.mem_append_left _ List.mem_cons_self)).1
  have lt := Heap.lt_size here
  rw [Vals.ref1 r]
  have items := rv.bls
  refine call_any_walk (iter_any hl.isList fun z ez st ne => ?_); subst ez
  refine ⟨_, _, _, _, _, _, _, rfl, walks_list_hot (A := (X.suite a ((a, oe) :: pn)).A.in1) (x1 := a) (o1 := oe) rfl hd (hz.2.2 fv hd) _ b ne (Nat.ne_of_lt lt) its.toArray, ⟨st.1, st.2, Heap.get?_push_of_some _ here⟩, truth_bools items, fun h' tk hk => ?_⟩
  have all : ∀ c u, s.heap.get? c = some u → h'.get? c = some u := fun c u e => hk c u (fun m => by
    rw [List.mem_singleton.mp m] at e
    exact Nat.lt_irrefl _ (Heap.lt_size e)) (Heap.get?_push_of_some _ e)
  refine ⟨.bl (bs.any id), H, I.kept all, ?_, q⟩
  show Value.bool ((List.range its.toArray.size).any fun i => bs.getD i false) = .bool (bs.any id)
  rw [← any_range, items, List.size_toArray, List.length_map]
/-- isinstance(e, c) of the error that the suite holds -/
def rIsF (K : PySem.W.Frag) (D a : Addr) (cls : Value) (d : Option Addr) : List V → Hp → VK → Prop := fun xs H Q => cls = .ref D ∧ d = none ∧ rIsE K D a xs H Q
theorem call_isF {D : Addr} (C : ExcC X.K D) (hz : L2N.Zn cls d oe) (hf : ∃ vs, oe.data = .fields vs) : CallR (X.suite a ((a, oe) :: pn)) (.builtin "isinstance") (rIsF X.K D a cls d) := by
  intro pins s σ H xs us Q I r h
  obtain ⟨rfl, rfl, h⟩ := h
  exact call_isE C hz.zc hf pins s σ H xs us Q I r h
end
theorem takes0N {X : Cx} : L2N.Takes X (fun _ _ _ _ => False) := fun _ _ ⟨_, _, _, _, _, _, _, _, _, _, _, _, _, _, _, _, no⟩ => False.elim no
theorem okX {P : Program} {w : World} {K : PySem.W.Frag} {mg : Str → Option Value} {base : Heap} {x qual : Str} {st : Stmt} {f : Addr} {fd : FuncData} {N ps : List Str} {k : Nat} {sp : Sp} (F : Fun K x qual st f fd) (S : FnScope N ps (defScope st)) (len : ∀ vs H Q E, sp vs H Q E → vs.length = ps.length)
    (hbody : ∀ (cdv : Value) (A : Around) (outer : List Env) (s : Shared) (H : Hp) (vs : List V) (Q : VK) (E : XK), Room k (A.deeper (PyProof.Rows.envOfC qual (defScope st) s.heap.objs.size f cdv)) → sp vs H Q E →
      ∃ t, PSs (cxOf (L2N.CX P w) P w K mg base N qual (defScope st) f cdv A outer s H E) (defBody st) t ∧ t { nx := fun _ H' => Q .non H', rt := Q } (start N vs) H) : FnOk P w K mg base (L2N.CX P w) (k + 1) f fd ps sp := by
  obtain ⟨_, _, _, _, _, _, cdv, _, _, rfl, lk, hcd⟩ := F.ex
  exact fn_of lk hcd S len (hbody cdv)
/-! ### an error class of the program -/
structure Err (K : PySem.W.Frag) (mg : Str → Option Value) (x : Str) (C : Addr) : Prop where
  g : mg x = some (.ref C)
  x : PySem.W.excIn K C [.type "ValueError", .type "Exception", .type "BaseException", .type "object"] "ValueError.__new__" = true
  k : PySem.W.keepIn K (.ref C) = true
  b : PySem.W.subIn K (.ref C) (.type "BaseException") = some true
  t : PySem.W.typeIn K (.ref C) = some (.type "type")
  hd : PySem.W.hasDictIn K C = true
  hg : PySem.W.findIn K (.ref C) "__getattribute__" = some (some (.builtin "BaseException.__getattribute__"))
  hk : PySem.W.findIn K (.ref C) "__getattr__" = some none
  ha : PySem.W.findIn K (.ref C) "__class__" = some (some (.builtin "object.__class__"))
  hm : PySem.W.mroIn K C (.type "object") = some true
theorem Err.c {K : PySem.W.Frag} {mg : Str → Option Value} {x : Str} {C : Addr} (e : Err K mg x C) (hn : PySem.W.specialIn K (.builtin "object.__class__") "__get__" = some (some (.builtin "getset_descriptor.__get__"))) (ht : PySem.W.takesIn K (.builtin "object.__class__") = some true) : ExcC K C :=
  ⟨e.hg, e.hk, e.b, e.hd, e.ha, hn, ht, e.hm⟩
/-- // of great ints, of any sign -/
theorem op_fdivWN {X : Cx} : OpR X (binaryOp .FloorDiv) (rI (fun _ j => j ≠ 0 ∧ j.natAbs.log2 < 9000) fun i j => .int (i.fdiv j)) := opI fun i j _ _ _ _ _ hc q =>
  PyProof.Rows.floordiv_int hc.1 q (.inl (PyProof.noPylong_of_log2 hc.2))

/-! ### text[::-1] -/
theorem rev_pick (l : List Nat) (t : Tok) (a : Tok) : sliceMade (S l) t none none (some (-1, a)) = Made.str (S l.reverse) := by
  have hs : slicePicked (S l) none none (some (-1, a)) = (List.range l.length).reverse := by
    show sliceRange (((S l).length : Int) - 1) (-1) (-1) = _
    rw [S_len, PySem.W.krv_sliceRange, PySem.W.krv_range]
  have hf : ((List.range l.length).reverse.filterMap ((S l).cps[·]?)) = l.reverse := by
    rw [List.filterMap_reverse]
    congr 1
    have : ∀ m : List Nat, (List.range m.length).filterMap (fun i => m[i]?) = m := fun m => by
      induction m with
      | nil => rfl
      | cons c r ih =>
        rw [List.length_cons, List.range_succ_eq_map, List.filterMap_cons, List.filterMap_map]
        show c :: (List.range r.length).filterMap (fun i => r[i]?) = c :: r
        rw [ih]
    have h2 : (fun i => (S l).cps[i]?) = fun i => l[i]? := funext fun i => S_get l i
    rw [h2]
    exact this l
  unfold sliceMade
  rw [hs, hf]
  rfl
def tRevS (te : TE) : TE := fun σ H Q => te σ H fun x H1 => ∃ l : List Nat, x = .str (S l) ∧ l.length ≤ 16777216 ∧ Q (.str (S l.reverse)) H1
theorem pe_revS {X : Cx} {e : Expr} {te : TE} {k : Nat} {p1 p2 p3 pos : Pos} (he : PE X e te) : PE X (.Subscript e (.Slice none none (some (.UnaryOp .USub (.Constant (.int 1) k p1) p2)) p3) pos) (tRevS te) := by
  constructor
  intro pins s σ H Q I hyp
  apply PyProof.Rows.Subscript_
  refine thn (he.run pins s σ H _ I hyp) fun v s1 ⟨x, H1, I1, r1, l, ex, hl, q⟩ => ?_
  subst ex
  obtain ⟨tk, rfl⟩ := r1
  have minus : PO X (some (.UnaryOp .USub (.Constant (.int 1) k p1) p2)) (tPart (tUn (rU fun i => .int (-i)) (tC (.int 1)))) := po_some (pe_un un_neg pe_int)
  apply wpAny_Slice
  refine thn (po_none.run pins s1 σ H1 (fun o G => o = none ∧ G = H1) I1 ⟨rfl, rfl⟩) fun v1 s2 ⟨o1, G1, J1, a1, b1, c1⟩ => ?_
  subst b1; subst c1
  refine thn (po_none.run pins s2 σ G1 (fun o G => o = none ∧ G = G1) J1 ⟨rfl, rfl⟩) fun v2 s3 ⟨o2, G2, J2, a2, b2, c2⟩ => ?_
  subst b2; subst c2
  refine thn (minus.run pins s3 σ G2 (fun o G => o = some (-1) ∧ G = G2) J2 ⟨1, rfl, -1, rfl, rfl, rfl⟩) fun v3 s4 ⟨o3, G3, J3, a3, b3, c3⟩ => ?_
  subst b3; subst c3
  obtain ⟨y1, rfl, g1⟩ := IsPart.raw a1
  obtain ⟨y2, rfl, g2⟩ := IsPart.raw a2
  obtain ⟨y3, rfl, g3⟩ := IsPart.raw a3
  cases y1 with
  | some z => cases g1
  | none =>
  cases y2 with
  | some z => cases g2
  | none =>
  cases y3 with
  | none => cases g3
  | some z =>
  obtain ⟨z1, z2⟩ := z
  have ez : z1 = -1 := Option.some.inj g3
  subst ez
  show wpAny (model X.prog X.w) X.A (PyProof.Rows.subscriptTail e (.Slice none none (some (.UnaryOp .USub (.Constant (.int 1) k p1) p2)) p3) (.str (S l) tk) (.ref s4.heap.objs.size)) (EP X pins σ Q) X.xe { s4 with heap := s4.heap.push { cls := .type "slice", data := .fields #[partValue none, partValue none, partValue (some (-1, z2))] } }
  refine PyProof.Rows.tail_any (ops := [.str (S l) tk, .ref s4.heap.objs.size]) (typeIs_str _ _ _) PySem.F.slot_str_getitem.lookup ?_ (by with_unfolding_all rfl)
  refine wpAny_getItem_str_slice (l := none) (u := none) (st := some (-1, z2)) ⟨_, Heap.get?_push_size _ rfl, rfl, rfl⟩ (by rfl) ?_
  rw [rev_pick]
  exact ⟨by rw [S_len, List.length_reverse, sizeLine_eq]; exact hl, .str _, _, J3.kept (t' := s4.toks + 1) fun b ob w => Heap.get?_push_of_some _ w, ⟨_, rfl⟩, q⟩
/-! ### all(test for x in text), where the test may read what the top has written -/
section
open GxR
variable {X : Cx} {pins : List (Addr × Obj)} {σ : L2.St} {H : Hp} {s : Shared}
def EltG (X : Cx) (scope : Scope) (x : Str) (elt : Expr) (pb : Nat → Bool) : Prop :=
  ∀ (cenv : Env) (A' : Around) (E' : Value → Shared → Prop) (c : Nat) (t : Tok) (z : Shared) (m : Str → Option Value), X.Ok → cenv.scope = scope → cenv.globals = X.env.globals → (∀ b o, X.base.get? b = some o → z.heap.get? b = some o) →
    z.heap.Ns cenv.locals m → m x = some (.str ⟨#[c]⟩ t) → wpAny (model X.prog X.w) A' (eval elt cenv) (fun y z' => y = .bool (pb c) ∧ Keeps z z') E' z
theorem tbl_not {H : Hp} {P : Addr} {ps : Array Value} (hP : H P = some (.tbl ps)) {b : Addr} (h : H b = none) : b ≠ P := fun z => by rw [z, hP] at h; cases h
theorem gen_go {c P : Addr} {elt : Expr} {x : Str} {scope : Scope} {pb : Nat → Bool} {k : Nat} {Q' : Value → Shared → Prop} {a : Str} {o : Obj} {St : Nat → Heap → Prop} {ps : Array Value}
    (hr : Room k X.A) (TB : TabB X.base X.mg c P) (sc : GenS X.env scope x) (hel : EltG X scope x elt pb) (J : L2.Inv X pins σ H s) (hP : H P = some (.tbl ps)) (atP : s.heap.get? P = some { cls := .none, data := .fields ps }) (ltP : P < s.heap.objs.size)
    (W : ∀ A' : Around, A'.handled = none → Walks X.prog X.w A' s.heap.objs.size [s.heap.objs.size] [s.heap.objs.size] a.cps.size (SignAt a) St) (st0 : St 0 (s.heap.push o)) (code : Value) (h3 : Heap) (tk : Nat) (ps' more : Array Value) (em : ps' = ps ++ more)
    (hx : Heap.ExtBut P (s.heap.push o) h3) (hsz : (s.heap.push o).objs.size ≤ h3.objs.size) (h3P : h3.get? P = some { cls := .none, data := .fields ps' }) (ok' : TriplesOk ps'.toList) (lim : (s.heap.push o).NoLimit) (hQ : ∀ g z, Ready X pins σ H P a pb g z → Q' (.ref g) z) :
    wpAny (model X.prog X.w) X.A (builtinsFor X.env.globals X.env.builtins) (fun bi s₄ =>
      ∃ Ia fp wr n₀ Pf St₀ pz F, Value.ref s.heap.objs.size = .ref Ia ∧ (∀ A' : Around, A'.handled = none → Walks X.prog X.w A' Ia fp wr n₀ Pf St₀) ∧ St₀ 0 s₄.heap ∧ (∀ b ∈ fp, b < s₄.heap.objs.size) ∧ s₄.heap.NoLimit ∧ cStatics ∉ wr ∧
        (∀ href : Heap, (∀ b u, s₄.heap.get? b = some u → href.get? b = some u) → QuietGen X.prog X.w (genEnv scope (cloFrom X.env.cells scope.names []) s₄.heap.objs.size code bi X.env) x [] elt (List.range s₄.heap.objs.size) wr Pf pz F href) ∧
        (∀ g h₅ tk gs, gs.bare = true → s₄.heap.objs.size < g → h₅.objs.size = g + 1 → (∀ b u, s₄.heap.get? b = some u → h₅.get? b = some u) →
          WalksS X.prog X.w X.A.in4 g (g :: s₄.heap.objs.size :: List.range s₄.heap.objs.size) (s₄.heap.objs.size :: wr) (GenOnlyQ s₄.gens.size) (passing pz n₀ 0).length (fun j y => ∃ i, (passing pz n₀ 0)[j]? = some i ∧ F i y) (GenAt X.prog X.w X.A.in4 g s₄.gens.size s₄.heap.objs.size (List.range s₄.heap.objs.size) wr pz n₀ F) →
          GenAt X.prog X.w X.A.in4 g s₄.gens.size s₄.heap.objs.size (List.range s₄.heap.objs.size) wr pz n₀ F 0 { s₄ with gens := s₄.gens.push gs, toks := tk, heap := h₅ } → Q' (.ref g) { s₄ with gens := s₄.gens.push gs, toks := tk, heap := h₅ })) X.xe { s with heap := h3, toks := tk } := by
  obtain ⟨bm, ob, q1, q2, q3, q4, q5, q6, q7, q8⟩ := TB.bm
  obtain ⟨cm, cns, cnn⟩ := J.nolimit
  have cP : cStatics ≠ P := fun z => by
    obtain ⟨o2, es, ep, g1, g2, _⟩ := cns
    rw [z, atP] at g1
    cases g1
    cases g2
  have cL : cStatics < s.heap.objs.size := cns.lt
  have big : (s.heap.push o).objs.size = s.heap.objs.size + 1 := Heap.size_push ..
  have kept : ∀ b u, b ≠ P → s.heap.get? b = some u → h3.get? b = some u := fun b u n e => hx b u n (Heap.get?_push_of_some _ e)
  have bases : ∀ b u, X.base.get? b = some u → h3.get? b = some u := fun b u e => kept b u (tbl_not hP (J.bs b u e).2) (J.bk b u e)
  refine wpAny_builtinsFor (m := X.mg) (by rw [J.ok.glob]; exact J.mod.glob.keeps bases) q1 q2 (bases _ _ q5) q6 q7 q8 ?_
  refine ⟨s.heap.objs.size, [s.heap.objs.size], [s.heap.objs.size], a.cps.size, SignAt a, St, fun _ => true, fun i y => ∃ cc, a.cps[i]? = some cc ∧ y = .bool (pb cc), rfl, W, ?_, ?_, lim.extBut hx cP, ?_, ?_, ?_⟩
  · refine (W X.A hr.hd).frame _ _ _ st0 fun b hb u e => hx b u ?_ e
    rw [List.mem_singleton.mp hb]
    exact Nat.ne_of_gt ltP
  · intro b hb
    rw [List.mem_singleton.mp hb]
    exact Nat.lt_of_lt_of_le (by rw [big]; exact Nat.lt_succ_self _) hsz
  · rw [List.mem_singleton]
    exact Nat.ne_of_lt cL
  · intro href hh
    refine ⟨fun A' E' i v s₂ m₂ _ _ _ _ _ => ?_, fun A' E' i v s₂ m₂ _ hv _ hn hm hk => ?_⟩
    · rw [List.forIn_nil]
      exact wpAny_pure ⟨rfl, keeps_refl s₂⟩
    · obtain ⟨cc, u, hcc, rfl⟩ := hv
      refine wpAny_mono (hel _ A' E' cc u s₂ m₂ J.ok rfl rfl (fun b w e => ?_) hn hm) (fun y z r => ⟨⟨cc, hcc, r.1⟩, r.2⟩) fun _ _ e => e
      have lb := Heap.lt_size (J.bk b w e)
      exact hk b (List.mem_range.mpr (Nat.lt_of_lt_of_le (Nat.lt_of_lt_of_le lb (by rw [big]; exact Nat.le_succ _)) hsz)) (by rw [List.mem_singleton]; exact Nat.ne_of_lt lb) w (hh b w (bases b w e))
  · intro g h5 tk5 gs bare _ _ _ W5 at5
    have W6 := W5
    simp only [GxR.passing_true, List.length_range] at W6
    refine hQ g _ ⟨_, _, _, _, _, W6.in4_1, at5, fun j y sj Qj Ej hy hq => ?_, fun z mv => ?_⟩
    · obtain ⟨i, hi, cc, hcc, rfl⟩ := hy
      obtain ⟨_, ei⟩ := List.getElem?_eq_some_iff.mp hi
      rw [List.getElem_range] at ei
      subst ei
      have hq' : Qj (trF pb a.cps.toList j) sj := hq
      rw [trF_some (show a.cps.toList[j]? = some cc by rw [Array.getElem?_toList]; exact hcc)] at hq'
      exact wpAny_truthy_bool hq'
    · have off : ∀ b u, s.heap.get? b = some u → b ∉ h3.objs.size :: [s.heap.objs.size] := fun b u e hb => by
        have l1 := Heap.lt_size e
        have l2 : s.heap.objs.size < h3.objs.size := Nat.lt_of_lt_of_le (by rw [big]; exact Nat.lt_succ_self _) hsz
        rcases List.mem_cons.mp hb with r | r
        · rw [r] at l1; exact absurd (Nat.lt_trans l1 l2) (Nat.lt_irrefl _)
        · rw [List.mem_singleton.mp r] at l1; exact absurd l1 (Nat.lt_irrefl _)
      have five : ∀ b u, h3.get? b = some u → h5.get? b = some u := by assumption
      have L := inv_tab (more := more) (h' := z.heap) (g' := z.gens) (d' := z.drawn) (t' := z.toks) J hP (fun b u n e => mv.heap b u (off b u e) (five b u (kept b u n e))) (by rw [← em]; exact mv.heap P _ (off P _ atP) (five P _ h3P)) (PyProof.Rows.AllBare.movedS (J.bare.push bare) mv)
      rw [sh_eta s z mv.os] at L
      exact ⟨upd H P (.tbl (ps ++ more)), ⟨⟨ps ++ more, upd_same, by rw [← em]; exact ok'⟩, fun b n => upd_ne n⟩, L⟩
theorem gen_signs {c P : Addr} {elt iter : Expr} {x : Str} {px gpos : Pos} {scope : Scope} {pb : Nat → Bool} {te : TE} {k : Nat} {Q' : Value → Shared → Prop} {R : Str → Hp → Prop}
    (hr : Room k X.A) (TB : TabB X.base X.mg c P) (hcode : X.env.code = .ref c) (sc : GenS X.env scope x) (hi : PE X iter te) (hel : EltG X scope x elt pb) (hs : ∀ v, genFold iter X.env v = pure v)
    (I : L2.Inv X pins σ H s) (h : te σ H fun v G => ∃ a : Str, v = .str a ∧ TabG G P ∧ R a G) (hQ : ∀ a G g z, R a G → Ready X pins σ G P a pb g z → Q' (.ref g) z) :
    wpAny (model X.prog X.w) X.A (eval (.GeneratorExp elt [⟨.Name x px, iter, [], 0⟩] scope gpos) X.env) Q' X.xe s := by
  have room : X.A.depth < recursionLimit := by have := hr.dp; omega
  refine wpAny_GeneratorExp_walksQ hr.hd sc.co (closure_ok sc.free) sc.cell sc.dot sc.loc sc.kind room (thn (hi.run pins s σ H _ I h) fun u s1 ⟨v, G, J, rv, a, ev, ⟨ps, hP, ok⟩, hR⟩ => ?_) hs
  subst ev
  obtain ⟨t, rfl⟩ := id rv
  refine wpAny_pyIter_str fun o St W st0 => ?_
  -- the table, the sizes, what is kept
  have atP : s1.heap.get? P = some { cls := .none, data := .fields ps } := J.hok P _ hP
  have ltP : P < s1.heap.objs.size := Heap.lt_size atP
  have atP' : (s1.heap.push o).get? P = some { cls := .none, data := .fields ps } := Heap.get?_push_of_some _ atP
  have cd : PySem.W.CodeHd (s1.heap.push o) c P := TB.code.keeps fun b w e => Heap.get?_push_of_some _ (J.bk b w e)
  have lim : (s1.heap.push o).NoLimit := J.nolimit.push o
  have next : ∀ (code : Value) (h3 : Heap) (tk : Nat) (ps' more : Array Value), ps' = ps ++ more → Heap.ExtBut P (s1.heap.push o) h3 → (s1.heap.push o).objs.size ≤ h3.objs.size → h3.get? P = some { cls := .none, data := .fields ps' } → TriplesOk ps'.toList → _ :=
    fun code h3 tk ps' more em hx hsz h3P ok' => gen_go (elt := elt) hr TB sc hel J hP atP ltP W st0 code h3 tk ps' more em hx hsz h3P ok' lim fun g z rd => hQ a G g z hR rd
  refine ⟨lim, ?_⟩
  cases hf : codeAmong gpos ps.toList with
  | some cv => exact wpAny_genexprCode_hit hcode (cd.code atP' ok) hf (next cv (s1.heap.push o) s1.toks ps #[] (by simp) (Heap.ExtBut.refl _ _) (Nat.le_refl _) atP' ok)
  | none =>
    refine wpAny_genexprCodeX hcode (cd.code atP' ok) (cd.tab atP') hf fun c' h' tk hx hge hlt hco' _ htab' _ => ?_
    obtain ⟨o1, vs, f1, tf, fl, tg, inF, tx, tt, op, _, _, _, _, _, _, _, _, _, htr, _⟩ := hco'
    exact next _ h' tk _ _ rfl hx (Nat.le_trans hge (Nat.le_of_lt hlt)) htab'.2 htr
theorem pe_allG {c P : Addr} {elt iter : Expr} {x : Str} {px p pos gpos : Pos} {scope : Scope} {pb : Nat → Bool} {te : TE} {k : Nat} (hr : Room k X.A) (hg : Gl X "all") (hm : X.mg "all" = none) (TB : TabB X.base X.mg c P) (hcode : X.env.code = .ref c)
    (sc : GenS X.env scope x) (hi : PE X iter te) (hel : EltG X scope x elt pb) (hs : ∀ v, genFold iter X.env v = pure v)
    (he : starEach [.GeneratorExp elt [⟨.Name x px, iter, [], 0⟩] scope gpos] X.env = (false, eval (.GeneratorExp elt [⟨.Name x px, iter, [], 0⟩] scope gpos) X.env) :: starEach [] X.env := by rfl) :
    PE X (.Call (.Name "all" p) [.GeneratorExp elt [⟨.Name x px, iter, [], 0⟩] scope gpos] [] pos) (tAllS P pb te) := by
  constructor
  intro pins s σ H Q I hyp
  have hb : bootBuiltins "all" = some (.builtin "all") := by decide +kernel
  refine wpAny_Call_Name_kw (ld_blt I hg hm hb (PyProof.Rows.callWith_builtin1 ?_ he (by rfl)))
  rw [he]
  show wpAny _ _ (spliced ((false, eval (.GeneratorExp elt [⟨.Name x px, iter, [], 0⟩] scope gpos) X.env) :: backTo pos (starEach [] X.env))) _ _ s
  refine Calls.spliced_cons (gen_signs (R := fun a G => ∀ G', Tabbed P G G' → Q (.bl (a.cps.toList.all pb)) G') hr TB hcode sc hi hel hs I hyp fun a G g z hR rd => Calls.spliced_nil ?_)
  obtain ⟨fp, wr, Gs, F, St, W, st, tr, done⟩ := rd
  refine call_all_walkS (W.self 0 _ _ _ st ⟨g, fp, wr, Gs, _, F, St, _, rfl, W, st, tr, fun z' mv => ?_⟩)
  obtain ⟨G', tb, L⟩ := done z' mv
  refine ⟨.bl _, G', L, rfl, ?_⟩
  rw [all_signs a pb]
  exact hR G' tb
/-- x in D, D a dict that the top has written -/
theorem elt_in {scope : Scope} {x y : Str} {pb : Nat → Bool} {d : Addr} {es : Array DictEntry} {n : Nat} {p1 p2 p3 : Pos} (D : KDict X.K X.w d es n) (gy : X.mg y = some (.ref d)) (hp : ∀ c, ∃ r, PySem.W.nsIn X.K d (S [c]) = some r ∧ r.isSome = pb c)
    (hk : scope.kind = .function) (hl : scope.names.lookup x = some .local) (hy : scope.names.lookup y = some .globalImplicit) (hd : (x == ("__debug__" : Str)) = false := by decide) (hd2 : (y == ("__debug__" : Str)) = false := by decide) :
    EltG X scope x (.Compare (.Name x p1) [.In] [.Name y p2] p3) pb := by
  intro cenv A' E' c t z m ok hs hg hb hn hm
  have kind : cenv.scope.kind = .function := by rw [hs]; exact hk
  refine wpAny_Compare1 (wpAny_Name (wpAny_loadName_local kind (show cenv.scope.names.lookup x = some .local by rw [hs]; exact hl) hn hm ?_) hd)
  refine Calls.Name_function_global kind (show cenv.scope.names.lookup y = some .globalImplicit by rw [hs]; exact hy) (Calls.loadGlobal_global (by rw [hg, ok.glob]; exact ok.mod.glob.keeps hb) gy ?_) hd2
  obtain ⟨r, e1, e2⟩ := hp c
  refine wpAny_in_of (PySem.strKind_is X.prog X.w (S [c]) t) D.low (PySem.W.mapOf_K (prog := X.prog) (ok.mod.kin.keeps hb) D.at_ D.lit) ?_
  rw [PySem.W.find_K D.at_ e1, e2]
  exact ⟨rfl, keeps_tok _ _⟩
end
/-! ### ''.join of texts, comprehensions over a text -/
theorem join_empty (ys : List (List Nat)) : Txt.join (S []) (ys.map S) = S ys.flatten := by
  have go : ∀ (zs : List (List Nat)) (a : Array Nat), ((zs.map S).foldl (fun acc p => acc ++ (S []).cps ++ p.cps) a).toList = a.toList ++ zs.flatten := by
    intro zs
    induction zs with
    | nil => intro a; simp
    | cons z r ih =>
      intro a
      rw [List.map_cons, List.foldl_cons, ih]
      simp [S]
  show Builtin.Str.glued (S []) (ys.map S) = _
  unfold Builtin.Str.glued
  cases ys with
  | nil => rfl
  | cons y r =>
    have := go r (S y).cps
    show (⟨(r.map S).foldl (fun acc p => acc ++ (S []).cps ++ p.cps) (S y).cps⟩ : Str) = _
    unfold S at this ⊢
    congr 1
    apply Array.toList_inj.mp
    rw [this]
    simp
theorem join_signs (l : List Nat) : Txt.join (S []) (l.map fun c => S [c]) = S l := by
  have := join_empty (l.map fun c => [c])
  rw [List.map_map] at this
  rw [show (l.map fun c => S [c]) = l.map (S ∘ fun c => [c]) from rfl, this]
  congr 1
  induction l with
  | nil => rfl
  | cons c r ih => rw [List.map_cons, List.flatten_cons, ih (join_empty _ |>.trans rfl |> fun h => by rw [List.map_map] at h; exact h)]; rfl
theorem sum_ones (l : List Nat) : ((l.map fun c => S [c]).map (·.length)).sum = l.length := by
  induction l with
  | nil => rfl
  | cons c r ih =>
    rw [List.map_cons, List.map_cons, List.sum_cons, ih, S_len, List.length_cons]
    show 1 + r.length = r.length + 1
    omega
theorem lc_str {l : List Nat} {g : TG} {tt : TT} {te : TE} {vs : List Nat} {σ : L2.St} {H1 : Hp} {D : Addr} {Qd : Hp → Prop} (Pv : Nat → Hp → Prop) (h0 : Pv 0 (upd H1 D (.lst [])))
    (hs : ∀ i c H, l[i]? = some c → Pv i H → g (.str (S [c])) (wipe σ vs) H fun σ2 H2 => wipe σ2 vs = wipe σ vs ∧ tt σ2 H2 fun b H3 =>
      if b = true then te σ2 H3 fun y H4 => ∃ acc, H4 D = some (.lst acc) ∧ acc.length < sizeLine ∧ Pv (i + 1) (upd H4 D (.lst (acc ++ [y]))) else Pv (i + 1) H3) (hd : ∀ H, Pv l.length H → Qd H) :
    ∃ W : Nat → Nat → Hp → Prop, (∃ m, W 0 m (upd H1 D (.lst []))) ∧ ∀ i m H, W i m H →
      ((Its (S l)).stop i H ∧ Qd H) ∨ ((Its (S l)).go i H ∧ ∃ Nx : Hp → Prop, (∀ H', Nx H' → ∃ m', m' < m ∧ W (i + 1) m' H') ∧ ∀ x H', (Its (S l)).yld i H x H' → g x (wipe σ vs) H' fun σ2 H2 => wipe σ2 vs = wipe σ vs ∧ tt σ2 H2 fun b H3 =>
        if b = true then te σ2 H3 fun y H4 => ∃ acc, H4 D = some (.lst acc) ∧ acc.length < sizeLine ∧ Nx (upd H4 D (.lst (acc ++ [y]))) else Nx H3) := by
  refine ⟨fun i m H => m = l.length - i ∧ i ≤ l.length ∧ Pv i H, ⟨l.length, by simp, Nat.zero_le _, h0⟩, ?_⟩
  rintro i m H ⟨rfl, hi, p⟩
  by_cases hlt : i < l.length
  · refine .inr ⟨by show i < (S l).cps.size; rw [S_size]; exact hlt, Pv (i + 1), fun H' p' => ⟨l.length - (i + 1), by omega, rfl, hlt, p'⟩, fun x H' y => ?_⟩
    obtain ⟨e, c, hc, rfl⟩ := y
    subst e
    rw [S_get] at hc
    exact hs i c _ hc p
  · have e : i = l.length := by omega
    subst e
    exact .inl ⟨by show (S l).cps.size ≤ l.length; rw [S_size]; exact Nat.le_refl _, hd H p⟩
/-- a def whose code object is told -/
theorem okC {P : Program} {w : World} {K : PySem.W.Frag} {mg : Str → Option Value} {base : Heap} {x qual : Str} {st : Stmt} {f c : Addr} {fd : FuncData} {N ps : List Str} {k : Nat} {sp : Sp} (F : Fun K x qual st f fd) (hc : fd.code = .ref c) (S : FnScope N ps (defScope st)) (len : ∀ vs H Q E, sp vs H Q E → vs.length = ps.length)
    (body : ∀ (A : Around) (outer : List Env) (s : Shared) (H : Hp) (vs : List V) (Q : VK) (E : XK), Room k (A.deeper (PyProof.Rows.envOfC qual (defScope st) s.heap.objs.size f (.ref c))) → sp vs H Q E →
      ∃ t, PSs (cxOf CX0 P w K mg base N qual (defScope st) f (.ref c) A outer s H E).nox (defBody st) t ∧ t { nx := fun _ H' => Q .non H', rt := Q } (start N vs) H) : FnOk P w K mg base CX0 (k + 1) f fd ps sp := by
  obtain ⟨_, _, _, _, _, _, cdv, _, _, rfl, lk, hcd⟩ := F.ex
  have e : cdv = .ref c := hc
  subst e
  refine fn_of lk hcd S len fun A outer s H vs Q E hr h => ?_
  obtain ⟨t, a, b⟩ := body A outer s H vs Q E hr h
  exact ⟨t, a.nox, b⟩
def top (i : Nat) : Stmt := PySem.Challenge.pw_ropedance_k30_whole_closed_ropes.main.body.getD i (.Pass ⟨0, 0, 0, 0⟩)
abbrev s_after : Stmt := top 2
theorem sc_after : FnScope ["fraction", "dance", "p", "q", "letter"] ["fraction", "dance"] (defScope s_after) := ⟨rfl, rfl, rfl, by decide +kernel, rfl, by decide +kernel, by decide +kernel⟩
abbrev s_turned : Stmt := top 3
theorem sc_turned : FnScope ["p", "q"] ["p", "q"] (defScope s_turned) := ⟨rfl, rfl, rfl, by decide +kernel, rfl, by decide +kernel, by decide +kernel⟩
abbrev s_quotients : Stmt := top 4
theorem sc_quotients : FnScope ["fraction", "p", "q", "parts", "rest"] ["fraction"] (defScope s_quotients) := ⟨rfl, rfl, rfl, by decide +kernel, rfl, by decide +kernel, by decide +kernel⟩
abbrev s_number : Stmt := top 7
theorem sc_number : FnScope ["dance"] ["dance"] (defScope s_number) := ⟨rfl, rfl, rfl, by decide +kernel, rfl, by decide +kernel, by decide +kernel⟩
abbrev s_backward : Stmt := top 8
theorem sc_backward : FnScope ["dance"] ["dance"] (defScope s_backward) := ⟨rfl, rfl, rfl, by decide +kernel, rfl, by decide +kernel, by decide +kernel⟩
abbrev s_mirrored : Stmt := top 9
theorem sc_mirrored : FnScope ["dance", "letter"] ["dance"] (defScope s_mirrored) := ⟨rfl, rfl, rfl, by decide +kernel, rfl, by decide +kernel, by decide +kernel⟩
abbrev s_partner : Stmt := top 10
theorem sc_partner : FnScope ["dance", "nw", "ne", "sw", "_"] ["dance"] (defScope s_partner) := ⟨rfl, rfl, rfl, by decide +kernel, rfl, by decide +kernel, by decide +kernel⟩
abbrev s_pieces : Stmt := top 11
theorem sc_pieces : FnScope ["dance", "way", "tied_to_nw"] ["dance", "way"] (defScope s_pieces) := ⟨rfl, rfl, rfl, by decide +kernel, rfl, by decide +kernel, by decide +kernel⟩
abbrev s_ropes_at_ends : Stmt := top 12
theorem sc_ropes_at_ends : FnScope ["dance", "nw", "ne", "sw", "se", "letter"] ["dance"] (defScope s_ropes_at_ends) := ⟨rfl, rfl, rfl, by decide +kernel, rfl, by decide +kernel, by decide +kernel⟩
abbrev s_colour_count : Stmt := top 14
theorem sc_colour_count : FnScope ["dance", "way", "n", "p", "q"] ["dance", "way", "n"] (defScope s_colour_count) := ⟨rfl, rfl, rfl, by decide +kernel, rfl, by decide +kernel, by decide +kernel⟩
abbrev s_runs : Stmt := top 16
theorem sc_runs : FnScope ["fraction", "letters", "k", "part"] ["fraction"] (defScope s_runs) := ⟨rfl, rfl, rfl, by decide +kernel, rfl, by decide +kernel, by decide +kernel⟩
abbrev s_undo : Stmt := top 17
theorem sc_undo : FnScope ["dance", "letter", "many"] ["dance"] (defScope s_undo) := ⟨rfl, rfl, rfl, by decide +kernel, rfl, by decide +kernel, by decide +kernel⟩
abbrev s_law_tape : Stmt := top 19
theorem sc_law_tape : FnScope ["script", "k", "cell"] ["script", "k"] (defScope s_law_tape) := ⟨rfl, rfl, rfl, by decide +kernel, rfl, by decide +kernel, by decide +kernel⟩
abbrev s_law_take : Stmt := top 20
theorem sc_law_take : FnScope ["tape", "many", "got", "mixed"] ["tape", "many"] (defScope s_law_take) := ⟨rfl, rfl, rfl, by decide +kernel, rfl, by decide +kernel, by decide +kernel⟩
abbrev s_law_dance : Stmt := top 21
theorem sc_law_dance : FnScope ["tape", "most", "dance", "size", "k"] ["tape", "most"] (defScope s_law_dance) := ⟨rfl, rfl, rfl, by decide +kernel, rfl, by decide +kernel, by decide +kernel⟩
abbrev s_law_called : Stmt := top 22
theorem sc_law_called : FnScope ["value", "letter", "p", "q"] ["value", "letter"] (defScope s_law_called) := ⟨rfl, rfl, rfl, by decide +kernel, rfl, by decide +kernel, by decide +kernel⟩
abbrev s_law_number : Stmt := top 23
theorem sc_law_number : FnScope ["dance", "value", "letter"] ["dance"] (defScope s_law_number) := ⟨rfl, rfl, rfl, by decide +kernel, rfl, by decide +kernel, by decide +kernel⟩
abbrev s_law_same : Stmt := top 24
theorem sc_law_same : FnScope ["told", "due", "k"] ["told", "due"] (defScope s_law_same) := ⟨rfl, rfl, rfl, by decide +kernel, rfl, by decide +kernel, by decide +kernel⟩
abbrev s_law_divisor : Stmt := top 25
theorem sc_law_divisor : FnScope ["one", "other"] ["one", "other"] (defScope s_law_divisor) := ⟨rfl, rfl, rfl, by decide +kernel, rfl, by decide +kernel, by decide +kernel⟩
abbrev s_law_seen : Stmt := top 26
theorem sc_law_seen : FnScope ["dance", "way", "n"] ["dance", "way", "n"] (defScope s_law_seen) := ⟨rfl, rfl, rfl, by decide +kernel, rfl, by decide +kernel, by decide +kernel⟩
abbrev s_law : Stmt := top 27
theorem sc_law : FnScope ["script", "k", "tape", "dance", "n", "p", "q", "way", "other"] ["script"] (defScope s_law) := ⟨rfl, rfl, rfl, by decide +kernel, rfl, by decide +kernel, by decide +kernel⟩
/-! ### heaps, tapes, pairs -/
/-- all that was tracked is as it was, but what stands at a -/
def But (a : Addr) (H H' : Hp) : Prop := ∀ b o, b ≠ a → H b = some o → H' b = some o
theorem But.refl (a : Addr) (H : Hp) : But a H H := fun _ _ _ h => h
theorem But.trans {a : Addr} {H H1 H2 : Hp} (x : But a H H1) (y : But a H1 H2) : But a H H2 := fun b o n h => y b o n (x b o n h)
theorem But.of {a : Addr} {H H' : Hp} (x : Same H H') : But a H H' := fun b o _ h => x b o h
theorem But.upd {a : Addr} {H : Hp} {o : HO} : But a H (upd H a o) := fun b u n h => by rw [upd_ne n]; exact h
theorem But.same {a : Addr} {H0 H H' : Hp} (x : But a H H') (s : Same H0 H) (n : H0 a = none) : Same H0 H' := fun b o h => x b o (ne_of_none h n) (s b o h)
theorem same_new {H : Hp} {p : Addr} (h : H p = none) (o : HO) : Same H (L2.upd H p o) := fun b u q => by rw [upd_ne (ne_of_none q h)]; exact q
theorem Same.tup {K : PySem.W.Frag} {H H' : Hp} {a : Addr} {xs : List V} (e : Same H H') (h : SqT K H a xs) : SqT K H' a xs := by
  rcases h with (h | ⟨o, h⟩) | h
  · exact .inl (.inl (e _ _ h))
  · exact .inl (.inr ⟨o, e _ _ h⟩)
  · exact .inr h
def Tape (H : Hp) (a : Addr) : Prop := ∃ (t c s : Int) (b : Bool), H a = some (.lst [.int t, .bl b, .int c, .int s])
theorem Tape.same {H H' : Hp} {a : Addr} (t : Tape H a) (s : Same H H') : Tape H' a := by
  obtain ⟨x, c, y, b, h⟩ := t
  exact ⟨x, c, y, b, s _ _ h⟩
theorem Tape.ne {H : Hp} {a p : Addr} (t : Tape H a) (h : H p = none) : p ≠ a := by
  obtain ⟨x, c, y, b, e⟩ := t
  exact fun z => by rw [z, e] at h; cases h
theorem But.tup {K : PySem.W.Frag} {a : Addr} {H H' : Hp} {p : Addr} {xs : List V} (x : But a H H') (t : Tape H a) (h : SqT K H p xs) : SqT K H' p xs := by
  obtain ⟨y, c, z, b, e⟩ := t
  rcases h with (h | ⟨o, h⟩) | h
  · exact .inl (.inl (x _ _ (ne_of h e (by intro q; cases q)) h))
  · exact .inl (.inr ⟨o, x _ _ (ne_of h e (by intro q; cases q)) h⟩)
  · exact .inr h
/-- a dance: the letters T, U, R -/
def Lets (l : List Nat) : Prop := ∀ c ∈ l, c = 84 ∨ c = 85 ∨ c = 82
theorem atI_mk {α : Type} {xs : List α} {k : Int} (h0 : 0 ≤ k) (h1 : k < (xs.length : Int)) : ∃ v, atI xs k = some v ∧ v ∈ xs := by
  obtain ⟨n, rfl⟩ := Int.eq_ofNat_of_zero_le h0
  have h : n < xs.length := by omega
  exact ⟨xs[n], atI_nat (List.getElem?_eq_getElem h), List.getElem_mem h⟩
theorem atI_ints {ns : List Int} {k : Int} (h0 : 0 ≤ k) (h1 : k < (ns.length : Int)) : ∃ v : Int, atI (ns.map V.int) k = some (.int v) := by
  obtain ⟨v, e, m⟩ := atI_mk (xs := ns.map V.int) h0 (by rw [List.length_map]; exact h1)
  obtain ⟨i, _, rfl⟩ := List.mem_map.mp m
  exact ⟨i, e⟩
/-! ### a def of the text with its promise, ready to be called -/
structure Dfn (P : Program) (w : World) (K : PySem.W.Frag) (mg : Str → Option Value) (base : Heap) (x : Str) (k : Nat) (ps : List Str) (sp : Sp) : Prop where
  ex : ∃ (f : Addr) (fd : FuncData), FnOk P w K mg base CX0 k f fd ps sp ∧ mg x = some (.ref f) ∧ PySem.W.keepIn K (.ref f) = true ∧ Binds K fd ps []
theorem pe_do {X : Cx} {x : Str} {j : Nat} {ps : List Str} {sp : Sp} {e : Expr} {es : List Expr} {t : TA} {p pos : Pos} (D : Dfn X.prog X.w X.K X.mg X.base x j ps sp) (hr : Room j X.A)
    (ha : PA X (e :: es) t) (hg : Gl X x := by rfl) (hdb : (x == ("__debug__" : Str)) = false := by decide) (he : starEach (e :: es) X.env = (false, eval e X.env) :: starEach es X.env := by rfl) (hpl : (backTo pos (starEach es X.env)).any (·.1) = false := by rfl) :
    PE X (.Call (.Name x p) (e :: es) [] pos) (tCall sp [] E0 t) := by
  obtain ⟨f, fd, ok, mg, kp, bd⟩ := D.ex
  exact pe_call ok hr hg mg kp bd .nil pass0 ha hdb he hpl
theorem Dfn.mono {P : Program} {w : World} {K : PySem.W.Frag} {mg : Str → Option Value} {base : Heap} {x : Str} {j k : Nat} {ps : List Str} {sp : Sp} (D : Dfn P w K mg base x j ps sp) (h : j ≤ k) : Dfn P w K mg base x k ps sp := by
  obtain ⟨f, fd, ok, mg, kp, bd⟩ := D.ex
  exact ⟨f, fd, ok.mono h, mg, kp, bd⟩
section
variable {P : Program} {w : World} {K : PySem.W.Frag} {mg : Str → Option Value} {base : Heap} {f : Addr} {fd : FuncData}
/-! ### the tape of a law -/
def spTape (K : PySem.W.Frag) : Sp := fun vs H Q _ => ∃ (a : Addr) (ns : List Int) (k : Int), vs = [.ref a, .int k] ∧ SqL K H a (ns.map V.int) ∧ 0 ≤ k ∧ ∀ p H', Same H H' → H p = none → Tape H' p → Q (.ref p) H'
theorem ok_tape (F : Fun K "_law_tape" "_law_tape" s_law_tape f fd) (ml : mg "len" = none) (ma : mg "abs" = none) (mi : mg "int" = none) : FnOk P w K mg base CX0 1 f fd ["script", "k"] (spTape K) := by
  refine F.ok sc_law_tape (fun vs H Q E h => ?_) (fun cdv A outer s H vs Q E hr h => ?_)
  · obtain ⟨a, ns, k, rfl, _⟩ := h
    rfl
  obtain ⟨a, ns, k, rfl, hS, hk, q⟩ := h
  refine ⟨_, pss_cons (ps_set (i := 2) sc_law_tape.nd rfl (.inl rfl) pe_int)
    (pss_cons (ps_if (pt_cmpR op_lt (pv 1) (pe_callB call_len_seq rfl ml PySem.boot_len (pa_cons (pv 0) pa_nil)) (nomark _))
        (pss_one (ps_set (i := 2) sc_law_tape.nd rfl (.inl rfl) (pe_callB call_abs rfl ma (by decide +kernel) (pa_cons (pe_ix ix_list (pv 0) (pv 1) (fun _ _ => rfl)) pa_nil)))) pss_nil)
    (pss_one (ps_ret (pe_lst (pa_cons (pv 2) (pa_cons (pe_cmpR op_ge (pv 2) (pe_op op_pow pe_int pe_int) (nomark _)) (pa_cons pe_int
      (pa_cons (pe_op op_modN (pe_callTy call_int1 rfl mi (by decide +kernel) (pa_cons (pe_op op_add (pe_op op_mul (pv 2) pe_int) (pv 1)) pa_nil)) pe_int) pa_nil)))))))), ?_⟩
  refine ⟨_, rfl, _, rfl, a, _, rfl, .inl hS, _, _, rfl, rfl, _, rfl, ?_⟩
  refine ite2 (fun c => ?_) (fun c => ?_)
  · have c' : k < (((ns.map V.int).length : Nat) : Int) := of_decide_eq_true c
    rw [List.length_map] at c'
    obtain ⟨v, hv⟩ := atI_ints hk c'
    refine ⟨_, rfl, _, rfl, a, _, _, _, rfl, rfl, hS, hv, _, rfl, ?_⟩
    refine ⟨_, rfl, _, rfl, _, _, rfl, rfl, ⟨by decide, by decide, by decide⟩, _, _, rfl, rfl, _, rfl, _, _, rfl, rfl, .inr ⟨by decide, by decide⟩, _, rfl, _, _, rfl, rfl, .inl ⟨_, rfl, _, _, rfl, rfl, (show (2147483647 : Int) ≠ 0 by decide), ?_⟩⟩
    exact ⟨(by show 4 ≤ sizeLine; decide), fun p hp => q p _ (same_new hp _) hp ⟨_, _, _, _, upd_same⟩⟩
  · refine ⟨_, rfl, _, rfl, _, _, rfl, rfl, ⟨by decide, by decide, by decide⟩, _, _, rfl, rfl, _, rfl, _, _, rfl, rfl, .inr ⟨by decide, by decide⟩, _, rfl, _, _, rfl, rfl, .inl ⟨_, rfl, _, _, rfl, rfl, (show (2147483647 : Int) ≠ 0 by decide), ?_⟩⟩
    exact ⟨(by show 4 ≤ sizeLine; decide), fun p hp => q p _ (same_new hp _) hp ⟨_, _, _, _, upd_same⟩⟩
def spTake : Sp := fun vs H Q _ => ∃ (a : Addr) (m : Int), vs = [.ref a, .int m] ∧ Tape H a ∧ 0 < m ∧ m < 1073741824 ∧ ∀ r H', 0 ≤ r → r < m → But a H H' → Tape H' a → Q (.int r) H'
theorem ok_take (F : Fun K "_law_take" "_law_take" s_law_take f fd) (mi : mg "int" = none) : FnOk P w K mg base CX0 1 f fd ["tape", "many"] spTake := by
  refine F.ok sc_law_take (fun vs H Q E h => ?_) (fun cdv A outer s H vs Q E hr h => ?_)
  · obtain ⟨a, m, rfl, _⟩ := h
    rfl
  obtain ⟨a, m, rfl, ⟨t, c, sd, b, hT⟩, h0, h1, q⟩ := h
  refine ⟨_, pss_cons (ps_if (PW.pt (pw_and (pt_val (pe_ix ix_list (pv 0) pe_int (fun _ _ => rfl))) (pw_and1 (pt_cmpR op_gt (pe_ix ix_list (pv 0) pe_int (fun _ _ => rfl)) pe_int (nomark _)))))
      (pss_cons (ps_set (i := 2) sc_law_take.nd rfl (.inl rfl) (pe_op op_modN (pe_callTy call_int1 rfl mi (by decide +kernel) (pa_cons (pe_ix ix_list (pv 0) pe_int (fun _ _ => rfl)) pa_nil)) (pv 1)))
      (pss_cons (ps_asg (pe_op op_fdivN (pe_ix ix_list (pv 0) pe_int (fun _ _ => rfl)) (pv 1)) (pg_sub (pv 0) pe_int set_list))
      (pss_one (ps_ret (pv 2))))) pss_nil)
    (pss_cons (ps_asg (pe_op op_add (pe_ix ix_list (pv 0) pe_int (fun _ _ => rfl)) pe_int) (pg_sub (pv 0) pe_int set_list))
    (pss_cons (ps_set (i := 3) sc_law_take.nd rfl (.inl rfl) (pe_op op_modN (pe_callTy call_int1 rfl mi (by decide +kernel) (pa_cons (pe_op op_add (pe_op op_add (pe_op op_mul (pe_ix ix_list (pv 0) pe_int (fun _ _ => rfl)) pe_int) (pe_op op_mul (pe_ix ix_list (pv 0) pe_int (fun _ _ => rfl)) pe_int)) pe_int) pa_nil)) pe_int))
    (pss_cons (ps_set (i := 3) sc_law_take.nd rfl (.inl rfl) (pe_op op_modN (pe_callTy call_int1 rfl mi (by decide +kernel) (pa_cons (pe_op op_add (pe_op op_add (pe_op op_mul (pv 3) pe_int) (pe_op op_mul (pe_op op_fdivN (pv 3) pe_int) pe_int)) (pe_ix ix_list (pv 0) pe_int (fun _ _ => rfl))) pa_nil)) pe_int))
    (pss_one (ps_ret (pe_op op_modN (pe_callTy call_int1 rfl mi (by decide +kernel) (pa_cons (pe_op op_fdivN (pv 3) pe_int) pa_nil)) (pv 1))))))), ?_⟩
  have rest : ∀ x : Int, 0 ≤ x.fmod m ∧ x.fmod m < m := fun x => by
    rw [Int.fmod_eq_emod_of_nonneg x (Int.le_of_lt h0)]
    exact ⟨Int.emod_nonneg x (by omega), Int.emod_lt_of_pos x h0⟩
  refine ⟨_, rfl, a, _, _, _, rfl, rfl, SqL.of hT, rfl, b, rfl, ?_⟩
  refine ite2 (fun hb => ?_) (fun hb => ?_)
  · refine ⟨_, rfl, a, _, _, _, rfl, rfl, SqL.of hT, rfl, _, _, rfl, rfl, _, rfl, ?_⟩
    refine ite2 (fun hc => ?_) (fun hc => ?_)
    · refine ⟨_, rfl, a, _, _, _, rfl, rfl, SqL.of hT, rfl, .inl ⟨_, rfl, _, rfl, _, _, rfl, rfl, (show m ≠ 0 by omega), ?_⟩⟩
      refine ⟨_, rfl, a, _, _, _, rfl, rfl, SqL.of hT, rfl, _, rfl, _, _, rfl, rfl, (show m ≠ 0 ∧ m.natAbs < 1073741824 by omega), _, rfl, a, _, _, _, rfl, rfl, hT, rfl, ?_⟩
      exact ⟨_, rfl, q _ _ (rest _).1 (rest _).2 But.upd ⟨_, _, _, _, upd_same⟩⟩
    · refine ⟨_, rfl, a, _, _, _, rfl, rfl, SqL.of hT, rfl, _, _, rfl, rfl, _, rfl, a, _, _, _, rfl, rfl, hT, rfl, ?_⟩
      refine ⟨_, rfl, a, _, _, _, rfl, rfl, SqL.of upd_same, rfl, _, _, rfl, rfl, .inr ⟨by decide, by decide⟩, _, rfl, a, _, _, _, rfl, rfl, SqL.of upd_same, rfl, _, _, rfl, rfl, .inr ⟨by decide, by decide⟩, _, _, rfl, rfl, _, _, rfl, rfl, .inl ⟨_, rfl, _, _, rfl, rfl, (show (2147483647 : Int) ≠ 0 by decide), ?_⟩⟩
      refine ⟨_, rfl, _, _, rfl, rfl, .inr ⟨by decide, by decide⟩, _, rfl, _, _, rfl, rfl, ⟨by decide, by decide⟩, _, _, rfl, rfl, .inr ⟨by decide, by decide⟩, _, _, rfl, rfl, _, rfl, a, _, _, _, rfl, rfl, SqL.of upd_same, rfl, _, _, rfl, rfl, .inl ⟨_, rfl, _, _, rfl, rfl, (show (2147483399 : Int) ≠ 0 by decide), ?_⟩⟩
      exact ⟨_, rfl, _, _, rfl, rfl, ⟨by decide, by decide⟩, .inl ⟨_, rfl, _, rfl, _, _, rfl, rfl, (show m ≠ 0 by omega), q _ _ (rest _).1 (rest _).2 But.upd ⟨_, _, _, _, upd_same⟩⟩⟩
  · refine ⟨_, rfl, a, _, _, _, rfl, rfl, SqL.of hT, rfl, _, _, rfl, rfl, _, rfl, a, _, _, _, rfl, rfl, hT, rfl, ?_⟩
    refine ⟨_, rfl, a, _, _, _, rfl, rfl, SqL.of upd_same, rfl, _, _, rfl, rfl, .inr ⟨by decide, by decide⟩, _, rfl, a, _, _, _, rfl, rfl, SqL.of upd_same, rfl, _, _, rfl, rfl, .inr ⟨by decide, by decide⟩, _, _, rfl, rfl, _, _, rfl, rfl, .inl ⟨_, rfl, _, _, rfl, rfl, (show (2147483647 : Int) ≠ 0 by decide), ?_⟩⟩
    refine ⟨_, rfl, _, _, rfl, rfl, .inr ⟨by decide, by decide⟩, _, rfl, _, _, rfl, rfl, ⟨by decide, by decide⟩, _, _, rfl, rfl, .inr ⟨by decide, by decide⟩, _, _, rfl, rfl, _, rfl, a, _, _, _, rfl, rfl, SqL.of upd_same, rfl, _, _, rfl, rfl, .inl ⟨_, rfl, _, _, rfl, rfl, (show (2147483399 : Int) ≠ 0 by decide), ?_⟩⟩
    exact ⟨_, rfl, _, _, rfl, rfl, ⟨by decide, by decide⟩, .inl ⟨_, rfl, _, rfl, _, _, rfl, rfl, (show m ≠ 0 by omega), q _ _ (rest _).1 (rest _).2 But.upd ⟨_, _, _, _, upd_same⟩⟩⟩
/-! ### dances, fractions -/
theorem six_letters {r : Int} (h0 : 0 ≤ r) (h1 : r < 6) : ∃ c, atI (("TTUURR" : Str)).cps.toList r = some c ∧ (c = 84 ∨ c = 85 ∨ c = 82) := by
  have e : (("TTUURR" : Str)).cps.toList = [84, 84, 85, 85, 82, 82] := by decide +kernel
  rw [e]
  obtain ⟨c, hc, m⟩ := atI_mk (xs := [84, 84, 85, 85, 82, 82]) h0 h1
  refine ⟨c, hc, ?_⟩
  simp at m
  omega
theorem four_sizes {r : Int} (h0 : 0 ≤ r) (h1 : r < 4) : ∃ z : Int, atI [V.int 1, .int 1, .int 3, .int 9] r = some (.int z) ∧ 1 ≤ z ∧ z ≤ 9 := by
  obtain ⟨c, hc, m⟩ := atI_mk (xs := [V.int 1, .int 1, .int 3, .int 9]) h0 h1
  simp at m
  rcases m with rfl | rfl | rfl
  · exact ⟨1, hc, by decide, by decide⟩
  · exact ⟨3, hc, by decide, by decide⟩
  · exact ⟨9, hc, by decide, by decide⟩
theorem e_empty : (("" : Str)) = S [] := by decide +kernel
theorem sizeLine_big : 16777216 ≤ sizeLine := by rw [sizeLine_eq]; decide
theorem fits {n : Nat} (h : n ≤ 16777216) : n ≤ sizeLine := Nat.le_trans h sizeLine_big
def spDance : Sp := fun vs H Q _ => ∃ (a : Addr) (m : Int), vs = [.ref a, .int m] ∧ Tape H a ∧ 0 ≤ m ∧ m ≤ 1000 ∧ ∀ l H', Lets l → (l.length : Int) ≤ m → But a H H' → Tape H' a → Q (.str (S l)) H'
theorem ok_dance (F : Fun K "_law_dance" "_law_dance" s_law_dance f fd) (DT : Dfn P w K mg base "_law_take" 1 ["tape", "many"] spTake) (mr : mg "range" = none) : FnOk P w K mg base CX0 2 f fd ["tape", "most"] spDance := by
  refine F.ok sc_law_dance (fun vs H Q E h => ?_) (fun cdv A outer s H vs Q E hr h => ?_)
  · obtain ⟨a, m, rfl, _⟩ := h
    rfl
  obtain ⟨a, m, rfl, hT, h0, h1, q⟩ := h
  refine ⟨_, pss_cons (ps_set (i := 2) sc_law_dance.nd rfl (.inl rfl) pe_str)
    (pss_cons (ps_set (i := 3) sc_law_dance.nd rfl (.inl rfl) (pe_ix ix_list (pe_lst (pa_cons pe_int (pa_cons pe_int (pa_cons pe_int (pa_cons pe_int pa_nil))))) (pe_do DT hr (pa_cons (pv 0) (pa_cons pe_int pa_nil))) (fun _ _ => rfl)))
    (pss_cons (ps_for PassesOwn.never rfl (pi_range1 rfl mr (pa_cons (pe_do DT hr (pa_cons (pv 0) (pa_cons (pe_op op_add (pv 1) pe_int) pa_nil))) pa_nil)) (pg_name (i := 4) sc_law_dance.nd rfl (.inl rfl))
      (pss_one (ps_set (i := 2) sc_law_dance.nd rfl (.inl rfl) (pe_op op_add_str (pv 2) (pe_op op_mul_str (pe_ix ix_str pe_str (pe_do DT hr (pa_cons (pv 0) (pa_cons pe_int pa_nil))) (fun _ _ => rfl))
        (pe_op op_add pe_int (pe_do DT hr (pa_cons (pv 0) (pa_cons (pv 3) pa_nil)))))))))
    (pss_one (ps_ret (pe_slice sl_str (pv 2) po_none (po_some (pv 1))))))), ?_⟩
  refine ⟨(by show 4 ≤ sizeLine; exact fits (by decide)), fun p hp => ?_⟩
  have np := hT.ne hp
  refine ⟨_, rfl, a, 4, rfl, hT.same (same_new hp _), by decide, by decide, fun r H1 r0 r1 b1 t1 => ?_⟩
  obtain ⟨z, hz, z1, z9⟩ := four_sizes r0 r1
  refine ⟨p, _, _, _, rfl, rfl, SqL.of (b1 _ _ np upd_same), hz, ?_⟩
  have B1 : But a H H1 := (But.of (same_new hp _)).trans b1
  refine ⟨_, rfl, _, rfl, _, _, rfl, rfl, a, _, rfl, t1, (show 0 < m + 1 by omega), (show m + 1 < 1073741824 by omega), fun r2 H2 r20 r21 b2 t2 => ?_⟩
  refine ⟨r2, rfl, by omega, by omega, for_range (lo := 0) (n := r2.toNat) (fun i σ H' => ∃ (l : List Nat) (v : Option V), σ = [some (.ref a), some (.int m), some (.str (S l)), some (.int z), v] ∧ Lets l ∧ l.length ≤ 9 * i ∧ But a H H' ∧ Tape H' a) ?_ ?_ ?_⟩
  · exact ⟨[], none, by rw [← e_empty]; rfl, fun _ h => (by cases h), Nat.zero_le _, B1.trans b2, t2⟩
  · rintro i σ H' hi ⟨l, v, rfl, hl, hz2, bt, tp⟩
    refine ⟨_, rfl, _, rfl, a, 6, rfl, tp, by decide, by decide, fun r3 H3 r30 r31 b3 t3 => ?_⟩
    obtain ⟨c, hc, hcl⟩ := six_letters r30 r31
    refine ⟨_, _, c, rfl, rfl, (fits (by decide +kernel)), hc, _, rfl, _, rfl, a, z, rfl, t3, by omega, by omega, fun r4 H4 r40 r41 b4 t4 => ?_⟩
    have hn : (1 + r4).toNat ≤ 9 := by omega
    refine ⟨_, _, rfl, rfl, [c], 1 + r4, rfl, rfl, by omega, by omega, by simp only [List.length_singleton]; omega, _, _, rfl, rfl, ?_, ?_⟩
    · rw [S_len, S_len]
      refine fits ?_
      rw [List.length_flatten, List.map_replicate, List.sum_replicate_nat]
      simp only [List.length_singleton]
      omega
    · refine ⟨l ++ (List.replicate (1 + r4).toNat [c]).flatten, _, by rw [S_app]; rfl, fun x hx => ?_, ?_, (bt.trans b3).trans b4, t4⟩
      · rcases List.mem_append.mp hx with hx | hx
        · exact hl x hx
        · obtain ⟨y, hy, hxy⟩ := List.mem_flatten.mp hx
          rw [(List.mem_replicate.mp hy).2] at hxy
          rw [List.mem_singleton.mp hxy]
          exact hcl
      · rw [List.length_append, List.length_flatten, List.map_replicate, List.sum_replicate_nat]
        simp only [List.length_singleton]
        omega
  · rintro σ H' ⟨l, v, rfl, hl, hz2, bt, tp⟩
    refine ⟨_, rfl, _, rfl, _, rfl, _, rfl, (by rw [S_len]; exact fits (by omega)), ?_⟩
    rw [S_take l h0]
    refine q _ _ (fun x hx => hl x (List.mem_of_mem_take hx)) ?_ bt tp
    rw [List.length_take]
    omega
end
section
variable {P : Program} {w : World} {K : PySem.W.Frag} {mg : Str → Option Value} {base : Heap} {f : Addr} {fd : FuncData}
/-! ### the same data -/
inductive Dt where
  | int (i : Int) | str (z : Str) | non | tup (xs : List Dt) | lst (xs : List Dt)
/-- v stands for d, in at most n levels -/
def Is (H : Hp) : Nat → V → Dt → Prop
  | _, v, .int i => v = .int i
  | _, v, .str z => v = .str z
  | _, v, .non => v = .non
  | 0, _, .tup _ => False
  | 0, _, .lst _ => False
  | n + 1, v, .tup ds => ∃ (a : Addr) (xs : List V), v = .ref a ∧ H a = some (.tup xs) ∧ xs.length = ds.length ∧ ds.length ≤ 1000000 ∧ ∀ (i : Nat) (x : V) (d : Dt), xs[i]? = some x → ds[i]? = some d → Is H n x d
  | n + 1, v, .lst ds => ∃ (a : Addr) (xs : List V), v = .ref a ∧ H a = some (.lst xs) ∧ xs.length = ds.length ∧ ds.length ≤ 1000000 ∧ ∀ (i : Nat) (x : V) (d : Dt), xs[i]? = some x → ds[i]? = some d → Is H n x d
def spSame : Nat → Sp
  | 0 => fun _ _ _ _ => False
  | n + 1 => fun vs H Q _ => ∃ (x y : V) (d : Dt), vs = [x, y] ∧ Is H n x d ∧ Is H n y d ∧ Q (.bl true) H
theorem ok_same {n : Nat} (F : Fun K "_law_same" "_law_same" s_law_same f fd) (DS : Dfn P w K mg base "_law_same" n ["told", "due"] (spSame n)) (mI : mg "isinstance" = none) (mT : mg "tuple" = none) (mL : mg "list" = none) (ml : mg "len" = none) (mr : mg "range" = none)
    (ms : mg "str" = none) (mi : mg "int" = none) (mb : mg "bool" = none) : FnOk P w K mg base CX0 (n + 1) f fd ["told", "due"] (spSame (n + 1)) := by
  refine F.ok sc_law_same (fun vs H Q E h => ?_) (fun cdv A outer s H vs Q E hr h => ?_)
  · obtain ⟨x, y, d, rfl, _⟩ := h
    rfl
  obtain ⟨x, y, d, rfl, hx, hy, q⟩ := h
  have bT : bootBuiltins "tuple" = some (.type "tuple") := by decide +kernel
  have bL : bootBuiltins "list" = some (.type "list") := by decide +kernel
  have bS : bootBuiltins "str" = some (.type "str") := by decide +kernel
  have bI : bootBuiltins "int" = some (.type "int") := by decide +kernel
  have bB : bootBuiltins "bool" = some (.type "bool") := by decide +kernel
  have bi : bootBuiltins "isinstance" = some (.builtin "isinstance") := by decide +kernel
  refine ⟨_, pss_cons (ps_if (PW.pt (pw_or (pt_val (pe_callB call_isi rfl mI bi (pa_cons (pv 1) (pa_cons (pe_bltn (v := .ty "tuple") rfl mT bT rfl) pa_nil)))) (pw_or1 (pt_val (pe_callB call_isi rfl mI bi (pa_cons (pv 1) (pa_cons (pe_bltn (v := .ty "list") rfl mL bL rfl) pa_nil)))))))
      (pss_cons (ps_if (PW.pt (pw_or (pt_cmpR op_ne (pe_callB call_isi rfl mI bi (pa_cons (pv 1) (pa_cons (pe_bltn (v := .ty "tuple") rfl mT bT rfl) pa_nil))) (pe_callB call_isi rfl mI bi (pa_cons (pv 0) (pa_cons (pe_bltn (v := .ty "tuple") rfl mT bT rfl) pa_nil))) (nomark _))
          (pw_or1 (pt_cmpR op_ne (pe_callB call_isi rfl mI bi (pa_cons (pv 1) (pa_cons (pe_bltn (v := .ty "list") rfl mL bL rfl) pa_nil))) (pe_callB call_isi rfl mI bi (pa_cons (pv 0) (pa_cons (pe_bltn (v := .ty "list") rfl mL bL rfl) pa_nil))) (nomark _)))))
        (pss_one (ps_ret pe_bl)) pss_nil)
      (pss_cons (ps_if (pt_cmpR op_ne (pe_callB call_len_seq rfl ml PySem.boot_len (pa_cons (pv 0) pa_nil)) (pe_callB call_len_seq rfl ml PySem.boot_len (pa_cons (pv 1) pa_nil)) (nomark _)) (pss_one (ps_ret pe_bl)) pss_nil)
      (pss_cons (ps_for PassesOwn.never rfl (pi_range1 rfl mr (pa_cons (pe_callB call_len_seq rfl ml PySem.boot_len (pa_cons (pv 1) pa_nil)) pa_nil)) (pg_name (i := 2) sc_law_same.nd rfl (.inl rfl))
        (pss_one (ps_if (pt_not (pt_val (pe_do DS hr (pa_cons (pe_ix ix_seq (pv 0) (pv 2) (fun _ _ => rfl)) (pa_cons (pe_ix ix_seq (pv 1) (pv 2) (fun _ _ => rfl)) pa_nil))))) (pss_one (ps_ret pe_bl)) pss_nil)))
      (pss_one (ps_ret pe_bl))))) pss_nil)
    (pss_cons (ps_if (pt_cmpR op_isN (pv 1) pe_non (nomark _)) (pss_one (ps_ret (pe_cmpR op_isN (pv 0) pe_non (nomark _)))) pss_nil)
    (pss_cons (ps_if (pt_val (pe_callB call_isi rfl mI bi (pa_cons (pv 1) (pa_cons (pe_bltn (v := .ty "str") rfl ms bS rfl) pa_nil))))
      (pss_one (ps_ret (pe_and (pe_callB call_isi rfl mI bi (pa_cons (pv 0) (pa_cons (pe_bltn (v := .ty "str") rfl ms bS rfl) pa_nil))) (pe_one (pe_cmpR op_eq (pv 0) (pv 1) (nomark _)))))) pss_nil)
    (pss_one (ps_ret (pe_and (pe_callB call_isi rfl mI bi (pa_cons (pv 0) (pa_cons (pe_bltn (v := .ty "int") rfl mi bI rfl) pa_nil)))
      (pe_and (pe_not (pe_callB call_isi rfl mI bi (pa_cons (pv 0) (pa_cons (pe_bltn (v := .ty "bool") rfl mb bB rfl) pa_nil)))) (pe_one (pe_cmpR op_eq (pv 0) (pv 1) (nomark _))))))))), ?_⟩
  have isn : ∀ (a b : String) (r : Bool), kitB a b = some r → PySem.W.kitOne K (.type a) (.type b) = some r := fun a b r h => kit_ty h
  cases d with
  | int i =>
    cases (show x = .int i by cases n <;> exact hx)
    cases (show y = .int i by cases n <;> exact hy)
    refine ⟨_, rfl, _, _, _, _, false, rfl, .ty _, .base (.int _), kit_ty (by decide +kernel), _, rfl, iteF ?_⟩
    refine ⟨_, rfl, _, _, _, _, false, rfl, .ty _, .base (.int _), kit_ty (by decide +kernel), _, rfl, iteF ?_⟩
    refine ⟨_, rfl, rfl, _, rfl, iteF ?_⟩
    refine ⟨_, rfl, _, _, _, _, false, rfl, .ty _, .base (.int _), kit_ty (by decide +kernel), _, rfl, iteF ?_⟩
    refine ⟨_, rfl, _, _, _, _, true, rfl, .ty _, .base (.int _), kit_ty (by decide +kernel), _, rfl, iteT ?_⟩
    refine ⟨_, rfl, _, _, _, _, false, rfl, .ty _, .base (.int _), kit_ty (by decide +kernel), _, rfl, _, rfl, iteT ?_⟩
    refine ⟨_, rfl, _, rfl, rfl, ?_⟩
    rw [decide_eq_true rfl]
    exact q
  | str z =>
    cases (show x = .str z by cases n <;> exact hx)
    cases (show y = .str z by cases n <;> exact hy)
    refine ⟨_, rfl, _, _, _, _, false, rfl, .ty _, .base (.str _), kit_ty (by decide +kernel), _, rfl, iteF ?_⟩
    refine ⟨_, rfl, _, _, _, _, false, rfl, .ty _, .base (.str _), kit_ty (by decide +kernel), _, rfl, iteF ?_⟩
    refine ⟨_, rfl, rfl, _, rfl, iteF ?_⟩
    refine ⟨_, rfl, _, _, _, _, true, rfl, .ty _, .base (.str _), kit_ty (by decide +kernel), _, rfl, iteT ?_⟩
    refine ⟨_, rfl, _, _, _, _, true, rfl, .ty _, .base (.str _), kit_ty (by decide +kernel), _, rfl, iteT ?_⟩
    refine ⟨_, rfl, _, rfl, rfl, ?_⟩
    rw [decide_eq_true rfl]
    exact q
  | non =>
    cases (show x = .non by cases n <;> exact hx)
    cases (show y = .non by cases n <;> exact hy)
    refine ⟨_, rfl, _, _, _, _, false, rfl, .ty _, .base .non, kit_ty (by decide +kernel), _, rfl, iteF ?_⟩
    refine ⟨_, rfl, _, _, _, _, false, rfl, .ty _, .base .non, kit_ty (by decide +kernel), _, rfl, iteF ?_⟩
    exact ⟨_, rfl, rfl, _, rfl, iteT ⟨_, rfl, rfl, q⟩⟩
  | tup ds =>
    cases n with
    | zero => exact hx.elim
    | succ n =>
      obtain ⟨a, xs, rfl, ha, la, ln, ka⟩ := hx
      obtain ⟨b, ys, rfl, hb, lb, _, kb⟩ := hy
      refine ⟨_, rfl, _, _, _, _, true, rfl, .ty _, .base (.tup hb), kit_ty (by decide +kernel), _, rfl, iteT ?_⟩
      refine ⟨_, rfl, _, _, _, _, true, rfl, .ty _, .base (.tup hb), kit_ty (by decide +kernel), _, rfl, _, _, _, _, true, rfl, .ty _, .base (.tup ha), kit_ty (by decide +kernel), rfl, _, rfl, iteF ?_⟩
      refine ⟨_, rfl, _, _, _, _, false, rfl, .ty _, .base (.tup hb), kit_ty (by decide +kernel), _, rfl, _, _, _, _, false, rfl, .ty _, .base (.tup ha), kit_ty (by decide +kernel), rfl, _, rfl, iteF ?_⟩
      refine ⟨_, rfl, a, xs, rfl, .inr (SqT.of ha), _, rfl, b, ys, rfl, .inr (SqT.of hb), rfl, _, rfl, ?_⟩
      rw [show (decide (V.int (xs.length : Int) = V.int (ys.length : Int))) = true from decide_eq_true (by rw [la, lb])]
      refine iteF ?_
      refine ⟨_, rfl, b, ys, rfl, .inr (SqT.of hb), (ys.length : Int), rfl, by omega, by omega, for_range (lo := 0) (n := (ys.length : Int).toNat) (fun i σ H' => H' = H ∧ ∃ v, σ = [some (.ref a), some (.ref b), v]) ⟨rfl, none, rfl⟩ ?_ ?_⟩
      · rintro i σ _ hi ⟨rfl, v, rfl⟩
        have hi1 : i < ys.length := by omega
        have hi2 : i < xs.length := by omega
        have hi3 : i < ds.length := by omega
        refine ⟨_, rfl, _, rfl, .inr (.inl ⟨a, xs, _, _, rfl, rfl, SqT.of ha, at_of (j := i) (by omega) (List.getElem?_eq_getElem hi2), ?_⟩)⟩
        refine ⟨_, rfl, _, rfl, .inr (.inl ⟨b, ys, _, _, rfl, rfl, SqT.of hb, at_of (j := i) (by omega) (List.getElem?_eq_getElem hi1), ?_⟩)⟩
        refine ⟨_, _, ds[i], rfl, ka i _ _ (List.getElem?_eq_getElem hi2) (List.getElem?_eq_getElem hi3), kb i _ _ (List.getElem?_eq_getElem hi1) (List.getElem?_eq_getElem hi3), _, rfl, iteF ⟨rfl, _, rfl⟩⟩
      · rintro σ _ ⟨rfl, v, rfl⟩
        exact q
  | lst ds =>
    cases n with
    | zero => exact hx.elim
    | succ n =>
      obtain ⟨a, xs, rfl, ha, la, ln, ka⟩ := hx
      obtain ⟨b, ys, rfl, hb, lb, _, kb⟩ := hy
      refine ⟨_, rfl, _, _, _, _, false, rfl, .ty _, .base (.lst hb), kit_ty (by decide +kernel), _, rfl, iteF ?_⟩
      refine ⟨_, rfl, _, _, _, _, true, rfl, .ty _, .base (.lst hb), kit_ty (by decide +kernel), _, rfl, iteT ?_⟩
      refine ⟨_, rfl, _, _, _, _, false, rfl, .ty _, .base (.lst hb), kit_ty (by decide +kernel), _, rfl, _, _, _, _, false, rfl, .ty _, .base (.lst ha), kit_ty (by decide +kernel), rfl, _, rfl, iteF ?_⟩
      refine ⟨_, rfl, _, _, _, _, true, rfl, .ty _, .base (.lst hb), kit_ty (by decide +kernel), _, rfl, _, _, _, _, true, rfl, .ty _, .base (.lst ha), kit_ty (by decide +kernel), rfl, _, rfl, iteF ?_⟩
      refine ⟨_, rfl, a, xs, rfl, .inl (SqL.of ha), _, rfl, b, ys, rfl, .inl (SqL.of hb), rfl, _, rfl, ?_⟩
      rw [show (decide (V.int (xs.length : Int) = V.int (ys.length : Int))) = true from decide_eq_true (by rw [la, lb])]
      refine iteF ?_
      refine ⟨_, rfl, b, ys, rfl, .inl (SqL.of hb), (ys.length : Int), rfl, by omega, by omega, for_range (lo := 0) (n := (ys.length : Int).toNat) (fun i σ H' => H' = H ∧ ∃ v, σ = [some (.ref a), some (.ref b), v]) ⟨rfl, none, rfl⟩ ?_ ?_⟩
      · rintro i σ _ hi ⟨rfl, v, rfl⟩
        have hi1 : i < ys.length := by omega
        have hi2 : i < xs.length := by omega
        have hi3 : i < ds.length := by omega
        refine ⟨_, rfl, _, rfl, .inl ⟨a, xs, _, _, rfl, rfl, SqL.of ha, at_of (j := i) (by omega) (List.getElem?_eq_getElem hi2), ?_⟩⟩
        refine ⟨_, rfl, _, rfl, .inl ⟨b, ys, _, _, rfl, rfl, SqL.of hb, at_of (j := i) (by omega) (List.getElem?_eq_getElem hi1), ?_⟩⟩
        refine ⟨_, _, ds[i], rfl, ka i _ _ (List.getElem?_eq_getElem hi2) (List.getElem?_eq_getElem hi3), kb i _ _ (List.getElem?_eq_getElem hi1) (List.getElem?_eq_getElem hi3), _, rfl, iteF ⟨rfl, _, rfl⟩⟩
      · rintro σ _ ⟨rfl, v, rfl⟩
        exact q
theorem none_same : FnOk P w K mg base CX0 0 f fd ["told", "due"] (spSame 0) := by
  have no : ∀ vs H Q E, ¬ spSame 0 vs H Q E := fun vs H Q E h => h
  exact ⟨fun vs H Q E h => absurd h (no vs H Q E), fun A outer s H args us vs Q E _ _ _ _ h => absurd h (no vs H Q E)⟩
end
section
variable {P : Program} {w : World} {K : PySem.W.Frag} {mg : Str → Option Value} {base : Heap} {f : Addr} {fd : FuncData}
theorem sign_eq {c n : Nat} {z : Str} (e : z = S [n]) : (V.str (S [c]) = V.str z) ↔ c = n := by
  subst e
  constructor
  · intro h
    have := S_inj (V.str.inj h)
    simpa using this
  · rintro rfl; rfl
theorem e_T : (("T" : Str)) = S [84] := by decide +kernel
theorem e_U : (("U" : Str)) = S [85] := by decide +kernel
theorem e_R : (("R" : Str)) = S [82] := by decide +kernel
def Tup2 (H : Hp) (t : Addr) (v : Int × Int) : Prop := H t = some (.tup [.int v.1, .int v.2])
def spCalled (K : PySem.W.Frag) : Sp := fun vs H Q _ => ∃ (t : Addr) (v : Int × Int) (c : Nat), vs = [.ref t, .str (S [c])] ∧ Tup2 H t v ∧ ∀ t' H', Same H H' → Tup2 H' t' (called v c) → Q (.ref t') H'
theorem ok_called (F : Fun K "_law_called" "_law_called" s_law_called f fd) : FnOk P w K mg base CX0 1 f fd ["value", "letter"] (spCalled K) := by
  refine F.ok sc_law_called (fun vs H Q E h => ?_) (fun cdv A outer s H vs Q E hr h => ?_)
  · obtain ⟨a, m, c, rfl, _⟩ := h
    rfl
  obtain ⟨t, ⟨p, q'⟩, c, rfl, hT, q⟩ := h
  refine ⟨_, pss_cons (ps_asg (pv 0) (pg_tup (by rfl) (pgs_cons (pg_name (i := 2) sc_law_called.nd rfl (.inl rfl)) (pgs_cons (pg_name (i := 3) sc_law_called.nd rfl (.inl rfl)) pgs_nil))))
    (pss_cons (ps_if (pt_cmpR op_eq (pv 1) pe_str (nomark _)) (pss_one (ps_ret (pe_tup (pa_cons (pe_op op_add (pv 2) (pv 3)) (pa_cons (pv 3) pa_nil))))) pss_nil)
    (pss_cons (ps_if (pt_cmpR op_eq (pv 1) pe_str (nomark _)) (pss_one (ps_ret (pe_tup (pa_cons (pe_op op_sub (pv 2) (pv 3)) (pa_cons (pv 3) pa_nil))))) pss_nil)
    (pss_cons (ps_if (pt_cmpR op_gt (pv 2) pe_int (nomark _)) (pss_one (ps_ret (pe_tup (pa_cons (pe_op op_sub pe_int (pv 3)) (pa_cons (pv 2) pa_nil))))) pss_nil)
    (pss_cons (ps_if (pt_cmpR op_lt (pv 2) pe_int (nomark _)) (pss_one (ps_ret (pe_tup (pa_cons (pv 3) (pa_cons (pe_op op_sub pe_int (pv 2)) pa_nil))))) pss_nil)
    (pss_one (ps_ret (pe_tup (pa_cons pe_int (pa_cons pe_int pa_nil))))))))), ?_⟩
  have two : 2 ≤ sizeLine := fits (by decide)
  refine ⟨_, rfl, t, _, rfl, SqT.of hT, rfl, _, _, rfl, _, _, rfl, rfl, ?_⟩
  refine ⟨_, rfl, rfl, _, rfl, ite2 (fun c1 => ?_) (fun c1 => ?_)⟩
  · have k1 : c = 84 := (sign_eq e_T).mp (of_decide_eq_true c1)
    refine ⟨_, rfl, _, rfl, _, _, rfl, rfl, _, rfl, two, fun n hn => q n _ (same_new hn _) ?_⟩
    unfold Tup2 called
    rw [upd_same, if_pos k1]
  have k1 : ¬ c = 84 := fun z => c1 (decide_eq_true ((sign_eq e_T).mpr z))
  refine ⟨_, rfl, rfl, _, rfl, ite2 (fun c2 => ?_) (fun c2 => ?_)⟩
  · have k2 : c = 85 := (sign_eq e_U).mp (of_decide_eq_true c2)
    refine ⟨_, rfl, _, rfl, _, _, rfl, rfl, _, rfl, two, fun n hn => q n _ (same_new hn _) ?_⟩
    unfold Tup2 called
    rw [upd_same, if_neg k1, if_pos k2]
  have k2 : ¬ c = 85 := fun z => c2 (decide_eq_true ((sign_eq e_U).mpr z))
  refine ⟨_, rfl, _, _, rfl, rfl, _, rfl, ite2 (fun c3 => ?_) (fun c3 => ?_)⟩
  · have k3 : 0 < p := of_decide_eq_true c3
    refine ⟨_, rfl, _, _, rfl, rfl, _, rfl, two, fun n hn => q n _ (same_new hn _) ?_⟩
    unfold Tup2 called
    rw [upd_same, if_neg k1, if_neg k2, if_pos k3]
  have k3 : ¬ 0 < p := fun z => c3 (decide_eq_true z)
  refine ⟨_, rfl, _, _, rfl, rfl, _, rfl, ite2 (fun c4 => ?_) (fun c4 => ?_)⟩
  · have k4 : p < 0 := of_decide_eq_true c4
    refine ⟨_, rfl, _, rfl, _, _, rfl, rfl, two, fun n hn => q n _ (same_new hn _) ?_⟩
    unfold Tup2 called
    rw [upd_same, if_neg k1, if_neg k2, if_neg k3, if_pos k4]
  have k4 : ¬ p < 0 := fun z => c4 (decide_eq_true z)
  refine ⟨two, fun n hn => q n _ (same_new hn _) ?_⟩
  unfold Tup2 called
  rw [upd_same, if_neg k1, if_neg k2, if_neg k3, if_neg k4]
theorem Tup2.same {H H' : Hp} {t : Addr} {v : Int × Int} (h : Tup2 H t v) (s : Same H H') : Tup2 H' t v := s _ _ h
theorem Tup2.but {H H' : Hp} {a t : Addr} {v : Int × Int} (h : Tup2 H t v) (s : But a H H') (tp : Tape H a) : Tup2 H' t v := by
  obtain ⟨y, c, z, b, e⟩ := tp
  exact s _ _ (ne_of h e (by intro q; cases q)) h
def spNumber (K : PySem.W.Frag) : Sp := fun vs H Q _ => ∃ l : List Nat, vs = [.str (S l)] ∧ ∀ t' H', Same H H' → Tup2 H' t' (run (0, 1) l) → Q (.ref t') H'
theorem ok_number (F : Fun K "_law_number" "_law_number" s_law_number f fd) (DC : Dfn P w K mg base "_law_called" 1 ["value", "letter"] (spCalled K)) : FnOk P w K mg base CX0 2 f fd ["dance"] (spNumber K) := by
  refine F.ok sc_law_number (fun vs H Q E h => ?_) (fun cdv A outer s H vs Q E hr h => ?_)
  · obtain ⟨l, rfl, _⟩ := h
    rfl
  obtain ⟨l, rfl, q⟩ := h
  refine ⟨_, pss_cons (ps_set (i := 1) sc_law_number.nd rfl (.inl rfl) (pe_tup (pa_cons pe_int (pa_cons pe_int pa_nil))))
    (pss_cons (ps_for PassesOwn.never rfl (pi_str (pv 0)) (pg_name (i := 2) sc_law_number.nd rfl (.inl rfl))
      (pss_one (ps_set (i := 1) sc_law_number.nd rfl (.inl rfl) (pe_do DC hr (pa_cons (pv 1) (pa_cons (pv 2) pa_nil))))))
    (pss_one (ps_ret (pv 1)))), ?_⟩
  refine ⟨fits (by decide), fun p hp => ?_⟩
  refine ⟨_, rfl, _, rfl, for_str (l := l) (fun i σ H' => ∃ (t : Addr) (v : Option V), σ = [some (.str (S l)), some (.ref t), v] ∧ Same H H' ∧ Tup2 H' t (run (0, 1) (l.take i))) ?_ ?_ ?_⟩
  · exact ⟨p, _, rfl, same_new hp _, upd_same⟩
  · rintro i c σ H' hc ⟨t, v, rfl, sm, tt⟩
    refine ⟨_, rfl, _, rfl, t, _, c, rfl, tt, fun t' H2 s2 tt2 => ?_⟩
    exact ⟨t', _, rfl, sm.trans s2, by rw [run_take _ hc]; exact tt2⟩
  · rintro σ H' ⟨t, v, rfl, sm, tt⟩
    rw [List.take_of_length_le (Nat.le_refl _)] at tt
    exact ⟨_, rfl, q t H' sm tt⟩
end
section
variable {P : Program} {w : World} {K : PySem.W.Frag} {mg : Str → Option Value} {base : Heap} {f : Addr} {fd : FuncData}
def spDivisor : Sp := fun vs H Q _ => ∃ x y : Int, vs = [.int x, .int y] ∧ Q (.int ((Nat.gcd x.natAbs y.natAbs : Nat) : Int)) H
theorem ok_divisor (F : Fun K "_law_divisor" "_law_divisor" s_law_divisor f fd) (ma : mg "abs" = none) (mi : mg "int" = none) : FnOk P w K mg base CX0 1 f fd ["one", "other"] spDivisor := by
  refine F.ok sc_law_divisor (fun vs H Q E h => ?_) (fun cdv A outer s H vs Q E hr h => ?_)
  · obtain ⟨x, y, rfl, _⟩ := h
    rfl
  obtain ⟨x, y, rfl, q⟩ := h
  refine ⟨_, pss_cons (ps_while PassesOwn.never (pt_cmpR op_ne (pv 1) pe_int (nomark _))
      (pss_one (ps_par (i := 0) (j := 1) (by rfl) sc_law_divisor.nd rfl rfl (by decide) rfl rfl (pa_cons (pv 1) (pa_cons (pe_op op_modN (pe_callTy call_int1 rfl mi (by decide +kernel) (pa_cons (pv 0) pa_nil)) (pv 1)) pa_nil)) (by rfl))))
    (pss_one (ps_ret (pe_callB call_abs rfl ma (by decide +kernel) (pa_cons (pv 0) pa_nil)))), ?_⟩
  refine while_by (fun σ H' => H' = H ∧ ∃ a b : Int, σ = [some (.int a), some (.int b)] ∧ Nat.gcd a.natAbs b.natAbs = Nat.gcd x.natAbs y.natAbs) (fun σ _ => match σ with | [_, some (.int b)] => b.natAbs | _ => 0) ⟨rfl, x, y, rfl, rfl⟩ ?_ ?_
  · rintro σ _ ⟨rfl, a, b, rfl, e⟩
    refine ⟨_, rfl, rfl, _, rfl, ite2 (fun c => ?_) (fun c => ?_)⟩
    · have hb : b ≠ 0 := fun z => by subst z; simp at c
      refine ⟨_, rfl, _, rfl, .inl ⟨_, rfl, _, rfl, _, _, rfl, rfl, hb, _, _, rfl, ⟨rfl, _, _, rfl, ?_⟩, ?_⟩⟩
      · rw [gcd_step]; exact e
      · exact fmod_less hb
    · have hb : b = 0 := Decidable.byContradiction fun z => c (by simp [z])
      subst hb
      refine ⟨_, rfl, _, rfl, ?_⟩
      rw [Int.natAbs_zero, Nat.gcd_zero_right] at e
      have e2 : (if a < 0 then -a else a) = ((Nat.gcd x.natAbs y.natAbs : Nat) : Int) := by
        rw [← e]
        split <;> omega
      rw [e2]
      exact q
  · rintro σ H' Q1 Q2 hm ⟨v, e, s, k, ek, q⟩
    exact ⟨v, e, s, k, ek, hm _ _ q⟩
end
section
variable {P : Program} {w : World} {K : PySem.W.Frag} {mg : Str → Option Value} {base : Heap} {f : Addr} {fd : FuncData}
/-! ### the program: turned, after -/
def spTurned : Sp := fun vs H Q _ => ∃ p q' : Int, vs = [.int p, .int q'] ∧ ∀ t' H', Same H H' → Tup2 H' t' (called (p, q') 82) → Q (.ref t') H'
theorem ok_turned (F : Fun K "turned" "turned" s_turned f fd) : FnOk P w K mg base CX0 1 f fd ["p", "q"] spTurned := by
  refine F.ok sc_turned (fun vs H Q E h => ?_) (fun cdv A outer s H vs Q E hr h => ?_)
  · obtain ⟨p, q', rfl, _⟩ := h
    rfl
  obtain ⟨p, q', rfl, q⟩ := h
  refine ⟨_, pss_cons (ps_if (pt_cmpR op_eq (pv 0) pe_int (nomark _)) (pss_one (ps_ret (pe_tup (pa_cons pe_int (pa_cons pe_int pa_nil))))) pss_nil)
    (pss_cons (ps_if (pt_cmpR op_lt (pv 0) pe_int (nomark _)) (pss_one (ps_ret (pe_tup (pa_cons (pv 1) (pa_cons (pe_un un_neg (pv 0)) pa_nil))))) pss_nil)
    (pss_one (ps_ret (pe_tup (pa_cons (pe_un un_neg (pv 1)) (pa_cons (pv 0) pa_nil)))))), ?_⟩
  have two : 2 ≤ sizeLine := fits (by decide)
  have e1 : ¬ (82 : Nat) = 84 := by decide
  have e2 : ¬ (82 : Nat) = 85 := by decide
  refine ⟨_, rfl, rfl, _, rfl, ite2 (fun c1 => ?_) (fun c1 => ?_)⟩
  · have k1 : p = 0 := V.int.inj (of_decide_eq_true c1)
    subst k1
    refine ⟨two, fun n hn => q n _ (same_new hn _) ?_⟩
    unfold Tup2 called
    rw [upd_same, if_neg e1, if_neg e2, if_neg (show ¬ (0 : Int) < 0 by decide), if_neg (show ¬ (0 : Int) < 0 by decide)]
  have k1 : ¬ p = 0 := fun z => c1 (decide_eq_true (by rw [z]))
  refine ⟨_, rfl, _, _, rfl, rfl, _, rfl, ite2 (fun c2 => ?_) (fun c2 => ?_)⟩
  · have k2 : p < 0 := of_decide_eq_true c2
    refine ⟨_, rfl, _, rfl, _, rfl, two, fun n hn => q n _ (same_new hn _) ?_⟩
    unfold Tup2 called
    rw [upd_same, if_neg e1, if_neg e2, if_neg (show ¬ (0 : Int) < p by omega), if_pos k2, Int.zero_sub]
  have k2 : ¬ p < 0 := fun z => c2 (decide_eq_true z)
  refine ⟨_, rfl, _, rfl, _, rfl, two, fun n hn => q n _ (same_new hn _) ?_⟩
  unfold Tup2 called
  rw [upd_same, if_neg e1, if_neg e2, if_pos (show (0 : Int) < p by omega), Int.zero_sub]
theorem called_other {v : Int × Int} {c : Nat} (h1 : ¬ c = 84) (h2 : ¬ c = 85) : called v c = called v 82 := by
  unfold called
  rw [if_neg h1, if_neg h2, if_neg (show ¬ (82 : Nat) = 84 by decide), if_neg (show ¬ (82 : Nat) = 85 by decide)]
def spAfter : Sp := fun vs H Q _ => ∃ (t : Addr) (v : Int × Int) (l : List Nat), vs = [.ref t, .str (S l)] ∧ Tup2 H t v ∧ ∀ t' H', Same H H' → Tup2 H' t' (run v l) → Q (.ref t') H'
theorem ok_after (F : Fun K "after" "after" s_after f fd) (DT : Dfn P w K mg base "turned" 1 ["p", "q"] spTurned) : FnOk P w K mg base CX0 2 f fd ["fraction", "dance"] spAfter := by
  refine F.ok sc_after (fun vs H Q E h => ?_) (fun cdv A outer s H vs Q E hr h => ?_)
  · obtain ⟨t, v, l, rfl, _⟩ := h
    rfl
  obtain ⟨t, v, l, rfl, hT, q⟩ := h
  refine ⟨_, pss_cons (ps_asg (pv 0) (pg_tup (by rfl) (pgs_cons (pg_name (i := 2) sc_after.nd rfl (.inl rfl)) (pgs_cons (pg_name (i := 3) sc_after.nd rfl (.inl rfl)) pgs_nil))))
    (pss_cons (ps_for PassesOwn.never rfl (pi_str (pv 1)) (pg_name (i := 4) sc_after.nd rfl (.inl rfl))
      (pss_one (ps_if (pt_cmpR op_eq (pv 4) pe_str (nomark _)) (pss_one (ps_aug (i := 2) sc_after.nd rfl (.inl rfl) (pv 3) ip_add))
        (pss_one (ps_if (pt_cmpR op_eq (pv 4) pe_str (nomark _)) (pss_one (ps_aug (i := 2) sc_after.nd rfl (.inl rfl) (pv 3) ip_sub))
          (pss_one (ps_asg (pe_do DT hr (pa_cons (pv 2) (pa_cons (pv 3) pa_nil))) (pg_tup (by rfl) (pgs_cons (pg_name (i := 2) sc_after.nd rfl (.inl rfl)) (pgs_cons (pg_name (i := 3) sc_after.nd rfl (.inl rfl)) pgs_nil))))))))))
    (pss_one (ps_ret (pe_tup (pa_cons (pv 2) (pa_cons (pv 3) pa_nil)))))), ?_⟩
  refine ⟨_, rfl, t, _, rfl, SqT.of hT, rfl, _, _, rfl, _, _, rfl, rfl, ?_⟩
  refine ⟨_, rfl, _, rfl, for_str (l := l) (fun i σ H' => ∃ (x : Option V), σ = [some (.ref t), some (.str (S l)), some (.int (run v (l.take i)).1), some (.int (run v (l.take i)).2), x] ∧ Same H H') ?_ ?_ ?_⟩
  · exact ⟨none, rfl, Same.refl H⟩
  · rintro i c σ H' hc ⟨x, rfl, sm⟩
    have st := run_take v hc
    generalize run v (l.take i) = u at *
    obtain ⟨p, q'⟩ := u
    refine ⟨_, rfl, rfl, _, rfl, ite2 (fun c1 => ?_) (fun c1 => ?_)⟩
    · have k1 : c = 84 := (sign_eq e_T).mp (of_decide_eq_true c1)
      refine ⟨_, rfl, _, rfl, _, _, rfl, rfl, some (.str (S [c])), ?_, sm⟩
      rw [st]
      unfold called
      rw [if_pos k1]
      rfl
    have k1 : ¬ c = 84 := fun z => c1 (decide_eq_true ((sign_eq e_T).mpr z))
    refine ⟨_, rfl, rfl, _, rfl, ite2 (fun c2 => ?_) (fun c2 => ?_)⟩
    · have k2 : c = 85 := (sign_eq e_U).mp (of_decide_eq_true c2)
      refine ⟨_, rfl, _, rfl, _, _, rfl, rfl, some (.str (S [c])), ?_, sm⟩
      rw [st]
      unfold called
      rw [if_neg k1, if_pos k2]
      rfl
    have k2 : ¬ c = 85 := fun z => c2 (decide_eq_true ((sign_eq e_U).mpr z))
    refine ⟨_, rfl, _, rfl, p, q', rfl, fun t' H2 s2 tt => ?_⟩
    refine ⟨t', _, rfl, SqT.of tt, rfl, _, _, rfl, _, _, rfl, rfl, some (.str (S [c])), ?_, sm.trans s2⟩
    rw [st, called_other k1 k2]
    rfl
  · rintro σ H' ⟨x, rfl, sm⟩
    rw [List.take_of_length_le (Nat.le_refl _)]
    exact ⟨_, rfl, _, rfl, fits (by show 2 ≤ 16777216; decide), fun n hn => q n _ (sm.trans (same_new hn _)) upd_same⟩
end
section
theorem int_is {H : Hp} {n : Nat} {i : Int} : Is H n (.int i) (.int i) := by cases n <;> rfl
theorem str_is {H : Hp} {n : Nat} {z : Str} : Is H n (.str z) (.str z) := by cases n <;> rfl
theorem is_tup {H : Hp} {n : Nat} {a : Addr} {xs : List V} {ds : List Dt} (h : H a = some (.tup xs)) (z : xs.length = ds.length) (m : ds.length ≤ 1000000) (k : ∀ (i : Nat) (x : V) (d : Dt), xs[i]? = some x → ds[i]? = some d → Is H n x d) : Is H (n + 1) (.ref a) (.tup ds) := ⟨a, xs, rfl, h, z, m, k⟩
theorem is_lst {H : Hp} {n : Nat} {a : Addr} {xs : List V} {ds : List Dt} (h : H a = some (.lst xs)) (z : xs.length = ds.length) (m : ds.length ≤ 1000000) (k : ∀ (i : Nat) (x : V) (d : Dt), xs[i]? = some x → ds[i]? = some d → Is H n x d) : Is H (n + 1) (.ref a) (.lst ds) := ⟨a, xs, rfl, h, z, m, k⟩
end
theorem S_eta (z : Str) : S z.cps.toList = z := by
  cases z
  simp [S]
def tx (l : List Nat) : V := .str (S l)
theorem tx_inj {a b : List Nat} (h : tx a = tx b) : a = b := S_inj (V.str.inj h)
theorem tx_iff {a b : List Nat} : V.str (S a) = V.str (S b) ↔ a = b := ⟨fun h => tx_inj h, fun h => by rw [h]⟩
section
open TL (joinL tl tl_join join_eq split_join)
/-! ### standard dances -/
def nx (p q : Int) : Int := (p / q + 1) * q - p
theorem nx_eq (p q : Int) : nx p q = q - p % q := by
  unfold nx
  have := Int.mul_ediv_add_emod p q
  rw [Int.add_mul, Int.one_mul, Int.mul_comm]
  omega
theorem nx_gcd (p q : Int) : Int.gcd q (nx p q) = Int.gcd p q := by
  unfold nx
  rw [show (p / q + 1) * q - p = -p + q * (p / q + 1) by rw [Int.mul_comm]; omega, Int.gcd_add_mul_left_right, Int.gcd_neg, Int.gcd_comm]
theorem nx_pos {p q : Int} (h : 0 < q) : 0 < nx p q := by
  rw [nx_eq]
  have := Int.emod_lt_of_pos p h
  omega
theorem nx_lt {p q : Int} (h : 1 < q) (g : Int.gcd p q = 1) : nx p q < q := by
  rw [nx_eq]
  have h1 := Int.emod_nonneg p (show q ≠ 0 by omega)
  have h2 : p % q ≠ 0 := fun z => by
    have d : q ∣ p := Int.dvd_of_emod_eq_zero z
    have := Int.gcd_eq_natAbs_right d
    omega
  omega
def rn (b : Int) : List Nat := if b < 0 then List.replicate (-b).toNat 85 else List.replicate b.toNat 84
def bsF : Nat → Int → Int → List Int
  | 0, p, _ => [p]
  | n + 1, p, q => if q ≤ 1 then [p] else bsF n q (nx p q) ++ [p / q + 1]
def bs (p q : Int) : List Int := bsF q.toNat p q
theorem bsF_more : ∀ (n m : Nat) (p q : Int), 0 < q → Int.gcd p q = 1 → q ≤ n → q ≤ m → bsF n p q = bsF m p q
  | 0, _, p, q, h, _, hn, _ => by omega
  | n + 1, 0, p, q, h, _, _, hm => by omega
  | n + 1, m + 1, p, q, h, g, hn, hm => by
    unfold bsF
    by_cases c : q ≤ 1
    · rw [if_pos c, if_pos c]
    · rw [if_neg c, if_neg c, bsF_more n m q (nx p q) (nx_pos h) (by rw [nx_gcd]; exact g) (by have := nx_lt (show 1 < q by omega) g; omega) (by have := nx_lt (show 1 < q by omega) g; omega)]
theorem bs_one (p : Int) : bs p 1 = [p] := rfl
theorem bs_step {p q : Int} (h : 1 < q) (g : Int.gcd p q = 1) : bs p q = bs q (nx p q) ++ [p / q + 1] := by
  have l := nx_lt h g
  have l0 := nx_pos (p := p) (show 0 < q by omega)
  have e : q.toNat = (q.toNat - 1) + 1 := by omega
  have e1 : bs p q = bsF (q.toNat - 1) q (nx p q) ++ [p / q + 1] := by
    unfold bs
    generalize q.toNat - 1 = m at e
    rw [e]
    show (if q ≤ 1 then [p] else bsF m q (nx p q) ++ [p / q + 1]) = _
    rw [if_neg (by omega)]
  rw [e1]
  unfold bs
  rw [bsF_more (q.toNat - 1) (nx p q).toNat q (nx p q) l0 (by rw [nx_gcd]; exact g) (by omega) (by omega)]
theorem bs_ne {p q : Int} : bs p q ≠ [] := by
  unfold bs
  cases q.toNat with
  | zero => intro h; cases h
  | succ n =>
    unfold bsF
    split
    · intro h; cases h
    · intro h; simp at h
def stv (v : Int × Int) : List Nat := if v.2 = 0 then [82] else joinL [82] ((bs v.1 v.2).map rn)
theorem joinL_snoc (S y : List Nat) : ∀ {xs : List (List Nat)}, xs ≠ [] → joinL S (xs ++ [y]) = joinL S xs ++ (S ++ y)
  | [], h => absurd rfl h
  | [x], _ => rfl
  | x :: z :: r, _ => by
    show x ++ (S ++ joinL S ((z :: r) ++ [y])) = (x ++ (S ++ joinL S (z :: r))) ++ (S ++ y)
    rw [joinL_snoc S y (xs := z :: r) (by simp)]
    simp
theorem run_rn (p q b : Int) : run (p, q) (rn b) = (p + b * q, q) := by
  have up : ∀ (n : Nat) (p : Int), run (p, q) (List.replicate n 84) = (p + n * q, q) := by
    intro n
    induction n with
    | zero => intro p; simp [run]
    | succ n ih =>
      intro p
      rw [List.replicate_succ]
      show run (called (p, q) 84) _ = _
      rw [show called (p, q) 84 = (p + q, q) from rfl, ih]
      congr 1
      rw [Int.natCast_add, Int.add_mul, Int.natCast_one, Int.one_mul]
      omega
  have dn : ∀ (n : Nat) (p : Int), run (p, q) (List.replicate n 85) = (p - n * q, q) := by
    intro n
    induction n with
    | zero => intro p; simp [run]
    | succ n ih =>
      intro p
      rw [List.replicate_succ]
      show run (called (p, q) 85) _ = _
      rw [show called (p, q) 85 = (p - q, q) from rfl, ih]
      congr 1
      rw [Int.natCast_add, Int.add_mul, Int.natCast_one, Int.one_mul]
      omega
  unfold rn
  by_cases c : b < 0
  · rw [if_pos c, dn, Int.toNat_of_nonneg (by omega)]
    congr 1
    rw [Int.neg_mul]
    omega
  · rw [if_neg c, up, Int.toNat_of_nonneg (by omega)]
theorem num_bs : ∀ (n : Nat) (p q : Int), 0 < q → Int.gcd p q = 1 → q ≤ n → run (0, 1) (joinL [82] ((bs p q).map rn)) = (p, q)
  | 0, p, q, h, _, hn => by omega
  | n + 1, p, q, h, g, hn => by
    by_cases c : q = 1
    · subst c
      rw [bs_one]
      show run (0, 1) (rn p) = (p, 1)
      rw [run_rn]
      simp
    · have hq : 1 < q := by omega
      have l := nx_lt hq g
      rw [bs_step hq g, List.map_append, List.map_singleton, joinL_snoc [82] _ (fun z => bs_ne (List.map_eq_nil_iff.mp z)), run_app, num_bs n q (nx p q) (nx_pos h) (by rw [nx_gcd]; exact g) (by omega), run_app]
      show run (called (q, nx p q) 82) _ = _
      have e : called (q, nx p q) 82 = (0 - nx p q, q) := by
        unfold called
        rw [if_neg (by decide), if_neg (by decide), if_pos (show 0 < (q, nx p q).1 from h)]
      rw [e, run_rn]
      congr 1
      unfold nx
      omega
theorem num_stv {v : Int × Int} (h : Good v) : run (0, 1) (stv v) = v := by
  obtain ⟨p, q⟩ := v
  obtain ⟨h1, h2⟩ := h
  unfold stv
  by_cases c : q = 0
  · rcases h1 with h1 | h1
    · have : (0 : Int) < q := h1
      omega
    · cases h1
      rfl
  · rw [if_neg (show ¬ (p, q).2 = 0 from c)]
    have h0 : 0 < q := by
      rcases h1 with h1 | h1
      · exact h1
      · cases h1; exact absurd rfl c
    exact num_bs q.toNat p q h0 h2 (by omega)
theorem rn_len (b : Int) : (rn b).length = b.natAbs := by
  unfold rn
  split
  · rw [List.length_replicate]; omega
  · rw [List.length_replicate]; omega
theorem one_le_div {p q : Int} (h : 0 < q) (hp : q ≤ p) : 1 ≤ p / q := Int.le_ediv_of_mul_le h (by omega)
theorem len_in : ∀ (n : Nat) (p q : Int), 0 < q → q < p → Int.gcd p q = 1 → q ≤ n → ((joinL [82] ((bs p q).map rn)).length : Int) ≤ 3 * p
  | 0, p, q, h, _, _, hn => by omega
  | n + 1, p, q, h, hp, g, hn => by
    by_cases c : q = 1
    · subst c
      rw [bs_one]
      show ((rn p).length : Int) ≤ _
      rw [rn_len]
      omega
    · have hq : 1 < q := by omega
      have l := nx_lt hq g
      have l0 := nx_pos (p := p) h
      have ih := len_in n q (nx p q) l0 l (by rw [nx_gcd]; exact g) (by omega)
      rw [bs_step hq g, List.map_append, List.map_singleton, joinL_snoc [82] _ (fun z => bs_ne (List.map_eq_nil_iff.mp z)), List.length_append, List.length_append, rn_len]
      have e := Int.mul_ediv_add_emod p q
      have r0 := Int.emod_lt_of_pos p h
      rw [nx_eq] at l0 l
      have a1 : 1 ≤ p / q := one_le_div h (by omega)
      have m : (p / q - 1) * 1 ≤ (p / q - 1) * q := Int.mul_le_mul_of_nonneg_left (by omega) (by omega)
      have m2 : (p / q - 1) * q = q * (p / q) - q := by rw [Int.sub_mul, Int.one_mul, Int.mul_comm]
      rw [m2, Int.mul_one] at m
      show ((_ + ([82].length + (p / q + 1).natAbs) : Nat) : Int) ≤ _
      have : ([82] : List Nat).length = 1 := rfl
      omega
theorem ediv_abs {p q : Int} (h : 0 < q) : (p / q + 1).natAbs ≤ p.natAbs + 1 := by
  have e := Int.mul_ediv_add_emod p q
  have r0 := Int.emod_lt_of_pos p h
  have r1 := Int.emod_nonneg p (show q ≠ 0 by omega)
  have a := Int.natAbs_ediv_le_natAbs p q.toNat
  rw [Int.toNat_of_nonneg (by omega)] at a
  omega
theorem len_out {p q : Int} (h : 0 < q) (g : Int.gcd p q = 1) : ((joinL [82] ((bs p q).map rn)).length : Int) ≤ p.natAbs + 3 * q + 2 := by
  by_cases c : q = 1
  · subst c
    rw [bs_one]
    show ((rn p).length : Int) ≤ _
    rw [rn_len]
    omega
  · have hq : 1 < q := by omega
    have l := nx_lt hq g
    have l0 := nx_pos (p := p) h
    have ih := len_in q.toNat q (nx p q) l0 l (by rw [nx_gcd]; exact g) (by omega)
    rw [bs_step hq g, List.map_append, List.map_singleton, joinL_snoc [82] _ (fun z => bs_ne (List.map_eq_nil_iff.mp z)), List.length_append, List.length_append, rn_len]
    have := ediv_abs (p := p) h
    have : ([82] : List Nat).length = 1 := rfl
    omega
/-- the runs but the last one -/
theorem bs_two : ∀ (n : Nat) (p q : Int), 0 < q → q < p → Int.gcd p q = 1 → q ≤ n → ∀ b ∈ bs p q, 2 ≤ b
  | 0, p, q, h, _, _, hn => by omega
  | n + 1, p, q, h, hp, g, hn => by
    intro b hb
    by_cases c : q = 1
    · subst c
      rw [bs_one] at hb
      rw [List.mem_singleton.mp hb]
      omega
    · have hq : 1 < q := by omega
      have l := nx_lt hq g
      rw [bs_step hq g] at hb
      rcases List.mem_append.mp hb with hb | hb
      · exact bs_two n q (nx p q) (nx_pos h) l (by rw [nx_gcd]; exact g) (by omega) b hb
      · rw [List.mem_singleton.mp hb]
        have := one_le_div h (show q ≤ p by omega)
        omega
theorem bs_front {p q : Int} (h : 0 < q) (g : Int.gcd p q = 1) : ∀ b ∈ (bs p q).dropLast, 2 ≤ b := by
  intro b hb
  by_cases c : q = 1
  · subst c
    rw [bs_one] at hb
    cases hb
  · have hq : 1 < q := by omega
    rw [bs_step hq g, List.dropLast_concat] at hb
    exact bs_two q.toNat q (nx p q) (nx_pos h) (nx_lt hq g) (by rw [nx_gcd]; exact g) (by have := nx_lt hq g; omega) b hb
/-! ### how great a dance's number is -/
def Grow (n : Nat) (v : Int × Int) : Prop := ∃ k B : Nat, B ^ 3 * 3 ^ k ≤ 3 ^ n ∧ v.2.natAbs ≤ B ∧ v.1.natAbs ≤ (k + 1) * B
theorem cube_three : ∀ k : Nat, (k + 1) ^ 3 ≤ 3 ^ (k + 1)
  | 0 => by decide
  | 1 => by decide
  | 2 => by decide
  | k + 3 => by
    have ih := cube_three (k + 2)
    have e : (3 : Nat) ^ (k + 3 + 1) = 3 * 3 ^ (k + 2 + 1) := by rw [show k + 3 + 1 = (k + 2 + 1) + 1 from rfl, Nat.pow_succ (n := 3) (m := k + 2 + 1), Nat.mul_comm]
    rw [e]
    have h : (k + 3 + 1) ^ 3 ≤ 3 * (k + 2 + 1) ^ 3 := by
      have h1 : (3 * (k + 3 + 1)) ^ 3 ≤ (4 * (k + 2 + 1)) ^ 3 := Nat.pow_le_pow_left (by omega) 3
      rw [Nat.mul_pow, Nat.mul_pow] at h1
      omega
    exact Nat.le_trans h (Nat.mul_le_mul_left 3 ih)
theorem Grow.called {n : Nat} {v : Int × Int} (h : Grow n v) (c : Nat) : Grow (n + 1) (called v c) := by
  obtain ⟨k, B, hb, h2, h1⟩ := h
  have up : B ^ 3 * 3 ^ (k + 1) ≤ 3 ^ (n + 1) := by
    rw [Nat.pow_succ (m := k), Nat.pow_succ (m := n), ← Nat.mul_assoc]
    exact Nat.mul_le_mul_right 3 hb
  have e : (k + 1 + 1) * B = (k + 1) * B + B := by rw [Nat.add_mul (k + 1) 1 B, Nat.one_mul]
  unfold Rope.called
  by_cases c1 : c = 84
  · rw [if_pos c1]
    exact ⟨k + 1, B, up, h2, by rw [e]; show (v.1 + v.2).natAbs ≤ _; omega⟩
  rw [if_neg c1]
  by_cases c2 : c = 85
  · rw [if_pos c2]
    exact ⟨k + 1, B, up, h2, by rw [e]; show (v.1 - v.2).natAbs ≤ _; omega⟩
  rw [if_neg c2]
  have turn : ((k + 1) * B) ^ 3 * 3 ^ 0 ≤ 3 ^ (n + 1) := by
    rw [Nat.pow_zero, Nat.mul_one, Nat.mul_pow]
    exact Nat.le_trans (Nat.mul_le_mul_right _ (cube_three k)) (by rw [Nat.mul_comm]; exact up)
  have hBk : B ≤ (k + 1) * B := by rw [Nat.add_mul, Nat.one_mul]; omega
  by_cases c3 : 0 < v.1
  · rw [if_pos c3]
    exact ⟨0, (k + 1) * B, turn, h1, by show (0 - v.2).natAbs ≤ _; omega⟩
  rw [if_neg c3]
  by_cases c4 : v.1 < 0
  · rw [if_pos c4]
    exact ⟨0, (k + 1) * B, turn, by show (0 - v.1).natAbs ≤ _; omega, by show v.2.natAbs ≤ _; omega⟩
  rw [if_neg c4]
  refine ⟨0, 1, ?_, by show (0 : Int).natAbs ≤ 1; decide, by show (1 : Int).natAbs ≤ (0 + 1) * 1; decide⟩
  exact Nat.pow_pos (by decide)
theorem grow_run : ∀ (l : List Nat) {n : Nat} {v : Int × Int}, Grow n v → Grow (n + l.length) (run v l)
  | [], n, v, h => h
  | c :: r, n, v, h => by
    have := grow_run r (h.called c)
    rw [List.length_cons]
    rw [show n + (r.length + 1) = n + 1 + r.length by omega]
    exact this
theorem grow_cube {n : Nat} {v : Int × Int} (h : Grow n v) : v.1.natAbs ^ 3 ≤ 3 ^ (n + 1) ∧ v.2.natAbs ^ 3 ≤ 3 ^ (n + 1) := by
  obtain ⟨k, B, hb, h2, h1⟩ := h
  have up : B ^ 3 * 3 ^ (k + 1) ≤ 3 ^ (n + 1) := by
    rw [Nat.pow_succ (m := k), Nat.pow_succ (m := n), ← Nat.mul_assoc]
    exact Nat.mul_le_mul_right 3 hb
  have turn : ((k + 1) * B) ^ 3 ≤ 3 ^ (n + 1) := by
    rw [Nat.mul_pow]
    exact Nat.le_trans (Nat.mul_le_mul_right _ (cube_three k)) (by rw [Nat.mul_comm]; exact up)
  have hBk : B ≤ (k + 1) * B := by rw [Nat.add_mul, Nat.one_mul]; omega
  exact ⟨Nat.le_trans (Nat.pow_le_pow_left h1 3) turn, Nat.le_trans (Nat.pow_le_pow_left (Nat.le_trans h2 hBk) 3) turn⟩
/-- small enough to be written out -/
structure Sv (v : Int × Int) : Prop where
  good : Good v
  s1 : v.1.natAbs ≤ 3400000
  s2 : v.2.natAbs ≤ 3400000
theorem cube_small {x : Nat} (h : x ^ 3 ≤ 3 ^ 41) : x ≤ 3400000 := by
  by_cases c : x ≤ 3400000
  · exact c
  · have : (3400001 : Nat) ^ 3 ≤ x ^ 3 := Nat.pow_le_pow_left (by omega) 3
    have e : ¬ (3400001 : Nat) ^ 3 ≤ 3 ^ 41 := by decide +kernel
    exact absurd (Nat.le_trans this h) e
theorem sv_run {l : List Nat} (h : (l.length : Int) ≤ 40) : Sv (run (0, 1) l) := by
  have g := grow_run l (n := 0) (v := (0, 1)) ⟨0, 1, by decide, by decide, by decide⟩
  have q := grow_cube g
  have e : (3 : Nat) ^ (0 + l.length + 1) ≤ 3 ^ 41 := Nat.pow_le_pow_right (by decide) (by omega)
  exact ⟨good_run l Good.zero, cube_small (Nat.le_trans q.1 e), cube_small (Nat.le_trans q.2 e)⟩
theorem stv_len {v : Int × Int} (h : Sv v) : (stv v).length ≤ 14000000 := by
  obtain ⟨p, q⟩ := v
  obtain ⟨⟨h1, h2⟩, s1, s2⟩ := h
  unfold stv
  by_cases c : q = 0
  · rw [if_pos (show (p, q).2 = 0 from c)]
    decide
  · rw [if_neg (show ¬ (p, q).2 = 0 from c)]
    have h0 : 0 < q := by
      rcases h1 with h1 | h1
      · exact h1
      · cases h1; exact absurd rfl c
    have := len_out h0 h2
    simp only at s1 s2 this ⊢
    omega
theorem tl_S (l : List Nat) : tl (S l) = l := S_list l
theorem join_S (xs : List (List Nat)) : Txt.join (S [82]) (xs.map S) = S (joinL [82] xs) := by
  have e := tl_join (S [82]) (xs.map S)
  rw [← join_eq, List.map_map] at e
  have e2 : (tl ∘ S) = id := by funext l; exact tl_S l
  rw [e2, List.map_id, tl_S] at e
  exact (S_eta (Txt.join (S [82]) (xs.map S))).symm.trans (congrArg S e)
theorem sum_S (xs : List (List Nat)) : ((xs.map S).map (·.length)).sum = (xs.map List.length).sum := by
  rw [List.map_map]
  congr 1
theorem le_sum {x : Nat} : ∀ {l : List Nat}, x ∈ l → x ≤ l.sum
  | [], h => by cases h
  | y :: r, h => by
    rw [List.sum_cons]
    rcases List.mem_cons.mp h with rfl | h
    · omega
    · have := le_sum h
      omega
theorem joinL_len : ∀ (xs : List (List Nat)), xs ≠ [] → (joinL [82] xs).length + 1 = (xs.map List.length).sum + xs.length
  | [], h => absurd rfl h
  | [x], _ => by simp [joinL]
  | x :: y :: r, _ => by
    have := joinL_len (y :: r) (by simp)
    show (x ++ ([82] ++ joinL [82] (y :: r))).length + 1 = _
    rw [List.length_append, List.length_append, List.map_cons, List.sum_cons, List.length_cons]
    show x.length + (1 + _) + 1 = x.length + _ + (_ + 1)
    omega
def spRun : Sp := fun vs H Q _ => ∃ b : Int, vs = [.int b] ∧ b.natAbs ≤ 16000000 ∧ Q (.str (S (rn b))) H
def spStd : Sp := fun vs H Q _ => ∃ (t : Addr) (v : Int × Int), vs = [.ref t] ∧ Tup2 H t v ∧ Sv v ∧ ∀ H', Same H H' → Q (.str (S (stv v))) H'
theorem rn_up {b : Int} (h : 0 ≤ b) : (List.replicate b.toNat [84]).flatten = rn b := by
  unfold rn
  rw [if_neg (by omega)]
  induction b.toNat with
  | zero => rfl
  | succ n ih => rw [List.replicate_succ, List.flatten_cons, ih, List.replicate_succ]; rfl
theorem rn_dn {b : Int} (h : b < 0) : (List.replicate (-b).toNat [85]).flatten = rn b := by
  unfold rn
  rw [if_pos h]
  induction (-b).toNat with
  | zero => rfl
  | succ n ih => rw [List.replicate_succ, List.flatten_cons, ih, List.replicate_succ]; rfl
theorem fdiv_pos {p q : Int} (h : 0 < q) : p.fdiv q = p / q := Int.fdiv_eq_ediv_of_nonneg p (by omega)
def spNum : Sp := fun vs H Q _ => ∃ l : List Nat, vs = [.str (S l)] ∧ ∀ t' H', Same H H' → Tup2 H' t' (run (0, 1) l) → Q (.ref t') H'
theorem cut_last (xs : List V) : cutV xs none (some (-1)) = xs.dropLast := by
  unfold cutV
  rw [HT.sIx_none, List.drop_zero, Nat.sub_zero, List.dropLast_eq_take]
  congr 1
  unfold HT.sIx
  show (if (-1 : Int) < 0 then ((-1 : Int) + (xs.length : Int)).toNat else _) = _
  rw [if_pos (by decide)]
  omega
theorem sv_div {p q : Int} (hp : p.natAbs ≤ 400) (hq : q.natAbs ≤ 400) (h0 : 0 < q) : Sv (p / (Int.gcd p q : Int), q / (Int.gcd p q : Int)) := by
  have g0 : 0 < Int.gcd p q := Int.gcd_pos_of_ne_zero_right p (by omega)
  have a : ∀ (x : Int) (g : Nat), (x / (g : Int)).natAbs ≤ x.natAbs := fun x g => Int.natAbs_ediv_le_natAbs x g
  refine ⟨⟨.inl ?_, Int.gcd_ediv_gcd_ediv_gcd g0⟩, Nat.le_trans (a p _) (by omega), Nat.le_trans (a q _) (by omega)⟩
  exact Int.ediv_pos_of_pos_of_dvd h0 (by omega) (Int.gcd_dvd_right _ _)
theorem sv_chain {n : Int} (h0 : 2 ≤ n) (h1 : n ≤ 1000) : Sv (n, n - 1) := by
  refine ⟨⟨.inl (by show 0 < n - 1; omega), ?_⟩, by show n.natAbs ≤ _; omega, by show (n - 1).natAbs ≤ _; omega⟩
  show Int.gcd n (n - 1) = 1
  have := gcd_add' 1 (n - 1)
  rw [show 1 + (n - 1) = n by omega, Int.one_gcd] at this
  exact this
def Vi (H : Hp) (y : V) : Prop := ∃ (t : Addr) (v : Int × Int), y = .ref t ∧ Tup2 H t v ∧ Sv v
theorem Vi.same {H H' : Hp} {y : V} (h : Vi H y) (s : Same H H') : Vi H' y := by
  obtain ⟨t, v, e, a, b⟩ := h
  exact ⟨t, v, e, a.same s, b⟩
theorem rn_no (b : Int) : 82 ∉ rn b := by
  unfold rn
  intro h
  split at h
  · have := (List.mem_replicate.mp h).2; omega
  · have := (List.mem_replicate.mp h).2; omega
theorem rn_T {b : Int} (h : 0 ≤ b) : (List.replicate (rn b).length [84]).flatten = rn b := by
  rw [rn_len, show b.natAbs = b.toNat by omega]
  exact rn_up h
theorem tup2_is {H : Hp} {n : Nat} {t : Addr} {v : Int × Int} (h : Tup2 H t v) : Is H (n + 1) (.ref t) (.tup [.int v.1, .int v.2]) :=
  is_tup h rfl (by show 2 ≤ 1000000; decide) fun i x d hx hd => by
    match i with
    | 0 => cases hx; cases hd; exact int_is
    | 1 => cases hx; cases hd; exact int_is
    | i + 2 => cases hx
def spSmall : Sp := fun vs H Q _ => ∃ (a : Addr), vs = [.ref a] ∧ Tape H a ∧ ∀ (t : Addr) (v : Int × Int) H', Sv v → But a H H' → Tape H' a → Tup2 H' t v → Q (.ref t) H'
end
/-! ### the quotients of a fraction and the number of its steps -/
def QL (p q : Nat) : List Nat := if h : q = 0 then [] else p / q :: QL q (p % q)
termination_by q
decreasing_by exact Nat.mod_lt _ (Nat.pos_of_ne_zero h)
theorem QL_zero (p : Nat) : QL p 0 = [] := by rw [QL]; exact dif_pos rfl
theorem QL_step {p q : Nat} (h : 0 < q) : QL p q = p / q :: QL q (p % q) := by
  conv => lhs; rw [QL]
  exact dif_neg (by omega)
/-- the sum of the quotients and their number -/
def EQ (p q : Nat) : Nat := (QL p q).sum + (QL p q).length
theorem EQ_zero (p : Nat) : EQ p 0 = 0 := by unfold EQ; rw [QL_zero]; rfl
theorem EQ_step {p q : Nat} (h : 0 < q) : EQ p q = p / q + 1 + EQ q (p % q) := by
  unfold EQ
  rw [QL_step h, List.sum_cons, List.length_cons]
  omega
theorem EQ_pos {p q : Nat} (h : 0 < q) : 1 ≤ EQ p q := by
  rw [EQ_step h]
  exact Nat.le_trans (Nat.le_add_left 1 (p / q)) (Nat.le_add_right _ _)
theorem EQ_add {p q : Nat} (h : 0 < q) : EQ (p + q) q = EQ p q + 1 := by
  rw [EQ_step h, EQ_step h, Nat.add_div_right _ h, Nat.add_mod_right]
  omega
theorem EQ_swap {p q : Nat} (h : p < q) : EQ p q = 1 + EQ q p := by
  rw [EQ_step (by omega), Nat.div_eq_of_lt h, Nat.mod_eq_of_lt h]
theorem EQ_half {p q : Nat} (h0 : 0 < p) (h : 2 * p < q) : EQ (q - p) q = EQ p q + 1 := by
  have e : EQ (q - p) q = 1 + EQ q (q - p) := EQ_swap (by omega)
  have e1 : EQ q (q - p) = EQ p (q - p) + 1 := by
    have := EQ_add (p := p) (q := q - p) (by omega)
    rw [show p + (q - p) = q by omega] at this
    exact this
  have e2 : EQ p (q - p) = 1 + EQ (q - p) p := EQ_swap (by omega)
  have e3 : EQ p q = 1 + EQ q p := EQ_swap (by omega)
  have e4 : EQ q p = EQ (q - p) p + 1 := by
    have := EQ_add (p := q - p) (q := p) h0
    rw [show q - p + p = q by omega] at this
    exact this
  omega
theorem EQ_sub {p q : Nat} (h0 : 0 < p) (h : p < q) : EQ (q - p) q = EQ p q + 1 ∨ EQ p q = EQ (q - p) q + 1 ∨ EQ (q - p) q = EQ p q := by
  rcases Nat.lt_trichotomy (2 * p) q with c | c | c
  · exact .inl (EQ_half h0 c)
  · exact .inr (.inr (by rw [show q - p = p by omega]))
  · have := EQ_half (p := q - p) (q := q) (by omega) (by omega)
    rw [show q - (q - p) = p by omega] at this
    exact .inr (.inl this)
/-- the steps of a fraction -/
def stp (v : Int × Int) : Nat := if v.2 = 0 then 1 else EQ v.1.natAbs v.2.natAbs - 1
theorem stp_inf {p : Int} : stp (p, 0) = 1 := if_pos rfl
theorem stp_fin {p q : Int} (h : 0 < q) : stp (p, q) + 1 = EQ p.natAbs q.natAbs := by
  unfold stp
  rw [if_neg (show ¬ (p, q).2 = 0 by show ¬ q = 0; omega)]
  have := EQ_pos (p := p.natAbs) (q := q.natAbs) (by omega)
  show EQ p.natAbs q.natAbs - 1 + 1 = _
  omega
theorem stp_zero : stp (0, 1) = 0 := by
  have := stp_fin (p := 0) (q := 1) (by decide)
  rw [EQ_step (by decide)] at this
  have e : (0 : Int).natAbs % (1 : Int).natAbs = 0 := rfl
  rw [e, EQ_zero] at this
  have : (0 : Int).natAbs / (1 : Int).natAbs = 0 := rfl
  omega
theorem stp_neg (p q : Int) : stp (-p, q) = stp (p, q) := by
  unfold stp
  rw [Int.natAbs_neg]
theorem EQ_one {p q : Nat} (h : 0 < q) (e : EQ p q = 1) : p = 0 := by
  rw [EQ_step h] at e
  generalize hd : p / q = d at e
  have e1 : EQ q (p % q) = 0 := by omega
  have e2 : p / q = 0 := by omega
  have e3 : p % q = 0 := Decidable.byContradiction fun z => by
    have := EQ_pos (p := q) (q := p % q) (by omega)
    omega
  have := Nat.div_add_mod p q
  rw [e2, e3] at this
  omega
theorem stp_eq_zero {v : Int × Int} (g : Good v) (e : stp v = 0) : v = (0, 1) := by
  obtain ⟨p, q⟩ := v
  obtain ⟨h1, h2⟩ := g
  rcases h1 with h1 | h1
  · have h1' : 0 < q := h1
    have := stp_fin (p := p) h1'
    rw [e] at this
    have z := EQ_one (by omega) this.symm
    have hp : p = 0 := Int.natAbs_eq_zero.mp z
    subst hp
    have h2' : Int.gcd 0 q = 1 := h2
    rw [Int.gcd_zero_left] at h2'
    have : q = 1 := by omega
    rw [this]
  · cases h1
    rw [stp_inf] at e
    cases e
theorem stp_twist {p q : Int} : stp (p + q, q) ≤ stp (p, q) + 1 ∧ stp (p, q) ≤ stp (p + q, q) + 1 := by
  by_cases hq : 0 < q
  · have a := stp_fin (p := p) hq
    have b := stp_fin (p := p + q) hq
    rcases Int.lt_or_le p 0 with c | c
    · rcases Int.lt_or_le (-q) p with d | d
      · have e : (p + q).natAbs = q.natAbs - p.natAbs := by omega
        rw [e] at b
        have := EQ_sub (p := p.natAbs) (q := q.natAbs) (by omega) (by omega)
        omega
      · have e : p.natAbs = (p + q).natAbs + q.natAbs := by omega
        rw [e, EQ_add (by omega)] at a
        omega
    · have e : (p + q).natAbs = p.natAbs + q.natAbs := by omega
      rw [e, EQ_add (by omega)] at b
      omega
  · rcases Int.lt_or_le q 0 with c | c
    · have a : stp (p, q) = EQ p.natAbs q.natAbs - 1 := if_neg (show ¬ q = 0 by omega)
      have b : stp (p + q, q) = EQ (p + q).natAbs q.natAbs - 1 := if_neg (show ¬ q = 0 by omega)
      have a1 := EQ_pos (p := p.natAbs) (q := q.natAbs) (by omega)
      have b1 := EQ_pos (p := (p + q).natAbs) (q := q.natAbs) (by omega)
      rcases Int.lt_or_le 0 p with e | e
      · rcases Int.lt_or_le p (-q) with d | d
        · have e : (p + q).natAbs = q.natAbs - p.natAbs := by omega
          rw [e] at b b1
          have := EQ_sub (p := p.natAbs) (q := q.natAbs) (by omega) (by omega)
          omega
        · have e : p.natAbs = (p + q).natAbs + q.natAbs := by omega
          rw [e, EQ_add (by omega)] at a a1
          omega
      · have e : (p + q).natAbs = p.natAbs + q.natAbs := by omega
        rw [e, EQ_add (by omega)] at b b1
        omega
    · have : q = 0 := by omega
      subst this
      rw [stp_inf, stp_inf]
      omega
theorem EQ_turn {p q : Nat} (hp : 0 < p) (hq : 0 < q) : EQ q p = EQ p q + 1 ∨ EQ p q = EQ q p + 1 ∨ EQ p q = EQ q p := by
  rcases Nat.lt_trichotomy p q with c | c | c
  · exact .inr (.inl (by rw [EQ_swap c]; omega))
  · subst c; exact .inr (.inr rfl)
  · exact .inl (by rw [EQ_swap c]; omega)
/-- along each call the steps change by at most one -/
theorem stp_near {v : Int × Int} (g : Good v) (c : Nat) : stp (called v c) ≤ stp v + 1 ∧ stp v ≤ stp (called v c) + 1 := by
  obtain ⟨p, q⟩ := v
  unfold called
  by_cases c1 : c = 84
  · rw [if_pos c1]; exact stp_twist
  rw [if_neg c1]
  by_cases c2 : c = 85
  · rw [if_pos c2]
    have := stp_twist (p := p - q) (q := q)
    rw [Int.sub_add_cancel] at this
    exact ⟨this.2, this.1⟩
  rw [if_neg c2]
  have hq : 0 < q ∨ (p = 1 ∧ q = 0) := by
    rcases g.1 with h | h
    · exact .inl h
    · cases h; exact .inr ⟨rfl, rfl⟩
  by_cases c3 : 0 < p
  · rw [if_pos (show 0 < (p, q).1 from c3)]
    show stp (0 - q, p) ≤ stp (p, q) + 1 ∧ stp (p, q) ≤ stp (0 - q, p) + 1
    have b := stp_fin (p := 0 - q) c3
    rw [show (0 - q).natAbs = q.natAbs by omega] at b
    rcases hq with h | ⟨rfl, rfl⟩
    · have a := stp_fin (p := p) h
      have := EQ_turn (p := p.natAbs) (q := q.natAbs) (by omega) (by omega)
      omega
    · rw [stp_inf]
      rw [EQ_step (by decide)] at b
      have e : (0 : Int).natAbs % (1 : Int).natAbs = 0 := rfl
      rw [e, EQ_zero] at b
      have : (0 : Int).natAbs / (1 : Int).natAbs = 0 := rfl
      omega
  rw [if_neg (show ¬ 0 < (p, q).1 from c3)]
  by_cases c4 : p < 0
  · rw [if_pos (show (p, q).1 < 0 from c4)]
    show stp (q, 0 - p) ≤ stp (p, q) + 1 ∧ stp (p, q) ≤ stp (q, 0 - p) + 1
    have b := stp_fin (p := q) (q := 0 - p) (by omega)
    rw [show (0 - p).natAbs = p.natAbs by omega] at b
    rcases hq with h | ⟨rfl, rfl⟩
    · have a := stp_fin (p := p) h
      have := EQ_turn (p := p.natAbs) (q := q.natAbs) (by omega) (by omega)
      omega
    · omega
  rw [if_neg (show ¬ (p, q).1 < 0 from c4)]
  have hp : p = 0 := by omega
  subst hp
  have z : (0, q) = ((0, 1) : Int × Int) := by
    rcases hq with h | ⟨h, _⟩
    · have h2 : Int.gcd 0 q = 1 := g.2
      rw [Int.gcd_zero_left] at h2
      rw [show q = 1 by omega]
    · cases h
  rw [z, stp_zero, stp_inf]
  omega
/-- for each fraction but 0 one of the calls makes the steps less by one -/
theorem stp_down {v : Int × Int} (g : Good v) (n : v ≠ (0, 1)) : ∃ c, (c = 84 ∨ c = 85 ∨ c = 82) ∧ stp (called v c) + 1 = stp v := by
  obtain ⟨p, q⟩ := v
  have hq : 0 < q ∨ (p = 1 ∧ q = 0) := by
    rcases g.1 with h | h
    · exact .inl h
    · cases h; exact .inr ⟨rfl, rfl⟩
  rcases hq with h | ⟨rfl, rfl⟩
  · have a := stp_fin (p := p) h
    rcases Int.lt_or_le (-q) p with d | d
    · rcases Int.lt_or_le p q with e | e
      · have p0 : p ≠ 0 := fun z => by
          subst z
          have h2 : Int.gcd 0 q = 1 := g.2
          rw [Int.gcd_zero_left] at h2
          exact n (by rw [show q = 1 by omega])
        refine ⟨82, .inr (.inr rfl), ?_⟩
        rw [EQ_swap (show p.natAbs < q.natAbs by omega)] at a
        by_cases c3 : 0 < p
        · have e1 : called (p, q) 82 = (0 - q, p) := by
            unfold called
            rw [if_neg (by decide), if_neg (by decide), if_pos (show 0 < (p, q).1 from c3)]
          rw [e1]
          have b := stp_fin (p := 0 - q) c3
          rw [show (0 - q).natAbs = q.natAbs by omega] at b
          omega
        · have c4 : p < 0 := by omega
          have e1 : called (p, q) 82 = (q, 0 - p) := by
            unfold called
            rw [if_neg (by decide), if_neg (by decide), if_neg (show ¬ 0 < (p, q).1 from c3), if_pos (show (p, q).1 < 0 from c4)]
          rw [e1]
          have b := stp_fin (p := q) (q := 0 - p) (by omega)
          rw [show (0 - p).natAbs = p.natAbs by omega] at b
          omega
      · refine ⟨85, .inr (.inl rfl), ?_⟩
        have e1 : called (p, q) 85 = (p - q, q) := rfl
        rw [e1]
        have b := stp_fin (p := p - q) h
        have e2 : p.natAbs = (p - q).natAbs + q.natAbs := by omega
        rw [e2, EQ_add (by omega)] at a
        omega
    · refine ⟨84, .inl rfl, ?_⟩
      have e1 : called (p, q) 84 = (p + q, q) := rfl
      rw [e1]
      have b := stp_fin (p := p + q) h
      have e2 : p.natAbs = (p + q).natAbs + q.natAbs := by omega
      rw [e2, EQ_add (by omega)] at a
      omega
  · refine ⟨82, .inr (.inr rfl), ?_⟩
    have e1 : called (1, 0) 82 = (0, 1) := rfl
    rw [e1, stp_zero, stp_inf]
theorem stp_run : ∀ (l : List Nat) {v : Int × Int}, Good v → stp (run v l) ≤ stp v + l.length
  | [], _, _ => Nat.le_refl _
  | c :: l, v, g => by
    have a := stp_run l (g.called c)
    have b := (stp_near g c).1
    show stp (run (called v c) l) ≤ _
    rw [List.length_cons]
    omega
/-- the quotients that the program has -/
def quo (v : Int × Int) : List Nat := if v.2 = 0 then [0, 0] else QL v.1.natAbs v.2.natAbs
theorem quo_stp {v : Int × Int} (g : Good v) : (quo v).sum + (quo v).length = stp v + 1 := by
  unfold quo
  by_cases h : v.2 = 0
  · rw [if_pos h]
    unfold stp
    rw [if_pos h]
    rfl
  · rw [if_neg h]
    have h0 : 0 < v.2 := by
      rcases g.1 with h1 | h1
      · exact h1
      · rw [h1] at h; exact absurd rfl h
    exact (stp_fin (p := v.1) h0).symm
theorem QL_len : ∀ (n p q : Nat), q < 2 ^ n → (QL p q).length ≤ 2 * n
  | 0, p, q, h => by
    have : q = 0 := by omega
    subst this
    rw [QL_zero]
    exact Nat.le_refl _
  | n + 1, p, q, h => by
    by_cases q0 : 0 < q
    · rw [QL_step q0, List.length_cons]
      by_cases r0 : 0 < p % q
      · rw [QL_step r0, List.length_cons]
        have l1 := Nat.mod_lt p q0
        have l2 := Nat.mod_lt q r0
        have l3 : q % (p % q) + p % q ≤ q := by
          have e := Nat.div_add_mod q (p % q)
          have : 1 ≤ q / (p % q) := Nat.div_pos (Nat.le_of_lt l1) r0
          have : p % q * 1 ≤ p % q * (q / (p % q)) := Nat.mul_le_mul_left _ this
          omega
        have := QL_len n (p % q) (q % (p % q)) (by rw [Nat.pow_succ] at h; omega)
        omega
      · rw [show p % q = 0 by omega, QL_zero]
        show 0 + 1 ≤ _
        omega
    · rw [show q = 0 by omega, QL_zero]
      exact Nat.zero_le _
theorem quo_len {v : Int × Int} {n : Nat} (h : v.2.natAbs < 2 ^ n) (n0 : 0 < n) : (quo v).length ≤ 2 * n := by
  unfold quo
  split
  · show 2 ≤ _; omega
  · exact QL_len n _ _ h
section
variable {P : Program} {w : World} {K : PySem.W.Frag} {mg : Str → Option Value} {base : Heap} {f : Addr} {fd : FuncData}
/-! ### the letters and their opposites -/
def letter (c : Nat) : Bool := c == 84 || c == 85 || c == 82
theorem letter_iff {c : Nat} : letter c = true ↔ (c = 84 ∨ c = 85 ∨ c = 82) := by
  unfold letter
  simp [or_assoc]
def opp (c : Nat) : Nat := if c = 84 then 85 else if c = 85 then 84 else c
def mir (l : List Nat) : List Nat := l.map opp
theorem mir_take {l : List Nat} {i c : Nat} (h : l[i]? = some c) : mir (l.take (i + 1)) = mir (l.take i) ++ [opp c] := by
  unfold mir
  rw [List.take_add_one, h, List.map_append]
  rfl
theorem lets_mir {l : List Nat} (h : Lets l) : Lets (mir l) := fun c hc => by
  obtain ⟨x, hx, rfl⟩ := List.mem_map.mp hc
  rcases h x hx with rfl | rfl | rfl
  · exact .inr (.inl rfl)
  · exact .inl rfl
  · exact .inr (.inr rfl)
/-- the program's table of opposites, at d -/
structure Opp (K : PySem.W.Frag) (w : World) (d : Addr) : Prop where
  dct : ∃ es n, KDict K w d es n
  yes : ∀ c, letter c = true → ∃ u, PySem.W.nsIn K d (S [c]) = some (some u) ∧ RelV (.str (S [opp c])) u
  no : ∀ c, letter c = false → PySem.W.nsIn K d (S [c]) = some none
def spMir : Sp := fun vs H Q _ => ∃ l : List Nat, vs = [.str (S l)] ∧ Lets l ∧ l.length ≤ 1000000 ∧ ∀ H', Same H H' → Q (.str (S (mir l))) H'
theorem ok_mirrored {d : Addr} (F : Fun K "mirrored" "mirrored" s_mirrored f fd) (O : Opp K w d) (gO : mg "OPPOSITES" = some (.ref d)) : FnOk P w K mg base CX0 1 f fd ["dance"] spMir := by
  refine F.ok sc_mirrored (fun vs H Q E h => ?_) (fun cdv A outer s H vs Q E hr h => ?_)
  · obtain ⟨l, rfl, _⟩ := h
    rfl
  obtain ⟨l, rfl, hl, hz, q⟩ := h
  obtain ⟨es, n, D⟩ := O.dct
  refine ⟨_, pss_one (ps_ret (pe_join pe_str (pe_lc (own := [("letter", 1)]) (g := gName 1) (tt := tYes) (by rfl) sc_mirrored.nd (pi_str (pv 0)) (blkOk_by (own := [("letter", 1)]) (N := ["dance", "letter"]) (sc := defScope s_mirrored) (by decide +kernel))
    (fun _ _ _ _ _ => pg_name (i := 1) sc_mirrored.nd rfl (Or.inl rfl)) (fun _ _ _ _ _ => pts_nil) (fun _ _ _ _ _ => pe_ix (r := rIxD K w) ix_kdict (pe_glob (v := .ref d) rfl gO rfl) (pv 1) (fun _ _ => rfl))))), ?_⟩
  refine ⟨⟨_, rfl⟩, _, rfl, _, rfl, fun D' hD => lc_str (l := l) (fun i G => Same H G ∧ G D' = some (.lst ((mir (l.take i)).map fun c => V.str (S [c])))) ⟨same_new hD _, upd_same⟩ ?_ ?_⟩
  · rintro i c G hc ⟨sm, hG⟩
    have hlc := hl c (List.mem_of_getElem? hc)
    obtain ⟨u, hu, ru⟩ := O.yes c (letter_iff.mpr hlc)
    have hi : i < l.length := (List.getElem?_eq_some_iff.mp hc).1
    refine ⟨rfl, ?_⟩
    refine ⟨_, rfl, d, S [c], .str (S [opp c]), rfl, rfl, ⟨es, n, u, D.at_, D.lit, hu, ru⟩, _, hG, ?_, fun b o hb => ?_, ?_⟩
    · rw [List.length_map, mir, List.length_map, List.length_take]
      exact Nat.lt_of_lt_of_le (show min i l.length < 16777216 by omega) sizeLine_big
    · rw [upd_ne (ne_of_none hb hD)]; exact sm _ _ hb
    · rw [upd_same, mir_take hc, List.map_append]
      rfl
  · rintro G ⟨sm, hG⟩
    rw [List.take_of_length_le (Nat.le_refl _)] at hG
    refine ⟨S [], D', (mir l).map fun c => S [c], e_empty ▸ rfl, rfl, .inl (SqL.of ?_), ?_, ?_⟩
    · rw [hG, List.map_map]; rfl
    · rw [sum_ones, S_len, List.length_map, mir, List.length_map]
      show l.length + l.length * 0 ≤ 16777216
      omega
    · rw [join_signs]; exact q G sm
def spBack : Sp := fun vs H Q _ => ∃ l : List Nat, vs = [.str (S l)] ∧ Lets l ∧ l.length ≤ 1000000 ∧ ∀ H', Same H H' → Q (.str (S (mir l.reverse))) H'
theorem ok_backward (F : Fun K "backward" "backward" s_backward f fd) (DM : Dfn P w K mg base "mirrored" 1 ["dance"] spMir) : FnOk P w K mg base CX0 2 f fd ["dance"] spBack := by
  refine F.ok sc_backward (fun vs H Q E h => ?_) (fun cdv A outer s H vs Q E hr h => ?_)
  · obtain ⟨l, rfl, _⟩ := h
    rfl
  obtain ⟨l, rfl, hl, hz, q⟩ := h
  refine ⟨_, pss_one (ps_ret (pe_do DM hr (pa_cons (pe_revS (pv 0)) pa_nil))), ?_⟩
  exact ⟨_, rfl, l, rfl, by omega, l.reverse, rfl, fun c hc => hl c (List.mem_reverse.mp hc), by rw [List.length_reverse]; exact hz, q⟩
end
section
/-! ### backward and mirrored dances, by the numbers -/
theorem Good.zero_one {q : Int} (h : Good (0, q)) : q = 1 := by
  obtain ⟨h1, h2⟩ := h
  rcases h1 with h1 | h1
  · have : Int.gcd 0 q = q.natAbs := Int.gcd_zero_left q
    have h3 : (0 : Int) < q := h1
    have h4 : Int.gcd 0 q = 1 := h2
    omega
  · cases h1
theorem called_opp {v : Int × Int} {c : Nat} (hv : Good v) (hc : c = 84 ∨ c = 85 ∨ c = 82) : called (called v c) (opp c) = v := by
  obtain ⟨p, q⟩ := v
  rcases hc with rfl | rfl | rfl
  · show called (p + q, q) 85 = (p, q)
    show (p + q - q, q) = (p, q)
    rw [Int.add_sub_cancel]
  · show called (p - q, q) 84 = (p, q)
    show (p - q + q, q) = (p, q)
    rw [Int.sub_add_cancel]
  · have e1 : ∀ u : Int × Int, called u 82 = if 0 < u.1 then (0 - u.2, u.1) else if u.1 < 0 then (u.2, 0 - u.1) else (1, 0) := fun u => rfl
    show called (called (p, q) 82) 82 = (p, q)
    have hq : 0 < q ∨ (p = 1 ∧ q = 0) := by
      rcases hv.1 with h | h
      · exact .inl h
      · cases h; exact .inr ⟨rfl, rfl⟩
    by_cases h1 : 0 < p
    · rw [e1 (p, q), if_pos (show 0 < (p, q).1 from h1), e1]
      rcases hq with hq | ⟨rfl, rfl⟩
      · rw [if_neg (show ¬ 0 < (0 - q, p).1 by show ¬ 0 < 0 - q; omega), if_pos (show (0 - q, p).1 < 0 by show 0 - q < 0; omega)]
        show (p, 0 - (0 - q)) = (p, q)
        rw [show 0 - (0 - q) = q by omega]
      · rfl
    · rw [e1 (p, q), if_neg (show ¬ 0 < (p, q).1 from h1)]
      by_cases h2 : p < 0
      · rw [if_pos (show (p, q).1 < 0 from h2), e1]
        have hq' : 0 < q := by rcases hq with hq | ⟨rfl, rfl⟩; exact hq; omega
        rw [if_pos (show 0 < (q, 0 - p).1 from hq')]
        show (0 - (0 - p), q) = (p, q)
        rw [show 0 - (0 - p) = p by omega]
      · have h3 : p = 0 := by omega
        subst h3
        have := hv.zero_one
        subst this
        rfl
theorem run_back : ∀ (l : List Nat) {v : Int × Int}, Good v → Lets l → run (run v l) (mir l.reverse) = v
  | [], v, _, _ => rfl
  | c :: r, v, hv, hl => by
    have hc := hl c (List.mem_cons_self ..)
    have ih := run_back r (v := called v c) (hv.called c) fun x hx => hl x (List.mem_cons_of_mem _ hx)
    have e : mir (c :: r).reverse = mir r.reverse ++ [opp c] := by
      unfold mir
      rw [List.reverse_cons, List.map_append]
      rfl
    show run (run (called v c) r) (mir (c :: r).reverse) = v
    rw [e, run_app, ih]
    exact called_opp hv hc
end
section
open TL (joinL)
/-! ### the runs of the first least dance -/
def swc (c : Nat) : Nat := if c = 84 then 85 else 84
def al : Nat → List Nat → List (Nat × Nat)
  | _, [] => []
  | c, a :: r => (c, a) :: al (swc c) r
theorem al_len : ∀ (c : Nat) (qs : List Nat), (al c qs).length = qs.length
  | _, [] => rfl
  | c, a :: r => by
    show (al (swc c) r).length + 1 = r.length + 1
    rw [al_len (swc c) r]
theorem swc_swc {c : Nat} (h : c = 84 ∨ c = 85) : swc (swc c) = c := by rcases h with rfl | rfl <;> rfl
theorem swc_or {c : Nat} (h : c = 84 ∨ c = 85) : swc c = 84 ∨ swc c = 85 := by rcases h with rfl | rfl <;> decide
theorem al_get : ∀ (qs : List Nat) (c k : Nat), c = 84 ∨ c = 85 → (al c qs)[k]? = qs[k]?.map fun a => (if k % 2 = 0 then c else swc c, a)
  | [], c, k, _ => by simp [al]
  | a :: r, c, 0, _ => rfl
  | a :: r, c, k + 1, h => by
    show (al (swc c) r)[k]? = r[k]?.map _
    rw [al_get r (swc c) k (swc_or h)]
    have e : (if k % 2 = 0 then swc c else swc (swc c)) = if (k + 1) % 2 = 0 then c else swc c := by
      rw [swc_swc h]
      by_cases p : k % 2 = 0
      · rw [if_pos p, if_neg (by omega)]
      · rw [if_neg p, if_pos (by omega)]
    rw [e]
theorem al_or : ∀ (qs : List Nat) (c : Nat), c = 84 ∨ c = 85 → ∀ p ∈ al c qs, p.1 = 84 ∨ p.1 = 85
  | [], _, _, p, hp => by cases hp
  | a :: r, c, h, p, hp => by
    rcases List.mem_cons.mp hp with rfl | hp
    · exact h
    · exact al_or r (swc c) (swc_or h) p hp
def wd (p : Nat × Nat) : List Nat := List.replicate p.2 p.1
/-- the dance that the runs make -/
def dr (c : Nat) (qs : List Nat) : List Nat := joinL [82] ((al c qs).reverse.map wd)
theorem dr_one (c a : Nat) : dr c [a] = List.replicate a c := rfl
theorem dr_cons (c a : Nat) {r : List Nat} (h : r ≠ []) : dr c (a :: r) = dr (swc c) r ++ ([82] ++ List.replicate a c) := by
  unfold dr
  show joinL [82] (((c, a) :: al (swc c) r).reverse.map wd) = _
  rw [List.reverse_cons, List.map_append, List.map_singleton, joinL_snoc [82] _ (fun z => ?_)]
  · rfl
  · have e := congrArg List.length z
    rw [List.length_map, List.length_reverse, al_len] at e
    exact h (List.length_eq_zero_iff.mp e)
theorem dr_lets : ∀ (qs : List Nat) (c : Nat), c = 84 ∨ c = 85 → Lets (dr c qs)
  | [], _, _ => fun x hx => by cases hx
  | a :: [], c, h => fun x hx => by
    rw [List.eq_of_mem_replicate hx]
    omega
  | a :: b :: r, c, h => fun x hx => by
    rw [dr_cons c a (by simp)] at hx
    rcases List.mem_append.mp hx with hx | hx
    · exact dr_lets (b :: r) (swc c) (swc_or h) x hx
    · rcases List.mem_append.mp hx with hx | hx
      · exact .inr (.inr (List.mem_singleton.mp hx))
      · rw [List.eq_of_mem_replicate hx]
        omega
theorem dr_len : ∀ (qs : List Nat) (c : Nat), qs ≠ [] → (dr c qs).length + 1 = qs.sum + qs.length
  | [], _, h => absurd rfl h
  | a :: [], c, _ => by
    rw [dr_one, List.length_replicate]
    simp
  | a :: b :: r, c, _ => by
    have ih := dr_len (b :: r) (swc c) (by simp)
    rw [dr_cons c a (by simp)]
    simp only [List.length_append, List.length_replicate, List.sum_cons, List.length_cons, List.length_nil] at *
    omega
theorem QL_ne {p q : Nat} (h : 0 < q) : QL p q ≠ [] := by rw [QL_step h]; exact List.cons_ne_nil _ _
theorem run_rep84 : ∀ (a : Nat) (p q : Int), run (p, q) (List.replicate a 84) = (p + a * q, q)
  | 0, p, q => by rw [List.replicate_zero, run_nil]; simp
  | a + 1, p, q => by
    rw [List.replicate_succ]
    show run (p + q, q) _ = _
    rw [run_rep84 a (p + q) q]
    have : p + q + (a : Int) * q = p + ((a + 1 : Nat) : Int) * q := by
      rw [Int.natCast_add, Int.add_mul]
      omega
    rw [this]
theorem run_rep85 : ∀ (a : Nat) (p q : Int), run (p, q) (List.replicate a 85) = (p - a * q, q)
  | 0, p, q => by rw [List.replicate_zero, run_nil]; simp
  | a + 1, p, q => by
    rw [List.replicate_succ]
    show run (p - q, q) _ = _
    rw [run_rep85 a (p - q) q]
    have : p - q - (a : Int) * q = p - ((a + 1 : Nat) : Int) * q := by
      rw [Int.natCast_add, Int.add_mul]
      omega
    rw [this]
theorem run_dr : ∀ (n p q : Nat), q ≤ n → 0 < q → Nat.gcd p q = 1 → run (0, 1) (dr 84 (QL p q)) = ((p : Int), (q : Int)) ∧ run (0, 1) (dr 85 (QL p q)) = (-(p : Int), (q : Int))
  | 0, p, q, h, h0, _ => by omega
  | n + 1, p, q, h, h0, g => by
    rw [QL_step h0]
    by_cases r0 : 0 < p % q
    · have g2 : Nat.gcd q (p % q) = 1 := by
        rw [← g, Nat.gcd_comm p q, Nat.gcd_rec q p, Nat.gcd_comm]
      have ih := run_dr n q (p % q) (by have := Nat.mod_lt p h0; omega) r0 g2
      have dm : (p : Int) = ((p % q : Nat) : Int) + ((p / q : Nat) : Int) * (q : Int) := by
        have := Nat.mod_add_div p q
        rw [Nat.mul_comm] at this
        exact_mod_cast this.symm
      have rp : (0 : Int) < ((p % q : Nat) : Int) := by omega
      have qp : (0 : Int) < (q : Int) := by omega
      rw [dr_cons 84 _ (QL_ne r0), dr_cons 85 _ (QL_ne r0), show swc 84 = 85 from rfl, show swc 85 = 84 from rfl, run_app, run_app, run_app, run_app, ih.1, ih.2]
      have e1 : run (-(q : Int), ((p % q : Nat) : Int)) [82] = (((p % q : Nat) : Int), (q : Int)) := by
        show called (-(q : Int), ((p % q : Nat) : Int)) 82 = _
        unfold called
        rw [if_neg (by decide), if_neg (by decide), if_neg (show ¬ (0 : Int) < -(q : Int) by omega), if_pos (show -(q : Int) < 0 by omega)]
        show (((p % q : Nat) : Int), 0 - -(q : Int)) = _
        rw [show 0 - -(q : Int) = (q : Int) by omega]
      have e2 : run ((q : Int), ((p % q : Nat) : Int)) [82] = (-((p % q : Nat) : Int), (q : Int)) := by
        show called ((q : Int), ((p % q : Nat) : Int)) 82 = _
        unfold called
        rw [if_neg (by decide), if_neg (by decide), if_pos (show (0 : Int) < (q : Int) by omega)]
        show (0 - ((p % q : Nat) : Int), (q : Int)) = _
        rw [Int.zero_sub]
      rw [e1, e2, run_rep84, run_rep85, ← dm]
      refine ⟨rfl, ?_⟩
      have : -((p % q : Nat) : Int) - ((p / q : Nat) : Int) * (q : Int) = -(p : Int) := by omega
      rw [this]
    · have e0 : p % q = 0 := by omega
      have eg : Nat.gcd p q = q := by rw [Nat.gcd_comm, Nat.gcd_rec, e0, Nat.gcd_zero_left]
      have q1 : q = 1 := by omega
      subst q1
      rw [e0, QL_zero, dr_one, dr_one, run_rep84, run_rep85]
      rw [Nat.div_one]
      exact ⟨by simp, by simp⟩
/-- the letter of the first quotient -/
def fl (v : Int × Int) : Nat := if v.1 < 0 then 85 else 84
theorem fl_or (v : Int × Int) : fl v = 84 ∨ fl v = 85 := by
  unfold fl
  split
  · exact .inr rfl
  · exact .inl rfl
/-- the first least dance -/
def dl (v : Int × Int) : List Nat := dr (fl v) (quo v)
theorem run_dl {v : Int × Int} (g : Good v) : run (0, 1) (dl v) = v := by
  obtain ⟨p, q⟩ := v
  rcases g.1 with h | h
  · have h0 : 0 < q := h
    have eq0 : quo (p, q) = QL p.natAbs q.natAbs := if_neg (show ¬ q = 0 by omega)
    have := run_dr q.natAbs p.natAbs q.natAbs (Nat.le_refl _) (by omega) g.2
    unfold dl
    rw [eq0]
    unfold fl
    by_cases c : p < 0
    · rw [if_pos (show (p, q).1 < 0 from c), this.2]
      rw [show -((p.natAbs : Nat) : Int) = p by omega, show ((q.natAbs : Nat) : Int) = q by omega]
    · rw [if_neg (show ¬ (p, q).1 < 0 from c), this.1]
      rw [show ((p.natAbs : Nat) : Int) = p by omega, show ((q.natAbs : Nat) : Int) = q by omega]
  · rw [h]
    rfl
theorem quo_ne {v : Int × Int} (g : Good v) : quo v ≠ [] := by
  unfold quo
  split
  · simp
  · rename_i hne
    refine QL_ne ?_
    rcases g.1 with h | h
    · omega
    · rw [h] at hne; exact absurd rfl hne
theorem len_dl {v : Int × Int} (g : Good v) : (dl v).length = stp v := by
  have h1 := dr_len (quo v) (fl v) (quo_ne g)
  have h2 := quo_stp g
  unfold dl
  omega
theorem lets_dl (v : Int × Int) : Lets (dl v) := dr_lets _ _ (fl_or v)
/-- a list of runs in the heap -/
def Rn (H : Hp) (p : Addr) (ps : List (Nat × Nat)) : Prop := ∃ ts : List Addr, H p = some (.lst (ts.map V.ref)) ∧ ts.length = ps.length ∧ ∀ (i : Nat) (t : Addr) (r : Nat × Nat), ts[i]? = some t → ps[i]? = some r → H t = some (.tup [.str (S [r.1]), .int (r.2 : Int)])
theorem Rn.same {H H' : Hp} {p : Addr} {ps : List (Nat × Nat)} (h : Rn H p ps) (s : Same H H') : Rn H' p ps := by
  obtain ⟨ts, h1, h2, h3⟩ := h
  exact ⟨ts, s _ _ h1, h2, fun i t r ht hr => s _ _ (h3 i t r ht hr)⟩
end
/-! ### the four ends -/
inductive End where
  | nw | ne | sw | se
  deriving DecidableEq
namespace End
def nm : End → Str
  | nw => "nw"
  | ne => "ne"
  | sw => "sw"
  | se => "se"
theorem nm_inj : ∀ {a b : End}, nm a = nm b → a = b := by
  intro a b e
  cases a <;> cases b <;> first | rfl | exact absurd e (by decide +kernel)
/-- where a letter moves what lies at an end -/
def mturn : End → End
  | sw => nw
  | nw => ne
  | ne => se
  | se => sw
def mswap : End → End
  | nw => nw
  | ne => se
  | sw => sw
  | se => ne
def mv (c : Nat) (e : End) : End := if c = 82 then mturn e else mswap e
theorem mv_inj (c : Nat) {a b : End} (h : mv c a = mv c b) : a = b := by
  unfold mv at h
  split at h <;> cases a <;> cases b <;> first | rfl | cases h
def mate : End → End
  | nw => ne
  | ne => nw
  | sw => se
  | se => sw
def pos (l : List Nat) (e : End) : End := l.foldl (fun x c => mv c x) e
theorem pos_take {l : List Nat} {i c : Nat} (e : End) (h : l[i]? = some c) : pos (l.take (i + 1)) e = mv c (pos (l.take i) e) := by
  unfold pos
  rw [List.take_add_one, h, List.foldl_append]
  rfl
theorem pos_inj : ∀ (l : List Nat) {a b : End}, pos l a = pos l b → a = b
  | [], _, _, h => h
  | c :: r, _, _, h => mv_inj c (pos_inj r h)
/-- the partner of nw -/
def pturn : End → End
  | nw => nw
  | ne => sw
  | sw => ne
  | se => se
def pswap : End → End
  | nw => nw
  | ne => se
  | sw => sw
  | se => ne
def pstep (c : Nat) (p : End) : End := if c = 82 then pturn p else pswap p
theorem pstep_R (p : End) : pstep 82 p = pturn p := if_pos rfl
theorem pstep_X {c : Nat} (h : ¬ c = 82) (p : End) : pstep c p = pswap p := if_neg h
def pn (l : List Nat) : End := l.foldl (fun p c => pstep c p) ne
theorem pn_take {l : List Nat} {i c : Nat} (h : l[i]? = some c) : pn (l.take (i + 1)) = pstep c (pn (l.take i)) := by
  unfold pn
  rw [List.take_add_one, h, List.foldl_append]
  rfl
/-- the joining in which nw has the partner p -/
def jsw : End → End
  | nw => sw
  | sw => nw
  | ne => se
  | se => ne
def jse : End → End
  | nw => se
  | se => nw
  | ne => sw
  | sw => ne
def jn : End → End → End
  | ne => mate
  | sw => jsw
  | se => jse
  | nw => jse
theorem jn_step (c : Nat) (p e : End) (h : p ≠ nw) : mv c (jn p e) = jn (pstep c p) (mv c e) := by
  unfold mv pstep
  by_cases hc : c = 82
  · simp only [if_pos hc]
    cases p <;> cases e <;> first | rfl | exact absurd rfl h
  · simp only [if_neg hc]
    cases p <;> cases e <;> first | rfl | exact absurd rfl h
theorem pstep_ne (c : Nat) {p : End} (h : p ≠ nw) : pstep c p ≠ nw := by
  unfold pstep
  by_cases hc : c = 82
  · simp only [if_pos hc]
    cases p <;> first | exact absurd rfl h | (intro z; cases z)
  · simp only [if_neg hc]
    cases p <;> first | exact absurd rfl h | (intro z; cases z)
theorem foldl_snoc {α β : Type} (f : α → β → α) (a : α) (l : List β) (b : β) : (l ++ [b]).foldl f a = f (l.foldl f a) b := by rw [List.foldl_append]; rfl
theorem both (l : List Nat) : pn l ≠ nw ∧ ∀ e, pos l (mate e) = jn (pn l) (pos l e) := by
  suffices h : ∀ n, ∀ l : List Nat, l.length = n → pn l ≠ nw ∧ ∀ e, pos l (mate e) = jn (pn l) (pos l e) from h _ l rfl
  intro n
  induction n with
  | zero =>
    intro l hl
    cases List.eq_nil_of_length_eq_zero hl
    exact ⟨(by intro z; cases z), fun e => rfl⟩
  | succ n ih =>
    intro l hl
    have hne : l ≠ [] := fun z => by rw [z] at hl; cases hl
    obtain ⟨r, c, rfl⟩ : ∃ r c, l = r ++ [c] := ⟨l.dropLast, l.getLast hne, (List.dropLast_concat_getLast hne).symm⟩
    have hr : r.length = n := by rw [List.length_append, List.length_singleton] at hl; omega
    obtain ⟨h1, h2⟩ := ih r hr
    have e1 : pn (r ++ [c]) = pstep c (pn r) := foldl_snoc _ _ _ _
    have e2 : ∀ e, pos (r ++ [c]) e = mv c (pos r e) := fun e => foldl_snoc _ _ _ _
    rw [e1]
    exact ⟨pstep_ne c h1, fun e => by rw [e2, e2, h2, jn_step c _ _ h1]⟩
/-- the ropes' numbers at nw, ne, sw, se, where nw has the partner p -/
def Rp (a b c d : Int) (p : End) : Prop := match p with
  | ne => a = b ∧ c = d ∧ a ≠ c
  | sw => a = c ∧ b = d ∧ a ≠ b
  | se => a = d ∧ b = c ∧ a ≠ b
  | nw => False
theorem Rp.turn {a b c d : Int} {p : End} (h : Rp a b c d p) : Rp c a d b (pstep 82 p) := by
  rw [pstep_R]
  cases p <;> simp only [Rp, pturn] at * <;> first | exact h | omega
theorem Rp.swap {a b c d : Int} {p : End} {x : Nat} (hx : ¬ x = 82) (h : Rp a b c d p) : Rp a d c b (pstep x p) := by
  rw [pstep_X hx]
  cases p <;> simp only [Rp, pswap] at * <;> first | exact h | omega
theorem Rp.mine {a b c d : Int} {p : End} (h : Rp a b c d p) : (b = a ↔ p = ne) ∧ (c = a ↔ p = sw) := by
  cases p <;> simp only [Rp] at h
  · obtain ⟨h1, h2, h3⟩ := h
    exact ⟨⟨fun _ => rfl, fun _ => h1.symm⟩, ⟨fun z => absurd z.symm h3, fun z => by cases z⟩⟩
  · obtain ⟨h1, h2, h3⟩ := h
    exact ⟨⟨fun z => absurd z.symm h3, fun z => by cases z⟩, ⟨fun _ => rfl, fun _ => h1.symm⟩⟩
  · obtain ⟨h1, h2, h3⟩ := h
    exact ⟨⟨fun z => absurd z.symm h3, fun z => by cases z⟩, ⟨fun z => absurd (z.symm.trans h2.symm) h3, fun z => by cases z⟩⟩
/-- the parities of the number -/
def Par (v : Int × Int) (p : End) : Prop := match p with
  | ne => v.1 % 2 = 0 ∧ v.2 % 2 = 1
  | sw => v.1 % 2 = 1 ∧ v.2 % 2 = 0
  | se => v.1 % 2 = 1 ∧ v.2 % 2 = 1
  | nw => False
theorem Par.step {v : Int × Int} {p : End} {c : Nat} (hc : c = 84 ∨ c = 85 ∨ c = 82) (h : Par v p) : Par (called v c) (pstep c p) := by
  obtain ⟨x, y⟩ := v
  rcases hc with rfl | rfl | rfl
  · rw [pstep_X (by decide), show called (x, y) 84 = (x + y, y) from rfl]
    cases p <;> simp only [Par, pswap] at * <;> omega
  · rw [pstep_X (by decide), show called (x, y) 85 = (x - y, y) from rfl]
    cases p <;> simp only [Par, pswap] at * <;> omega
  · rw [pstep_R]
    unfold called
    rw [if_neg (by decide), if_neg (by decide)]
    by_cases h1 : 0 < x
    · rw [if_pos (show 0 < (x, y).1 from h1)]
      cases p <;> simp only [Par, pturn] at * <;> omega
    · rw [if_neg (show ¬ 0 < (x, y).1 from h1)]
      by_cases h2 : x < 0
      · rw [if_pos (show (x, y).1 < 0 from h2)]
        cases p <;> simp only [Par, pturn] at * <;> omega
      · rw [if_neg (show ¬ (x, y).1 < 0 from h2)]
        have h3 : x = 0 := by omega
        subst h3
        cases p <;> simp only [Par, pturn] at * <;> omega
theorem par_run (l : List Nat) (hl : Lets l) : Par (run (0, 1) l) (pn l) := by
  suffices h : ∀ i, i ≤ l.length → Par (run (0, 1) (l.take i)) (pn (l.take i)) by
    have := h l.length (Nat.le_refl _)
    rwa [List.take_of_length_le (Nat.le_refl _)] at this
  intro i
  induction i with
  | zero => intro _; exact ⟨by show (0 : Int) % 2 = 0; decide, by show (1 : Int) % 2 = 1; decide⟩
  | succ i ih =>
    intro hi
    have h1 : i < l.length := hi
    rw [run_take _ (List.getElem?_eq_getElem h1), pn_take (List.getElem?_eq_getElem h1)]
    exact (ih (Nat.le_of_lt h1)).step (hl _ (List.getElem_mem h1))
/-! the closed ropes, as the law counts them -/
def walk (J td : End → End) : Nat → List End × End → List End × End
  | 0, s => s
  | n + 1, s => walk J td n (s.1 ++ [s.2, J s.2], td (J s.2))
def goes (J td : End → End) (s : List End × Nat) (e : End) : List End × Nat := if s.1.contains e then s else ((walk J td 4 (s.1, e)).1, s.2 + 1)
def all4 : List End := [nw, ne, sw, se]
def count (J td : End → End) : Nat := (all4.foldl (goes J td) ([], 0)).2
/-- the ends that a way ties -/
def tie (down : Bool) : End → End := if down then jn sw else mate
theorem count_is (p : End) (h : p ≠ nw) (down : Bool) : count (jn p) (tie down) = if p = tie down nw then 2 else 1 := by
  cases p <;> cases down <;> first | decide | exact absurd rfl h
end End
section
open End
variable {P : Program} {w : World} {K : PySem.W.Frag} {mg : Str → Option Value} {base : Heap} {f : Addr} {fd : FuncData}
/-! ### the program: ropes_at_ends, partner, pieces -/
def spRopes : Sp := fun vs H Q _ => ∃ l : List Nat, vs = [.str (S l)] ∧ Lets l ∧ ∀ (t : Addr) (a b c d : Int) H', Same H H' → Rp a b c d (pn l) → H' t = some (.tup [.int a, .int b, .int c, .int d]) → Q (.ref t) H'
theorem ok_ropes (F : Fun K "ropes_at_ends" "ropes_at_ends" s_ropes_at_ends f fd) : FnOk P w K mg base CX0 1 f fd ["dance"] spRopes := by
  refine F.ok sc_ropes_at_ends (fun vs H Q E h => ?_) (fun cdv A outer s H vs Q E hr h => ?_)
  · obtain ⟨l, rfl, _⟩ := h
    rfl
  obtain ⟨l, rfl, hl, q⟩ := h
  refine ⟨_, pss_cons (ps_asg (pe_tup (pa_cons pe_int (pa_cons pe_int (pa_cons pe_int (pa_cons pe_int pa_nil))))) (pg_tup (by rfl) (pgs_cons (pg_name (i := 1) sc_ropes_at_ends.nd rfl (.inl rfl)) (pgs_cons (pg_name (i := 2) sc_ropes_at_ends.nd rfl (.inl rfl)) (pgs_cons (pg_name (i := 3) sc_ropes_at_ends.nd rfl (.inl rfl)) (pgs_cons (pg_name (i := 4) sc_ropes_at_ends.nd rfl (.inl rfl)) pgs_nil))))))
    (pss_cons (ps_for PassesOwn.never rfl (pi_str (pv 0)) (pg_name (i := 5) sc_ropes_at_ends.nd rfl (.inl rfl))
      (pss_one (ps_if (pt_cmpR op_eq (pv 5) pe_str (nomark _))
        (pss_one (ps_asg (pe_tup (pa_cons (pv 3) (pa_cons (pv 1) (pa_cons (pv 4) (pa_cons (pv 2) pa_nil))))) (pg_tup (by rfl) (pgs_cons (pg_name (i := 1) sc_ropes_at_ends.nd rfl (.inl rfl)) (pgs_cons (pg_name (i := 2) sc_ropes_at_ends.nd rfl (.inl rfl)) (pgs_cons (pg_name (i := 3) sc_ropes_at_ends.nd rfl (.inl rfl)) (pgs_cons (pg_name (i := 4) sc_ropes_at_ends.nd rfl (.inl rfl)) pgs_nil)))))))
        (pss_one (ps_par (i := 2) (j := 4) (by rfl) sc_ropes_at_ends.nd rfl rfl (by decide) rfl rfl (pa_cons (pv 4) (pa_cons (pv 2) pa_nil)) (by rfl))))))
    (pss_one (ps_ret (pe_tup (pa_cons (pv 1) (pa_cons (pv 2) (pa_cons (pv 3) (pa_cons (pv 4) pa_nil)))))))), ?_⟩
  have sz : 4 ≤ sizeLine := fits (by decide)
  refine ⟨sz, fun t0 n0 => ⟨t0, _, rfl, SqT.of upd_same, rfl, _, _, rfl, _, _, rfl, _, _, rfl, _, _, rfl, rfl, ?_⟩⟩
  refine ⟨_, rfl, _, rfl, for_str (l := l) (fun i σ H' => ∃ (a b c d : Int) (x : Option V), σ = [some (.str (S l)), some (.int a), some (.int b), some (.int c), some (.int d), x] ∧ Same H H' ∧ Rp a b c d (pn (l.take i))) ?_ ?_ ?_⟩
  · exact ⟨0, 0, 1, 1, _, rfl, same_new n0 _, rfl, rfl, by decide⟩
  · rintro i c σ H' hc ⟨a, b, cc, d, x, rfl, sm, rp⟩
    rw [pn_take hc]
    refine ⟨_, rfl, rfl, _, rfl, ite2 (fun c1 => ?_) (fun c1 => ?_)⟩
    · have k1 : c = 82 := (sign_eq e_R).mp (of_decide_eq_true c1)
      subst k1
      refine ⟨_, rfl, _, rfl, _, rfl, _, rfl, sz, fun t1 n1 => ⟨t1, _, rfl, SqT.of upd_same, rfl, _, _, rfl, _, _, rfl, _, _, rfl, _, _, rfl, rfl, ?_⟩⟩
      exact ⟨_, _, _, _, _, rfl, sm.trans (same_new n1 _), rp.turn⟩
    · have k1 : ¬ c = 82 := fun z => c1 (decide_eq_true ((sign_eq e_R).mpr z))
      exact ⟨_, rfl, _, rfl, _, _, rfl, _, _, _, _, _, rfl, sm, rp.swap k1⟩
  · rintro σ H' ⟨a, b, cc, d, x, rfl, sm, rp⟩
    rw [List.take_of_length_le (Nat.le_refl _)] at rp
    exact ⟨_, rfl, _, rfl, _, rfl, _, rfl, sz, fun t1 n1 => q t1 a b cc d _ (sm.trans (same_new n1 _)) rp upd_same⟩
def spPartner : Sp := fun vs H Q _ => ∃ l : List Nat, vs = [.str (S l)] ∧ Lets l ∧ ∀ H', Same H H' → Q (.str (nm (pn l))) H'
theorem ok_partner (F : Fun K "partner" "partner" s_partner f fd) (DR : Dfn P w K mg base "ropes_at_ends" 1 ["dance"] spRopes) : FnOk P w K mg base CX0 2 f fd ["dance"] spPartner := by
  refine F.ok sc_partner (fun vs H Q E h => ?_) (fun cdv A outer s H vs Q E hr h => ?_)
  · obtain ⟨l, rfl, _⟩ := h
    rfl
  obtain ⟨l, rfl, hl, q⟩ := h
  refine ⟨_, pss_cons (ps_asg (pe_do DR hr (pa_cons (pv 0) pa_nil)) (pg_tup (by rfl) (pgs_cons (pg_name (i := 1) sc_partner.nd rfl (.inl rfl)) (pgs_cons (pg_name (i := 2) sc_partner.nd rfl (.inl rfl)) (pgs_cons (pg_name (i := 3) sc_partner.nd rfl (.inl rfl)) (pgs_cons (pg_name (i := 4) sc_partner.nd rfl (.inl rfl)) pgs_nil))))))
    (pss_cons (ps_if (pt_cmpR op_eq (pv 2) (pv 1) (nomark _)) (pss_one (ps_ret pe_str)) pss_nil)
    (pss_cons (ps_if (pt_cmpR op_eq (pv 3) (pv 1) (nomark _)) (pss_one (ps_ret pe_str)) pss_nil)
    (pss_one (ps_ret pe_str)))), ?_⟩
  refine ⟨_, rfl, l, rfl, hl, fun t a b c d H' sm rp ht => ?_⟩
  refine ⟨t, _, rfl, SqT.of ht, rfl, _, _, rfl, _, _, rfl, _, _, rfl, _, _, rfl, rfl, ?_⟩
  have m := rp.mine
  have nn := (both l).1
  have q' := q H' sm
  refine ⟨_, rfl, _, rfl, rfl, _, rfl, ite2 (fun c1 => ?_) (fun c1 => ?_)⟩
  · have k1 : pn l = ne := m.1.mp (V.int.inj (of_decide_eq_true c1))
    rw [k1] at q'
    exact q'
  have k1 : ¬ pn l = ne := fun z => c1 (decide_eq_true (by rw [m.1.mpr z]))
  refine ⟨_, rfl, _, rfl, rfl, _, rfl, ite2 (fun c2 => ?_) (fun c2 => ?_)⟩
  · have k2 : pn l = sw := m.2.mp (V.int.inj (of_decide_eq_true c2))
    rw [k2] at q'
    exact q'
  have k2 : ¬ pn l = sw := fun z => c2 (decide_eq_true (by rw [m.2.mpr z]))
  have k3 : pn l = se := by
    cases e : pn l <;> first | rfl | exact absurd e nn | exact absurd e k1 | exact absurd e k2
  rw [k3] at q'
  exact q'
def wayName (down : Bool) : Str := if down then "down" else "across"
theorem way_across (down : Bool) : decide (V.str (wayName down) = V.str ("across" : Str)) = !down := by
  cases down <;> decide +kernel
theorem way_down (down : Bool) : decide (V.str (wayName down) = V.str ("down" : Str)) = down := by
  cases down <;> decide +kernel
theorem nm_dec (a b : End) : decide (V.str (nm a) = V.str (nm b)) = decide (a = b) := by
  rw [decide_eq_decide]
  exact ⟨fun h => nm_inj (V.str.inj h), fun h => by rw [h]⟩
def spPieces : Sp := fun vs H Q _ => ∃ (l : List Nat) (down : Bool), vs = [.str (S l), .str (wayName down)] ∧ Lets l ∧ ∀ H', Same H H' → Q (.int (count (jn (pn l)) (tie down) : Nat)) H'
theorem ok_pieces (F : Fun K "pieces" "pieces" s_pieces f fd) (DP : Dfn P w K mg base "partner" 2 ["dance"] spPartner) : FnOk P w K mg base CX0 3 f fd ["dance", "way"] spPieces := by
  refine F.ok sc_pieces (fun vs H Q E h => ?_) (fun cdv A outer s H vs Q E hr h => ?_)
  · obtain ⟨l, d, rfl, _⟩ := h
    rfl
  obtain ⟨l, d, rfl, hl, q⟩ := h
  refine ⟨_, pss_cons (ps_set (i := 2) sc_pieces.nd rfl (.inl rfl) (pe_ifExp (pt_cmpR op_eq (pv 1) pe_str (nomark _)) pe_str pe_str))
    (pss_one (ps_ret (pe_ifExp (pt_cmpR op_eq (pe_do DP hr (pa_cons (pv 0) pa_nil)) (pv 2) (nomark _)) pe_int pe_int))), ?_⟩
  have ct := count_is (pn l) (both l).1 d
  have fin : ∀ x : End, x = tie d nw → ∀ H', Same H H' → (∃ k, V.bl (decide (V.str (nm (pn l)) = V.str (nm x))) = .bl k ∧ if k = true then Q (.int 2) H' else Q (.int 1) H') := fun x hx H' sm => by
    refine ⟨_, rfl, ?_⟩
    rw [nm_dec, hx]
    have q' := q H' sm
    rw [ct] at q'
    by_cases e : pn l = tie d nw
    · rw [if_pos e] at q'
      rw [decide_eq_true e]
      exact iteT q'
    · rw [if_neg e] at q'
      rw [decide_eq_false e]
      exact iteF q'
  refine ⟨_, rfl, rfl, _, rfl, ?_⟩
  rw [way_across]
  cases d with
  | false => exact iteT ⟨_, rfl, l, rfl, hl, fun H' sm => ⟨_, rfl, rfl, fin ne rfl H' sm⟩⟩
  | true => exact iteF ⟨_, rfl, l, rfl, hl, fun H' sm => ⟨_, rfl, rfl, fin sw rfl H' sm⟩⟩
end
section
variable {P : Program} {w : World} {K : PySem.W.Frag} {mg : Str → Option Value} {base : Heap} {f : Addr} {fd : FuncData}
theorem ok_num (F : Fun K "number" "number" s_number f fd) (D_after : Dfn P w K mg base "after" 2 ["fraction", "dance"] spAfter)  : FnOk P w K mg base CX0 3 f fd ["dance"] spNum := by
  refine F.ok sc_number (fun vs H Q E h => ?_) (fun cdv A outer s H vs Q E hr h => ?_)
  · obtain ⟨l, rfl, q⟩ := h
    rfl
  obtain ⟨l, rfl, q⟩ := h
  refine ⟨_, (pss_one (ps_ret (pe_do D_after hr (pa_cons (pe_tup (pa_cons pe_int (pa_cons pe_int pa_nil))) (pa_cons (pv 0) pa_nil))))), ?_⟩
  exact ⟨fits (by decide), fun p hp => ⟨_, rfl, p, (0, 1), l, rfl, upd_same, fun t' H' sm tt => q t' H' ((same_new hp _).trans sm) tt⟩⟩
end
def spQuo (K : PySem.W.Frag) : Sp := fun vs H Q _ => ∃ (t : Addr) (v : Int × Int), vs = [.ref t] ∧ Tup2 H t v ∧ Good v ∧ v.1.natAbs < 2 ^ 8000 ∧ v.2.natAbs < 2 ^ 8000 ∧ ∀ a H', Same H H' → H a = none → H' a = some (.lst (((quo v).map Int.ofNat).map V.int)) → Q (.ref a) H'
def spSteps : Sp := fun vs H Q _ => ∃ (t : Addr) (v : Int × Int), vs = [.ref t] ∧ Tup2 H t v ∧ Good v ∧ v.1.natAbs < 2 ^ 8000 ∧ v.2.natAbs < 2 ^ 8000 ∧ ∀ H', Same H H' → Q (.int (stp v)) H'
theorem same_upd {H0 G : Hp} {a : Addr} {o : HO} (s : Same H0 G) (n : H0 a = none) : Same H0 (upd G a o) := fun b u h => by rw [upd_ne (ne_of_none h n)]; exact s b u h
theorem sum_nat : ∀ l : List Nat, ((l.map Int.ofNat).sum : Int) = ((l.sum : Nat) : Int)
  | [] => rfl
  | a :: l => by
    rw [List.map_cons, List.sum_cons, List.sum_cons, sum_nat l]
    rfl
section
variable {P : Program} {w : World} {K : PySem.W.Frag} {mg : Str → Option Value} {base : Heap} {f : Addr} {fd : FuncData}
theorem ok_quotients (F : Fun K "quotients" "quotients" s_quotients f fd) (y_abs : mg "abs" = none)  : FnOk P w K mg base CX0 1 f fd ["fraction"] (spQuo K) := by
  refine F.ok sc_quotients (fun vs H Q E h => ?_) (fun cdv A outer s H vs Q E hr h => ?_)
  · obtain ⟨t, v, rfl, hT, g, z1, z2, q⟩ := h
    rfl
  obtain ⟨t, v, rfl, hT, g, z1, z2, q⟩ := h
  refine ⟨_, (pss_cons (ps_asg (pv 0) (pg_tup (by rfl) (pgs_cons (pg_name (i := 1) sc_quotients.nd rfl (.inl rfl)) (pgs_cons (pg_name (i := 2) sc_quotients.nd rfl (.inl rfl)) pgs_nil))))
    (pss_cons (ps_if (pt_cmpR op_eq (pv 2) pe_int (nomark _)) (pss_one (ps_ret (pe_lst (pa_cons pe_int (pa_cons pe_int pa_nil))))) pss_nil)
    (pss_cons (ps_set (i := 3) sc_quotients.nd rfl (.inl rfl) (pe_lst pa_nil))
    (pss_cons (ps_set (i := 4) sc_quotients.nd rfl (.inl rfl) (pe_callB call_abs rfl y_abs (by decide +kernel) (pa_cons (pv 1) pa_nil)))
    (pss_cons (ps_while PassesOwn.never (pt_cmpR op_gt (pv 2) pe_int (nomark _)) (pss_cons (ps_expr (pe_bm PySem.F.plainAttrs_list PySem.F.slot_list_append PySem.F.type_list_append mt_append (pv 3) (pa_cons (pe_op op_fdivW (pv 4) (pv 2)) pa_nil)))
    (pss_one (ps_par (i := 4) (j := 2) (by rfl) sc_quotients.nd rfl rfl (by decide) rfl rfl (pa_cons (pv 2) (pa_cons (pe_op op_modN (pv 4) (pv 2)) pa_nil)) (by rfl)))))
    (pss_one (ps_ret (pv 3)))))))), ?_⟩
  obtain ⟨p, q'⟩ := v
  refine ⟨_, rfl, t, _, rfl, SqT.of hT, rfl, _, _, rfl, _, _, rfl, rfl, ?_⟩
  refine ⟨_, rfl, rfl, _, rfl, ite2 (fun c => ?_) (fun c => ?_)⟩
  · have k : q' = 0 := V.int.inj (of_decide_eq_true c)
    subst k
    refine ⟨fits (by decide), fun a ha => q a _ (same_new ha _) ha ?_⟩
    rw [upd_same]
    rfl
  have k : ¬ q' = 0 := fun z => c (decide_eq_true (congrArg V.int z))
  have h0 : 0 < q' := by
    rcases g.1 with h1 | h1
    · exact h1
    · cases h1; exact absurd rfl k
  have eq0 : quo (p, q') = QL p.natAbs q'.natAbs := if_neg k
  have ql := quo_len (v := (p, q')) (n := 8000) z2 (by decide)
  rw [eq0] at q ql
  refine ⟨fits (by decide), fun pa hpa => ⟨_, rfl, _, rfl, ?_⟩⟩
  have e2 : (if p < 0 then -p else p) = (p.natAbs : Int) := by split <;> omega
  rw [e2]
  refine while_by (fun σ G => ∃ (x y : Nat) (cs : List Nat), σ = [some (.ref t), some (.int p), some (.int (y : Int)), some (.ref pa), some (.int (x : Int))] ∧ Same H G ∧ G pa = some (.lst ((cs.map Int.ofNat).map V.int)) ∧ QL p.natAbs q'.natAbs = cs ++ QL x y ∧ y < 2 ^ 8000) (fun σ _ => match σ with | [_, _, some (.int b), _, _] => b.natAbs | _ => 0) ⟨p.natAbs, q'.natAbs, [], by rw [Int.natAbs_of_nonneg (Int.le_of_lt h0)]; rfl, same_new hpa _, upd_same, rfl, z2⟩ ?_ ?_
  · rintro σ G ⟨x, y, cs, rfl, sm, hG, ej, yb⟩
    refine ⟨_, rfl, _, _, rfl, rfl, _, rfl, ite2 (fun c1 => ?_) (fun c1 => ?_)⟩
    · have y0 : 0 < y := by
        have : (0 : Int) < (y : Int) := of_decide_eq_true c1
        omega
      have gd := wide_div (i := (x : Int)) (j := (y : Int)) (b := 8000) (by omega) (by rw [Int.natAbs_natCast]; exact yb) (by decide) (by decide)
      have lc : cs.length + 1 ≤ 16000 := by
        rw [ej, QL_step y0, List.length_append, List.length_cons] at ql
        omega
      refine ⟨_, rfl, .inl ⟨rfl, _, SqL.of hG⟩, _, rfl, _, rfl, _, _, rfl, rfl, gd, pa, _, _, rfl, rfl, hG, Nat.lt_of_lt_of_le (show ((cs.map Int.ofNat).map V.int).length < 16777216 by rw [List.length_map, List.length_map]; omega) sizeLine_big, ?_⟩
      refine ⟨_, rfl, _, rfl, _, rfl, _, _, rfl, rfl, (show (y : Int) ≠ 0 by omega), _, _, rfl, ⟨y, x % y, cs ++ [x / y], ?_, same_upd sm hpa, ?_, ?_, Nat.lt_trans (Nat.mod_lt _ y0) yb⟩, ?_⟩
      · have em : ((x : Int).fmod (y : Int)) = ((x % y : Nat) : Int) := by
          rw [Int.fmod_eq_emod_of_nonneg _ (Int.natCast_nonneg y)]
          rfl
        rw [← em]
        rfl
      · rw [upd_same, List.map_append, List.map_append]
        rfl
      · rw [ej, QL_step y0, List.append_assoc]
        rfl
      · show ((x : Int).fmod (y : Int)).natAbs < (y : Int).natAbs
        exact fmod_less (by omega)
    · have y0 : y = 0 := by
        have : ¬ (0 : Int) < (y : Int) := fun z => c1 (decide_eq_true z)
        omega
      subst y0
      rw [QL_zero, List.append_nil] at ej
      rw [ej] at q
      exact ⟨_, rfl, q pa G sm hpa hG⟩
  · rintro σ H' Q1 Q2 hm ⟨v, e, i, j, e1, e2, b, e3, qq⟩
    exact ⟨v, e, i, j, e1, e2, b, e3, hm _ _ qq⟩
end
theorem lc_enum {K : PySem.W.Frag} {a : Addr} {xs : List V} {g : TG} {tt : TT} {te : TE} {vs : List Nat} {σ : L2.St} {H1 : Hp} {D : Addr} {Qd : Hp → Prop} (Pv : Nat → Hp → Prop) (h0 : Pv 0 (upd H1 D (.lst []))) (hl : ∀ i H, i ≤ xs.length → Pv i H → SqL K H a xs)
    (hs : ∀ i x H T, xs[i]? = some x → Pv i H → H T = none → g (.ref T) (wipe σ vs) (upd H T (.tup [.int (i : Nat), x])) fun σ2 H2 => wipe σ2 vs = wipe σ vs ∧ tt σ2 H2 fun b H3 =>
      if b = true then te σ2 H3 fun y H4 => ∃ acc, H4 D = some (.lst acc) ∧ acc.length < sizeLine ∧ Pv (i + 1) (upd H4 D (.lst (acc ++ [y]))) else Pv (i + 1) H3) (hd : ∀ H, Pv xs.length H → Qd H) :
    ∃ W : Nat → Nat → Hp → Prop, (∃ m, W 0 m (upd H1 D (.lst []))) ∧ ∀ i m H, W i m H →
      ((Ite K a).stop i H ∧ Qd H) ∨ ((Ite K a).go i H ∧ ∃ Nx : Hp → Prop, (∀ H', Nx H' → ∃ m', m' < m ∧ W (i + 1) m' H') ∧ ∀ x H', (Ite K a).yld i H x H' → g x (wipe σ vs) H' fun σ2 H2 => wipe σ2 vs = wipe σ vs ∧ tt σ2 H2 fun b H3 =>
        if b = true then te σ2 H3 fun y H4 => ∃ acc, H4 D = some (.lst acc) ∧ acc.length < sizeLine ∧ Nx (upd H4 D (.lst (acc ++ [y]))) else Nx H3) := by
  refine ⟨fun j n G => n = xs.length - j ∧ j ≤ xs.length ∧ Pv j G, ⟨xs.length, by simp, Nat.zero_le _, h0⟩, ?_⟩
  rintro j n G ⟨rfl, hj, p⟩
  have at_ := hl j G hj p
  by_cases c : j < xs.length
  · refine .inr ⟨⟨xs, xs[j], at_, by simp [c]⟩, Pv (j + 1), fun G' p' => ⟨xs.length - (j + 1), by omega, rfl, c, p'⟩, fun x G' y => ?_⟩
    obtain ⟨T, z, rfl, hT, rfl, e⟩ := y
    exact hs j z G T (e xs at_) p hT
  · have e : j = xs.length := by omega
    subst e
    exact .inl ⟨⟨xs, at_, Nat.le_refl _⟩, hd G p⟩
abbrev rtup (r : Nat × Nat) : HO := .tup [.str (S [r.1]), .int (r.2 : Int)]
theorem rn_add {G : Hp} {D u : Addr} {ts : List Addr} {ps : List (Nat × Nat)} {r : Nat × Nat} (hG : G D = some (.lst (ts.map V.ref))) (tv : ∀ (j : Nat) (u : Addr) (r : Nat × Nat), ts[j]? = some u → ps[j]? = some r → G u = some (rtup r)) (hr : ps[ts.length]? = some r) (T : G u = some (rtup r)) :
    ∀ (j : Nat) (u' : Addr) (r' : Nat × Nat), (ts ++ [u])[j]? = some u' → ps[j]? = some r' → (upd G D (.lst (ts.map V.ref ++ [V.ref u]))) u' = some (rtup r') := by
  intro j u' r' hu' hr'
  have key : G u' = some (rtup r') := by
    by_cases c : j < ts.length
    · rw [List.getElem?_append_left c] at hu'
      exact tv j u' r' hu' hr'
    · have e : j = ts.length := by
        have := (List.getElem?_eq_some_iff.mp hu').1
        rw [List.length_append] at this
        have : ([u] : List Addr).length = 1 := rfl
        omega
      subst e
      rw [List.getElem?_append_right (Nat.le_refl _), Nat.sub_self] at hu'
      cases hu'
      rw [hr] at hr'
      cases hr'
      exact T
  rw [upd_ne (ne_of key hG (fun z => nomatch z))]
  exact key
theorem rn_rev {G : Hp} {p : Addr} {ts : List Addr} {ps : List (Nat × Nat)} (hp : G p = some (.lst (ts.map V.ref).reverse)) (hl : ts.length = ps.length) (tv : ∀ (j : Nat) (u : Addr) (r : Nat × Nat), ts[j]? = some u → ps[j]? = some r → G u = some (rtup r)) : Rn G p ps.reverse := by
  refine ⟨ts.reverse, by rw [hp, List.map_reverse], by rw [List.length_reverse, List.length_reverse, hl], fun i t r ht hr => ?_⟩
  have hi : i < ts.length := by
    have := (List.getElem?_eq_some_iff.mp ht).1
    rw [List.length_reverse] at this
    exact this
  rw [List.getElem?_reverse hi] at ht
  rw [List.getElem?_reverse (by omega), ← hl] at hr
  exact tv _ t r ht hr
def spRuns : Sp := fun vs H Q _ => ∃ (t : Addr) (v : Int × Int), vs = [.ref t] ∧ Tup2 H t v ∧ Good v ∧ v.1.natAbs < 2 ^ 8000 ∧ v.2.natAbs < 2 ^ 8000 ∧ ∀ a H', Same H H' → H a = none → Rn H' a (al (fl v) (quo v)).reverse → Q (.ref a) H'
def spUndo : Sp := fun vs H Q _ => ∃ (l : List Nat), vs = [.str (S l)] ∧ Lets l ∧ l.length ≤ 1000 ∧ ∀ H', Same H H' → Q (.str (S (mir (dl (run (0, 1) l)).reverse))) H'
theorem e_UT3 : (("UT" : Str)) = S [85, 84] := by decide +kernel
theorem e_TU3 : (("TU" : Str)) = S [84, 85] := by decide +kernel
theorem pick_fl {c : Nat} (h : c = 84 ∨ c = 85) (i : Nat) : atI [c, swc c] ((i % 2 : Nat) : Int) = some (if i % 2 = 0 then c else swc c) := by
  have : i % 2 = 0 ∨ i % 2 = 1 := by omega
  rcases this with e | e
  · rw [e]; rfl
  · rw [e]; rfl
theorem run_two (l : List Nat) : (run (0, 1) l).1.natAbs ≤ 2 ^ l.length ∧ (run (0, 1) l).2.natAbs ≤ 2 ^ l.length := by
  have := run_size l (v := (0, 1)) (n := 1) (by decide) (by decide) (Nat.le_refl _)
  rw [Nat.mul_one] at this
  exact this
theorem run_small {l : List Nat} (h : l.length ≤ 7000) : (run (0, 1) l).1.natAbs < 2 ^ 8000 ∧ (run (0, 1) l).2.natAbs < 2 ^ 8000 := by
  have e : 2 ^ l.length < 2 ^ 8000 := Nat.pow_lt_pow_right (by decide) (by omega)
  exact ⟨Nat.lt_of_le_of_lt (run_two l).1 e, Nat.lt_of_le_of_lt (run_two l).2 e⟩
theorem flat_one (c n : Nat) : (List.replicate n [c]).flatten = List.replicate n c := by simp
theorem sum_wd (ps : List (Nat × Nat)) : ((ps.map wd).map List.length).sum = (ps.map (·.2)).sum := by
  congr 1
  rw [List.map_map]
  apply List.map_congr_left
  intro p _
  show (List.replicate p.2 p.1).length = p.2
  rw [List.length_replicate]
theorem al_two : ∀ (qs : List Nat) (c : Nat), (al c qs).map (·.2) = qs
  | [], _ => rfl
  | a :: r, c => by
    show a :: (al (swc c) r).map (·.2) = a :: r
    rw [al_two r (swc c)]
theorem back_dl {l : List Nat} (h : Lets l) : run (0, 1) (l ++ mir (dl (run (0, 1) l)).reverse) = (0, 1) := by
  have g := good_run l Good.zero
  rw [run_app]
  have := run_back (dl (run (0, 1) l)) Good.zero (lets_dl _)
  rw [run_dl g] at this
  exact this
section
variable {P : Program} {w : World} {K : PySem.W.Frag} {mg : Str → Option Value} {base : Heap} {f : Addr} {fd : FuncData}
theorem ok_runs (F : Fun K "runs" "runs" s_runs f fd) (D_quotients : Dfn P w K mg base "quotients" 1 ["fraction"] (spQuo K)) (y_enumerate : mg "enumerate" = none)  : FnOk P w K mg base CX0 2 f fd ["fraction"] spRuns := by
  refine F.ok sc_runs (fun vs H Q E h => ?_) (fun cdv A outer s H vs Q E hr h => ?_)
  · obtain ⟨t, v, rfl, hT, g, z1, z2, q⟩ := h
    rfl
  obtain ⟨t, v, rfl, hT, g, z1, z2, q⟩ := h
  refine ⟨_, (pss_cons (ps_set (i := 1) sc_runs.nd rfl (.inr rfl) (pe_ifExp (pt_cmpR op_lt (pe_ix ix_tup (pv 0) pe_int (fun _ _ => rfl)) pe_int (nomark _)) pe_str pe_str))
    (pss_one (ps_ret (pe_revL (pe_lc (own := [("k", 2), ("part", 3)]) (g := (gTup K 2 (gCons (gName 2) (gCons (gName 3) gNil)))) (tt := tYes) (by rfl) sc_runs.nd (pi_enum rfl y_enumerate (pa_cons (pe_do D_quotients hr (pa_cons (pv 0) pa_nil)) pa_nil)) (blkOk_by (own := [("k", 2), ("part", 3)]) (N := ["fraction", "letters", "k", "part"]) (sc := defScope s_runs) (by decide +kernel)) (fun _ _ _ _ _ => pg_tup (by rfl) (pgs_cons (pg_name (i := 2) sc_runs.nd rfl (.inl rfl)) (pgs_cons (pg_name (i := 3) sc_runs.nd rfl (.inl rfl)) pgs_nil))) (fun _ _ _ _ _ => pts_nil) (fun _ _ _ _ _ => (pe_tup (pa_cons (pe_ix ix_str (pv 1) (pe_op op_odd (pv 2) pe_int) (fun _ _ => rfl)) (pa_cons (pv 3) pa_nil))))))))), ?_⟩
  rw [e_UT3, e_TU3]
  have two : 2 ≤ sizeLine := fits (by decide)
  refine ⟨_, rfl, t, _, _, _, rfl, rfl, SqT.of hT, rfl, _, _, rfl, rfl, _, rfl, ite2 (fun k => ?A) (fun k => ?B)⟩
  case A =>
    have hc : (85 = 84 ∨ 85 = 85) ∧ fl v = 85 := ⟨.inr rfl, if_pos (of_decide_eq_true k)⟩
    rw [show S [85, 84] = S [85, swc 85] from rfl]
    obtain ⟨hc, hf⟩ := hc
    rw [hf] at q
    refine ⟨_, rfl, t, v, rfl, hT, g, z1, z2, fun a H1 s1 na ha => ⟨a, _, rfl, SqL.of ha, fun D hD => lc_enum (K := K) (a := a) (xs := ((quo v).map Int.ofNat).map V.int) (fun i G => Same H1 G ∧ ∃ ts : List Addr, G D = some (.lst (ts.map V.ref)) ∧ ts.length = i ∧ ∀ (j : Nat) (u : Addr) (r : Nat × Nat), ts[j]? = some u → (al 85 (quo v))[j]? = some r → G u = some (rtup r)) ⟨same_new hD _, [], upd_same, rfl, fun j u r hu => by cases hu⟩ ?_ ?_ ?_⟩⟩
    · rintro i G _ ⟨sG, _⟩
      exact SqL.of (sG _ _ ha)
    · rintro i x G T hx ⟨sG, ts, hG, tl, tv⟩ hT2
      rw [List.getElem?_map, List.getElem?_map] at hx
      cases hq : (quo v)[i]? with
      | none => rw [hq] at hx; cases hx
      | some b =>
        rw [hq] at hx
        cases hx
        have hi : i < (quo v).length := (List.getElem?_eq_some_iff.mp hq).1
        have ql := quo_len z2 (by decide)
        refine ⟨T, _, rfl, SqT.of upd_same, rfl, _, _, rfl, _, _, rfl, rfl, rfl, ?_⟩
        refine ⟨_, rfl, _, rfl, i, rfl, rfl, S [85, swc 85], _, _, rfl, rfl, fits (by decide +kernel), pick_fl hc i, _, rfl, two, fun u hu => ?_⟩
        have S2 : Same G (upd (upd G T (.tup [V.int (i : Nat), V.int (Int.ofNat b)])) u (.tup [.str (S [if i % 2 = 0 then 85 else swc 85]), V.int (Int.ofNat b)])) := (same_new hT2 _).trans (same_new hu _)
        refine ⟨_, S2 _ _ hG, Nat.lt_of_lt_of_le (show (ts.map V.ref).length < 16777216 by rw [List.length_map]; omega) sizeLine_big, fun x o hx => ?_, ts ++ [u], by rw [upd_same, List.map_append]; rfl, by rw [List.length_append, tl]; rfl, rn_add (r := (if i % 2 = 0 then 85 else swc 85, b)) (S2 _ _ hG) (fun j u' r' h1 h2 => S2 _ _ (tv j u' r' h1 h2)) (by rw [tl, al_get _ _ _ hc, hq]; rfl) upd_same⟩
        rw [upd_ne (ne_of_none hx hD)]
        exact S2 _ _ (sG _ _ hx)
    · rintro G ⟨sG, ts, hG, tl, tv⟩
      rw [List.length_map, List.length_map] at tl
      refine ⟨D, _, rfl, SqL.of hG, fun rp hrp => ?_⟩
      have S3 := same_new hrp (.lst (ts.map V.ref).reverse)
      have hn : H rp = none := by
        cases e : H rp with
        | none => rfl
        | some o =>
          have := (s1.trans sG) _ _ e
          rw [hrp] at this
          cases this
      exact q rp _ ((s1.trans sG).trans S3) hn (rn_rev upd_same (by rw [tl, al_len]) (fun j u r h1 h2 => S3 _ _ (tv j u r h1 h2)))
  case B =>
    have hc : (84 = 84 ∨ 84 = 85) ∧ fl v = 84 := ⟨.inl rfl, if_neg (fun z => k (decide_eq_true z))⟩
    rw [show S [84, 85] = S [84, swc 84] from rfl]
    obtain ⟨hc, hf⟩ := hc
    rw [hf] at q
    refine ⟨_, rfl, t, v, rfl, hT, g, z1, z2, fun a H1 s1 na ha => ⟨a, _, rfl, SqL.of ha, fun D hD => lc_enum (K := K) (a := a) (xs := ((quo v).map Int.ofNat).map V.int) (fun i G => Same H1 G ∧ ∃ ts : List Addr, G D = some (.lst (ts.map V.ref)) ∧ ts.length = i ∧ ∀ (j : Nat) (u : Addr) (r : Nat × Nat), ts[j]? = some u → (al 84 (quo v))[j]? = some r → G u = some (rtup r)) ⟨same_new hD _, [], upd_same, rfl, fun j u r hu => by cases hu⟩ ?_ ?_ ?_⟩⟩
    · rintro i G _ ⟨sG, _⟩
      exact SqL.of (sG _ _ ha)
    · rintro i x G T hx ⟨sG, ts, hG, tl, tv⟩ hT2
      rw [List.getElem?_map, List.getElem?_map] at hx
      cases hq : (quo v)[i]? with
      | none => rw [hq] at hx; cases hx
      | some b =>
        rw [hq] at hx
        cases hx
        have hi : i < (quo v).length := (List.getElem?_eq_some_iff.mp hq).1
        have ql := quo_len z2 (by decide)
        refine ⟨T, _, rfl, SqT.of upd_same, rfl, _, _, rfl, _, _, rfl, rfl, rfl, ?_⟩
        refine ⟨_, rfl, _, rfl, i, rfl, rfl, S [84, swc 84], _, _, rfl, rfl, fits (by decide +kernel), pick_fl hc i, _, rfl, two, fun u hu => ?_⟩
        have S2 : Same G (upd (upd G T (.tup [V.int (i : Nat), V.int (Int.ofNat b)])) u (.tup [.str (S [if i % 2 = 0 then 84 else swc 84]), V.int (Int.ofNat b)])) := (same_new hT2 _).trans (same_new hu _)
        refine ⟨_, S2 _ _ hG, Nat.lt_of_lt_of_le (show (ts.map V.ref).length < 16777216 by rw [List.length_map]; omega) sizeLine_big, fun x o hx => ?_, ts ++ [u], by rw [upd_same, List.map_append]; rfl, by rw [List.length_append, tl]; rfl, rn_add (r := (if i % 2 = 0 then 84 else swc 84, b)) (S2 _ _ hG) (fun j u' r' h1 h2 => S2 _ _ (tv j u' r' h1 h2)) (by rw [tl, al_get _ _ _ hc, hq]; rfl) upd_same⟩
        rw [upd_ne (ne_of_none hx hD)]
        exact S2 _ _ (sG _ _ hx)
    · rintro G ⟨sG, ts, hG, tl, tv⟩
      rw [List.length_map, List.length_map] at tl
      refine ⟨D, _, rfl, SqL.of hG, fun rp hrp => ?_⟩
      have S3 := same_new hrp (.lst (ts.map V.ref).reverse)
      have hn : H rp = none := by
        cases e : H rp with
        | none => rfl
        | some o =>
          have := (s1.trans sG) _ _ e
          rw [hrp] at this
          cases this
      exact q rp _ ((s1.trans sG).trans S3) hn (rn_rev upd_same (by rw [tl, al_len]) (fun j u r h1 h2 => S3 _ _ (tv j u r h1 h2)))
end
section
variable {P : Program} {w : World} {K : PySem.W.Frag} {mg : Str → Option Value} {base : Heap} {f : Addr} {fd : FuncData}
theorem ok_undo (F : Fun K "undo" "undo" s_undo f fd) (D_backward : Dfn P w K mg base "backward" 4 ["dance"] spBack) (D_runs : Dfn P w K mg base "runs" 4 ["fraction"] spRuns) (D_num : Dfn P w K mg base "number" 4 ["dance"] spNum)  : FnOk P w K mg base CX0 5 f fd ["dance"] spUndo := by
  refine F.ok sc_undo (fun vs H Q E h => ?_) (fun cdv A outer s H vs Q E hr h => ?_)
  · obtain ⟨l, rfl, hl, zl, q⟩ := h
    rfl
  obtain ⟨l, rfl, hl, zl, q⟩ := h
  refine ⟨_, (pss_one (ps_ret (pe_do D_backward hr (pa_cons (pe_join pe_str (pe_lc (own := [("letter", 1), ("many", 2)]) (g := (gTup K 2 (gCons (gName 1) (gCons (gName 2) gNil)))) (tt := tYes) (by rfl) sc_undo.nd (pi_list (pe_do D_runs hr (pa_cons (pe_do D_num hr (pa_cons (pv 0) pa_nil)) pa_nil))) (blkOk_by (own := [("letter", 1), ("many", 2)]) (N := ["dance", "letter", "many"]) (sc := defScope s_undo) (by decide +kernel)) (fun _ _ _ _ _ => pg_tup (by rfl) (pgs_cons (pg_name (i := 1) sc_undo.nd rfl (.inl rfl)) (pgs_cons (pg_name (i := 2) sc_undo.nd rfl (.inl rfl)) pgs_nil))) (fun _ _ _ _ _ => pts_nil) (fun _ _ _ _ _ => (pe_op op_mul_str (pv 1) (pv 2))))) pa_nil)))), ?_⟩
  have g := good_run l Good.zero
  have rs := run_small (l := l) (by omega)
  have st := stp_run l Good.zero
  rw [stp_zero] at st
  have ld := len_dl g
  refine ⟨⟨_, rfl⟩, _, rfl, l, rfl, fun t H1 s1 T1 => ⟨t, _, rfl, T1, g, rs.1, rs.2, fun a H2 s2 na hR => ?_⟩⟩
  obtain ⟨ts, ha, tl, tv⟩ := hR
  have ps_mem : ∀ r ∈ (al (fl (run (0, 1) l)) (quo (run (0, 1) l))).reverse, (r.1 = 84 ∨ r.1 = 85) ∧ r.2 ≤ 1000 := fun r hr => by
    have hr' := List.mem_reverse.mp hr
    refine ⟨al_or _ _ (fl_or _) r hr', ?_⟩
    have : r.2 ∈ quo (run (0, 1) l) := by
      rw [← al_two (quo (run (0, 1) l)) (fl (run (0, 1) l))]
      exact List.mem_map.mpr ⟨r, hr', rfl⟩
    have := le_sum this
    have h2 := quo_stp g
    have h3 : 0 < (quo (run (0, 1) l)).length := List.length_pos_iff.mpr (quo_ne g)
    omega
  have jl := joinL_len ((al (fl (run (0, 1) l)) (quo (run (0, 1) l))).reverse.map wd) (fun z => by
    have := congrArg List.length z
    rw [List.length_map, List.length_reverse, al_len] at this
    exact quo_ne g (List.length_eq_zero_iff.mp this))
  have eD : TL.joinL [82] ((al (fl (run (0, 1) l)) (quo (run (0, 1) l))).reverse.map wd) = dl (run (0, 1) l) := rfl
  rw [eD] at jl
  generalize (al (fl (run (0, 1) l)) (quo (run (0, 1) l))).reverse = ps at *
  refine ⟨a, rfl, ⟨_, SqL.of ha⟩, fun D hD => lc_list (K := K) (a := a) (xs := ts.map V.ref) (fun i G => Same H2 G ∧ G D = some (.lst ((ps.take i).map fun r => V.str (S (wd r))))) ⟨same_new hD _, upd_same⟩ ?_ ?_ ?_⟩
  · rintro i G _ ⟨sG, _⟩
    exact SqL.of (sG _ _ ha)
  · rintro i x G hx ⟨sG, hG⟩
    rw [List.getElem?_map] at hx
    have hi : i < ts.length := by
      cases e : ts[i]? with
      | none => rw [e] at hx; cases hx
      | some u => exact (List.getElem?_eq_some_iff.mp e).1
    have hti : ts[i]? = some ts[i] := List.getElem?_eq_getElem hi
    rw [hti] at hx
    cases hx
    have hpi : ps[i]? = some ps[i] := List.getElem?_eq_getElem (by omega)
    have pm := ps_mem ps[i] (List.getElem_mem (by omega))
    generalize ps[i] = r at hpi pm
    generalize ts[i] = u at hti ⊢
    have T := sG _ _ (tv i u r hti hpi)
    refine ⟨u, _, rfl, SqT.of T, rfl, _, _, rfl, _, _, rfl, rfl, rfl, ?_⟩
    refine ⟨_, rfl, _, rfl, [r.1], (r.2 : Int), rfl, rfl, by omega, by omega, by rw [Int.toNat_natCast]; show 1 * r.2 ≤ _; omega, ?_⟩
    rw [Int.toNat_natCast, flat_one]
    refine ⟨_, hG, ?_, fun b o hb => ?_, ?_⟩
    · rw [List.length_map, List.length_take]
      have : ps.length ≤ 1001 := by
        rw [List.length_map] at jl
        omega
      exact Nat.lt_of_lt_of_le (show min i ps.length < 16777216 by omega) sizeLine_big
    · rw [upd_ne (ne_of_none hb hD)]
      exact sG _ _ hb
    · rw [upd_same, List.take_add_one, hpi, List.map_append]
      rfl
  · rintro G ⟨sG, hG⟩
    rw [List.length_map, tl, List.take_of_length_le (Nat.le_refl _)] at hG
    refine ⟨S [82], D, (ps.map wd).map S, by rw [e_R], rfl, .inl (SqL.of ?_), ?_, ?_⟩
    · rw [hG, List.map_map, List.map_map]
      rfl
    · rw [sum_S, S_len, List.length_map]
      show _ + _ * 1 ≤ 16777216
      omega
    · rw [join_S, eD]
      exact ⟨_, rfl, lets_dl _, by omega, fun H' s' => q H' ((s1.trans s2).trans (sG.trans s'))⟩
end
section
open End
def side (d : Bool) (v : Int × Int) : Int := if d = true then v.2 else v.1
abbrev wayS := wayName
def spCC : Sp := fun vs H Q _ => ∃ (l : List Nat) (d : Bool) (n : Int), vs = [.str (S l), .str (wayS d), .int n] ∧ 0 < n ∧ n ≤ 1000 ∧ ∀ H', Same H H' → Q (.int (n * ((Int.gcd n (side d (run (0, 1) l)) : Nat) : Int))) H'
def pcs (v : Int × Int) (d : Bool) : Int := if side d v % 2 = 0 then 2 else 1
def ccv (v : Int × Int) (d : Bool) (n : Int) : Int := n * ((Int.gcd n (side d v) : Nat) : Int)
theorem pieces_is {l : List Nat} (h : Lets l) (d : Bool) : ((count (jn (pn l)) (tie d) : Nat) : Int) = pcs (run (0, 1) l) d := by
  rw [count_is (pn l) (both l).1 d]
  have p := par_run l h
  generalize run (0, 1) l = v at *
  unfold pcs side
  cases e : pn l <;> rw [e] at p <;> cases d <;> simp only [Par] at p <;> simp [tie, mate, jn, jsw, p]
theorem two_side (v : Int × Int) (d : Bool) : (2 : Int) * ((Int.gcd 2 (side d v) : Nat) : Int) = 2 * pcs v d := by
  unfold pcs
  generalize side d v = x
  have e : Int.gcd 2 x = if x % 2 = 0 then 2 else 1 := by
    by_cases h : x % 2 = 0
    · rw [if_pos h]
      exact Int.natCast_inj.mp ((Int.gcd_eq_left_iff_dvd (by decide)).mpr (Int.dvd_of_emod_eq_zero h))
    · rw [if_neg h]
      have h1 := Int.gcd_dvd_left (a := 2) (b := x)
      have h2 := Int.gcd_dvd_right (a := 2) (b := x)
      have h3 : Int.gcd 2 x ≤ 2 := Nat.le_of_dvd (by decide) (Int.natCast_dvd_natCast.mp h1)
      have h4 : Int.gcd 2 x ≠ 2 := fun z => by
        rw [z] at h2
        exact h (Int.emod_eq_zero_of_dvd h2)
      have h5 : Int.gcd 2 x ≠ 0 := fun z => by
        have := Int.gcd_eq_zero_iff.mp z
        exact absurd this.1 (by decide)
      omega
  rw [e]
  split <;> rfl
theorem side_turn {v : Int × Int} (g : Good v) (d : Bool) : (side d (called v 82)).natAbs = (side (!d) v).natAbs := by
  obtain ⟨p, q⟩ := v
  unfold called
  rw [if_neg (by decide), if_neg (by decide)]
  by_cases c3 : 0 < p
  · rw [if_pos (show 0 < (p, q).1 from c3)]
    cases d
    · show (0 - q).natAbs = q.natAbs
      omega
    · rfl
  rw [if_neg (show ¬ 0 < (p, q).1 from c3)]
  by_cases c4 : p < 0
  · rw [if_pos (show (p, q).1 < 0 from c4)]
    cases d
    · rfl
    · show (0 - p).natAbs = p.natAbs
      omega
  rw [if_neg (show ¬ (p, q).1 < 0 from c4)]
  have hp : p = 0 := by omega
  subst hp
  have h2 : Int.gcd 0 q = 1 := g.2
  rw [Int.gcd_zero_left] at h2
  cases d
  · show (1 : Int).natAbs = q.natAbs
    rw [h2]
    rfl
  · rfl
theorem pcs_abs {v u : Int × Int} {d e : Bool} (h : (side d v).natAbs = (side e u).natAbs) : pcs v d = pcs u e := by
  unfold pcs
  have : (side d v % 2 = 0) ↔ (side e u % 2 = 0) := by omega
  simp only [this]
theorem ccv_abs {v u : Int × Int} {d e : Bool} (n : Int) (h : (side d v).natAbs = (side e u).natAbs) : ccv v d n = ccv u e n := by
  unfold ccv Int.gcd
  rw [h]
def spSeen : Sp := fun vs H Q _ => ∃ (l : List Nat) (d : Bool) (n : Int), vs = [.str (S l), .str (wayName d), .int n] ∧ Lets l ∧ 0 < n ∧ n ≤ 1000 ∧ ∀ t H', Same H H' → Tup2 H' t (pcs (run (0, 1) l) d, ccv (run (0, 1) l) d n) → Q (.ref t) H'
def spLaw (K : PySem.W.Frag) : Sp := fun vs H Q _ => ∃ (a : Addr) (ns : List Int), vs = [.ref a] ∧ SqL K H a (ns.map V.int) ∧ ns.length ≤ 63 ∧ ∀ H', Q (.bl true) H'
def spLawK (K : PySem.W.Frag) : Sp := spLaw K
theorem way_get (d : Bool) : valV (mergeK [] [(Sum.inr "across", V.str "down"), (Sum.inr "down", V.str "across")]) (Sum.inr (wayName d) : Key) = some (.str (wayName (!d))) := by
  show valV (putK (putK [] (Sum.inr "across" : Key) (V.str "down")) (Sum.inr "down" : Key) (V.str "across")) (Sum.inr (wayName d) : Key) = _
  rw [valV_put, valV_put]
  cases d
  · rw [if_neg (by decide +kernel), if_pos (by decide +kernel)]
    rfl
  · rw [if_pos (by decide +kernel)]
    rfl
theorem ways_two {i : Nat} {y : V} (h : [V.str "across", V.str "down"][i]? = some y) : ∃ d : Bool, y = .str (wayName d) := by
  match i with
  | 0 => cases h; exact ⟨false, rfl⟩
  | 1 => cases h; exact ⟨true, rfl⟩
  | i + 2 => cases h
theorem lets_app2 {a b : List Nat} (h : Lets a) (k : Lets b) : Lets (a ++ b) := fun c hc => by
  rcases List.mem_append.mp hc with hc | hc
  · exact h c hc
  · exact k c hc
theorem pick3 {r : Int} (h0 : 0 ≤ r) (h1 : r < 3) : ∃ z : Int, atI [V.int 3, .int 12, .int 60] r = some (.int z) ∧ 0 < z ∧ z ≤ 60 := by
  obtain ⟨c, hc, m⟩ := atI_mk (xs := [V.int 3, .int 12, .int 60]) h0 h1
  simp only [List.mem_cons, List.not_mem_nil, or_false] at m
  rcases m with rfl | rfl | rfl
  · exact ⟨3, hc, by decide, by decide⟩
  · exact ⟨12, hc, by decide, by decide⟩
  · exact ⟨60, hc, by decide, by decide⟩
end
section
/-! ### what the head tells: the table of opposites, the law's promise -/
theorem key_is {e : DictEntry} {x : Str} {k : Int} (h : He.keyOf e = some (x, k)) : ∃ t, e.key = .str x t := by
  unfold He.keyOf at h
  split at h
  · rename_i y t q
    obtain ⟨h1, _⟩ := Prod.mk.inj (Option.some.inj h)
    exact ⟨t, by rw [q, h1]⟩
  · cases h
theorem opp_of {K : PySem.W.Frag} {w : World} {a : Addr} (hd : He.dicW K a = some (He.keysIn w.params ["T", "U", "R"])) (hv : He.valsB K a [("T", .str "U"), ("U", .str "T"), ("R", .str "R")] = true) : Opp K w a := by
  obtain ⟨es, n, D⟩ := He.dicW_ok hd
  have v1 := He.valsB_ok hv (q := ("T", .str "U")) (List.mem_cons_self ..)
  have v2 := He.valsB_ok hv (q := ("U", .str "T")) (List.mem_cons_of_mem _ (List.mem_cons_self ..))
  have v3 := He.valsB_ok hv (q := ("R", .str "R")) (List.mem_cons_of_mem _ (List.mem_cons_of_mem _ (List.mem_cons_self ..)))
  refine ⟨⟨es, n, D⟩, fun c hc => ?_, fun c hc => ?_⟩
  · rcases letter_iff.mp hc with rfl | rfl | rfl
    · rw [← e_T, show opp 84 = 85 from rfl, ← e_U]; exact v1
    · rw [← e_U, show opp 85 = 84 from rfl, ← e_T]; exact v2
    · rw [← e_R, show opp 82 = 82 from rfl, ← e_R]; exact v3
  · have lk := D.at_
    unfold He.dicW at hd
    rw [lk] at hd
    have keys : es.toList.map He.keyOf = He.keysIn w.params ["T", "U", "R"] := by
      simp only at hd
      split at hd
      · exact Option.some.inj hd
      · cases hd
    obtain ⟨e1, r1, q1, k1, m1⟩ := List.map_eq_cons_iff.mp keys
    obtain ⟨e2, r2, q2, k2, m2⟩ := List.map_eq_cons_iff.mp m1
    obtain ⟨e3, r3, q3, k3, m3⟩ := List.map_eq_cons_iff.mp m2
    have q4 : r3 = [] := List.map_eq_nil_iff.mp m3
    subst q4
    obtain ⟨t1, k1⟩ := key_is k1
    obtain ⟨t2, k2⟩ := key_is k2
    obtain ⟨t3, k3⟩ := key_is k3
    have no : ∀ {b : Nat} {z : Str}, z = S [b] → letter b = true → ¬ z = S [c] := fun {b z} e hb q => by
      rw [e] at q
      have := S_inj q
      simp at this
      rw [this, hc] at hb
      cases hb
    have n1 := no e_T (by decide)
    have n2 := no e_U (by decide)
    have n3 := no e_R (by decide)
    unfold PySem.W.nsIn
    rw [lk]
    simp only
    rw [q1, q2, q3]
    simp [k1, k2, k3, Value.isStr, DictEntry.refKey, n1, n2, n3]
end
section
theorem dp_tup2 {K : PySem.W.Frag} {H : Hp} {t : Addr} {v : Int × Int} (h : Tup2 H t v) : Dp K H (.ref t) (.tuple [.int v.1, .int v.2]) := .tup (SqT.of h) (.cons (.int _) (.cons (.int _) .nil))
theorem can2 (a b : Int) : PyData.canLay0 (.tuple [.int a, .int b]) = true := by
  simp [PyData.canLay0, PyData.canLayAll0]
theorem sh2 (a b : Int) : SeqAt.shaped (.tuple [.int a, .int b]) = true := by
  unfold SeqAt.shaped
  rw [can2]
  simp [PyData.depth, PyData.depthAll]
theorem eqv2 (v u : Int × Int) : PyData.eqv (.tuple [.int v.1, .int v.2]) (.tuple [.int u.1, .int u.2]) = decide (v = u) := by
  obtain ⟨a, b⟩ := v
  obtain ⟨c, d⟩ := u
  by_cases h1 : a = c <;> by_cases h2 : b = d <;> simp [PyData.eqv, PyData.eqvAll, h1, h2]
end
section
variable {P : Program} {w : World} {K : PySem.W.Frag} {mg : Str → Option Value} {base : Heap} {f : Addr} {fd : FuncData}
theorem ok_colour_count (F : Fun K "colour_count" "colour_count" s_colour_count f fd) (D_num : Dfn P w K mg base "number" 3 ["dance"] spNum) (mgcd : mg "gcd" = some (.builtin "math.gcd")) : FnOk P w K mg base CX0 4 f fd ["dance", "way", "n"] spCC := by
  refine F.ok sc_colour_count (fun vs H Q E h => ?_) (fun cdv A outer s H vs Q E hr h => ?_)
  · obtain ⟨l, d, n, rfl, n0, n1, q⟩ := h
    rfl
  obtain ⟨l, d, n, rfl, n0, n1, q⟩ := h
  refine ⟨_, (pss_cons (ps_asg (pe_do D_num hr (pa_cons (pv 0) pa_nil)) (pg_tup (by rfl) (pgs_cons (pg_name (i := 3) sc_colour_count.nd rfl (.inl rfl)) (pgs_cons (pg_name (i := 4) sc_colour_count.nd rfl (.inl rfl)) pgs_nil))))
    (pss_one (ps_ret (pe_op op_mul (pv 2) (pe_callBfun cr_gcd rfl mgcd (pa_cons (pv 2) (pa_cons (pe_ifExp (pt_cmpR op_eq (pv 1) pe_str (nomark _)) (pv 3) (pv 4)) pa_nil))))))), ?_⟩
  refine ⟨_, rfl, l, rfl, fun t' H' sm tt => ⟨t', _, rfl, SqT.of tt, rfl, _, _, rfl, _, _, rfl, rfl, ?_⟩⟩
  refine ⟨_, rfl, _, rfl, _, rfl, rfl, _, rfl, ?_⟩
  rw [way_across]
  have q1 := q H' sm
  cases d with
  | false => exact iteT ⟨_, rfl, _, _, rfl, _, _, rfl, rfl, .inl ⟨by omega, by omega⟩, q1⟩
  | true => exact iteF ⟨_, rfl, _, _, rfl, _, _, rfl, rfl, .inl ⟨by omega, by omega⟩, q1⟩
end
section
variable {P : Program} {w : World} {K : PySem.W.Frag} {mg : Str → Option Value} {base : Heap} {f : Addr} {fd : FuncData}
theorem ok_law_seen (F : Fun K "_law_seen" "_law_seen" s_law_seen f fd) (D_colour_count : Dfn P w K mg base "colour_count" 4 ["dance", "way", "n"] spCC) (D_pieces : Dfn P w K mg base "pieces" 4 ["dance", "way"] spPieces)  : FnOk P w K mg base CX0 5 f fd ["dance", "way", "n"] spSeen := by
  refine F.ok sc_law_seen (fun vs H Q E h => ?_) (fun cdv A outer s H vs Q E hr h => ?_)
  · obtain ⟨l, d, n, rfl, hl, n0, n1, q⟩ := h
    rfl
  obtain ⟨l, d, n, rfl, hl, n0, n1, q⟩ := h
  refine ⟨_, (pss_one (ps_ret (pe_tup (pa_cons (pe_do D_pieces hr (pa_cons (pv 0) (pa_cons (pv 1) pa_nil))) (pa_cons (pe_do D_colour_count hr (pa_cons (pv 0) (pa_cons (pv 1) (pa_cons (pv 2) pa_nil)))) pa_nil))))), ?_⟩
  refine ⟨_, rfl, _, rfl, l, d, rfl, hl, fun H1 s1 => ⟨_, rfl, _, rfl, _, rfl, l, d, n, rfl, n0, n1, fun H2 s2 => ⟨fits (by show 2 ≤ 16777216; decide), fun t ht => q t _ ((s1.trans s2).trans (same_new ht _)) ?_⟩⟩⟩
  unfold Tup2
  rw [upd_same, pieces_is hl]
  rfl
end
section
variable {P : Program} {w : World} {K : PySem.W.Frag} {mg : Str → Option Value} {base : Heap} {f : Addr} {fd : FuncData}
theorem ok_law (F : Fun K "law" "law" s_law f fd) (D_tape : Dfn P w K mg base "_law_tape" 5 ["script", "k"] (spTape K)) (D_dance : Dfn P w K mg base "_law_dance" 5 ["tape", "most"] spDance) (D_take : Dfn P w K mg base "_law_take" 5 ["tape", "many"] spTake) (D_number : Dfn P w K mg base "_law_number" 5 ["dance"] (spNumber K)) (D_same1 : Dfn P w K mg base "_law_same" 5 ["told", "due"] (spSame 1)) (D_divisor : Dfn P w K mg base "_law_divisor" 5 ["one", "other"] spDivisor) (D_colour_count : Dfn P w K mg base "colour_count" 5 ["dance", "way", "n"] spCC) (D_pieces : Dfn P w K mg base "pieces" 5 ["dance", "way"] spPieces) (D_law_seen : Dfn P w K mg base "_law_seen" 5 ["dance", "way", "n"] spSeen) (D_undo : Dfn P w K mg base "undo" 5 ["dance"] spUndo) (y_range : mg "range" = none)  : FnOk P w K mg base CX0 6 f fd ["script"] (spLaw K) := by
  refine F.ok sc_law (fun vs H Q E h => ?_) (fun cdv A outer s H vs Q E hr h => ?_)
  · obtain ⟨sa, ns, rfl, hS, h63, q⟩ := h
    rfl
  obtain ⟨sa, ns, rfl, hS, h63, q⟩ := h
  have hu := hu_of hr
  refine ⟨_, (pss_cons (ps_for PassesOwn.never rfl (pi_range1 rfl y_range (pa_cons pe_int pa_nil)) (pg_name (i := 1) sc_law.nd rfl (.inl rfl))
    (pss_cons (ps_set (i := 2) sc_law.nd rfl (.inl rfl) (pe_do D_tape hr (pa_cons (pv 0) (pa_cons (pv 1) pa_nil))))
    (pss_cons (ps_set (i := 3) sc_law.nd rfl (.inl rfl) (pe_do D_dance hr (pa_cons (pv 2) (pa_cons pe_int pa_nil))))
    (pss_cons (ps_set (i := 4) sc_law.nd rfl (.inl rfl) (pe_op op_add pe_int (pe_do D_take hr (pa_cons (pv 2) (pa_cons (pe_ix ix_list (pe_lst (pa_cons pe_int (pa_cons pe_int (pa_cons pe_int pa_nil)))) (pe_do D_take hr (pa_cons (pv 2) (pa_cons pe_int pa_nil))) (fun _ _ => rfl)) pa_nil)))))
    (pss_cons (ps_asg (pe_do D_number hr (pa_cons (pv 3) pa_nil)) (pg_tup (by rfl) (pgs_cons (pg_name (i := 5) sc_law.nd rfl (.inl rfl)) (pgs_cons (pg_name (i := 6) sc_law.nd rfl (.inl rfl)) pgs_nil))))
    (pss_cons (ps_if (pt_not (pt_val (pe_do D_same1 hr (pa_cons (pe_do D_colour_count hr (pa_cons (pv 3) (pa_cons pe_str (pa_cons (pv 4) pa_nil)))) (pa_cons (pe_op op_mul (pv 4) (pe_do D_divisor hr (pa_cons (pv 4) (pa_cons (pv 5) pa_nil)))) pa_nil))))) (pss_one (ps_ret pe_bl)) pss_nil)
    (pss_cons (ps_if (pt_not (pt_val (pe_do D_same1 hr (pa_cons (pe_do D_colour_count hr (pa_cons (pv 3) (pa_cons pe_str (pa_cons (pv 4) pa_nil)))) (pa_cons (pe_op op_mul (pv 4) (pe_do D_divisor hr (pa_cons (pv 4) (pa_cons (pv 6) pa_nil)))) pa_nil))))) (pss_one (ps_ret pe_bl)) pss_nil)
    (pss_cons (ps_for PassesOwn.never rfl (pi_list (pe_lst (pa_cons pe_str (pa_cons pe_str pa_nil)))) (pg_name (i := 7) sc_law.nd rfl (.inl rfl))
    (pss_cons (ps_if (pt_not (pt_val (pe_do D_same1 hr (pa_cons (pe_do D_colour_count hr (pa_cons (pv 3) (pa_cons (pv 7) (pa_cons pe_int pa_nil)))) (pa_cons (pe_op op_mul pe_int (pe_do D_pieces hr (pa_cons (pv 3) (pa_cons (pv 7) pa_nil)))) pa_nil))))) (pss_one (ps_ret pe_bl)) pss_nil)
    (pss_cons (ps_set (i := 8) sc_law.nd rfl (.inl rfl) (pe_dget hu (pe_disp (pps_cons pe_str pe_str (pps_cons pe_str pe_str pps_nil)) (by rfl) (by rfl) (fun z => by cases z) (by decide)) (pv 7) (fun _ _ => rfl)))
    (pss_cons (ps_if (pt_cmpR (op_neD hr.units) (pe_do D_law_seen hr (pa_cons (pe_op op_add_str (pv 3) pe_str) (pa_cons (pv 7) (pa_cons (pv 4) pa_nil)))) (pe_do D_law_seen hr (pa_cons (pv 3) (pa_cons (pv 8) (pa_cons (pv 4) pa_nil)))) (nomark _)) (pss_one (ps_ret pe_bl)) pss_nil)
    (pss_one (ps_if (pt_cmpR (op_neD hr.units) (pe_do D_law_seen hr (pa_cons (pe_op op_add_str (pv 3) (pe_do D_undo hr (pa_cons (pv 3) pa_nil))) (pa_cons (pv 7) (pa_cons (pv 4) pa_nil)))) (pe_do D_law_seen hr (pa_cons pe_str (pa_cons (pv 7) (pa_cons (pv 4) pa_nil)))) (nomark _)) (pss_one (ps_ret pe_bl)) pss_nil))))))
    (pss_one (ps_if (pt_cmpR (op_neD hr.units) (pe_do D_law_seen hr (pa_cons (pe_op op_add_str (pv 3) pe_str) (pa_cons pe_str (pa_cons (pv 4) pa_nil)))) (pe_do D_law_seen hr (pa_cons (pv 3) (pa_cons pe_str (pa_cons (pv 4) pa_nil)))) (nomark _)) (pss_one (ps_ret pe_bl)) pss_nil))))))))))
    (pss_one (ps_ret pe_bl))), ?_⟩
  refine ⟨6, rfl, by decide, by decide, for_range (lo := 0) (n := 6) (fun i σ F => ∃ (x1 x2 x3 x4 x5 x6 x7 x8 : Option V), σ = [some (.ref sa), x1, x2, x3, x4, x5, x6, x7, x8] ∧ Same H F) ?_ ?_ ?_⟩
  · exact ⟨_, _, _, _, _, _, _, _, rfl, Same.refl _⟩
  · rintro i σ F hi ⟨x1, x2, x3, x4, x5, x6, x7, x8, rfl, sF⟩
    refine ⟨_, rfl, _, rfl, sa, ns, 0 + (i : Int), rfl, sF.seq hS, by omega, fun tp F1 s1 ntp t1 => ?_⟩
    refine ⟨_, rfl, tp, 40, rfl, t1, by decide, by decide, fun l F2 hl hz b2 t2 => ?_⟩
    refine ⟨_, rfl, fits (by decide), fun lp hlp => ?_⟩
    have nl := t2.ne hlp
    refine ⟨_, rfl, tp, 3, rfl, t2.same (same_new hlp _), by decide, by decide, fun r F3 r0 r1 b3 t3 => ?_⟩
    obtain ⟨z, hz2, z0, z1⟩ := pick3 r0 r1
    refine ⟨lp, _, _, _, rfl, rfl, SqL.of (b3 _ _ nl upd_same), hz2, tp, z, rfl, t3, z0, by omega, fun r2 F4 r20 r21 b4 t4 => ⟨_, _, rfl, rfl, ?_⟩⟩
    have S4 : Same F F4 := ((((But.of s1).trans b2).trans (But.of (same_new hlp _))).trans (b3.trans b4)).same (Same.refl F) ntp
    dsimp only
    have n0 : 0 < 1 + r2 := by omega
    have n1 : 1 + r2 ≤ 1000 := by omega
    generalize 1 + r2 = n at n0 n1
    have g := good_run l Good.zero
    refine ⟨_, rfl, l, rfl, fun t F5 s5 T5 => ⟨t, _, rfl, SqT.of T5, rfl, _, _, rfl, _, _, rfl, rfl, ?_⟩⟩
    refine ⟨_, rfl, _, rfl, l, false, n, rfl, n0, n1, fun F6 s6 => ?_⟩
    have gn : ∀ x : Int, (Nat.gcd n.natAbs x.natAbs : Nat) ≤ n.natAbs := fun x => Nat.le_of_dvd (by omega) (Nat.gcd_dvd_left _ _)
    have gn1 := gn (run (0, 1) l).1
    have gn2 := gn (run (0, 1) l).2
    refine ⟨_, rfl, _, rfl, _, rfl, n, _, rfl, _, _, rfl, rfl, .inl ⟨by omega, by omega⟩, _, _, .int _, rfl, int_is, int_is, _, rfl, iteF ?_⟩
    refine ⟨_, rfl, _, rfl, l, true, n, rfl, n0, n1, fun F7 s7 => ?_⟩
    refine ⟨_, rfl, _, rfl, _, rfl, n, _, rfl, _, _, rfl, rfl, .inl ⟨by omega, by omega⟩, _, _, .int _, rfl, int_is, int_is, _, rfl, iteF ?_⟩
    have S7 : Same H F7 := sF.trans (S4.trans (s5.trans (s6.trans s7)))
    have sz : (S l).length ≤ 40 := by rw [S_len]; omega
    have lsn : ∀ c : Nat, (c = 84 ∨ c = 85 ∨ c = 82) → Lets (l ++ [c]) := fun c hc x hx => by
      rcases List.mem_append.mp hx with hx | hx
      · exact hl x hx
      · rw [List.mem_singleton.mp hx]; exact hc
    refine ⟨fits (by show 2 ≤ 16777216; decide), fun wp hwp => ⟨wp, rfl, ⟨_, SqL.of upd_same⟩, for_list (K := K) (a := wp) (xs := [V.str "across", V.str "down"]) (fun j σ G => ∃ (x8 x9 : Option V), σ = [some (.ref sa), some (.int (0 + (i : Int))), some (.ref tp), some (.str (S l)), some (.int n), some (.int (run (0, 1) l).1), some (.int (run (0, 1) l).2), x8, x9] ∧ Same (upd F7 wp (.lst [V.str "across", V.str "down"])) G) ?_ ?_ ?_ ?_⟩⟩
    · exact ⟨_, _, rfl, Same.refl _⟩
    · rintro j σ G _ ⟨x8, x9, _, sG⟩
      exact SqL.of (sG _ _ upd_same)
    · rintro j y σ G hy ⟨x8, x9, rfl, sG⟩
      obtain ⟨d, rfl⟩ := ways_two hy
      refine ⟨_, rfl, _, rfl, l, d, 2, rfl, by decide, by decide, fun G1 s1 => ⟨_, rfl, _, rfl, l, d, rfl, hl, fun G2 s2 => ⟨_, _, rfl, rfl, .inl ⟨by decide, by decide⟩, _, _, .int (2 * pcs (run (0, 1) l) d), rfl, ?_, ?_, _, rfl, iteF ?_⟩⟩⟩
      · rw [two_side]
        exact int_is
      · rw [pieces_is hl]
        exact int_is
      refine fun dp hdp => ⟨upd_same, [(Sum.inr "across", V.str "down"), (Sum.inr "down", V.str "across")], rfl, by decide, _, rfl, dp, _, rfl, way_get d ▸ DGet.k (k := Sum.inr (wayName d)) upd_same, ?_⟩
      refine ⟨_, rfl, _, _, rfl, rfl, by rw [e_R, S_len, S_len]; exact fits (by show _ + 1 ≤ _; omega), ?_⟩
      rw [e_R, S_app]
      have run_snoc : ∀ c : Nat, run (0, 1) (l ++ [c]) = called (run (0, 1) l) c := fun c => by rw [run_app]; rfl
      refine ⟨_, rfl, _, rfl, l ++ [82], d, n, rfl, lsn 82 (.inr (.inr rfl)), n0, n1, fun ta Ga sa Ta => ⟨_, rfl, _, rfl, _, rfl, l, !d, n, rfl, hl, n0, n1, fun tb Gb sb Tb => ⟨_, _, dp_tup2 (Ta.same sb), dp_tup2 Tb, sh2 _ _, sh2 _ _, ?_⟩⟩⟩
      rw [eqv2, decide_eq_true (show (pcs (run (0, 1) (l ++ [82])) d, ccv (run (0, 1) (l ++ [82])) d n) = (pcs (run (0, 1) l) (!d), ccv (run (0, 1) l) (!d) n) by rw [run_snoc, pcs_abs (side_turn g d), ccv_abs n (side_turn g d)])]
      refine ⟨_, rfl, iteF ?_⟩
      have lu := len_dl g
      have lr := stp_run l Good.zero
      rw [stp_zero] at lr
      have lm : (mir (dl (run (0, 1) l)).reverse).length ≤ 40 := by
        unfold mir
        rw [List.length_map, List.length_reverse]
        omega
      refine ⟨_, rfl, _, rfl, l, rfl, hl, by omega, fun Gc sc => ⟨_, _, rfl, rfl, by rw [S_len, S_len]; exact fits (by omega), ?_⟩⟩
      rw [S_app]
      refine ⟨_, rfl, _, rfl, l ++ mir (dl (run (0, 1) l)).reverse, d, n, rfl, lets_app2 hl (lets_mir fun c hc => lets_dl _ c (List.mem_reverse.mp hc)), n0, n1, fun td Gd sd Td => ?_⟩
      rw [e_empty]
      refine ⟨_, rfl, _, rfl, [], d, n, rfl, (fun c hc => by cases hc), n0, n1, fun te Ge se Te => ⟨_, _, dp_tup2 (Td.same se), dp_tup2 Te, sh2 _ _, sh2 _ _, ?_⟩⟩
      rw [eqv2, decide_eq_true (show (pcs (run (0, 1) (l ++ mir (dl (run (0, 1) l)).reverse)) d, ccv (run (0, 1) (l ++ mir (dl (run (0, 1) l)).reverse)) d n) = (pcs (run (0, 1) []) d, ccv (run (0, 1) []) d n) by rw [back_dl hl]; rfl)]
      exact ⟨_, rfl, iteF ⟨_, _, rfl, sG.trans (s1.trans (s2.trans ((same_upd (same_new hdp (.dK [])) hdp).trans (sa.trans (sb.trans (sc.trans (sd.trans se)))))))⟩⟩
    · rintro σ G ⟨x8, x9, rfl, sG⟩
      refine ⟨_, rfl, _, _, rfl, rfl, by rw [e_T, S_len, S_len]; exact fits (by show _ + 1 ≤ _; omega), ?_⟩
      rw [e_T, S_app]
      have run_snoc : ∀ c : Nat, run (0, 1) (l ++ [c]) = called (run (0, 1) l) c := fun c => by rw [run_app]; rfl
      refine ⟨_, rfl, l ++ [84], true, n, rfl, lsn 84 (.inl rfl), n0, n1, fun ta Ga sa Ta => ⟨_, rfl, _, rfl, l, true, n, rfl, hl, n0, n1, fun tb Gb sb Tb => ⟨_, _, dp_tup2 (Ta.same sb), dp_tup2 Tb, sh2 _ _, sh2 _ _, ?_⟩⟩⟩
      rw [eqv2, decide_eq_true (show (pcs (run (0, 1) (l ++ [84])) true, ccv (run (0, 1) (l ++ [84])) true n) = (pcs (run (0, 1) l) true, ccv (run (0, 1) l) true n) by rw [run_snoc]; rfl)]
      exact ⟨_, rfl, iteF ⟨_, _, _, _, _, _, _, _, rfl, S7.trans ((same_new hwp _).trans (sG.trans (sa.trans sb)))⟩⟩
  · rintro σ F ⟨x1, x2, x3, x4, x5, x6, x7, x8, rfl, sF⟩
    exact q F
end
def d_after : He.DefD := ⟨("after", none), "after", "after", defArgs s_after, defBody s_after, defScope s_after, [], []⟩
def d_turned : He.DefD := ⟨("turned", none), "turned", "turned", defArgs s_turned, defBody s_turned, defScope s_turned, [], []⟩
def d_quotients : He.DefD := ⟨("quotients", none), "quotients", "quotients", defArgs s_quotients, defBody s_quotients, defScope s_quotients, [], []⟩
def d_number : He.DefD := ⟨("number", none), "number", "number", defArgs s_number, defBody s_number, defScope s_number, [], []⟩
def d_backward : He.DefD := ⟨("backward", none), "backward", "backward", defArgs s_backward, defBody s_backward, defScope s_backward, [], []⟩
def d_mirrored : He.DefD := ⟨("mirrored", none), "mirrored", "mirrored", defArgs s_mirrored, defBody s_mirrored, defScope s_mirrored, [], []⟩
def d_partner : He.DefD := ⟨("partner", none), "partner", "partner", defArgs s_partner, defBody s_partner, defScope s_partner, [], []⟩
def d_pieces : He.DefD := ⟨("pieces", none), "pieces", "pieces", defArgs s_pieces, defBody s_pieces, defScope s_pieces, [], []⟩
def d_ropes_at_ends : He.DefD := ⟨("ropes_at_ends", none), "ropes_at_ends", "ropes_at_ends", defArgs s_ropes_at_ends, defBody s_ropes_at_ends, defScope s_ropes_at_ends, [], []⟩
def d_colour_count : He.DefD := ⟨("colour_count", none), "colour_count", "colour_count", defArgs s_colour_count, defBody s_colour_count, defScope s_colour_count, [], []⟩
def d_runs : He.DefD := ⟨("runs", none), "runs", "runs", defArgs s_runs, defBody s_runs, defScope s_runs, [], []⟩
def d_undo : He.DefD := ⟨("undo", none), "undo", "undo", defArgs s_undo, defBody s_undo, defScope s_undo, [], []⟩
def d__law_tape : He.DefD := ⟨("_law_tape", none), "_law_tape", "_law_tape", defArgs s_law_tape, defBody s_law_tape, defScope s_law_tape, [], []⟩
def d__law_take : He.DefD := ⟨("_law_take", none), "_law_take", "_law_take", defArgs s_law_take, defBody s_law_take, defScope s_law_take, [], []⟩
def d__law_dance : He.DefD := ⟨("_law_dance", none), "_law_dance", "_law_dance", defArgs s_law_dance, defBody s_law_dance, defScope s_law_dance, [], []⟩
def d__law_called : He.DefD := ⟨("_law_called", none), "_law_called", "_law_called", defArgs s_law_called, defBody s_law_called, defScope s_law_called, [], []⟩
def d__law_number : He.DefD := ⟨("_law_number", none), "_law_number", "_law_number", defArgs s_law_number, defBody s_law_number, defScope s_law_number, [], []⟩
def d__law_same : He.DefD := ⟨("_law_same", none), "_law_same", "_law_same", defArgs s_law_same, defBody s_law_same, defScope s_law_same, [], []⟩
def d__law_divisor : He.DefD := ⟨("_law_divisor", none), "_law_divisor", "_law_divisor", defArgs s_law_divisor, defBody s_law_divisor, defScope s_law_divisor, [], []⟩
def d__law_seen : He.DefD := ⟨("_law_seen", none), "_law_seen", "_law_seen", defArgs s_law_seen, defBody s_law_seen, defScope s_law_seen, [], []⟩
def d_law : He.DefD := ⟨("law", none), "law", "law", defArgs s_law, defBody s_law, defScope s_law, [], []⟩
def dfs : List He.DefD := [d_after, d_turned, d_quotients, d_number, d_backward, d_mirrored, d_partner, d_pieces, d_ropes_at_ends, d_colour_count, d_runs, d_undo, d__law_tape, d__law_take, d__law_dance, d__law_called, d__law_number, d__law_same, d__law_divisor, d__law_seen, d_law]
def fas : List He.Fa := [.glo "after", .glo "turned", .glo "quotients", .glo "number", .glo "backward", .glo "mirrored", .glo "partner", .glo "pieces", .glo "ropes_at_ends", .glo "colour_count", .glo "runs", .glo "undo", .glo "_law_tape", .glo "_law_take", .glo "_law_dance", .glo "_law_called", .glo "_law_number", .glo "_law_same", .glo "_law_divisor", .glo "_law_seen", .glo "law", .glo "OPPOSITES", .free "len", .free "abs", .free "int", .free "range", .free "isinstance", .free "tuple", .free "list", .free "str", .free "bool", .free "enumerate"]
def tbs : List He.Tab := [(fun K => He.ga K "OPPOSITES", ["T", "U", "R"])]
def tfs : List He.Defn := []
def exs (K : PySem.W.Frag) : Bool := (He.valsB K (He.ga K "OPPOSITES") [("T", .str "U"), ("U", .str "T"), ("R", .str "R")]) && He.eqO (PySem.W.nsIn K mainGlobals "gcd") (some (some (.builtin "math.gcd")))
abbrev Rw : PySem.W.OpenRow := PySem.W.OpenLaw.row PySem.Challenge.rw_ropedance_k30_whole_closed_ropes
abbrev hk : PySem.W.Hook := He.hookX 6 fas dfs tbs tfs exs
def ob (s : PySem.W.SharedT) : He.AlX := He.obsX 6 fas dfs tbs tfs exs (HandSHeadRun.getT s)
theorem ob_eq (s : PySem.W.SharedT) : ob s = hk.obs s.abs := He.obsX_eq (HandSHeadRun.getT_eq s)
theorem head_run (w : World) : HandSHeadRun.RunEqI Rw (PySem.W.view Rw.prog [0, 27]) hk ob 4000 ["after", "turned", "quotients", "number", "backward", "mirrored", "partner", "pieces", "ropes_at_ends", "colour_count", "runs", "undo", "_law_tape", "_law_take", "_law_dance", "_law_called", "_law_number", "_law_same", "_law_divisor", "_law_seen", "OPPOSITES"] w :=
  PySem.W.byRow2 "special-get-raises" (P := fun w => HandSHeadRun.RunEqI Rw (PySem.W.view Rw.prog [0, 27]) hk ob 4000 ["after", "turned", "quotients", "number", "backward", "mirrored", "partner", "pieces", "ropes_at_ends", "colour_count", "runs", "undo", "_law_tape", "_law_take", "_law_dance", "_law_called", "_law_number", "_law_same", "_law_divisor", "_law_seen", "OPPOSITES"] w) (fun w => by unfold HandSHeadRun.RunEqI; kernel_rfl) (fun w => by unfold HandSHeadRun.RunEqI; kernel_rfl) w
theorem fun_of {K : PySem.W.Frag} {d : He.DefD} {f : Addr} {fd : FuncData} {st : Stmt} (h : FunD K d.name d.qual d.params d.body d.scope (d.dvs K) (d.kws K) f fd) (ha : d.params = defArgs st) (hb : d.body = defBody st) (hs : d.scope = defScope st) (h0 : d.dfl = []) (h1 : d.kwd = []) : Fun K d.name d.qual st f fd := by
  obtain ⟨oc, od, dV, kV, doc, pm, an, cdv, ct, osl, e, lk, cd, dfl, kw⟩ := h.ex
  have e0 : d.dvs K = [] := by unfold He.DefD.dvs; rw [h0]; rfl
  rw [e0] at dfl
  have ed : dV = .none := by
    rcases dfl with ⟨_, q⟩ | ⟨q, _⟩
    · exact q
    · exact absurd rfl q
  subst ed
  rw [ha, hb, hs] at e
  exact ⟨⟨oc, od, kV, doc, pm, an, cdv, ct, osl, e, lk, cd⟩, h.kp⟩
theorem spLaw_from (K : PySem.W.Frag) : ∀ (H : Hp) (a : Addr) (ns : List Int), ns.length ≤ 63 → (∀ z ∈ ns, Builtin.Int.intBits z ≤ 1048576) → (∀ p ∈ tfs.map (He.cT K), H p.2 = some (.tbl #[])) → SqL K H a (ns.map V.int) → spLawK K [.ref a] H (fun v _ => v = .bl true) fun _ _ _ => False :=
  fun H a ns hl _ hT hS => ⟨a, ns, rfl, hS, hl, fun _ => rfl⟩
theorem all_facts {P : Program} {w : World} {K : PySem.W.Frag} {h : Heap} {mg : Str → Option Value} {fa : Addr} (X : K.In h) (G : h.Ns mainGlobals mg) (hfa : mg ("law" : Str) = some (.ref fa)) (c : He.SaysX fas dfs tbs tfs exs w h K) :
    ∃ fd : FuncData, (∀ (s : Shared) (v : Value), BindsTo s fd ⟨[v], []⟩ [("script", v)]) ∧ ∀ base : Heap, K.In base → base.Ns mainGlobals mg → (∀ p ∈ tfs.map (He.cT K), LamX.TabB base mg p.1 p.2) → FnOk P w K mg base CX0 6 fa fd ["script"] (spLawK K) := by
  have cd := c.t.d
  obtain ⟨fd0, G0⟩ := cd.def_ 0 (d := d_after) rfl
  have F_after : Fun K "after" "after" s_after _ fd0 := fun_of G0 rfl rfl rfl rfl rfl
  have m_after := He.glo_ok X G (cd.fact 0 (f := .glo "after") rfl)
  have b_after := F_after.binds (ps := ["fraction", "dance"]) fun _ _ _ _ _ _ us hl => match us, hl with | [_, _], _ => rfl
  obtain ⟨fd1, G1⟩ := cd.def_ 1 (d := d_turned) rfl
  have F_turned : Fun K "turned" "turned" s_turned _ fd1 := fun_of G1 rfl rfl rfl rfl rfl
  have m_turned := He.glo_ok X G (cd.fact 1 (f := .glo "turned") rfl)
  have b_turned := F_turned.binds (ps := ["p", "q"]) fun _ _ _ _ _ _ us hl => match us, hl with | [_, _], _ => rfl
  obtain ⟨fd2, G2⟩ := cd.def_ 2 (d := d_quotients) rfl
  have F_quotients : Fun K "quotients" "quotients" s_quotients _ fd2 := fun_of G2 rfl rfl rfl rfl rfl
  have m_quotients := He.glo_ok X G (cd.fact 2 (f := .glo "quotients") rfl)
  have b_quotients := F_quotients.binds (ps := ["fraction"]) fun _ _ _ _ _ _ us hl => match us, hl with | [_], _ => rfl
  obtain ⟨fd3, G3⟩ := cd.def_ 3 (d := d_number) rfl
  have F_number : Fun K "number" "number" s_number _ fd3 := fun_of G3 rfl rfl rfl rfl rfl
  have m_number := He.glo_ok X G (cd.fact 3 (f := .glo "number") rfl)
  have b_number := F_number.binds (ps := ["dance"]) fun _ _ _ _ _ _ us hl => match us, hl with | [_], _ => rfl
  obtain ⟨fd4, G4⟩ := cd.def_ 4 (d := d_backward) rfl
  have F_backward : Fun K "backward" "backward" s_backward _ fd4 := fun_of G4 rfl rfl rfl rfl rfl
  have m_backward := He.glo_ok X G (cd.fact 4 (f := .glo "backward") rfl)
  have b_backward := F_backward.binds (ps := ["dance"]) fun _ _ _ _ _ _ us hl => match us, hl with | [_], _ => rfl
  obtain ⟨fd5, G5⟩ := cd.def_ 5 (d := d_mirrored) rfl
  have F_mirrored : Fun K "mirrored" "mirrored" s_mirrored _ fd5 := fun_of G5 rfl rfl rfl rfl rfl
  have m_mirrored := He.glo_ok X G (cd.fact 5 (f := .glo "mirrored") rfl)
  have b_mirrored := F_mirrored.binds (ps := ["dance"]) fun _ _ _ _ _ _ us hl => match us, hl with | [_], _ => rfl
  obtain ⟨fd6, G6⟩ := cd.def_ 6 (d := d_partner) rfl
  have F_partner : Fun K "partner" "partner" s_partner _ fd6 := fun_of G6 rfl rfl rfl rfl rfl
  have m_partner := He.glo_ok X G (cd.fact 6 (f := .glo "partner") rfl)
  have b_partner := F_partner.binds (ps := ["dance"]) fun _ _ _ _ _ _ us hl => match us, hl with | [_], _ => rfl
  obtain ⟨fd7, G7⟩ := cd.def_ 7 (d := d_pieces) rfl
  have F_pieces : Fun K "pieces" "pieces" s_pieces _ fd7 := fun_of G7 rfl rfl rfl rfl rfl
  have m_pieces := He.glo_ok X G (cd.fact 7 (f := .glo "pieces") rfl)
  have b_pieces := F_pieces.binds (ps := ["dance", "way"]) fun _ _ _ _ _ _ us hl => match us, hl with | [_, _], _ => rfl
  obtain ⟨fd8, G8⟩ := cd.def_ 8 (d := d_ropes_at_ends) rfl
  have F_ropes_at_ends : Fun K "ropes_at_ends" "ropes_at_ends" s_ropes_at_ends _ fd8 := fun_of G8 rfl rfl rfl rfl rfl
  have m_ropes_at_ends := He.glo_ok X G (cd.fact 8 (f := .glo "ropes_at_ends") rfl)
  have b_ropes_at_ends := F_ropes_at_ends.binds (ps := ["dance"]) fun _ _ _ _ _ _ us hl => match us, hl with | [_], _ => rfl
  obtain ⟨fd9, G9⟩ := cd.def_ 9 (d := d_colour_count) rfl
  have F_colour_count : Fun K "colour_count" "colour_count" s_colour_count _ fd9 := fun_of G9 rfl rfl rfl rfl rfl
  have m_colour_count := He.glo_ok X G (cd.fact 9 (f := .glo "colour_count") rfl)
  have b_colour_count := F_colour_count.binds (ps := ["dance", "way", "n"]) fun _ _ _ _ _ _ us hl => match us, hl with | [_, _, _], _ => rfl
  obtain ⟨fd10, G10⟩ := cd.def_ 10 (d := d_runs) rfl
  have F_runs : Fun K "runs" "runs" s_runs _ fd10 := fun_of G10 rfl rfl rfl rfl rfl
  have m_runs := He.glo_ok X G (cd.fact 10 (f := .glo "runs") rfl)
  have b_runs := F_runs.binds (ps := ["fraction"]) fun _ _ _ _ _ _ us hl => match us, hl with | [_], _ => rfl
  obtain ⟨fd11, G11⟩ := cd.def_ 11 (d := d_undo) rfl
  have F_undo : Fun K "undo" "undo" s_undo _ fd11 := fun_of G11 rfl rfl rfl rfl rfl
  have m_undo := He.glo_ok X G (cd.fact 11 (f := .glo "undo") rfl)
  have b_undo := F_undo.binds (ps := ["dance"]) fun _ _ _ _ _ _ us hl => match us, hl with | [_], _ => rfl
  obtain ⟨fd12, G12⟩ := cd.def_ 12 (d := d__law_tape) rfl
  have F__law_tape : Fun K "_law_tape" "_law_tape" s_law_tape _ fd12 := fun_of G12 rfl rfl rfl rfl rfl
  have m__law_tape := He.glo_ok X G (cd.fact 12 (f := .glo "_law_tape") rfl)
  have b__law_tape := F__law_tape.binds (ps := ["script", "k"]) fun _ _ _ _ _ _ us hl => match us, hl with | [_, _], _ => rfl
  obtain ⟨fd13, G13⟩ := cd.def_ 13 (d := d__law_take) rfl
  have F__law_take : Fun K "_law_take" "_law_take" s_law_take _ fd13 := fun_of G13 rfl rfl rfl rfl rfl
  have m__law_take := He.glo_ok X G (cd.fact 13 (f := .glo "_law_take") rfl)
  have b__law_take := F__law_take.binds (ps := ["tape", "many"]) fun _ _ _ _ _ _ us hl => match us, hl with | [_, _], _ => rfl
  obtain ⟨fd14, G14⟩ := cd.def_ 14 (d := d__law_dance) rfl
  have F__law_dance : Fun K "_law_dance" "_law_dance" s_law_dance _ fd14 := fun_of G14 rfl rfl rfl rfl rfl
  have m__law_dance := He.glo_ok X G (cd.fact 14 (f := .glo "_law_dance") rfl)
  have b__law_dance := F__law_dance.binds (ps := ["tape", "most"]) fun _ _ _ _ _ _ us hl => match us, hl with | [_, _], _ => rfl
  obtain ⟨fd15, G15⟩ := cd.def_ 15 (d := d__law_called) rfl
  have F__law_called : Fun K "_law_called" "_law_called" s_law_called _ fd15 := fun_of G15 rfl rfl rfl rfl rfl
  have m__law_called := He.glo_ok X G (cd.fact 15 (f := .glo "_law_called") rfl)
  have b__law_called := F__law_called.binds (ps := ["value", "letter"]) fun _ _ _ _ _ _ us hl => match us, hl with | [_, _], _ => rfl
  obtain ⟨fd16, G16⟩ := cd.def_ 16 (d := d__law_number) rfl
  have F__law_number : Fun K "_law_number" "_law_number" s_law_number _ fd16 := fun_of G16 rfl rfl rfl rfl rfl
  have m__law_number := He.glo_ok X G (cd.fact 16 (f := .glo "_law_number") rfl)
  have b__law_number := F__law_number.binds (ps := ["dance"]) fun _ _ _ _ _ _ us hl => match us, hl with | [_], _ => rfl
  obtain ⟨fd17, G17⟩ := cd.def_ 17 (d := d__law_same) rfl
  have F__law_same : Fun K "_law_same" "_law_same" s_law_same _ fd17 := fun_of G17 rfl rfl rfl rfl rfl
  have m__law_same := He.glo_ok X G (cd.fact 17 (f := .glo "_law_same") rfl)
  have b__law_same := F__law_same.binds (ps := ["told", "due"]) fun _ _ _ _ _ _ us hl => match us, hl with | [_, _], _ => rfl
  obtain ⟨fd18, G18⟩ := cd.def_ 18 (d := d__law_divisor) rfl
  have F__law_divisor : Fun K "_law_divisor" "_law_divisor" s_law_divisor _ fd18 := fun_of G18 rfl rfl rfl rfl rfl
  have m__law_divisor := He.glo_ok X G (cd.fact 18 (f := .glo "_law_divisor") rfl)
  have b__law_divisor := F__law_divisor.binds (ps := ["one", "other"]) fun _ _ _ _ _ _ us hl => match us, hl with | [_, _], _ => rfl
  obtain ⟨fd19, G19⟩ := cd.def_ 19 (d := d__law_seen) rfl
  have F__law_seen : Fun K "_law_seen" "_law_seen" s_law_seen _ fd19 := fun_of G19 rfl rfl rfl rfl rfl
  have m__law_seen := He.glo_ok X G (cd.fact 19 (f := .glo "_law_seen") rfl)
  have b__law_seen := F__law_seen.binds (ps := ["dance", "way", "n"]) fun _ _ _ _ _ _ us hl => match us, hl with | [_, _, _], _ => rfl
  obtain ⟨fd20, G20⟩ := cd.def_ 20 (d := d_law) rfl
  have F_law : Fun K "law" "law" s_law _ fd20 := fun_of G20 rfl rfl rfl rfl rfl
  have m_law := He.glo_ok X G (cd.fact 20 (f := .glo "law") rfl)
  have b_law := F_law.binds (ps := ["script"]) fun _ _ _ _ _ _ us hl => match us, hl with | [_], _ => rfl
  have t_OPPOSITES := He.glo_ok X G (cd.fact 21 (f := .glo "OPPOSITES") rfl)
  have y_len := He.free_ok X G (cd.fact 22 (f := .free "len") rfl)
  have y_abs := He.free_ok X G (cd.fact 23 (f := .free "abs") rfl)
  have y_int := He.free_ok X G (cd.fact 24 (f := .free "int") rfl)
  have y_range := He.free_ok X G (cd.fact 25 (f := .free "range") rfl)
  have y_isinstance := He.free_ok X G (cd.fact 26 (f := .free "isinstance") rfl)
  have y_tuple := He.free_ok X G (cd.fact 27 (f := .free "tuple") rfl)
  have y_list := He.free_ok X G (cd.fact 28 (f := .free "list") rfl)
  have y_str := He.free_ok X G (cd.fact 29 (f := .free "str") rfl)
  have y_bool := He.free_ok X G (cd.fact 30 (f := .free "bool") rfl)
  have y_enumerate := He.free_ok X G (cd.fact 31 (f := .free "enumerate") rfl)
  have e := hfa.symm.trans m_law
  cases e
  refine ⟨fd20, fun s v => ?_, fun base KB GB TB => ?_⟩
  · obtain ⟨oc, od, kV, doc, pm, an, cdv, ct, osl, e, _⟩ := F_law.ex
    rw [e]
    exact .of_eq rfl
  have O : Opp K w (He.ga K "OPPOSITES") := by
    have e : He.obsT fas dfs tbs K = He.valT dfs tbs w := c.t
    have e2 := congrArg (fun z : He.AlT => z.2) e
    have e3 : [He.dicW K (He.ga K "OPPOSITES")] = [some (He.keysIn w.params ["T", "U", "R"])] := e2
    have m := c.more
    unfold exs at m
    rw [Bool.and_eq_true] at m
    exact opp_of (List.cons.inj e3).1 m.1
  have g_gcd : mg "gcd" = some (.builtin "math.gcd") := by
    have m := c.more
    unfold exs at m
    rw [Bool.and_eq_true] at m
    exact PySem.W.mg_of X G (He.eqO_ok m.2)
  have D_tape : Dfn P w K mg base "_law_tape" 1 _ (spTape K) := ⟨_, _, ok_tape F__law_tape y_len y_abs y_int, m__law_tape, F__law_tape.kp, b__law_tape⟩
  have D_take : Dfn P w K mg base "_law_take" 1 _ spTake := ⟨_, _, ok_take F__law_take y_int, m__law_take, F__law_take.kp, b__law_take⟩
  have D_dance : Dfn P w K mg base "_law_dance" 2 _ spDance := ⟨_, _, ok_dance F__law_dance D_take y_range, m__law_dance, F__law_dance.kp, b__law_dance⟩
  have D_called : Dfn P w K mg base "_law_called" 1 _ (spCalled K) := ⟨_, _, ok_called F__law_called, m__law_called, F__law_called.kp, b__law_called⟩
  have D_number : Dfn P w K mg base "_law_number" 2 _ (spNumber K) := ⟨_, _, ok_number F__law_number D_called, m__law_number, F__law_number.kp, b__law_number⟩
  have D_same0 : Dfn P w K mg base "_law_same" 0 _ (spSame 0) := ⟨_, _, none_same, m__law_same, F__law_same.kp, b__law_same⟩
  have D_same1 : Dfn P w K mg base "_law_same" 1 _ (spSame 1) := ⟨_, _, ok_same F__law_same D_same0 y_isinstance y_tuple y_list y_len y_range y_str y_int y_bool, m__law_same, F__law_same.kp, b__law_same⟩
  have D_divisor : Dfn P w K mg base "_law_divisor" 1 _ spDivisor := ⟨_, _, ok_divisor F__law_divisor y_abs y_int, m__law_divisor, F__law_divisor.kp, b__law_divisor⟩
  have D_turned : Dfn P w K mg base "turned" 1 _ spTurned := ⟨_, _, ok_turned F_turned, m_turned, F_turned.kp, b_turned⟩
  have D_after : Dfn P w K mg base "after" 2 _ spAfter := ⟨_, _, ok_after F_after D_turned, m_after, F_after.kp, b_after⟩
  have D_num : Dfn P w K mg base "number" 3 _ spNum := ⟨_, _, ok_num F_number D_after , m_number, F_number.kp, b_number⟩
  have D_quotients : Dfn P w K mg base "quotients" 1 _ (spQuo K) := ⟨_, _, ok_quotients F_quotients y_abs , m_quotients, F_quotients.kp, b_quotients⟩
  have D_runs : Dfn P w K mg base "runs" 2 _ spRuns := ⟨_, _, ok_runs F_runs D_quotients y_enumerate , m_runs, F_runs.kp, b_runs⟩
  have D_mirrored : Dfn P w K mg base "mirrored" 1 _ spMir := ⟨_, _, ok_mirrored F_mirrored O t_OPPOSITES, m_mirrored, F_mirrored.kp, b_mirrored⟩
  have D_backward : Dfn P w K mg base "backward" 2 _ spBack := ⟨_, _, ok_backward F_backward D_mirrored, m_backward, F_backward.kp, b_backward⟩
  have D_undo : Dfn P w K mg base "undo" 5 _ spUndo := ⟨_, _, ok_undo F_undo (D_backward.mono (by decide)) (D_runs.mono (by decide)) (D_num.mono (by decide)) , m_undo, F_undo.kp, b_undo⟩
  have D_ropes_at_ends : Dfn P w K mg base "ropes_at_ends" 1 _ spRopes := ⟨_, _, ok_ropes F_ropes_at_ends, m_ropes_at_ends, F_ropes_at_ends.kp, b_ropes_at_ends⟩
  have D_partner : Dfn P w K mg base "partner" 2 _ spPartner := ⟨_, _, ok_partner F_partner D_ropes_at_ends, m_partner, F_partner.kp, b_partner⟩
  have D_pieces : Dfn P w K mg base "pieces" 3 _ spPieces := ⟨_, _, ok_pieces F_pieces D_partner, m_pieces, F_pieces.kp, b_pieces⟩
  have D_colour_count : Dfn P w K mg base "colour_count" 4 _ spCC := ⟨_, _, ok_colour_count F_colour_count D_num g_gcd, m_colour_count, F_colour_count.kp, b_colour_count⟩
  have D_law_seen : Dfn P w K mg base "_law_seen" 5 _ spSeen := ⟨_, _, ok_law_seen F__law_seen D_colour_count (D_pieces.mono (by decide)) , m__law_seen, F__law_seen.kp, b__law_seen⟩
  exact ok_law F_law (D_tape.mono (by decide)) (D_dance.mono (by decide)) (D_take.mono (by decide)) (D_number.mono (by decide)) (D_same1.mono (by decide)) (D_divisor.mono (by decide)) (D_colour_count.mono (by decide)) (D_pieces.mono (by decide)) D_law_seen D_undo y_range
end Rope
open PySem PySem.W PySem.Calls PyProof.Rows
set_option maxRecDepth 100000 in
set_option maxHeartbeats 0 in
theorem PySem.Challenge.cw_ropedance_k30_whole_closed_ropes_holds : PySem.Challenge.rw_ropedance_k30_whole_closed_ropes.Holds := by
  w_on; o_law
  refine HandSHeadRun.head_imp (r := OpenLaw.row PySem.Challenge.rw_ropedance_k30_whole_closed_ropes) (q := view (OpenLaw.row PySem.Challenge.rw_ropedance_k30_whole_closed_ropes).prog [0, 27]) (H := Rope.hk) (ob := Rope.ob) (M := 4000) (loose := ["after", "turned", "quotients", "number", "backward", "mirrored", "partner", "pieces", "ropes_at_ends", "colour_count", "runs", "undo", "_law_tape", "_law_take", "_law_dance", "_law_called", "_law_number", "_law_same", "_law_divisor", "_law_seen", "OPPOSITES"]) (d := HandSHeadRun.topDef (OpenLaw.row PySem.Challenge.rw_ropedance_k30_whole_closed_ropes).prog 27) (kwd := []) Rope.ob_eq
    Rope.head_run (by kernel_rfl) (by kernel_rfl) (by kernel_rfl) (by rfl) (by first | assumption | decide +kernel) (by decide +kernel) ⟨rfl, rfl, rfl, rfl, rfl, by decide +kernel⟩ ?hw ?hc
  case hw => w_witness2
  case hc =>
    refine LamX.walk_ofTsE (l := PySem.Challenge.rw_ropedance_k30_whole_closed_ropes) (n := 63) (k := 6) (x := "script") (CX := fun _ => L2.CX0) rfl (by decide) (by kernel_rfl) ⟨rfl, by decide, by decide⟩ ?F (fun _ _ _ _ _ z => z)
    intro w mg fa h Y G hmg0
    obtain ⟨K, KX, c⟩ := Y
    have hmg : mg ("law" : PySem.Str) = some (.ref fa) := by
      have e : (HandSHeadRun.topDef (OpenLaw.row PySem.Challenge.rw_ropedance_k30_whole_closed_ropes).prog 27).name = ("law" : PySem.Str) := by kernel_rfl
      rw [← e]
      exact hmg0
    obtain ⟨fd, hb, hF⟩ := Rope.all_facts (P := (PySem.Challenge.rw_ropedance_k30_whole_closed_ropes).prog) (w := w) KX G hmg c
    refine ⟨K, KX, fd, Rope.tfs.map (He.cT K), Rope.spLawK K, fun p hp => ?_, fun p hp => ?_, fun p hp => ?_, hb, Rope.spLaw_from K, hF⟩
    · obtain ⟨x, hx, rfl⟩ := List.mem_map.mp hp
      exact c.empty x hx
    · obtain ⟨x, hx, rfl⟩ := List.mem_map.mp hp
      exact c.out x hx
    · obtain ⟨x, hx, rfl⟩ := List.mem_map.mp hp
      exact PySem.W.codeHd_of_K KX (c.hd x hx)
