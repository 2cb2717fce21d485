import PyProof.Rows.All
import Wide.All
import OpenK.AllK
import Wide.FinOn
import PyProof.StrBlock2
import HandS.ForMost
import HandS.Wide
import HandS.IsInst
import HandS.Exc
import HandS.ExcOwn
import HandS.ExcCtx
import HandS.ExcIs
import HandS.Hot
import HandS.WordsExc
import HandS.Gcd
import HandS.AnyAll
import HandS.Style
import HandS.More
import HandS.List
import HandS.Conv
import PyProof.ListStr
import PyProof.EvalArms
import HandS.TryOnly
import HandS.ListEq
import PySem.Challenge.RW_ropedance_k09_to_the_standard_dance
set_option Elab.async false
set_option linter.all false
set_option maxRecDepth 100000
set_option maxHeartbeats 4000000
namespace Rope
open PySem L2


/-! ### texts as lists of codes -/
def S (l : List Nat) : Str := ⟨l.toArray⟩
theorem S_len (l : List Nat) : (S l).length = l.length := by simp [S, Str.length]
theorem S_list (l : List Nat) : (S l).cps.toList = l := by simp [S]
theorem S_size (l : List Nat) : (S l).cps.size = l.length := by simp [S]
theorem S_get (l : List Nat) (i : Nat) : (S l).cps[i]? = l[i]? := by simp [S]
theorem S_inj {l m : List Nat} (h : S l = S m) : l = m := by
  have := congrArg (fun z : Str => z.cps.toList) h
  simpa [S] using this
theorem S_app (l m : List Nat) : S l ++ S m = S (l ++ m) := by
  show Str.append (S l) (S m) = S (l ++ m)
  simp [Str.append, S]
theorem S_mul (l : List Nat) (n : Int) : Txt.mul (S l) n = S (List.replicate n.toNat l).flatten := by
  unfold Txt.mul
  by_cases h1 : n < 1
  · rw [if_pos h1]
    have : n.toNat = 0 := by omega
    rw [this]
    rfl
  · rw [if_neg h1]
    by_cases h2 : (n == 1 || (S l).length == 0) = true
    · rw [if_pos h2]
      simp only [Bool.or_eq_true, beq_iff_eq] at h2
      rcases h2 with h2 | h2
      · subst h2
        show S l = S (List.replicate 1 l).flatten
        simp
      · rw [S_len] at h2
        have : l = [] := List.eq_nil_of_length_eq_zero h2
        subst this
        simp
    · rw [if_neg h2]
      have aux : ∀ (k : Nat) (a : Array Nat), ((List.replicate k (S l).cps).foldl (· ++ ·) a).toList = a.toList ++ (List.replicate k l).flatten := by
        intro k
        induction k with
        | zero => intro a; simp
        | succ k ih =>
          intro a
          rw [List.replicate_succ, List.foldl_cons, ih, List.replicate_succ, List.flatten_cons, Array.toList_append, List.append_assoc, S_list]
      have := aux n.toNat #[]
      unfold S
      congr 1
      apply Array.toList_inj.mp
      rw [show S l = (⟨l.toArray⟩ : Str) from rfl] at this
      rw [this]
      simp
theorem S_cut (l : List Nat) (lo hi : Option Int) : cutS (S l) lo hi = S ((l.drop (HT.sIx l.length 0 lo)).take (HT.sIx l.length l.length hi - HT.sIx l.length 0 lo)) := by
  unfold cutS
  rw [S_len, S_list]
  rfl
theorem S_take (l : List Nat) {m : Int} (h : 0 ≤ m) : cutS (S l) none (some m) = S (l.take m.toNat) := by
  obtain ⟨k, rfl⟩ := Int.eq_ofNat_of_zero_le h
  rw [S_cut, HT.sIx_none, HT.sIx_nat, List.drop_zero, Nat.sub_zero, Int.toNat_natCast]
  congr 1
  by_cases h2 : k ≤ l.length
  · rw [Nat.min_eq_left h2]
  · rw [Nat.min_eq_right (by omega), List.take_of_length_le (Nat.le_refl _), List.take_of_length_le (by omega)]
theorem S_drop (l : List Nat) {m : Int} (h : 0 ≤ m) : cutS (S l) (some m) none = S (l.drop m.toNat) := by
  obtain ⟨k, rfl⟩ := Int.eq_ofNat_of_zero_le h
  rw [S_cut, HT.sIx_none, HT.sIx_nat, Int.toNat_natCast]
  congr 1
  rw [List.take_of_length_le (by simp)]
  by_cases h2 : k ≤ l.length
  · rw [Nat.min_eq_left h2]
  · rw [Nat.min_eq_right (by omega), List.drop_length, List.drop_eq_nil_of_le (by omega)]
/-- a text times an int -/
theorem op_mul_str {X : Cx} : OpR X (binaryOp .Mult) (fun x y H Q => ∃ (l : List Nat) (n : Int), x = .str (S l) ∧ y = .int n ∧ 0 ≤ n ∧ n < 2 ^ 62 ∧ l.length * n.toNat ≤ 16777215 ∧ Q (.str (S (List.replicate n.toNat l).flatten)) H) := by
  intro pins s σ H x y v u Q I rx ry h
  obtain ⟨l, n, rfl, rfl, h0, h1, h2, q⟩ := h
  obtain ⟨t, rfl⟩ := rx
  obtain ⟨t', rfl⟩ := ry
  have e1 : decide (n < -(2 ^ 63 : Int)) = false := decide_eq_false (by omega)
  have e2 : decide (n ≥ 2 ^ 63) = false := decide_eq_false (by omega)
  refine SB.mul ⟨by rw [e1, e2]; rfl, fun z1 z2 => ?_, fun z1 z2 => ?_⟩ fun t' k => ⟨.str _, H, I.tok _, ⟨_, rfl⟩, by rw [S_mul]; exact q⟩
  · rw [S_len]
    have h3 : (l.length : Int) * n ≤ 16777215 := by
      have : ((l.length * n.toNat : Nat) : Int) ≤ 16777215 := Int.ofNat_le.mpr h2
      rw [Int.natCast_mul, Int.toNat_of_nonneg h0] at this
      exact this
    have hn : 0 < n := by omega
    intro hc
    have hc' : (2 ^ 63 - 1) / n < (l.length : Int) := hc
    have := (Int.ediv_lt_iff_lt_mul hn).mp hc'
    omega
  · rw [S_len]
    unfold Builtin.Str.tooLong
    rw [sizeLine_eq]
    exact decide_eq_false (by omega)
/-! ### the calls: a fraction by a letter -/
def called (v : Int × Int) (c : Nat) : Int × Int :=
  if c = 84 then (v.1 + v.2, v.2) else if c = 85 then (v.1 - v.2, v.2) else if 0 < v.1 then (0 - v.2, v.1) else if v.1 < 0 then (v.2, 0 - v.1) else (1, 0)
def run (v : Int × Int) (l : List Nat) : Int × Int := l.foldl called v
theorem run_nil (v : Int × Int) : run v [] = v := rfl
theorem run_app (v : Int × Int) (l m : List Nat) : run v (l ++ m) = run (run v l) m := List.foldl_append
theorem run_take {l : List Nat} {i c : Nat} (v : Int × Int) (h : l[i]? = some c) : run v (l.take (i + 1)) = called (run v (l.take i)) c := by
  rw [List.take_add_one, h, run_app]
  rfl
/-- what a fraction of the laws keeps: q positive or infinite, no common divisor -/
def Good (v : Int × Int) : Prop := (0 < v.2 ∨ v = (1, 0)) ∧ Int.gcd v.1 v.2 = 1
theorem Good.zero : Good (0, 1) := ⟨.inl (by decide), by decide⟩
theorem gcd_add' (p q : Int) : Int.gcd (p + q) q = Int.gcd p q := by
  have := Int.gcd_add_mul_right_left p q 1
  simpa using this
theorem Good.called {v : Int × Int} (h : Good v) (c : Nat) : Good (called v c) := by
  obtain ⟨p, q⟩ := v
  obtain ⟨h1, h2⟩ := h
  simp only at h1 h2
  unfold Rope.called
  by_cases c1 : c = 84
  · rw [if_pos c1]
    refine ⟨?_, ?_⟩
    · rcases h1 with h1 | h1
      · exact .inl h1
      · cases h1; exact .inr rfl
    · show Int.gcd (p + q) q = 1
      rw [gcd_add']; exact h2
  rw [if_neg c1]
  by_cases c2 : c = 85
  · rw [if_pos c2]
    refine ⟨?_, ?_⟩
    · rcases h1 with h1 | h1
      · exact .inl h1
      · cases h1; exact .inr rfl
    · show Int.gcd (p - q) q = 1
      have := gcd_add' (p - q) q
      rw [Int.sub_add_cancel] at this
      rw [← this]; exact h2
  rw [if_neg c2]
  by_cases c3 : 0 < p
  · rw [if_pos (show 0 < (p, q).1 from c3)]
    refine ⟨.inl c3, ?_⟩
    show Int.gcd (0 - q) p = 1
    rw [Int.zero_sub, Int.neg_gcd, Int.gcd_comm]; exact h2
  rw [if_neg (show ¬ 0 < (p, q).1 from c3)]
  by_cases c4 : p < 0
  · rw [if_pos (show (p, q).1 < 0 from c4)]
    refine ⟨.inl (by show 0 < 0 - p; omega), ?_⟩
    show Int.gcd q (0 - p) = 1
    rw [Int.zero_sub, Int.gcd_neg, Int.gcd_comm]; exact h2
  rw [if_neg (show ¬ (p, q).1 < 0 from c4)]
  exact ⟨.inr rfl, by decide⟩
theorem good_run : ∀ (l : List Nat) {v : Int × Int}, Good v → Good (run v l)
  | [], _, h => h
  | c :: r, _, h => good_run r (h.called c)
/-- its size grows by a bit a letter -/
theorem called_size {v : Int × Int} {n : Nat} (h1 : v.1.natAbs ≤ n) (h2 : v.2.natAbs ≤ n) (h0 : 1 ≤ n) (c : Nat) : (called v c).1.natAbs ≤ 2 * n ∧ (called v c).2.natAbs ≤ 2 * n := by
  unfold called
  repeat' split
  all_goals simp only
  all_goals omega
theorem run_size : ∀ (l : List Nat) {v : Int × Int} {n : Nat}, v.1.natAbs ≤ n → v.2.natAbs ≤ n → 1 ≤ n → (run v l).1.natAbs ≤ 2 ^ l.length * n ∧ (run v l).2.natAbs ≤ 2 ^ l.length * n
  | [], v, n, h1, h2, _ => by simpa [run] using ⟨h1, h2⟩
  | c :: r, v, n, h1, h2, h0 => by
    have q := called_size h1 h2 h0 c
    have ih := run_size r q.1 q.2 (by omega)
    have e : 2 ^ (c :: r).length * n = 2 ^ r.length * (2 * n) := by
      rw [List.length_cons, Nat.pow_succ, Nat.mul_assoc]
    rw [e]
    exact ih
/-! ### the divisor -/
theorem gcd_step (x y : Int) : Nat.gcd y.natAbs (x.fmod y).natAbs = Nat.gcd x.natAbs y.natAbs := by
  show Int.gcd y (x.fmod y) = Int.gcd x y
  have e : x.fmod y = x + y * (-(x.fdiv y)) := by
    have := Int.fmod_def x y
    rw [this, Int.mul_neg]
    rfl
  rw [e, Int.gcd_add_mul_left_right, Int.gcd_comm]
theorem fmod_less {x y : Int} (h : y ≠ 0) : (x.fmod y).natAbs < y.natAbs := by
  by_cases h0 : 0 < y
  · rw [Int.fmod_eq_emod_of_nonneg x (by omega)]
    have h1 := Int.emod_nonneg x h
    have h2 := Int.emod_lt_of_pos x h0
    omega
  · have e : x.fmod y = -((-x).fmod (-y)) := by
      have := Int.neg_fmod_neg (a := x) (b := y)
      omega
    rw [e, Int.fmod_eq_emod_of_nonneg _ (by omega)]
    have h1 := Int.emod_nonneg (-x) (b := -y) (by omega)
    have h2 := Int.emod_lt_of_pos (-x) (b := -y) (by omega)
    omega
/-- for letter in text -/
theorem for_str {l : List Nat} {g : TG} {tb : TS} {D : Ends} {σ : L2.St} {H : Hp} (Pv : Nat → L2.St → Hp → Prop) (h0 : Pv 0 σ H)
    (hs : ∀ i c σ H, l[i]? = some c → Pv i σ H → g (.str (S [c])) σ H fun σ2 H2 => tb { D with nx := Pv (i + 1), ct := Pv (i + 1), bk := D.nx } σ2 H2) (hd : ∀ σ H, Pv l.length σ H → D.nx σ H) :
    ∃ W : Nat → Nat → L2.St → Hp → Prop, (∃ m, W 0 m σ H) ∧ ∀ i m σ H, W i m σ H →
      ((Its (S l)).stop i H ∧ D.nx σ H) ∨ ((Its (S l)).go i H ∧ ∃ N : L2.St → Hp → Prop, (∀ σ' H', N σ' H' → ∃ m', m' < m ∧ W (i + 1) m' σ' H') ∧ ∀ x H', (Its (S l)).yld i H x H' → g x σ H' fun σ2 H2 => tb { D with nx := N, ct := N, bk := D.nx } σ2 H2) := by
  refine ⟨fun i m σ H => m = l.length - i ∧ i ≤ l.length ∧ Pv i σ H, ⟨l.length, by simp, Nat.zero_le _, h0⟩, ?_⟩
  rintro i m σ H ⟨rfl, hi, p⟩
  by_cases hlt : i < l.length
  · refine .inr ⟨by show i < (S l).cps.size; rw [S_size]; exact hlt, Pv (i + 1), fun σ' H' p' => ⟨l.length - (i + 1), by omega, rfl, hlt, p'⟩, fun x H' y => ?_⟩
    obtain ⟨e, c, hc, rfl⟩ := y
    subst e
    rw [S_get] at hc
    exact hs i c σ _ hc p
  · have e : i = l.length := by omega
    subst e
    exact .inl ⟨by show (S l).cps.size ≤ l.length; rw [S_size]; exact Nat.le_refl _, hd σ H p⟩

section
open PySem.F HotX
variable {prog : Program} {w : World} {A : Around} {E : Value → Shared → Prop} {s : Shared}
/-- the end of a list's walk while an exception is handled -/
theorem list_end_hot {it l x1 : Addr} {i : Nat} {items : Array Value} {Q : Option Value → Shared → Prop} (hot : HotAt A x1 s.heap) (hne : x1 ≠ it)
    (hit : s.heap.IsListIter it l i) (hl : s.heap.IsList l items) (hx : items[i]? = none)
    (hQ : ∀ h', Heap.ExtBut it s.heap h' → Q none { s with heap := h' }) : wpAny (model prog w) A (pyNext (.ref it)) Q E s := by
  obtain ⟨io, iAt, _, iDat⟩ := id hit
  obtain ⟨lo, lAt, _, ln, lDat⟩ := hl
  obtain ⟨he, xo, xv, xAt, xDat, xCtx⟩ := hot
  have typ := hit.typeIs
  unfold pyNext
  refine wpAny_bind (wpAny_attempt (wpAny_callSpecial?_slot (name := Str.ofString "__next__") typ slot_listiter_next (wpAny_call_entry slot_listiter_next typ entry_listiter_next ?body (args_listiter_next _))))
  -- the list, the place, the items: nothing is left
  show wpAny _ _ (field (.ref it) 0 >>= _) _ _ s; refine wpAny_bind (wpAny_field iAt iDat (x := .ref l) rfl ?_)
  show wpAny _ _ (if (Value.ref l == Value.none) = true then _ else _) _ _ s; rw [if_neg (show ¬ ((Value.ref l == Value.none) = true) from Bool.false_ne_true)]
  show wpAny _ _ (field (.ref it) 1 >>= _) _ _ s; refine wpAny_bind (wpAny_field iAt iDat (x := .int i 0) rfl ?_)
  show wpAny _ _ (seqItems? (.ref l) >>= _) _ _ s; refine wpAny_bind (wpAny_seqItems lAt lDat ?_); simp only [Int.toNat_natCast, hx]
  refine wpAny_bind (wpAny_rule (wpAny_bind (wpAny_setField iAt iDat (by simp) ?stop)))
  -- StopIteration is made and raised on top of the one that is handled
  show wpAny _ _ (newExc (.type "StopIteration") [] >>= _) _ _ _; refine wpAny_bind ?_; simp only [newExc, newTuple]
  refine wpAny_bind (wpAny_newObj_type (wpAny_bind (m := firstArgMember _ _) (wpAny_of_eq (a := Value.none) (by first | rfl | (simp only [firstArgMember]; rfl)) (wpAny_newObj_type ?_ (by size_fits)))) (by size_fits))
  have kept := (Heap.get?_update_other s.heap (Obj.mapFields (·.setIfInBounds 0 .none)) hne.symm).trans xAt
  have far := Heap.lt_size (Heap.get?_push_of_some { cls := .type "tuple", data := .seq #[] } kept)
  refine raiseNew_hot ⟨he, xo, xv, Heap.get?_push_of_some _ (Heap.get?_push_of_some _ kept), xDat, xCtx⟩ (Nat.ne_of_lt far) (Heap.get?_push_size _ rfl) rfl (by first | (simp; done) | (simp; omega) | (simp only [Array.size_append]; simp; omega)) ?_
  refine wpAny_bind (wpAny_isInstance (T := "StopIteration") (b := true) ⟨_, Heap.get?_update_self _ (Heap.get?_push_size _ rfl) rfl, rfl⟩ isSubtype_stop (wpAny_pure (hQ _ fun c u hc e => ?_)))
  have e2 := (Heap.SameBut.update s.heap it (Obj.mapFields (·.setIfInBounds 0 .none))).extBut c u hc e
  have e3 := Heap.get?_push_of_some { cls := .type "tuple", data := .seq #[] } e2
  exact (Heap.get?_update_other _ _ (Nat.ne_of_gt (Heap.lt_size e3))).trans (Heap.get?_push_of_some _ e3)
end
/-- a list walked while an exception is handled -/
theorem walks_list_hot {prog : Program} {w : World} {A : Around} {x1 : Addr} {o1 : Obj} {vs1 : Array Value} (hh : A.handled = some (.ref x1)) (d1 : o1.data = .fields vs1) (c1 : vs1[2]? = some .none) (I ax : Addr) (hne : ax ≠ I) (h1I : x1 ≠ I) (items : Array Value) :
    Walks prog w A I [I, ax, x1] [I] items.size (fun i v => items[i]? = some v) (fun i h => h.IsListIter I ax i ∧ h.IsList ax items ∧ h.get? x1 = some o1) where
  sub := fun b hb => by simp at hb; simp [hb]
  frame := fun _ _ _ st hk => ⟨st.1.at fun o e => hk I (by simp) o e, st.2.1.at fun o e => hk ax (by simp) o e, hk x1 (by simp) _ st.2.2⟩
  item := fun i s Q E hi st hQ => by
    exact wpAny_pyNext_list_item st.1 st.2.1 (x := items[i]) (by simp [hi]) fun h' hit' hs' => hQ _ h' s.toks (by simp [hi]) ⟨hit', st.2.1.extBut hs'.extBut hne, hs'.extBut x1 _ h1I st.2.2⟩ fun b o hb e => hs'.extBut b o (fun h => hb (by simp [h])) e
  done := fun s Q E st hQ => list_end_hot ⟨hh, o1, vs1, st.2.2, d1, c1⟩ h1I st.1 st.2.1 (by simp) fun h' he' => hQ h' s.toks fun b o hb e => he' b o (fun h => hb (by simp [h])) e
  self := fun _ _ _ _ st hQ => wpAny_pyIter_listiter st.1 hQ
section
variable {X : Cx} {a : Addr} {oe : Obj} {cls : Value} {d : Option Addr} {pn : List (Addr × Obj)}
/-- any(list of bools) within an except suite -/
theorem any_hot (hz : L2N.Zn cls d oe) (hf : ∃ vs, oe.data = .fields vs) : CallR (X.suite a ((a, oe) :: pn)) (.builtin "any") (rAny X.K) := fun pins s σ H vs us Q I r ⟨b, bs, ev, hs, q⟩ => by
  subst ev
  obtain ⟨its, rv, hl, _⟩ := Inv.list I hs
  obtain ⟨fv, hd⟩ := hf
  have here := (I.pin (a, oe) (List.mem_append_left _ List.mem_cons_self)).1
  have lt := Heap.lt_size here
  rw [Vals.ref1 r]
  have items := rv.bls
  refine call_any_walk (iter_any hl.isList fun z ez st ne => ?_); subst ez
  refine ⟨_, _, _, _, _, _, _, rfl, walks_list_hot (A := (X.suite a ((a, oe) :: pn)).A.in1) (x1 := a) (o1 := oe) rfl hd (hz.2.2 fv hd) _ b ne (Nat.ne_of_lt lt) its.toArray, ⟨st.1, st.2, Heap.get?_push_of_some _ here⟩, truth_bools items, fun h' tk hk => ?_⟩
  have all : ∀ c u, s.heap.get? c = some u → h'.get? c = some u := fun c u e => hk c u (fun m => by
    rw [List.mem_singleton.mp m] at e
    exact Nat.lt_irrefl _ (Heap.lt_size e)) (Heap.get?_push_of_some _ e)
  refine ⟨.bl (bs.any id), H, I.kept all, ?_, q⟩
  show Value.bool ((List.range its.toArray.size).any fun i => bs.getD i false) = .bool (bs.any id)
  rw [← any_range, items, List.size_toArray, List.length_map]
/-- isinstance(e, c) of the error that the suite holds -/
def rIsF (K : PySem.W.Frag) (D a : Addr) (cls : Value) (d : Option Addr) : List V → Hp → VK → Prop := fun xs H Q => cls = .ref D ∧ d = none ∧ rIsE K D a xs H Q
theorem call_isF {D : Addr} (C : ExcC X.K D) (hz : L2N.Zn cls d oe) (hf : ∃ vs, oe.data = .fields vs) : CallR (X.suite a ((a, oe) :: pn)) (.builtin "isinstance") (rIsF X.K D a cls d) := by
  intro pins s σ H xs us Q I r h
  obtain ⟨rfl, rfl, h⟩ := h
  exact call_isE C hz.zc hf pins s σ H xs us Q I r h
end
theorem takes0N {X : Cx} : L2N.Takes X (fun _ _ _ _ => False) := fun _ _ ⟨_, _, _, _, _, _, _, _, _, _, _, _, _, _, _, _, no⟩ => False.elim no
theorem okX {P : Program} {w : World} {K : PySem.W.Frag} {mg : Str → Option Value} {base : Heap} {x qual : Str} {st : Stmt} {f : Addr} {fd : FuncData} {N ps : List Str} {k : Nat} {sp : Sp} (F : Fun K x qual st f fd) (S : FnScope N ps (defScope st)) (len : ∀ vs H Q E, sp vs H Q E → vs.length = ps.length)
    (hbody : ∀ (cdv : Value) (A : Around) (outer : List Env) (s : Shared) (H : Hp) (vs : List V) (Q : VK) (E : XK), Room k (A.deeper (PyProof.Rows.envOfC qual (defScope st) s.heap.objs.size f cdv)) → sp vs H Q E →
      ∃ t, PSs (cxOf (L2N.CX P w) P w K mg base N qual (defScope st) f cdv A outer s H E) (defBody st) t ∧ t { nx := fun _ H' => Q .non H', rt := Q } (start N vs) H) : FnOk P w K mg base (L2N.CX P w) (k + 1) f fd ps sp := by
  obtain ⟨_, _, _, _, _, _, cdv, _, _, rfl, lk, hcd⟩ := F.ex
  exact fn_of lk hcd S len (hbody cdv)
/-! ### an error class of the program -/
structure Err (K : PySem.W.Frag) (mg : Str → Option Value) (x : Str) (C : Addr) : Prop where
  g : mg x = some (.ref C)
  x : PySem.W.excIn K C [.type "ValueError", .type "Exception", .type "BaseException", .type "object"] "ValueError.__new__" = true
  k : PySem.W.keepIn K (.ref C) = true
  b : PySem.W.subIn K (.ref C) (.type "BaseException") = some true
  t : PySem.W.typeIn K (.ref C) = some (.type "type")
  hd : PySem.W.hasDictIn K C = true
  hg : PySem.W.findIn K (.ref C) "__getattribute__" = some (some (.builtin "BaseException.__getattribute__"))
  hk : PySem.W.findIn K (.ref C) "__getattr__" = some none
  ha : PySem.W.findIn K (.ref C) "__class__" = some (some (.builtin "object.__class__"))
  hm : PySem.W.mroIn K C (.type "object") = some true
theorem Err.c {K : PySem.W.Frag} {mg : Str → Option Value} {x : Str} {C : Addr} (e : Err K mg x C) (hn : PySem.W.specialIn K (.builtin "object.__class__") "__get__" = some (some (.builtin "getset_descriptor.__get__"))) (ht : PySem.W.takesIn K (.builtin "object.__class__") = some true) : ExcC K C :=
  ⟨e.hg, e.hk, e.b, e.hd, e.ha, hn, ht, e.hm⟩
/-- // of great ints, of any sign -/
theorem op_fdivWN {X : Cx} : OpR X (binaryOp .FloorDiv) (rI (fun _ j => j ≠ 0 ∧ j.natAbs.log2 < 9000) fun i j => .int (i.fdiv j)) := opI fun i j _ _ _ _ _ hc q =>
  PyProof.Rows.floordiv_int hc.1 q (.inl (PyProof.noPylong_of_log2 hc.2))

/-! ### text[::-1] -/
theorem rev_pick (l : List Nat) (t : Tok) (a : Tok) : sliceMade (S l) t none none (some (-1, a)) = Made.str (S l.reverse) := by
  have hs : slicePicked (S l) none none (some (-1, a)) = (List.range l.length).reverse := by
    show sliceRange (((S l).length : Int) - 1) (-1) (-1) = _
    rw [S_len, PySem.W.krv_sliceRange, PySem.W.krv_range]
  have hf : ((List.range l.length).reverse.filterMap ((S l).cps[·]?)) = l.reverse := by
    rw [List.filterMap_reverse]
    congr 1
    have : ∀ m : List Nat, (List.range m.length).filterMap (fun i => m[i]?) = m := fun m => by
      induction m with
      | nil => rfl
      | cons c r ih =>
        rw [List.length_cons, List.range_succ_eq_map, List.filterMap_cons, List.filterMap_map]
        show c :: (List.range r.length).filterMap (fun i => r[i]?) = c :: r
        rw [ih]
    have h2 : (fun i => (S l).cps[i]?) = fun i => l[i]? := funext fun i => S_get l i
    rw [h2]
    exact this l
  unfold sliceMade
  rw [hs, hf]
  rfl
def tRevS (te : TE) : TE := fun σ H Q => te σ H fun x H1 => ∃ l : List Nat, x = .str (S l) ∧ l.length ≤ 16777216 ∧ Q (.str (S l.reverse)) H1
theorem pe_revS {X : Cx} {e : Expr} {te : TE} {k : Nat} {p1 p2 p3 pos : Pos} (he : PE X e te) : PE X (.Subscript e (.Slice none none (some (.UnaryOp .USub (.Constant (.int 1) k p1) p2)) p3) pos) (tRevS te) := by
  constructor
  intro pins s σ H Q I hyp
  apply PyProof.Rows.Subscript_
  refine thn (he.run pins s σ H _ I hyp) fun v s1 ⟨x, H1, I1, r1, l, ex, hl, q⟩ => ?_
  subst ex
  obtain ⟨tk, rfl⟩ := r1
  have minus : PO X (some (.UnaryOp .USub (.Constant (.int 1) k p1) p2)) (tPart (tUn (rU fun i => .int (-i)) (tC (.int 1)))) := po_some (pe_un un_neg pe_int)
  apply wpAny_Slice
  refine thn (po_none.run pins s1 σ H1 (fun o G => o = none ∧ G = H1) I1 ⟨rfl, rfl⟩) fun v1 s2 ⟨o1, G1, J1, a1, b1, c1⟩ => ?_
  subst b1; subst c1
  refine thn (po_none.run pins s2 σ G1 (fun o G => o = none ∧ G = G1) J1 ⟨rfl, rfl⟩) fun v2 s3 ⟨o2, G2, J2, a2, b2, c2⟩ => ?_
  subst b2; subst c2
  refine thn (minus.run pins s3 σ G2 (fun o G => o = some (-1) ∧ G = G2) J2 ⟨1, rfl, -1, rfl, rfl, rfl⟩) fun v3 s4 ⟨o3, G3, J3, a3, b3, c3⟩ => ?_
  subst b3; subst c3
  obtain ⟨y1, rfl, g1⟩ := IsPart.raw a1
  obtain ⟨y2, rfl, g2⟩ := IsPart.raw a2
  obtain ⟨y3, rfl, g3⟩ := IsPart.raw a3
  cases y1 with
  | some z => cases g1
  | none =>
  cases y2 with
  | some z => cases g2
  | none =>
  cases y3 with
  | none => cases g3
  | some z =>
  obtain ⟨z1, z2⟩ := z
  have ez : z1 = -1 := Option.some.inj g3
  subst ez
  show wpAny (model X.prog X.w) X.A (PyProof.Rows.subscriptTail e (.Slice none none (some (.UnaryOp .USub (.Constant (.int 1) k p1) p2)) p3) (.str (S l) tk) (.ref s4.heap.objs.size)) (EP X pins σ Q) X.xe { s4 with heap := s4.heap.push { cls := .type "slice", data := .fields #[partValue none, partValue none, partValue (some (-1, z2))] } }
  refine PyProof.Rows.tail_any (ops := [.str (S l) tk, .ref s4.heap.objs.size]) (typeIs_str _ _ _) PySem.F.slot_str_getitem.lookup ?_ (by with_unfolding_all rfl)
  refine wpAny_getItem_str_slice (l := none) (u := none) (st := some (-1, z2)) ⟨_, Heap.get?_push_size _ rfl, rfl, rfl⟩ (by rfl) ?_
  rw [rev_pick]
  exact ⟨by rw [S_len, List.length_reverse, sizeLine_eq]; exact hl, .str _, _, J3.kept (t' := s4.toks + 1) fun b ob w => Heap.get?_push_of_some _ w, ⟨_, rfl⟩, q⟩
/-! ### all(test for x in text), where the test may read what the top has written -/
section
open GxR
variable {X : Cx} {pins : List (Addr × Obj)} {σ : L2.St} {H : Hp} {s : Shared}
def EltG (X : Cx) (scope : Scope) (x : Str) (elt : Expr) (pb : Nat → Bool) : Prop :=
  ∀ (cenv : Env) (A' : Around) (E' : Value → Shared → Prop) (c : Nat) (t : Tok) (z : Shared) (m : Str → Option Value), X.Ok → cenv.scope = scope → cenv.globals = X.env.globals → (∀ b o, X.base.get? b = some o → z.heap.get? b = some o) →
    z.heap.Ns cenv.locals m → m x = some (.str ⟨#[c]⟩ t) → wpAny (model X.prog X.w) A' (eval elt cenv) (fun y z' => y = .bool (pb c) ∧ Keeps z z') E' z
theorem tbl_not {H : Hp} {P : Addr} {ps : Array Value} (hP : H P = some (.tbl ps)) {b : Addr} (h : H b = none) : b ≠ P := fun z => by rw [z, hP] at h; cases h
theorem gen_go {c P : Addr} {elt : Expr} {x : Str} {scope : Scope} {pb : Nat → Bool} {k : Nat} {Q' : Value → Shared → Prop} {a : Str} {o : Obj} {St : Nat → Heap → Prop} {ps : Array Value}
    (hr : Room k X.A) (TB : TabB X.base X.mg c P) (sc : GenS X.env scope x) (hel : EltG X scope x elt pb) (J : L2.Inv X pins σ H s) (hP : H P = some (.tbl ps)) (atP : s.heap.get? P = some { cls := .none, data := .fields ps }) (ltP : P < s.heap.objs.size)
    (W : ∀ A' : Around, A'.handled = none → Walks X.prog X.w A' s.heap.objs.size [s.heap.objs.size] [s.heap.objs.size] a.cps.size (SignAt a) St) (st0 : St 0 (s.heap.push o)) (code : Value) (h3 : Heap) (tk : Nat) (ps' more : Array Value) (em : ps' = ps ++ more)
    (hx : Heap.ExtBut P (s.heap.push o) h3) (hsz : (s.heap.push o).objs.size ≤ h3.objs.size) (h3P : h3.get? P = some { cls := .none, data := .fields ps' }) (ok' : TriplesOk ps'.toList) (lim : (s.heap.push o).NoLimit) (hQ : ∀ g z, Ready X pins σ H P a pb g z → Q' (.ref g) z) :
    wpAny (model X.prog X.w) X.A (builtinsFor X.env.globals X.env.builtins) (fun bi s₄ =>
      ∃ Ia fp wr n₀ Pf St₀ pz F, Value.ref s.heap.objs.size = .ref Ia ∧ (∀ A' : Around, A'.handled = none → Walks X.prog X.w A' Ia fp wr n₀ Pf St₀) ∧ St₀ 0 s₄.heap ∧ (∀ b ∈ fp, b < s₄.heap.objs.size) ∧ s₄.heap.NoLimit ∧ cStatics ∉ wr ∧
        (∀ href : Heap, (∀ b u, s₄.heap.get? b = some u → href.get? b = some u) → QuietGen X.prog X.w (genEnv scope (cloFrom X.env.cells scope.names []) s₄.heap.objs.size code bi X.env) x [] elt (List.range s₄.heap.objs.size) wr Pf pz F href) ∧
        (∀ g h₅ tk gs, gs.bare = true → s₄.heap.objs.size < g → h₅.objs.size = g + 1 → (∀ b u, s₄.heap.get? b = some u → h₅.get? b = some u) →
          WalksS X.prog X.w X.A.in4 g (g :: s₄.heap.objs.size :: List.range s₄.heap.objs.size) (s₄.heap.objs.size :: wr) (GenOnlyQ s₄.gens.size) (passing pz n₀ 0).length (fun j y => ∃ i, (passing pz n₀ 0)[j]? = some i ∧ F i y) (GenAt X.prog X.w X.A.in4 g s₄.gens.size s₄.heap.objs.size (List.range s₄.heap.objs.size) wr pz n₀ F) →
          GenAt X.prog X.w X.A.in4 g s₄.gens.size s₄.heap.objs.size (List.range s₄.heap.objs.size) wr pz n₀ F 0 { s₄ with gens := s₄.gens.push gs, toks := tk, heap := h₅ } → Q' (.ref g) { s₄ with gens := s₄.gens.push gs, toks := tk, heap := h₅ })) X.xe { s with heap := h3, toks := tk } := by
  obtain ⟨bm, ob, q1, q2, q3, q4, q5, q6, q7, q8⟩ := TB.bm
  obtain ⟨cm, cns, cnn⟩ := J.nolimit
  have cP : cStatics ≠ P := fun z => by
    obtain ⟨o2, es, ep, g1, g2, _⟩ := cns
    rw [z, atP] at g1
    cases g1
    cases g2
  have cL : cStatics < s.heap.objs.size := cns.lt
  have big : (s.heap.push o).objs.size = s.heap.objs.size + 1 := Heap.size_push ..
  have kept : ∀ b u, b ≠ P → s.heap.get? b = some u → h3.get? b = some u := fun b u n e => hx b u n (Heap.get?_push_of_some _ e)
  have bases : ∀ b u, X.base.get? b = some u → h3.get? b = some u := fun b u e => kept b u (tbl_not hP (J.bs b u e).2) (J.bk b u e)
  refine wpAny_builtinsFor (m := X.mg) (by rw [J.ok.glob]; exact J.mod.glob.keeps bases) q1 q2 (bases _ _ q5) q6 q7 q8 ?_
  refine ⟨s.heap.objs.size, [s.heap.objs.size], [s.heap.objs.size], a.cps.size, SignAt a, St, fun _ => true, fun i y => ∃ cc, a.cps[i]? = some cc ∧ y = .bool (pb cc), rfl, W, ?_, ?_, lim.extBut hx cP, ?_, ?_, ?_⟩
  · refine (W X.A hr.hd).frame _ _ _ st0 fun b hb u e => hx b u ?_ e
    rw [List.mem_singleton.mp hb]
    exact Nat.ne_of_gt ltP
  · intro b hb
    rw [List.mem_singleton.mp hb]
    exact Nat.lt_of_lt_of_le (by rw [big]; exact Nat.lt_succ_self _) hsz
  · rw [List.mem_singleton]
    exact Nat.ne_of_lt cL
  · intro href hh
    refine ⟨fun A' E' i v s₂ m₂ _ _ _ _ _ => ?_, fun A' E' i v s₂ m₂ _ hv _ hn hm hk => ?_⟩
    · rw [List.forIn_nil]
      exact wpAny_pure ⟨rfl, keeps_refl s₂⟩
    · obtain ⟨cc, u, hcc, rfl⟩ := hv
      refine wpAny_mono (hel _ A' E' cc u s₂ m₂ J.ok rfl rfl (fun b w e => ?_) hn hm) (fun y z r => ⟨⟨cc, hcc, r.1⟩, r.2⟩) fun _ _ e => e
      have lb := Heap.lt_size (J.bk b w e)
      exact hk b (List.mem_range.mpr (Nat.lt_of_lt_of_le (Nat.lt_of_lt_of_le lb (by rw [big]; exact Nat.le_succ _)) hsz)) (by rw [List.mem_singleton]; exact Nat.ne_of_lt lb) w (hh b w (bases b w e))
  · intro g h5 tk5 gs bare _ _ _ W5 at5
    have W6 := W5
    simp only [GxR.passing_true, List.length_range] at W6
    refine hQ g _ ⟨_, _, _, _, _, W6.in4_1, at5, fun j y sj Qj Ej hy hq => ?_, fun z mv => ?_⟩
    · obtain ⟨i, hi, cc, hcc, rfl⟩ := hy
      obtain ⟨_, ei⟩ := List.getElem?_eq_some_iff.mp hi
      rw [List.getElem_range] at ei
      subst ei
      have hq' : Qj (trF pb a.cps.toList j) sj := hq
      rw [trF_some (show a.cps.toList[j]? = some cc by rw [Array.getElem?_toList]; exact hcc)] at hq'
      exact wpAny_truthy_bool hq'
    · have off : ∀ b u, s.heap.get? b = some u → b ∉ h3.objs.size :: [s.heap.objs.size] := fun b u e hb => by
        have l1 := Heap.lt_size e
        have l2 : s.heap.objs.size < h3.objs.size := Nat.lt_of_lt_of_le (by rw [big]; exact Nat.lt_succ_self _) hsz
        rcases List.mem_cons.mp hb with r | r
        · rw [r] at l1; exact absurd (Nat.lt_trans l1 l2) (Nat.lt_irrefl _)
        · rw [List.mem_singleton.mp r] at l1; exact absurd l1 (Nat.lt_irrefl _)
      have five : ∀ b u, h3.get? b = some u → h5.get? b = some u := by assumption
      have L := inv_tab (more := more) (h' := z.heap) (g' := z.gens) (d' := z.drawn) (t' := z.toks) J hP (fun b u n e => mv.heap b u (off b u e) (five b u (kept b u n e))) (by rw [← em]; exact mv.heap P _ (off P _ atP) (five P _ h3P)) (PyProof.Rows.AllBare.movedS (J.bare.push bare) mv)
      rw [sh_eta s z mv.os] at L
      exact ⟨upd H P (.tbl (ps ++ more)), ⟨⟨ps ++ more, upd_same, by rw [← em]; exact ok'⟩, fun b n => upd_ne n⟩, L⟩
theorem gen_signs {c P : Addr} {elt iter : Expr} {x : Str} {px gpos : Pos} {scope : Scope} {pb : Nat → Bool} {te : TE} {k : Nat} {Q' : Value → Shared → Prop} {R : Str → Hp → Prop}
    (hr : Room k X.A) (TB : TabB X.base X.mg c P) (hcode : X.env.code = .ref c) (sc : GenS X.env scope x) (hi : PE X iter te) (hel : EltG X scope x elt pb) (hs : ∀ v, genFold iter X.env v = pure v)
    (I : L2.Inv X pins σ H s) (h : te σ H fun v G => ∃ a : Str, v = .str a ∧ TabG G P ∧ R a G) (hQ : ∀ a G g z, R a G → Ready X pins σ G P a pb g z → Q' (.ref g) z) :
    wpAny (model X.prog X.w) X.A (eval (.GeneratorExp elt [⟨.Name x px, iter, [], 0⟩] scope gpos) X.env) Q' X.xe s := by
  have room : X.A.depth < recursionLimit := by have := hr.dp; omega
  refine wpAny_GeneratorExp_walksQ hr.hd sc.co (closure_ok sc.free) sc.cell sc.dot sc.loc sc.kind room (thn (hi.run pins s σ H _ I h) fun u s1 ⟨v, G, J, rv, a, ev, ⟨ps, hP, ok⟩, hR⟩ => ?_) hs
  subst ev
  obtain ⟨t, rfl⟩ := id rv
  refine wpAny_pyIter_str fun o St W st0 => ?_
  -- the table, the sizes, what is kept
  have atP : s1.heap.get? P = some { cls := .none, data := .fields ps } := J.hok P _ hP
  have ltP : P < s1.heap.objs.size := Heap.lt_size atP
  have atP' : (s1.heap.push o).get? P = some { cls := .none, data := .fields ps } := Heap.get?_push_of_some _ atP
  have cd : PySem.W.CodeHd (s1.heap.push o) c P := TB.code.keeps fun b w e => Heap.get?_push_of_some _ (J.bk b w e)
  have lim : (s1.heap.push o).NoLimit := J.nolimit.push o
  have next : ∀ (code : Value) (h3 : Heap) (tk : Nat) (ps' more : Array Value), ps' = ps ++ more → Heap.ExtBut P (s1.heap.push o) h3 → (s1.heap.push o).objs.size ≤ h3.objs.size → h3.get? P = some { cls := .none, data := .fields ps' } → TriplesOk ps'.toList → _ :=
    fun code h3 tk ps' more em hx hsz h3P ok' => gen_go (elt := elt) hr TB sc hel J hP atP ltP W st0 code h3 tk ps' more em hx hsz h3P ok' lim fun g z rd => hQ a G g z hR rd
  refine ⟨lim, ?_⟩
  cases hf : codeAmong gpos ps.toList with
  | some cv => exact wpAny_genexprCode_hit hcode (cd.code atP' ok) hf (next cv (s1.heap.push o) s1.toks ps #[] (by simp) (Heap.ExtBut.refl _ _) (Nat.le_refl _) atP' ok)
  | none =>
    refine wpAny_genexprCodeX hcode (cd.code atP' ok) (cd.tab atP') hf fun c' h' tk hx hge hlt hco' _ htab' _ => ?_
    obtain ⟨o1, vs, f1, tf, fl, tg, inF, tx, tt, op, _, _, _, _, _, _, _, _, _, htr, _⟩ := hco'
    exact next _ h' tk _ _ rfl hx (Nat.le_trans hge (Nat.le_of_lt hlt)) htab'.2 htr
theorem pe_allG {c P : Addr} {elt iter : Expr} {x : Str} {px p pos gpos : Pos} {scope : Scope} {pb : Nat → Bool} {te : TE} {k : Nat} (hr : Room k X.A) (hg : Gl X "all") (hm : X.mg "all" = none) (TB : TabB X.base X.mg c P) (hcode : X.env.code = .ref c)
    (sc : GenS X.env scope x) (hi : PE X iter te) (hel : EltG X scope x elt pb) (hs : ∀ v, genFold iter X.env v = pure v)
    (he : starEach [.GeneratorExp elt [⟨.Name x px, iter, [], 0⟩] scope gpos] X.env = (false, eval (.GeneratorExp elt [⟨.Name x px, iter, [], 0⟩] scope gpos) X.env) :: starEach [] X.env := by rfl) :
    PE X (.Call (.Name "all" p) [.GeneratorExp elt [⟨.Name x px, iter, [], 0⟩] scope gpos] [] pos) (tAllS P pb te) := by
  constructor
  intro pins s σ H Q I hyp
  have hb : bootBuiltins "all" = some (.builtin "all") := by decide +kernel
  refine wpAny_Call_Name_kw (ld_blt I hg hm hb (PyProof.Rows.callWith_builtin1 ?_ he (by rfl)))
  rw [he]
  show wpAny _ _ (spliced ((false, eval (.GeneratorExp elt [⟨.Name x px, iter, [], 0⟩] scope gpos) X.env) :: backTo pos (starEach [] X.env))) _ _ s
  refine Calls.spliced_cons (gen_signs (R := fun a G => ∀ G', Tabbed P G G' → Q (.bl (a.cps.toList.all pb)) G') hr TB hcode sc hi hel hs I hyp fun a G g z hR rd => Calls.spliced_nil ?_)
  obtain ⟨fp, wr, Gs, F, St, W, st, tr, done⟩ := rd
  refine call_all_walkS (W.self 0 _ _ _ st ⟨g, fp, wr, Gs, _, F, St, _, rfl, W, st, tr, fun z' mv => ?_⟩)
  obtain ⟨G', tb, L⟩ := done z' mv
  refine ⟨.bl _, G', L, rfl, ?_⟩
  rw [all_signs a pb]
  exact hR G' tb
/-- x in D, D a dict that the top has written -/
theorem elt_in {scope : Scope} {x y : Str} {pb : Nat → Bool} {d : Addr} {es : Array DictEntry} {n : Nat} {p1 p2 p3 : Pos} (D : KDict X.K X.w d es n) (gy : X.mg y = some (.ref d)) (hp : ∀ c, ∃ r, PySem.W.nsIn X.K d (S [c]) = some r ∧ r.isSome = pb c)
    (hk : scope.kind = .function) (hl : scope.names.lookup x = some .local) (hy : scope.names.lookup y = some .globalImplicit) (hd : (x == ("__debug__" : Str)) = false := by decide) (hd2 : (y == ("__debug__" : Str)) = false := by decide) :
    EltG X scope x (.Compare (.Name x p1) [.In] [.Name y p2] p3) pb := by
  intro cenv A' E' c t z m ok hs hg hb hn hm
  have kind : cenv.scope.kind = .function := by rw [hs]; exact hk
  refine wpAny_Compare1 (wpAny_Name (wpAny_loadName_local kind (show cenv.scope.names.lookup x = some .local by rw [hs]; exact hl) hn hm ?_) hd)
  refine Calls.Name_function_global kind (show cenv.scope.names.lookup y = some .globalImplicit by rw [hs]; exact hy) (Calls.loadGlobal_global (by rw [hg, ok.glob]; exact ok.mod.glob.keeps hb) gy ?_) hd2
  obtain ⟨r, e1, e2⟩ := hp c
  refine wpAny_in_of (PySem.strKind_is X.prog X.w (S [c]) t) D.low (PySem.W.mapOf_K (prog := X.prog) (ok.mod.kin.keeps hb) D.at_ D.lit) ?_
  rw [PySem.W.find_K D.at_ e1, e2]
  exact ⟨rfl, keeps_tok _ _⟩
end
/-! ### ''.join of texts, comprehensions over a text -/
theorem join_empty (ys : List (List Nat)) : Txt.join (S []) (ys.map S) = S ys.flatten := by
  have go : ∀ (zs : List (List Nat)) (a : Array Nat), ((zs.map S).foldl (fun acc p => acc ++ (S []).cps ++ p.cps) a).toList = a.toList ++ zs.flatten := by
    intro zs
    induction zs with
    | nil => intro a; simp
    | cons z r ih =>
      intro a
      rw [List.map_cons, List.foldl_cons, ih]
      simp [S]
  show Builtin.Str.glued (S []) (ys.map S) = _
  unfold Builtin.Str.glued
  cases ys with
  | nil => rfl
  | cons y r =>
    have := go r (S y).cps
    show (⟨(r.map S).foldl (fun acc p => acc ++ (S []).cps ++ p.cps) (S y).cps⟩ : Str) = _
    unfold S at this ⊢
    congr 1
    apply Array.toList_inj.mp
    rw [this]
    simp
theorem join_signs (l : List Nat) : Txt.join (S []) (l.map fun c => S [c]) = S l := by
  have := join_empty (l.map fun c => [c])
  rw [List.map_map] at this
  rw [show (l.map fun c => S [c]) = l.map (S ∘ fun c => [c]) from rfl, this]
  congr 1
  induction l with
  | nil => rfl
  | cons c r ih => rw [List.map_cons, List.flatten_cons, ih (join_empty _ |>.trans rfl |> fun h => by rw [List.map_map] at h; exact h)]; rfl
theorem sum_ones (l : List Nat) : ((l.map fun c => S [c]).map (·.length)).sum = l.length := by
  induction l with
  | nil => rfl
  | cons c r ih =>
    rw [List.map_cons, List.map_cons, List.sum_cons, ih, S_len, List.length_cons]
    show 1 + r.length = r.length + 1
    omega
theorem lc_str {l : List Nat} {g : TG} {tt : TT} {te : TE} {vs : List Nat} {σ : L2.St} {H1 : Hp} {D : Addr} {Qd : Hp → Prop} (Pv : Nat → Hp → Prop) (h0 : Pv 0 (upd H1 D (.lst [])))
    (hs : ∀ i c H, l[i]? = some c → Pv i H → g (.str (S [c])) (wipe σ vs) H fun σ2 H2 => wipe σ2 vs = wipe σ vs ∧ tt σ2 H2 fun b H3 =>
      if b = true then te σ2 H3 fun y H4 => ∃ acc, H4 D = some (.lst acc) ∧ acc.length < sizeLine ∧ Pv (i + 1) (upd H4 D (.lst (acc ++ [y]))) else Pv (i + 1) H3) (hd : ∀ H, Pv l.length H → Qd H) :
    ∃ W : Nat → Nat → Hp → Prop, (∃ m, W 0 m (upd H1 D (.lst []))) ∧ ∀ i m H, W i m H →
      ((Its (S l)).stop i H ∧ Qd H) ∨ ((Its (S l)).go i H ∧ ∃ Nx : Hp → Prop, (∀ H', Nx H' → ∃ m', m' < m ∧ W (i + 1) m' H') ∧ ∀ x H', (Its (S l)).yld i H x H' → g x (wipe σ vs) H' fun σ2 H2 => wipe σ2 vs = wipe σ vs ∧ tt σ2 H2 fun b H3 =>
        if b = true then te σ2 H3 fun y H4 => ∃ acc, H4 D = some (.lst acc) ∧ acc.length < sizeLine ∧ Nx (upd H4 D (.lst (acc ++ [y]))) else Nx H3) := by
  refine ⟨fun i m H => m = l.length - i ∧ i ≤ l.length ∧ Pv i H, ⟨l.length, by simp, Nat.zero_le _, h0⟩, ?_⟩
  rintro i m H ⟨rfl, hi, p⟩
  by_cases hlt : i < l.length
  · refine .inr ⟨by show i < (S l).cps.size; rw [S_size]; exact hlt, Pv (i + 1), fun H' p' => ⟨l.length - (i + 1), by omega, rfl, hlt, p'⟩, fun x H' y => ?_⟩
    obtain ⟨e, c, hc, rfl⟩ := y
    subst e
    rw [S_get] at hc
    exact hs i c _ hc p
  · have e : i = l.length := by omega
    subst e
    exact .inl ⟨by show (S l).cps.size ≤ l.length; rw [S_size]; exact Nat.le_refl _, hd H p⟩
/-- a def whose code object is told -/
theorem okC {P : Program} {w : World} {K : PySem.W.Frag} {mg : Str → Option Value} {base : Heap} {x qual : Str} {st : Stmt} {f c : Addr} {fd : FuncData} {N ps : List Str} {k : Nat} {sp : Sp} (F : Fun K x qual st f fd) (hc : fd.code = .ref c) (S : FnScope N ps (defScope st)) (len : ∀ vs H Q E, sp vs H Q E → vs.length = ps.length)
    (body : ∀ (A : Around) (outer : List Env) (s : Shared) (H : Hp) (vs : List V) (Q : VK) (E : XK), Room k (A.deeper (PyProof.Rows.envOfC qual (defScope st) s.heap.objs.size f (.ref c))) → sp vs H Q E →
      ∃ t, PSs (cxOf CX0 P w K mg base N qual (defScope st) f (.ref c) A outer s H E).nox (defBody st) t ∧ t { nx := fun _ H' => Q .non H', rt := Q } (start N vs) H) : FnOk P w K mg base CX0 (k + 1) f fd ps sp := by
  obtain ⟨_, _, _, _, _, _, cdv, _, _, rfl, lk, hcd⟩ := F.ex
  have e : cdv = .ref c := hc
  subst e
  refine fn_of lk hcd S len fun A outer s H vs Q E hr h => ?_
  obtain ⟨t, a, b⟩ := body A outer s H vs Q E hr h
  exact ⟨t, a.nox, b⟩

open PySem L2 PySem.Spec PyProof.Rows
section
variable {X : Cx} {pos p2 : Pos}
/-- xs[a:c] = a list of its own, a and c told -/
def gSlc (to : TE) (tl th : TO) : TG := fun v σ H Q => to σ H fun o H1 => tl σ H1 fun l H2 => th σ H2 fun u H3 => ∃ (p b : Addr) (xs ys : List V) (a c : Int), o = .ref p ∧ v = .ref b ∧ l = some a ∧ u = some c ∧ H3 p = some (.lst xs) ∧ H3 b = some (.lst ys) ∧ p ≠ b ∧ 0 ≤ a ∧ a ≤ c ∧ c ≤ xs.length ∧ xs.length + ys.length ≤ sizeLine ∧ Q σ (upd H3 p (.lst (xs.take a.toNat ++ ys ++ xs.drop c.toNat)))
theorem pg_slc {o : Expr} {lo hi : Option Expr} {to : TE} {tl th : TO} (ho : PE X o to) (hl : PO X lo tl) (hu : PO X hi th)
    : PG X (.Subscript o (.Slice lo hi none p2) pos) (gSlc to tl th) := by
  refine ⟨fun pins sh σ H v u Q I r h => ?_⟩
  rw [show assign (.Subscript o (.Slice lo hi none p2) pos) X.env u = (do
      let ov ← holding [u] (eval o X.env)
      let iv ← holding [u, ov] (eval (.Slice lo hi none p2) X.env)
      standAt pos
      holding [u, ov, iv] (setItem ov iv u)
      release [iv, u, ov] []) from rfl]
  refine wpAny_bind (wpAny_holding (thn (ho.run pins sh σ H _ I h) fun ob s1 ⟨x, H1, I1, r1, q1⟩ => ?_))
  refine wpAny_bind (wpAny_holding (wpAny_Slice (thn (hl.run pins s1 σ H1 _ I1 q1) fun vl s2 ⟨l, H2, I2, pl, q2⟩ => thn (hu.run pins s2 σ H2 _ I2 q2) fun vu s3 ⟨u', H3, I3, pu, q3⟩ => ?_)))
  rw [evalPart_none]
  refine wpAny_pure ?_
  have I4 := I3.kept (h' := s3.heap.push { cls := .type "slice", data := .fields #[vl, vu, .none] }) (t' := s3.toks) fun b ob hb => Heap.get?_push_of_some _ hb
  obtain ⟨p, b, xs, ys, a, c, rfl, rfl, rfl, rfl, e1, e2, ne, a0, ac, cx, sz, q⟩ := q3
  cases r1
  cases r
  have ra : RelV (.int a) vl := by cases pl; exact ⟨_, rfl⟩
  have rc : RelV (.int c) vu := by cases pu; exact ⟨_, rfl⟩
  refine wpAny_bind (wpAny_standAt (wpAny_bind (wpAny_holding (set_slice I4 e1 e2 ne (Heap.IsSliceOf.new ..) ra rc a0 ac cx sz fun s' I' => ?_))))
  exact wpAny_release ⟨σ, _, I', q⟩
/-- list(text): its letters -/
theorem call_list_text (hc : X.calm = true) : CallR X (.type "list") (fun xs H Q => ∃ l : List Nat, xs = [.str (S l)] ∧ l.length ≤ sizeLine ∧ ∀ p, H p = none → Q (.ref p) (upd H p (.lst (l.map fun c => V.str (S [c]))))) := by
  intro pins s σ H xs us Q I r h
  obtain ⟨l, rfl, hz, q⟩ := h
  obtain ⟨u, rfl, t, rfl⟩ := vals1 r
  have el : (S l).cps.size = l.length := by
    have := congrArg List.length (S_list l)
    simpa using this
  refine call_list_str (I.ok.hd hc) (S l) t (fun h' tk acc c' hk e' hi => ?_) (by rw [el]; exact hz)
  have vs : Vals (l.map fun c => V.str (S [c])) acc.toList := by
    refine vals_of_at (by rw [List.length_map]; exact (el.symm.trans hi.1.symm).trans (Array.length_toList (xs := acc)).symm) fun j x v hx hv => ?_
    rw [Array.getElem?_toList] at hv
    obtain ⟨c, w, h1, rfl⟩ := hi.2 j v hv
    rw [List.getElem?_map] at hx
    have h2 : l[j]? = some c := by
      have := S_list l
      rw [← this, Array.getElem?_toList]
      exact h1
    rw [h2] at hx
    cases hx
    exact ⟨w, rfl⟩
  refine ⟨.ref s.heap.objs.size, _, I.laid hk (Nat.le_refl _) (show ObjOk X.prog X.w _ _ _ (.lst (l.map fun c => V.str (S [c]))) from ⟨?_, acc.toList, c', vs, ?_⟩), rfl, q _ (I.hok.fresh (Nat.le_refl _))⟩
  · rw [List.length_map]; exact hz
  · rw [Array.toArray_toList]; exact e'
end
def top (i : Nat) : Stmt := PySem.Challenge.pw_ropedance_k09_to_the_standard_dance.main.body.getD i (.Pass ⟨0, 0, 0, 0⟩)
abbrev s_to_standard : Stmt := top 1
theorem sc_to_standard : FnScope ["dance", "front", "letter"] ["dance"] (defScope s_to_standard) := ⟨rfl, rfl, rfl, by decide +kernel, rfl, by decide +kernel, by decide +kernel⟩
abbrev s_law_tape : Stmt := top 4
theorem sc_law_tape : FnScope ["script", "k", "cell"] ["script", "k"] (defScope s_law_tape) := ⟨rfl, rfl, rfl, by decide +kernel, rfl, by decide +kernel, by decide +kernel⟩
abbrev s_law_take : Stmt := top 5
theorem sc_law_take : FnScope ["tape", "many", "got", "mixed"] ["tape", "many"] (defScope s_law_take) := ⟨rfl, rfl, rfl, by decide +kernel, rfl, by decide +kernel, by decide +kernel⟩
abbrev s_law_dance : Stmt := top 6
theorem sc_law_dance : FnScope ["tape", "most", "dance", "size", "k"] ["tape", "most"] (defScope s_law_dance) := ⟨rfl, rfl, rfl, by decide +kernel, rfl, by decide +kernel, by decide +kernel⟩
abbrev s_law_called : Stmt := top 7
theorem sc_law_called : FnScope ["value", "letter", "p", "q"] ["value", "letter"] (defScope s_law_called) := ⟨rfl, rfl, rfl, by decide +kernel, rfl, by decide +kernel, by decide +kernel⟩
abbrev s_law_number : Stmt := top 8
theorem sc_law_number : FnScope ["dance", "value", "letter"] ["dance"] (defScope s_law_number) := ⟨rfl, rfl, rfl, by decide +kernel, rfl, by decide +kernel, by decide +kernel⟩
abbrev s_law_same : Stmt := top 9
theorem sc_law_same : FnScope ["told", "due", "k"] ["told", "due"] (defScope s_law_same) := ⟨rfl, rfl, rfl, by decide +kernel, rfl, by decide +kernel, by decide +kernel⟩
abbrev s_law_is_move : Stmt := top 10
theorem sc_law_is_move : FnScope ["move", "place", "old", "new"] ["move"] (defScope s_law_is_move) := ⟨rfl, rfl, rfl, by decide +kernel, rfl, by decide +kernel, by decide +kernel⟩
abbrev s_law_made : Stmt := top 11
theorem sc_law_made : FnScope ["dance", "move", "place", "old", "new"] ["dance", "move"] (defScope s_law_made) := ⟨rfl, rfl, rfl, by decide +kernel, rfl, by decide +kernel, by decide +kernel⟩
abbrev s_law_run : Stmt := top 12
theorem sc_law_run : FnScope ["count"] ["count"] (defScope s_law_run) := ⟨rfl, rfl, rfl, by decide +kernel, rfl, by decide +kernel, by decide +kernel⟩
abbrev s_law_standard : Stmt := top 13
theorem sc_law_standard : FnScope ["value", "p", "q", "dance", "above"] ["value"] (defScope s_law_standard) := ⟨rfl, rfl, rfl, by decide +kernel, rfl, by decide +kernel, by decide +kernel⟩
abbrev s_law_sort : Stmt := top 14
theorem sc_law_sort : FnScope ["tape", "dance", "choice"] ["tape"] (defScope s_law_sort) := ⟨rfl, rfl, rfl, by decide +kernel, rfl, by decide +kernel, by decide +kernel⟩
abbrev s_law_formed : Stmt := top 15
theorem sc_law_formed : FnScope ["told", "move"] ["told"] (defScope s_law_formed) := ⟨rfl, rfl, rfl, by decide +kernel, rfl, by decide +kernel, by decide +kernel⟩
abbrev s_law : Stmt := top 16
theorem sc_law : FnScope ["script", "k", "dance", "told", "due", "move"] ["script"] (defScope s_law) := ⟨rfl, rfl, rfl, by decide +kernel, rfl, by decide +kernel, by decide +kernel⟩
/-! ### heaps, tapes, pairs -/
/-- all that was tracked is as it was, but what stands at a -/
def But (a : Addr) (H H' : Hp) : Prop := ∀ b o, b ≠ a → H b = some o → H' b = some o
theorem But.refl (a : Addr) (H : Hp) : But a H H := fun _ _ _ h => h
theorem But.trans {a : Addr} {H H1 H2 : Hp} (x : But a H H1) (y : But a H1 H2) : But a H H2 := fun b o n h => y b o n (x b o n h)
theorem But.of {a : Addr} {H H' : Hp} (x : Same H H') : But a H H' := fun b o _ h => x b o h
theorem But.upd {a : Addr} {H : Hp} {o : HO} : But a H (upd H a o) := fun b u n h => by rw [upd_ne n]; exact h
theorem But.same {a : Addr} {H0 H H' : Hp} (x : But a H H') (s : Same H0 H) (n : H0 a = none) : Same H0 H' := fun b o h => x b o (ne_of_none h n) (s b o h)
theorem same_new {H : Hp} {p : Addr} (h : H p = none) (o : HO) : Same H (L2.upd H p o) := fun b u q => by rw [upd_ne (ne_of_none q h)]; exact q
theorem Same.tup {K : PySem.W.Frag} {H H' : Hp} {a : Addr} {xs : List V} (e : Same H H') (h : SqT K H a xs) : SqT K H' a xs := by
  rcases h with (h | ⟨o, h⟩) | h
  · exact .inl (.inl (e _ _ h))
  · exact .inl (.inr ⟨o, e _ _ h⟩)
  · exact .inr h
def Tape (H : Hp) (a : Addr) : Prop := ∃ (t c s : Int) (b : Bool), H a = some (.lst [.int t, .bl b, .int c, .int s])
theorem Tape.same {H H' : Hp} {a : Addr} (t : Tape H a) (s : Same H H') : Tape H' a := by
  obtain ⟨x, c, y, b, h⟩ := t
  exact ⟨x, c, y, b, s _ _ h⟩
theorem Tape.ne {H : Hp} {a p : Addr} (t : Tape H a) (h : H p = none) : p ≠ a := by
  obtain ⟨x, c, y, b, e⟩ := t
  exact fun z => by rw [z, e] at h; cases h
theorem But.tup {K : PySem.W.Frag} {a : Addr} {H H' : Hp} {p : Addr} {xs : List V} (x : But a H H') (t : Tape H a) (h : SqT K H p xs) : SqT K H' p xs := by
  obtain ⟨y, c, z, b, e⟩ := t
  rcases h with (h | ⟨o, h⟩) | h
  · exact .inl (.inl (x _ _ (ne_of h e (by intro q; cases q)) h))
  · exact .inl (.inr ⟨o, x _ _ (ne_of h e (by intro q; cases q)) h⟩)
  · exact .inr h
/-- a dance: the letters T, U, R -/
def Lets (l : List Nat) : Prop := ∀ c ∈ l, c = 84 ∨ c = 85 ∨ c = 82
theorem atI_mk {α : Type} {xs : List α} {k : Int} (h0 : 0 ≤ k) (h1 : k < (xs.length : Int)) : ∃ v, atI xs k = some v ∧ v ∈ xs := by
  obtain ⟨n, rfl⟩ := Int.eq_ofNat_of_zero_le h0
  have h : n < xs.length := by omega
  exact ⟨xs[n], atI_nat (List.getElem?_eq_getElem h), List.getElem_mem h⟩
theorem atI_ints {ns : List Int} {k : Int} (h0 : 0 ≤ k) (h1 : k < (ns.length : Int)) : ∃ v : Int, atI (ns.map V.int) k = some (.int v) := by
  obtain ⟨v, e, m⟩ := atI_mk (xs := ns.map V.int) h0 (by rw [List.length_map]; exact h1)
  obtain ⟨i, _, rfl⟩ := List.mem_map.mp m
  exact ⟨i, e⟩
/-! ### a def of the text with its promise, ready to be called -/
structure Dfn (P : Program) (w : World) (K : PySem.W.Frag) (mg : Str → Option Value) (base : Heap) (x : Str) (k : Nat) (ps : List Str) (sp : Sp) : Prop where
  ex : ∃ (f : Addr) (fd : FuncData), FnOk P w K mg base CX0 k f fd ps sp ∧ mg x = some (.ref f) ∧ PySem.W.keepIn K (.ref f) = true ∧ Binds K fd ps []
theorem pe_do {X : Cx} {x : Str} {j : Nat} {ps : List Str} {sp : Sp} {e : Expr} {es : List Expr} {t : TA} {p pos : Pos} (D : Dfn X.prog X.w X.K X.mg X.base x j ps sp) (hr : Room j X.A)
    (ha : PA X (e :: es) t) (hg : Gl X x := by rfl) (hdb : (x == ("__debug__" : Str)) = false := by decide) (he : starEach (e :: es) X.env = (false, eval e X.env) :: starEach es X.env := by rfl) (hpl : (backTo pos (starEach es X.env)).any (·.1) = false := by rfl) :
    PE X (.Call (.Name x p) (e :: es) [] pos) (tCall sp [] E0 t) := by
  obtain ⟨f, fd, ok, mg, kp, bd⟩ := D.ex
  exact pe_call ok hr hg mg kp bd .nil pass0 ha hdb he hpl
theorem Dfn.mono {P : Program} {w : World} {K : PySem.W.Frag} {mg : Str → Option Value} {base : Heap} {x : Str} {j k : Nat} {ps : List Str} {sp : Sp} (D : Dfn P w K mg base x j ps sp) (h : j ≤ k) : Dfn P w K mg base x k ps sp := by
  obtain ⟨f, fd, ok, mg, kp, bd⟩ := D.ex
  exact ⟨f, fd, ok.mono h, mg, kp, bd⟩
section
variable {P : Program} {w : World} {K : PySem.W.Frag} {mg : Str → Option Value} {base : Heap} {f : Addr} {fd : FuncData}
/-! ### the tape of a law -/
def spTape (K : PySem.W.Frag) : Sp := fun vs H Q _ => ∃ (a : Addr) (ns : List Int) (k : Int), vs = [.ref a, .int k] ∧ SqL K H a (ns.map V.int) ∧ 0 ≤ k ∧ ∀ p H', Same H H' → H p = none → Tape H' p → Q (.ref p) H'
theorem ok_tape (F : Fun K "_law_tape" "_law_tape" s_law_tape f fd) (ml : mg "len" = none) (ma : mg "abs" = none) (mi : mg "int" = none) : FnOk P w K mg base CX0 1 f fd ["script", "k"] (spTape K) := by
  refine F.ok sc_law_tape (fun vs H Q E h => ?_) (fun cdv A outer s H vs Q E hr h => ?_)
  · obtain ⟨a, ns, k, rfl, _⟩ := h
    rfl
  obtain ⟨a, ns, k, rfl, hS, hk, q⟩ := h
  refine ⟨_, pss_cons (ps_set (i := 2) sc_law_tape.nd rfl (.inl rfl) pe_int)
    (pss_cons (ps_if (pt_cmpR op_lt (pv 1) (pe_callB call_len_seq rfl ml PySem.boot_len (pa_cons (pv 0) pa_nil)) (nomark _))
        (pss_one (ps_set (i := 2) sc_law_tape.nd rfl (.inl rfl) (pe_callB call_abs rfl ma (by decide +kernel) (pa_cons (pe_ix ix_list (pv 0) (pv 1) (fun _ _ => rfl)) pa_nil)))) pss_nil)
    (pss_one (ps_ret (pe_lst (pa_cons (pv 2) (pa_cons (pe_cmpR op_ge (pv 2) (pe_op op_pow pe_int pe_int) (nomark _)) (pa_cons pe_int
      (pa_cons (pe_op op_modN (pe_callTy call_int1 rfl mi (by decide +kernel) (pa_cons (pe_op op_add (pe_op op_mul (pv 2) pe_int) (pv 1)) pa_nil)) pe_int) pa_nil)))))))), ?_⟩
  refine ⟨_, rfl, _, rfl, a, _, rfl, .inl hS, _, _, rfl, rfl, _, rfl, ?_⟩
  refine ite2 (fun c => ?_) (fun c => ?_)
  · have c' : k < (((ns.map V.int).length : Nat) : Int) := of_decide_eq_true c
    rw [List.length_map] at c'
    obtain ⟨v, hv⟩ := atI_ints hk c'
    refine ⟨_, rfl, _, rfl, a, _, _, _, rfl, rfl, hS, hv, _, rfl, ?_⟩
    refine ⟨_, rfl, _, rfl, _, _, rfl, rfl, ⟨by decide, by decide, by decide⟩, _, _, rfl, rfl, _, rfl, _, _, rfl, rfl, .inr ⟨by decide, by decide⟩, _, rfl, _, _, rfl, rfl, .inl ⟨_, rfl, _, _, rfl, rfl, (show (2147483647 : Int) ≠ 0 by decide), ?_⟩⟩
    exact ⟨(by show 4 ≤ sizeLine; decide), fun p hp => q p _ (same_new hp _) hp ⟨_, _, _, _, upd_same⟩⟩
  · refine ⟨_, rfl, _, rfl, _, _, rfl, rfl, ⟨by decide, by decide, by decide⟩, _, _, rfl, rfl, _, rfl, _, _, rfl, rfl, .inr ⟨by decide, by decide⟩, _, rfl, _, _, rfl, rfl, .inl ⟨_, rfl, _, _, rfl, rfl, (show (2147483647 : Int) ≠ 0 by decide), ?_⟩⟩
    exact ⟨(by show 4 ≤ sizeLine; decide), fun p hp => q p _ (same_new hp _) hp ⟨_, _, _, _, upd_same⟩⟩
def spTake : Sp := fun vs H Q _ => ∃ (a : Addr) (m : Int), vs = [.ref a, .int m] ∧ Tape H a ∧ 0 < m ∧ m < 1073741824 ∧ ∀ r H', 0 ≤ r → r < m → But a H H' → Tape H' a → Q (.int r) H'
theorem ok_take (F : Fun K "_law_take" "_law_take" s_law_take f fd) (mi : mg "int" = none) : FnOk P w K mg base CX0 1 f fd ["tape", "many"] spTake := by
  refine F.ok sc_law_take (fun vs H Q E h => ?_) (fun cdv A outer s H vs Q E hr h => ?_)
  · obtain ⟨a, m, rfl, _⟩ := h
    rfl
  obtain ⟨a, m, rfl, ⟨t, c, sd, b, hT⟩, h0, h1, q⟩ := h
  refine ⟨_, pss_cons (ps_if (PW.pt (pw_and (pt_val (pe_ix ix_list (pv 0) pe_int (fun _ _ => rfl))) (pw_and1 (pt_cmpR op_gt (pe_ix ix_list (pv 0) pe_int (fun _ _ => rfl)) pe_int (nomark _)))))
      (pss_cons (ps_set (i := 2) sc_law_take.nd rfl (.inl rfl) (pe_op op_modN (pe_callTy call_int1 rfl mi (by decide +kernel) (pa_cons (pe_ix ix_list (pv 0) pe_int (fun _ _ => rfl)) pa_nil)) (pv 1)))
      (pss_cons (ps_asg (pe_op op_fdivN (pe_ix ix_list (pv 0) pe_int (fun _ _ => rfl)) (pv 1)) (pg_sub (pv 0) pe_int set_list))
      (pss_one (ps_ret (pv 2))))) pss_nil)
    (pss_cons (ps_asg (pe_op op_add (pe_ix ix_list (pv 0) pe_int (fun _ _ => rfl)) pe_int) (pg_sub (pv 0) pe_int set_list))
    (pss_cons (ps_set (i := 3) sc_law_take.nd rfl (.inl rfl) (pe_op op_modN (pe_callTy call_int1 rfl mi (by decide +kernel) (pa_cons (pe_op op_add (pe_op op_add (pe_op op_mul (pe_ix ix_list (pv 0) pe_int (fun _ _ => rfl)) pe_int) (pe_op op_mul (pe_ix ix_list (pv 0) pe_int (fun _ _ => rfl)) pe_int)) pe_int) pa_nil)) pe_int))
    (pss_cons (ps_set (i := 3) sc_law_take.nd rfl (.inl rfl) (pe_op op_modN (pe_callTy call_int1 rfl mi (by decide +kernel) (pa_cons (pe_op op_add (pe_op op_add (pe_op op_mul (pv 3) pe_int) (pe_op op_mul (pe_op op_fdivN (pv 3) pe_int) pe_int)) (pe_ix ix_list (pv 0) pe_int (fun _ _ => rfl))) pa_nil)) pe_int))
    (pss_one (ps_ret (pe_op op_modN (pe_callTy call_int1 rfl mi (by decide +kernel) (pa_cons (pe_op op_fdivN (pv 3) pe_int) pa_nil)) (pv 1))))))), ?_⟩
  have rest : ∀ x : Int, 0 ≤ x.fmod m ∧ x.fmod m < m := fun x => by
    rw [Int.fmod_eq_emod_of_nonneg x (Int.le_of_lt h0)]
    exact ⟨Int.emod_nonneg x (by omega), Int.emod_lt_of_pos x h0⟩
  refine ⟨_, rfl, a, _, _, _, rfl, rfl, SqL.of hT, rfl, b, rfl, ?_⟩
  refine ite2 (fun hb => ?_) (fun hb => ?_)
  · refine ⟨_, rfl, a, _, _, _, rfl, rfl, SqL.of hT, rfl, _, _, rfl, rfl, _, rfl, ?_⟩
    refine ite2 (fun hc => ?_) (fun hc => ?_)
    · refine ⟨_, rfl, a, _, _, _, rfl, rfl, SqL.of hT, rfl, .inl ⟨_, rfl, _, rfl, _, _, rfl, rfl, (show m ≠ 0 by omega), ?_⟩⟩
      refine ⟨_, rfl, a, _, _, _, rfl, rfl, SqL.of hT, rfl, _, rfl, _, _, rfl, rfl, (show m ≠ 0 ∧ m.natAbs < 1073741824 by omega), _, rfl, a, _, _, _, rfl, rfl, hT, rfl, ?_⟩
      exact ⟨_, rfl, q _ _ (rest _).1 (rest _).2 But.upd ⟨_, _, _, _, upd_same⟩⟩
    · refine ⟨_, rfl, a, _, _, _, rfl, rfl, SqL.of hT, rfl, _, _, rfl, rfl, _, rfl, a, _, _, _, rfl, rfl, hT, rfl, ?_⟩
      refine ⟨_, rfl, a, _, _, _, rfl, rfl, SqL.of upd_same, rfl, _, _, rfl, rfl, .inr ⟨by decide, by decide⟩, _, rfl, a, _, _, _, rfl, rfl, SqL.of upd_same, rfl, _, _, rfl, rfl, .inr ⟨by decide, by decide⟩, _, _, rfl, rfl, _, _, rfl, rfl, .inl ⟨_, rfl, _, _, rfl, rfl, (show (2147483647 : Int) ≠ 0 by decide), ?_⟩⟩
      refine ⟨_, rfl, _, _, rfl, rfl, .inr ⟨by decide, by decide⟩, _, rfl, _, _, rfl, rfl, ⟨by decide, by decide⟩, _, _, rfl, rfl, .inr ⟨by decide, by decide⟩, _, _, rfl, rfl, _, rfl, a, _, _, _, rfl, rfl, SqL.of upd_same, rfl, _, _, rfl, rfl, .inl ⟨_, rfl, _, _, rfl, rfl, (show (2147483399 : Int) ≠ 0 by decide), ?_⟩⟩
      exact ⟨_, rfl, _, _, rfl, rfl, ⟨by decide, by decide⟩, .inl ⟨_, rfl, _, rfl, _, _, rfl, rfl, (show m ≠ 0 by omega), q _ _ (rest _).1 (rest _).2 But.upd ⟨_, _, _, _, upd_same⟩⟩⟩
  · refine ⟨_, rfl, a, _, _, _, rfl, rfl, SqL.of hT, rfl, _, _, rfl, rfl, _, rfl, a, _, _, _, rfl, rfl, hT, rfl, ?_⟩
    refine ⟨_, rfl, a, _, _, _, rfl, rfl, SqL.of upd_same, rfl, _, _, rfl, rfl, .inr ⟨by decide, by decide⟩, _, rfl, a, _, _, _, rfl, rfl, SqL.of upd_same, rfl, _, _, rfl, rfl, .inr ⟨by decide, by decide⟩, _, _, rfl, rfl, _, _, rfl, rfl, .inl ⟨_, rfl, _, _, rfl, rfl, (show (2147483647 : Int) ≠ 0 by decide), ?_⟩⟩
    refine ⟨_, rfl, _, _, rfl, rfl, .inr ⟨by decide, by decide⟩, _, rfl, _, _, rfl, rfl, ⟨by decide, by decide⟩, _, _, rfl, rfl, .inr ⟨by decide, by decide⟩, _, _, rfl, rfl, _, rfl, a, _, _, _, rfl, rfl, SqL.of upd_same, rfl, _, _, rfl, rfl, .inl ⟨_, rfl, _, _, rfl, rfl, (show (2147483399 : Int) ≠ 0 by decide), ?_⟩⟩
    exact ⟨_, rfl, _, _, rfl, rfl, ⟨by decide, by decide⟩, .inl ⟨_, rfl, _, rfl, _, _, rfl, rfl, (show m ≠ 0 by omega), q _ _ (rest _).1 (rest _).2 But.upd ⟨_, _, _, _, upd_same⟩⟩⟩
/-! ### dances, fractions -/
theorem six_letters {r : Int} (h0 : 0 ≤ r) (h1 : r < 6) : ∃ c, atI (("TTUURR" : Str)).cps.toList r = some c ∧ (c = 84 ∨ c = 85 ∨ c = 82) := by
  have e : (("TTUURR" : Str)).cps.toList = [84, 84, 85, 85, 82, 82] := by decide +kernel
  rw [e]
  obtain ⟨c, hc, m⟩ := atI_mk (xs := [84, 84, 85, 85, 82, 82]) h0 h1
  refine ⟨c, hc, ?_⟩
  simp at m
  omega
theorem four_sizes {r : Int} (h0 : 0 ≤ r) (h1 : r < 4) : ∃ z : Int, atI [V.int 1, .int 1, .int 3, .int 9] r = some (.int z) ∧ 1 ≤ z ∧ z ≤ 9 := by
  obtain ⟨c, hc, m⟩ := atI_mk (xs := [V.int 1, .int 1, .int 3, .int 9]) h0 h1
  simp at m
  rcases m with rfl | rfl | rfl
  · exact ⟨1, hc, by decide, by decide⟩
  · exact ⟨3, hc, by decide, by decide⟩
  · exact ⟨9, hc, by decide, by decide⟩
theorem e_empty : (("" : Str)) = S [] := by decide +kernel
theorem sizeLine_big : 16777216 ≤ sizeLine := by rw [sizeLine_eq]; decide
theorem fits {n : Nat} (h : n ≤ 16777216) : n ≤ sizeLine := Nat.le_trans h sizeLine_big
def spDance : Sp := fun vs H Q _ => ∃ (a : Addr) (m : Int), vs = [.ref a, .int m] ∧ Tape H a ∧ 0 ≤ m ∧ m ≤ 1000 ∧ ∀ l H', Lets l → (l.length : Int) ≤ m → But a H H' → Tape H' a → Q (.str (S l)) H'
theorem ok_dance (F : Fun K "_law_dance" "_law_dance" s_law_dance f fd) (DT : Dfn P w K mg base "_law_take" 1 ["tape", "many"] spTake) (mr : mg "range" = none) : FnOk P w K mg base CX0 2 f fd ["tape", "most"] spDance := by
  refine F.ok sc_law_dance (fun vs H Q E h => ?_) (fun cdv A outer s H vs Q E hr h => ?_)
  · obtain ⟨a, m, rfl, _⟩ := h
    rfl
  obtain ⟨a, m, rfl, hT, h0, h1, q⟩ := h
  refine ⟨_, pss_cons (ps_set (i := 2) sc_law_dance.nd rfl (.inl rfl) pe_str)
    (pss_cons (ps_set (i := 3) sc_law_dance.nd rfl (.inl rfl) (pe_ix ix_list (pe_lst (pa_cons pe_int (pa_cons pe_int (pa_cons pe_int (pa_cons pe_int pa_nil))))) (pe_do DT hr (pa_cons (pv 0) (pa_cons pe_int pa_nil))) (fun _ _ => rfl)))
    (pss_cons (ps_for PassesOwn.never rfl (pi_range1 rfl mr (pa_cons (pe_do DT hr (pa_cons (pv 0) (pa_cons (pe_op op_add (pv 1) pe_int) pa_nil))) pa_nil)) (pg_name (i := 4) sc_law_dance.nd rfl (.inl rfl))
      (pss_one (ps_set (i := 2) sc_law_dance.nd rfl (.inl rfl) (pe_op op_add_str (pv 2) (pe_op op_mul_str (pe_ix ix_str pe_str (pe_do DT hr (pa_cons (pv 0) (pa_cons pe_int pa_nil))) (fun _ _ => rfl))
        (pe_op op_add pe_int (pe_do DT hr (pa_cons (pv 0) (pa_cons (pv 3) pa_nil)))))))))
    (pss_one (ps_ret (pe_slice sl_str (pv 2) po_none (po_some (pv 1))))))), ?_⟩
  refine ⟨(by show 4 ≤ sizeLine; exact fits (by decide)), fun p hp => ?_⟩
  have np := hT.ne hp
  refine ⟨_, rfl, a, 4, rfl, hT.same (same_new hp _), by decide, by decide, fun r H1 r0 r1 b1 t1 => ?_⟩
  obtain ⟨z, hz, z1, z9⟩ := four_sizes r0 r1
  refine ⟨p, _, _, _, rfl, rfl, SqL.of (b1 _ _ np upd_same), hz, ?_⟩
  have B1 : But a H H1 := (But.of (same_new hp _)).trans b1
  refine ⟨_, rfl, _, rfl, _, _, rfl, rfl, a, _, rfl, t1, (show 0 < m + 1 by omega), (show m + 1 < 1073741824 by omega), fun r2 H2 r20 r21 b2 t2 => ?_⟩
  refine ⟨r2, rfl, by omega, by omega, for_range (lo := 0) (n := r2.toNat) (fun i σ H' => ∃ (l : List Nat) (v : Option V), σ = [some (.ref a), some (.int m), some (.str (S l)), some (.int z), v] ∧ Lets l ∧ l.length ≤ 9 * i ∧ But a H H' ∧ Tape H' a) ?_ ?_ ?_⟩
  · exact ⟨[], none, by rw [← e_empty]; rfl, fun _ h => (by cases h), Nat.zero_le _, B1.trans b2, t2⟩
  · rintro i σ H' hi ⟨l, v, rfl, hl, hz2, bt, tp⟩
    refine ⟨_, rfl, _, rfl, a, 6, rfl, tp, by decide, by decide, fun r3 H3 r30 r31 b3 t3 => ?_⟩
    obtain ⟨c, hc, hcl⟩ := six_letters r30 r31
    refine ⟨_, _, c, rfl, rfl, (fits (by decide +kernel)), hc, _, rfl, _, rfl, a, z, rfl, t3, by omega, by omega, fun r4 H4 r40 r41 b4 t4 => ?_⟩
    have hn : (1 + r4).toNat ≤ 9 := by omega
    refine ⟨_, _, rfl, rfl, [c], 1 + r4, rfl, rfl, by omega, by omega, by simp only [List.length_singleton]; omega, _, _, rfl, rfl, ?_, ?_⟩
    · rw [S_len, S_len]
      refine fits ?_
      rw [List.length_flatten, List.map_replicate, List.sum_replicate_nat]
      simp only [List.length_singleton]
      omega
    · refine ⟨l ++ (List.replicate (1 + r4).toNat [c]).flatten, _, by rw [S_app]; rfl, fun x hx => ?_, ?_, (bt.trans b3).trans b4, t4⟩
      · rcases List.mem_append.mp hx with hx | hx
        · exact hl x hx
        · obtain ⟨y, hy, hxy⟩ := List.mem_flatten.mp hx
          rw [(List.mem_replicate.mp hy).2] at hxy
          rw [List.mem_singleton.mp hxy]
          exact hcl
      · rw [List.length_append, List.length_flatten, List.map_replicate, List.sum_replicate_nat]
        simp only [List.length_singleton]
        omega
  · rintro σ H' ⟨l, v, rfl, hl, hz2, bt, tp⟩
    refine ⟨_, rfl, _, rfl, _, rfl, _, rfl, (by rw [S_len]; exact fits (by omega)), ?_⟩
    rw [S_take l h0]
    refine q _ _ (fun x hx => hl x (List.mem_of_mem_take hx)) ?_ bt tp
    rw [List.length_take]
    omega
end
section
variable {P : Program} {w : World} {K : PySem.W.Frag} {mg : Str → Option Value} {base : Heap} {f : Addr} {fd : FuncData}
/-! ### the same data -/
inductive Dt where
  | int (i : Int) | str (z : Str) | non | tup (xs : List Dt) | lst (xs : List Dt)
/-- v stands for d, in at most n levels -/
def Is (H : Hp) : Nat → V → Dt → Prop
  | _, v, .int i => v = .int i
  | _, v, .str z => v = .str z
  | _, v, .non => v = .non
  | 0, _, .tup _ => False
  | 0, _, .lst _ => False
  | n + 1, v, .tup ds => ∃ (a : Addr) (xs : List V), v = .ref a ∧ H a = some (.tup xs) ∧ xs.length = ds.length ∧ ds.length ≤ 1000000 ∧ ∀ (i : Nat) (x : V) (d : Dt), xs[i]? = some x → ds[i]? = some d → Is H n x d
  | n + 1, v, .lst ds => ∃ (a : Addr) (xs : List V), v = .ref a ∧ H a = some (.lst xs) ∧ xs.length = ds.length ∧ ds.length ≤ 1000000 ∧ ∀ (i : Nat) (x : V) (d : Dt), xs[i]? = some x → ds[i]? = some d → Is H n x d
def spSame : Nat → Sp
  | 0 => fun _ _ _ _ => False
  | n + 1 => fun vs H Q _ => ∃ (x y : V) (d : Dt), vs = [x, y] ∧ Is H n x d ∧ Is H n y d ∧ Q (.bl true) H
theorem ok_same {n : Nat} (F : Fun K "_law_same" "_law_same" s_law_same f fd) (DS : Dfn P w K mg base "_law_same" n ["told", "due"] (spSame n)) (mI : mg "isinstance" = none) (mT : mg "tuple" = none) (mL : mg "list" = none) (ml : mg "len" = none) (mr : mg "range" = none)
    (ms : mg "str" = none) (mi : mg "int" = none) (mb : mg "bool" = none) : FnOk P w K mg base CX0 (n + 1) f fd ["told", "due"] (spSame (n + 1)) := by
  refine F.ok sc_law_same (fun vs H Q E h => ?_) (fun cdv A outer s H vs Q E hr h => ?_)
  · obtain ⟨x, y, d, rfl, _⟩ := h
    rfl
  obtain ⟨x, y, d, rfl, hx, hy, q⟩ := h
  have bT : bootBuiltins "tuple" = some (.type "tuple") := by decide +kernel
  have bL : bootBuiltins "list" = some (.type "list") := by decide +kernel
  have bS : bootBuiltins "str" = some (.type "str") := by decide +kernel
  have bI : bootBuiltins "int" = some (.type "int") := by decide +kernel
  have bB : bootBuiltins "bool" = some (.type "bool") := by decide +kernel
  have bi : bootBuiltins "isinstance" = some (.builtin "isinstance") := by decide +kernel
  refine ⟨_, pss_cons (ps_if (PW.pt (pw_or (pt_val (pe_callB call_isi rfl mI bi (pa_cons (pv 1) (pa_cons (pe_bltn (v := .ty "tuple") rfl mT bT rfl) pa_nil)))) (pw_or1 (pt_val (pe_callB call_isi rfl mI bi (pa_cons (pv 1) (pa_cons (pe_bltn (v := .ty "list") rfl mL bL rfl) pa_nil)))))))
      (pss_cons (ps_if (PW.pt (pw_or (pt_cmpR op_ne (pe_callB call_isi rfl mI bi (pa_cons (pv 1) (pa_cons (pe_bltn (v := .ty "tuple") rfl mT bT rfl) pa_nil))) (pe_callB call_isi rfl mI bi (pa_cons (pv 0) (pa_cons (pe_bltn (v := .ty "tuple") rfl mT bT rfl) pa_nil))) (nomark _))
          (pw_or1 (pt_cmpR op_ne (pe_callB call_isi rfl mI bi (pa_cons (pv 1) (pa_cons (pe_bltn (v := .ty "list") rfl mL bL rfl) pa_nil))) (pe_callB call_isi rfl mI bi (pa_cons (pv 0) (pa_cons (pe_bltn (v := .ty "list") rfl mL bL rfl) pa_nil))) (nomark _)))))
        (pss_one (ps_ret pe_bl)) pss_nil)
      (pss_cons (ps_if (pt_cmpR op_ne (pe_callB call_len_seq rfl ml PySem.boot_len (pa_cons (pv 0) pa_nil)) (pe_callB call_len_seq rfl ml PySem.boot_len (pa_cons (pv 1) pa_nil)) (nomark _)) (pss_one (ps_ret pe_bl)) pss_nil)
      (pss_cons (ps_for PassesOwn.never rfl (pi_range1 rfl mr (pa_cons (pe_callB call_len_seq rfl ml PySem.boot_len (pa_cons (pv 1) pa_nil)) pa_nil)) (pg_name (i := 2) sc_law_same.nd rfl (.inl rfl))
        (pss_one (ps_if (pt_not (pt_val (pe_do DS hr (pa_cons (pe_ix ix_seq (pv 0) (pv 2) (fun _ _ => rfl)) (pa_cons (pe_ix ix_seq (pv 1) (pv 2) (fun _ _ => rfl)) pa_nil))))) (pss_one (ps_ret pe_bl)) pss_nil)))
      (pss_one (ps_ret pe_bl))))) pss_nil)
    (pss_cons (ps_if (pt_cmpR op_isN (pv 1) pe_non (nomark _)) (pss_one (ps_ret (pe_cmpR op_isN (pv 0) pe_non (nomark _)))) pss_nil)
    (pss_cons (ps_if (pt_val (pe_callB call_isi rfl mI bi (pa_cons (pv 1) (pa_cons (pe_bltn (v := .ty "str") rfl ms bS rfl) pa_nil))))
      (pss_one (ps_ret (pe_and (pe_callB call_isi rfl mI bi (pa_cons (pv 0) (pa_cons (pe_bltn (v := .ty "str") rfl ms bS rfl) pa_nil))) (pe_one (pe_cmpR op_eq (pv 0) (pv 1) (nomark _)))))) pss_nil)
    (pss_one (ps_ret (pe_and (pe_callB call_isi rfl mI bi (pa_cons (pv 0) (pa_cons (pe_bltn (v := .ty "int") rfl mi bI rfl) pa_nil)))
      (pe_and (pe_not (pe_callB call_isi rfl mI bi (pa_cons (pv 0) (pa_cons (pe_bltn (v := .ty "bool") rfl mb bB rfl) pa_nil)))) (pe_one (pe_cmpR op_eq (pv 0) (pv 1) (nomark _))))))))), ?_⟩
  have isn : ∀ (a b : String) (r : Bool), kitB a b = some r → PySem.W.kitOne K (.type a) (.type b) = some r := fun a b r h => kit_ty h
  cases d with
  | int i =>
    cases (show x = .int i by cases n <;> exact hx)
    cases (show y = .int i by cases n <;> exact hy)
    refine ⟨_, rfl, _, _, _, _, false, rfl, .ty _, .base (.int _), kit_ty (by decide +kernel), _, rfl, iteF ?_⟩
    refine ⟨_, rfl, _, _, _, _, false, rfl, .ty _, .base (.int _), kit_ty (by decide +kernel), _, rfl, iteF ?_⟩
    refine ⟨_, rfl, rfl, _, rfl, iteF ?_⟩
    refine ⟨_, rfl, _, _, _, _, false, rfl, .ty _, .base (.int _), kit_ty (by decide +kernel), _, rfl, iteF ?_⟩
    refine ⟨_, rfl, _, _, _, _, true, rfl, .ty _, .base (.int _), kit_ty (by decide +kernel), _, rfl, iteT ?_⟩
    refine ⟨_, rfl, _, _, _, _, false, rfl, .ty _, .base (.int _), kit_ty (by decide +kernel), _, rfl, _, rfl, iteT ?_⟩
    refine ⟨_, rfl, _, rfl, rfl, ?_⟩
    rw [decide_eq_true rfl]
    exact q
  | str z =>
    cases (show x = .str z by cases n <;> exact hx)
    cases (show y = .str z by cases n <;> exact hy)
    refine ⟨_, rfl, _, _, _, _, false, rfl, .ty _, .base (.str _), kit_ty (by decide +kernel), _, rfl, iteF ?_⟩
    refine ⟨_, rfl, _, _, _, _, false, rfl, .ty _, .base (.str _), kit_ty (by decide +kernel), _, rfl, iteF ?_⟩
    refine ⟨_, rfl, rfl, _, rfl, iteF ?_⟩
    refine ⟨_, rfl, _, _, _, _, true, rfl, .ty _, .base (.str _), kit_ty (by decide +kernel), _, rfl, iteT ?_⟩
    refine ⟨_, rfl, _, _, _, _, true, rfl, .ty _, .base (.str _), kit_ty (by decide +kernel), _, rfl, iteT ?_⟩
    refine ⟨_, rfl, _, rfl, rfl, ?_⟩
    rw [decide_eq_true rfl]
    exact q
  | non =>
    cases (show x = .non by cases n <;> exact hx)
    cases (show y = .non by cases n <;> exact hy)
    refine ⟨_, rfl, _, _, _, _, false, rfl, .ty _, .base .non, kit_ty (by decide +kernel), _, rfl, iteF ?_⟩
    refine ⟨_, rfl, _, _, _, _, false, rfl, .ty _, .base .non, kit_ty (by decide +kernel), _, rfl, iteF ?_⟩
    exact ⟨_, rfl, rfl, _, rfl, iteT ⟨_, rfl, rfl, q⟩⟩
  | tup ds =>
    cases n with
    | zero => exact hx.elim
    | succ n =>
      obtain ⟨a, xs, rfl, ha, la, ln, ka⟩ := hx
      obtain ⟨b, ys, rfl, hb, lb, _, kb⟩ := hy
      refine ⟨_, rfl, _, _, _, _, true, rfl, .ty _, .base (.tup hb), kit_ty (by decide +kernel), _, rfl, iteT ?_⟩
      refine ⟨_, rfl, _, _, _, _, true, rfl, .ty _, .base (.tup hb), kit_ty (by decide +kernel), _, rfl, _, _, _, _, true, rfl, .ty _, .base (.tup ha), kit_ty (by decide +kernel), rfl, _, rfl, iteF ?_⟩
      refine ⟨_, rfl, _, _, _, _, false, rfl, .ty _, .base (.tup hb), kit_ty (by decide +kernel), _, rfl, _, _, _, _, false, rfl, .ty _, .base (.tup ha), kit_ty (by decide +kernel), rfl, _, rfl, iteF ?_⟩
      refine ⟨_, rfl, a, xs, rfl, .inr (SqT.of ha), _, rfl, b, ys, rfl, .inr (SqT.of hb), rfl, _, rfl, ?_⟩
      rw [show (decide (V.int (xs.length : Int) = V.int (ys.length : Int))) = true from decide_eq_true (by rw [la, lb])]
      refine iteF ?_
      refine ⟨_, rfl, b, ys, rfl, .inr (SqT.of hb), (ys.length : Int), rfl, by omega, by omega, for_range (lo := 0) (n := (ys.length : Int).toNat) (fun i σ H' => H' = H ∧ ∃ v, σ = [some (.ref a), some (.ref b), v]) ⟨rfl, none, rfl⟩ ?_ ?_⟩
      · rintro i σ _ hi ⟨rfl, v, rfl⟩
        have hi1 : i < ys.length := by omega
        have hi2 : i < xs.length := by omega
        have hi3 : i < ds.length := by omega
        refine ⟨_, rfl, _, rfl, .inr (.inl ⟨a, xs, _, _, rfl, rfl, SqT.of ha, at_of (j := i) (by omega) (List.getElem?_eq_getElem hi2), ?_⟩)⟩
        refine ⟨_, rfl, _, rfl, .inr (.inl ⟨b, ys, _, _, rfl, rfl, SqT.of hb, at_of (j := i) (by omega) (List.getElem?_eq_getElem hi1), ?_⟩)⟩
        refine ⟨_, _, ds[i], rfl, ka i _ _ (List.getElem?_eq_getElem hi2) (List.getElem?_eq_getElem hi3), kb i _ _ (List.getElem?_eq_getElem hi1) (List.getElem?_eq_getElem hi3), _, rfl, iteF ⟨rfl, _, rfl⟩⟩
      · rintro σ _ ⟨rfl, v, rfl⟩
        exact q
  | lst ds =>
    cases n with
    | zero => exact hx.elim
    | succ n =>
      obtain ⟨a, xs, rfl, ha, la, ln, ka⟩ := hx
      obtain ⟨b, ys, rfl, hb, lb, _, kb⟩ := hy
      refine ⟨_, rfl, _, _, _, _, false, rfl, .ty _, .base (.lst hb), kit_ty (by decide +kernel), _, rfl, iteF ?_⟩
      refine ⟨_, rfl, _, _, _, _, true, rfl, .ty _, .base (.lst hb), kit_ty (by decide +kernel), _, rfl, iteT ?_⟩
      refine ⟨_, rfl, _, _, _, _, false, rfl, .ty _, .base (.lst hb), kit_ty (by decide +kernel), _, rfl, _, _, _, _, false, rfl, .ty _, .base (.lst ha), kit_ty (by decide +kernel), rfl, _, rfl, iteF ?_⟩
      refine ⟨_, rfl, _, _, _, _, true, rfl, .ty _, .base (.lst hb), kit_ty (by decide +kernel), _, rfl, _, _, _, _, true, rfl, .ty _, .base (.lst ha), kit_ty (by decide +kernel), rfl, _, rfl, iteF ?_⟩
      refine ⟨_, rfl, a, xs, rfl, .inl (SqL.of ha), _, rfl, b, ys, rfl, .inl (SqL.of hb), rfl, _, rfl, ?_⟩
      rw [show (decide (V.int (xs.length : Int) = V.int (ys.length : Int))) = true from decide_eq_true (by rw [la, lb])]
      refine iteF ?_
      refine ⟨_, rfl, b, ys, rfl, .inl (SqL.of hb), (ys.length : Int), rfl, by omega, by omega, for_range (lo := 0) (n := (ys.length : Int).toNat) (fun i σ H' => H' = H ∧ ∃ v, σ = [some (.ref a), some (.ref b), v]) ⟨rfl, none, rfl⟩ ?_ ?_⟩
      · rintro i σ _ hi ⟨rfl, v, rfl⟩
        have hi1 : i < ys.length := by omega
        have hi2 : i < xs.length := by omega
        have hi3 : i < ds.length := by omega
        refine ⟨_, rfl, _, rfl, .inl ⟨a, xs, _, _, rfl, rfl, SqL.of ha, at_of (j := i) (by omega) (List.getElem?_eq_getElem hi2), ?_⟩⟩
        refine ⟨_, rfl, _, rfl, .inl ⟨b, ys, _, _, rfl, rfl, SqL.of hb, at_of (j := i) (by omega) (List.getElem?_eq_getElem hi1), ?_⟩⟩
        refine ⟨_, _, ds[i], rfl, ka i _ _ (List.getElem?_eq_getElem hi2) (List.getElem?_eq_getElem hi3), kb i _ _ (List.getElem?_eq_getElem hi1) (List.getElem?_eq_getElem hi3), _, rfl, iteF ⟨rfl, _, rfl⟩⟩
      · rintro σ _ ⟨rfl, v, rfl⟩
        exact q
theorem none_same : FnOk P w K mg base CX0 0 f fd ["told", "due"] (spSame 0) := by
  have no : ∀ vs H Q E, ¬ spSame 0 vs H Q E := fun vs H Q E h => h
  exact ⟨fun vs H Q E h => absurd h (no vs H Q E), fun A outer s H args us vs Q E _ _ _ _ h => absurd h (no vs H Q E)⟩
end
section
variable {P : Program} {w : World} {K : PySem.W.Frag} {mg : Str → Option Value} {base : Heap} {f : Addr} {fd : FuncData}
theorem sign_eq {c n : Nat} {z : Str} (e : z = S [n]) : (V.str (S [c]) = V.str z) ↔ c = n := by
  subst e
  constructor
  · intro h
    have := S_inj (V.str.inj h)
    simpa using this
  · rintro rfl; rfl
theorem e_T : (("T" : Str)) = S [84] := by decide +kernel
theorem e_U : (("U" : Str)) = S [85] := by decide +kernel
theorem e_R : (("R" : Str)) = S [82] := by decide +kernel
def Tup2 (H : Hp) (t : Addr) (v : Int × Int) : Prop := H t = some (.tup [.int v.1, .int v.2])
def spCalled (K : PySem.W.Frag) : Sp := fun vs H Q _ => ∃ (t : Addr) (v : Int × Int) (c : Nat), vs = [.ref t, .str (S [c])] ∧ Tup2 H t v ∧ ∀ t' H', Same H H' → Tup2 H' t' (called v c) → Q (.ref t') H'
theorem ok_called (F : Fun K "_law_called" "_law_called" s_law_called f fd) : FnOk P w K mg base CX0 1 f fd ["value", "letter"] (spCalled K) := by
  refine F.ok sc_law_called (fun vs H Q E h => ?_) (fun cdv A outer s H vs Q E hr h => ?_)
  · obtain ⟨a, m, c, rfl, _⟩ := h
    rfl
  obtain ⟨t, ⟨p, q'⟩, c, rfl, hT, q⟩ := h
  refine ⟨_, pss_cons (ps_asg (pv 0) (pg_tup (by rfl) (pgs_cons (pg_name (i := 2) sc_law_called.nd rfl (.inl rfl)) (pgs_cons (pg_name (i := 3) sc_law_called.nd rfl (.inl rfl)) pgs_nil))))
    (pss_cons (ps_if (pt_cmpR op_eq (pv 1) pe_str (nomark _)) (pss_one (ps_ret (pe_tup (pa_cons (pe_op op_add (pv 2) (pv 3)) (pa_cons (pv 3) pa_nil))))) pss_nil)
    (pss_cons (ps_if (pt_cmpR op_eq (pv 1) pe_str (nomark _)) (pss_one (ps_ret (pe_tup (pa_cons (pe_op op_sub (pv 2) (pv 3)) (pa_cons (pv 3) pa_nil))))) pss_nil)
    (pss_cons (ps_if (pt_cmpR op_gt (pv 2) pe_int (nomark _)) (pss_one (ps_ret (pe_tup (pa_cons (pe_op op_sub pe_int (pv 3)) (pa_cons (pv 2) pa_nil))))) pss_nil)
    (pss_cons (ps_if (pt_cmpR op_lt (pv 2) pe_int (nomark _)) (pss_one (ps_ret (pe_tup (pa_cons (pv 3) (pa_cons (pe_op op_sub pe_int (pv 2)) pa_nil))))) pss_nil)
    (pss_one (ps_ret (pe_tup (pa_cons pe_int (pa_cons pe_int pa_nil))))))))), ?_⟩
  have two : 2 ≤ sizeLine := fits (by decide)
  refine ⟨_, rfl, t, _, rfl, SqT.of hT, rfl, _, _, rfl, _, _, rfl, rfl, ?_⟩
  refine ⟨_, rfl, rfl, _, rfl, ite2 (fun c1 => ?_) (fun c1 => ?_)⟩
  · have k1 : c = 84 := (sign_eq e_T).mp (of_decide_eq_true c1)
    refine ⟨_, rfl, _, rfl, _, _, rfl, rfl, _, rfl, two, fun n hn => q n _ (same_new hn _) ?_⟩
    unfold Tup2 called
    rw [upd_same, if_pos k1]
  have k1 : ¬ c = 84 := fun z => c1 (decide_eq_true ((sign_eq e_T).mpr z))
  refine ⟨_, rfl, rfl, _, rfl, ite2 (fun c2 => ?_) (fun c2 => ?_)⟩
  · have k2 : c = 85 := (sign_eq e_U).mp (of_decide_eq_true c2)
    refine ⟨_, rfl, _, rfl, _, _, rfl, rfl, _, rfl, two, fun n hn => q n _ (same_new hn _) ?_⟩
    unfold Tup2 called
    rw [upd_same, if_neg k1, if_pos k2]
  have k2 : ¬ c = 85 := fun z => c2 (decide_eq_true ((sign_eq e_U).mpr z))
  refine ⟨_, rfl, _, _, rfl, rfl, _, rfl, ite2 (fun c3 => ?_) (fun c3 => ?_)⟩
  · have k3 : 0 < p := of_decide_eq_true c3
    refine ⟨_, rfl, _, _, rfl, rfl, _, rfl, two, fun n hn => q n _ (same_new hn _) ?_⟩
    unfold Tup2 called
    rw [upd_same, if_neg k1, if_neg k2, if_pos k3]
  have k3 : ¬ 0 < p := fun z => c3 (decide_eq_true z)
  refine ⟨_, rfl, _, _, rfl, rfl, _, rfl, ite2 (fun c4 => ?_) (fun c4 => ?_)⟩
  · have k4 : p < 0 := of_decide_eq_true c4
    refine ⟨_, rfl, _, rfl, _, _, rfl, rfl, two, fun n hn => q n _ (same_new hn _) ?_⟩
    unfold Tup2 called
    rw [upd_same, if_neg k1, if_neg k2, if_neg k3, if_pos k4]
  have k4 : ¬ p < 0 := fun z => c4 (decide_eq_true z)
  refine ⟨two, fun n hn => q n _ (same_new hn _) ?_⟩
  unfold Tup2 called
  rw [upd_same, if_neg k1, if_neg k2, if_neg k3, if_neg k4]
theorem Tup2.same {H H' : Hp} {t : Addr} {v : Int × Int} (h : Tup2 H t v) (s : Same H H') : Tup2 H' t v := s _ _ h
theorem Tup2.but {H H' : Hp} {a t : Addr} {v : Int × Int} (h : Tup2 H t v) (s : But a H H') (tp : Tape H a) : Tup2 H' t v := by
  obtain ⟨y, c, z, b, e⟩ := tp
  exact s _ _ (ne_of h e (by intro q; cases q)) h
def spNumber (K : PySem.W.Frag) : Sp := fun vs H Q _ => ∃ l : List Nat, vs = [.str (S l)] ∧ ∀ t' H', Same H H' → Tup2 H' t' (run (0, 1) l) → Q (.ref t') H'
theorem ok_number (F : Fun K "_law_number" "_law_number" s_law_number f fd) (DC : Dfn P w K mg base "_law_called" 1 ["value", "letter"] (spCalled K)) : FnOk P w K mg base CX0 2 f fd ["dance"] (spNumber K) := by
  refine F.ok sc_law_number (fun vs H Q E h => ?_) (fun cdv A outer s H vs Q E hr h => ?_)
  · obtain ⟨l, rfl, _⟩ := h
    rfl
  obtain ⟨l, rfl, q⟩ := h
  refine ⟨_, pss_cons (ps_set (i := 1) sc_law_number.nd rfl (.inl rfl) (pe_tup (pa_cons pe_int (pa_cons pe_int pa_nil))))
    (pss_cons (ps_for PassesOwn.never rfl (pi_str (pv 0)) (pg_name (i := 2) sc_law_number.nd rfl (.inl rfl))
      (pss_one (ps_set (i := 1) sc_law_number.nd rfl (.inl rfl) (pe_do DC hr (pa_cons (pv 1) (pa_cons (pv 2) pa_nil))))))
    (pss_one (ps_ret (pv 1)))), ?_⟩
  refine ⟨fits (by decide), fun p hp => ?_⟩
  refine ⟨_, rfl, _, rfl, for_str (l := l) (fun i σ H' => ∃ (t : Addr) (v : Option V), σ = [some (.str (S l)), some (.ref t), v] ∧ Same H H' ∧ Tup2 H' t (run (0, 1) (l.take i))) ?_ ?_ ?_⟩
  · exact ⟨p, _, rfl, same_new hp _, upd_same⟩
  · rintro i c σ H' hc ⟨t, v, rfl, sm, tt⟩
    refine ⟨_, rfl, _, rfl, t, _, c, rfl, tt, fun t' H2 s2 tt2 => ?_⟩
    exact ⟨t', _, rfl, sm.trans s2, by rw [run_take _ hc]; exact tt2⟩
  · rintro σ H' ⟨t, v, rfl, sm, tt⟩
    rw [List.take_of_length_le (Nat.le_refl _)] at tt
    exact ⟨_, rfl, q t H' sm tt⟩
end
section
theorem int_is {H : Hp} {n : Nat} {i : Int} : Is H n (.int i) (.int i) := by cases n <;> rfl
theorem str_is {H : Hp} {n : Nat} {z : Str} : Is H n (.str z) (.str z) := by cases n <;> rfl
theorem is_tup {H : Hp} {n : Nat} {a : Addr} {xs : List V} {ds : List Dt} (h : H a = some (.tup xs)) (z : xs.length = ds.length) (m : ds.length ≤ 1000000) (k : ∀ (i : Nat) (x : V) (d : Dt), xs[i]? = some x → ds[i]? = some d → Is H n x d) : Is H (n + 1) (.ref a) (.tup ds) := ⟨a, xs, rfl, h, z, m, k⟩
theorem is_lst {H : Hp} {n : Nat} {a : Addr} {xs : List V} {ds : List Dt} (h : H a = some (.lst xs)) (z : xs.length = ds.length) (m : ds.length ≤ 1000000) (k : ∀ (i : Nat) (x : V) (d : Dt), xs[i]? = some x → ds[i]? = some d → Is H n x d) : Is H (n + 1) (.ref a) (.lst ds) := ⟨a, xs, rfl, h, z, m, k⟩
end
section
/-! ### lists of tuples, each by its items -/
def Tl (H : Hp) (p : Addr) (ds : List (List V)) : Prop := ∃ rs : List Addr, H p = some (.lst (rs.map V.ref)) ∧ rs.length = ds.length ∧ ∀ (i : Nat) (r : Addr) (d : List V), rs[i]? = some r → ds[i]? = some d → H r = some (.tup d)
theorem Tl.same {H H' : Hp} {p : Addr} {ds : List (List V)} (h : Tl H p ds) (s : Same H H') : Tl H' p ds := by
  obtain ⟨rs, e, z, k⟩ := h
  exact ⟨rs, s _ _ e, z, fun i r d a b => s _ _ (k i r d a b)⟩
theorem Tl.but {H H' : Hp} {a p : Addr} {ds : List (List V)} {zs : List V} (h : Tl H p ds) (s : But a H H') (ne : p ≠ a) (ha : H a = some (.lst zs)) : Tl H' p ds := by
  obtain ⟨rs, e, z, k⟩ := h
  exact ⟨rs, s _ _ ne e, z, fun i r d x y => s _ _ (ne_of (k i r d x y) ha (by intro q; cases q)) (k i r d x y)⟩
theorem Tl.tape {H H' : Hp} {a p : Addr} {ds : List (List V)} (h : Tl H p ds) (s : But a H H') (ne : p ≠ a) (tp : Tape H a) : Tl H' p ds := by
  obtain ⟨y, c, z, b, e⟩ := tp
  exact h.but s ne e
theorem Tl.nil {H : Hp} {p : Addr} (h : H p = some (.lst [])) : Tl H p [] := ⟨[], h, rfl, fun i r d a _ => by cases a⟩
theorem Tl.lst {H : Hp} {p : Addr} {ds : List (List V)} (h : Tl H p ds) : ∃ xs, H p = some (.lst xs) ∧ xs.length = ds.length := by
  obtain ⟨rs, e, z, k⟩ := h
  exact ⟨_, e, by rw [List.length_map]; exact z⟩
theorem Tl.at {H : Hp} {p : Addr} {ds : List (List V)} (h : Tl H p ds) {i : Nat} {d : List V} (hd : ds[i]? = some d) : ∃ xs r, H p = some (.lst xs) ∧ xs.length = ds.length ∧ xs[i]? = some (.ref r) ∧ H r = some (.tup d) := by
  obtain ⟨rs, e, z, k⟩ := h
  have hi : i < rs.length := by rw [z]; exact (List.getElem?_eq_some_iff.mp hd).1
  refine ⟨_, rs[i], e, by rw [List.length_map]; exact z, by rw [List.getElem?_map, List.getElem?_eq_getElem hi]; rfl, k i _ _ (List.getElem?_eq_getElem hi) hd⟩
/-- a tuple that stands at t is appended -/
theorem Tl.push {H : Hp} {p t : Addr} {ds : List (List V)} {d : List V} (h : Tl H p ds) (ht : H t = some (.tup d)) :
    ∃ xs, H p = some (.lst xs) ∧ xs.length = ds.length ∧ Tl (upd H p (.lst (xs ++ [.ref t]))) p (ds ++ [d]) := by
  obtain ⟨rs, e, z, k⟩ := h
  refine ⟨rs.map V.ref, e, by rw [List.length_map]; exact z, rs ++ [t], by rw [upd_same, List.map_append]; rfl, by rw [List.length_append, List.length_append, z]; rfl, fun i r c' hr hc => ?_⟩
  by_cases hi : i < rs.length
  · rw [List.getElem?_append_left hi] at hr
    rw [List.getElem?_append_left (by omega)] at hc
    have hk := k i r c' hr hc
    rw [upd_ne (ne_of hk e (by intro q; cases q))]
    exact hk
  · rw [List.getElem?_append_right (by omega)] at hr hc
    rw [z] at hr
    by_cases h0 : i - ds.length = 0
    · rw [h0] at hr hc
      cases hr; cases hc
      rw [upd_ne (ne_of ht e (by intro q; cases q))]
      exact ht
    · obtain ⟨m, hm⟩ := Nat.exists_eq_succ_of_ne_zero h0
      rw [hm] at hr
      cases hr
/-- a new list of the same objects: another list at q, its items picked from those at p -/
theorem Tl.pick {H H' : Hp} {p q : Addr} {ds : List (List V)} (h : Tl H p ds) (s : Same H H') (js : List Nat) (hj : ∀ j ∈ js, j < ds.length) {xs : List V} (hp : H p = some (.lst xs)) (hq : H' q = some (.lst (js.filterMap fun j => xs[j]?))) : Tl H' q (js.filterMap fun j => ds[j]?) := by
  obtain ⟨rs, e, z, k⟩ := h
  rw [e] at hp
  cases hp
  refine ⟨js.filterMap fun j => rs[j]?, ?_, ?_, ?_⟩
  · rw [hq, List.map_filterMap]
    congr 3
    funext j
    rw [List.getElem?_map]
  · have : ∀ (js : List Nat), (∀ j ∈ js, j < ds.length) → (js.filterMap fun j => rs[j]?).length = (js.filterMap fun j => ds[j]?).length := by
      intro js
      induction js with
      | nil => intro _; rfl
      | cons j r ih =>
        intro hj
        have h1 := hj j List.mem_cons_self
        rw [List.filterMap_cons, List.filterMap_cons, List.getElem?_eq_getElem h1, List.getElem?_eq_getElem (by omega : j < rs.length)]
        simp only [List.length_cons]
        rw [ih fun x hx => hj x (List.mem_cons_of_mem _ hx)]
    exact this js hj
  · have : ∀ (js : List Nat), (∀ j ∈ js, j < ds.length) → ∀ (i : Nat) (r : Addr) (d : List V), (js.filterMap fun j => rs[j]?)[i]? = some r → (js.filterMap fun j => ds[j]?)[i]? = some d → H' r = some (.tup d) := by
      intro js
      induction js with
      | nil => intro _ i r d hr _; cases hr
      | cons j r ih =>
        intro hj i r d hr hd
        have h1 := hj j List.mem_cons_self
        rw [List.filterMap_cons, List.getElem?_eq_getElem (by omega : j < rs.length)] at hr
        rw [List.filterMap_cons, List.getElem?_eq_getElem h1] at hd
        cases i with
        | zero =>
          cases hr; cases hd
          exact s _ _ (k j _ _ (List.getElem?_eq_getElem (by omega)) (List.getElem?_eq_getElem h1))
        | succ i => exact ih (fun x hx => hj x (List.mem_cons_of_mem _ hx)) i r d hr hd
    exact this js hj
end
section
/-! ### moves -/
structure Mv where
  pl : Int
  o : List Nat
  n : List Nat
def wds : List (List Nat) := [[84, 85], [85, 84], [82, 82], [84, 82, 84, 82, 84, 82]]
def wF : List Nat := [82, 84, 82]
def isMv (m : Mv) : Bool := (decide (m.o = []) != decide (m.n = [])) && (decide (m.o ++ m.n ∈ wds) || (decide (m.pl = 0) && decide (m.o ++ m.n = wF)))
def canMv (d : List Nat) (m : Mv) : Bool := decide (0 ≤ m.pl) && (decide (m.pl ≤ d.length) && decide ((d.drop m.pl.toNat).take m.o.length = m.o))
def doMv (d : List Nat) (m : Mv) : List Nat := d.take m.pl.toNat ++ m.n ++ d.drop (m.pl.toNat + m.o.length)
def mkMv (d : List Nat) (m : Mv) : Option (List Nat) := if isMv m = true ∧ canMv d m = true then some (doMv d m) else none
theorem mkMv_some {d : List Nat} {m : Mv} (h1 : isMv m = true) (h2 : canMv d m = true) : mkMv d m = some (doMv d m) := if_pos ⟨h1, h2⟩
theorem mkMv_not {d : List Nat} {m : Mv} (h1 : isMv m = false) : mkMv d m = none := if_neg fun z => by rw [h1] at z; cases z.1
theorem mkMv_cannot {d : List Nat} {m : Mv} (h1 : canMv d m = false) : mkMv d m = none := if_neg fun z => by rw [h1] at z; cases z.2
def Mv.vs (m : Mv) : List V := [.int m.pl, .str (S m.o), .str (S m.n)]
def Tm (H : Hp) (t : Addr) (m : Mv) : Prop := H t = some (.tup m.vs)
theorem Tm.same {H H' : Hp} {t : Addr} {m : Mv} (h : Tm H t m) (s : Same H H') : Tm H' t m := s _ _ h
theorem Tm.but {H H' : Hp} {a t : Addr} {m : Mv} (h : Tm H t m) (s : But a H H') (tp : Tape H a) : Tm H' t m := by
  obtain ⟨y, c, z, b, e⟩ := tp
  exact s _ _ (ne_of h e (by intro q; cases q)) h
theorem e_TU : (("TU" : Str)) = S [84, 85] := by decide +kernel
theorem e_UT : (("UT" : Str)) = S [85, 84] := by decide +kernel
theorem e_RR : (("RR" : Str)) = S [82, 82] := by decide +kernel
theorem e_RTR : (("RTR" : Str)) = S wF := by decide +kernel
theorem e_six : (("TRTRTR" : Str)) = S [84, 82, 84, 82, 84, 82] := by decide +kernel
theorem e_near : (("TURS_t" : Str)) = S [84, 85, 82, 83, 95, 116] := by decide +kernel
theorem e_TUR : (("TUR" : Str)) = S [84, 85, 82] := by decide +kernel
def tx (l : List Nat) : V := .str (S l)
theorem tx_inj {a b : List Nat} (h : tx a = tx b) : a = b := S_inj (V.str.inj h)
theorem tx_iff {a b : List Nat} : V.str (S a) = V.str (S b) ↔ a = b := ⟨fun h => tx_inj h, fun h => by rw [h]⟩
theorem four_words : [V.str "TU", .str "UT", .str "RR", .str "TRTRTR"] = wds.map tx := by
  rw [e_TU, e_UT, e_RR, e_six]
  rfl
theorem eqV_str (a b : List Nat) : eqV (.str (S a)) (.str (S b)) = decide (a = b) := by
  show (S a == S b) = _
  by_cases h : a = b
  · subst h
    rw [decide_eq_true rfl]
    exact beq_self_eq_true _
  · rw [decide_eq_false h]
    exact beq_eq_false_iff_ne.mpr fun z => h (S_inj z)
theorem inV_strs (w : List Nat) (ws : List (List Nat)) : inV (.str (S w)) (ws.map tx) = decide (w ∈ ws) := by
  unfold inV
  induction ws with
  | nil => simp
  | cons a r ih =>
    rw [List.map_cons, List.any_cons, ih]
    show (eqV (.str (S a)) (.str (S w)) || _) = _
    rw [eqV_str, Bool.eq_iff_iff]
    simp only [Bool.or_eq_true, decide_eq_true_eq, List.mem_cons]
    constructor
    · rintro (h | h)
      · exact .inl h.symm
      · exact .inr h
    · rintro (h | h)
      · exact .inl h.symm
      · exact .inr h
theorem flat_strs (ws : List (List Nat)) : (ws.map tx).all flatV = true := by
  rw [List.all_eq_true]
  intro x hx
  obtain ⟨w, _, rfl⟩ := List.mem_map.mp hx
  rfl
theorem S_mid (l : List Nat) {p : Int} (h : 0 ≤ p) (k : Nat) : cutS (S l) (some p) (some (p + (k : Int))) = S ((l.drop p.toNat).take k) := by
  obtain ⟨n, rfl⟩ := Int.eq_ofNat_of_zero_le h
  have e : ((n : Int) + (k : Int)) = ((n + k : Nat) : Int) := rfl
  rw [S_cut, e, HT.sIx_nat, HT.sIx_nat, Int.toNat_natCast]
  congr 1
  by_cases h2 : n ≤ l.length
  · rw [Nat.min_eq_left h2]
    by_cases h3 : n + k ≤ l.length
    · rw [Nat.min_eq_left h3]
      congr 1
      omega
    · rw [Nat.min_eq_right (by omega), List.take_of_length_le (by rw [List.length_drop]; omega), List.take_of_length_le (by rw [List.length_drop]; omega)]
  · rw [List.drop_eq_nil_of_le (show l.length ≤ min n l.length by omega), List.drop_eq_nil_of_le (show l.length ≤ n by omega), List.take_nil, List.take_nil]
theorem pick_strs {ws : List (List Nat)} {r : Int} (h0 : 0 ≤ r) (h1 : r < (ws.length : Int)) : ∃ u, atI (ws.map tx) r = some (.str (S u)) ∧ u ∈ ws := by
  obtain ⟨c, hc, m⟩ := atI_mk (xs := ws.map tx) h0 (by rw [List.length_map]; exact h1)
  obtain ⟨u, hu, rfl⟩ := List.mem_map.mp m
  exact ⟨u, hc, hu⟩
theorem pick_ints {ns : List Int} {r : Int} (h0 : 0 ≤ r) (h1 : r < (ns.length : Int)) : ∃ u, atI (ns.map V.int) r = some (.int u) ∧ u ∈ ns := by
  obtain ⟨c, hc, m⟩ := atI_mk (xs := ns.map V.int) h0 (by rw [List.length_map]; exact h1)
  obtain ⟨u, hu, rfl⟩ := List.mem_map.mp m
  exact ⟨u, hc, hu⟩
theorem pick_sign {z : Str} {l : List Nat} (e : z = S l) {r : Int} (h0 : 0 ≤ r) (h1 : r < (l.length : Int)) : ∃ c, atI z.cps.toList r = some c ∧ c ∈ l := by
  subst e
  rw [S_list]
  exact atI_mk h0 h1
theorem isMv_empty {m : Mv} : isMv m = true → m.o = [] ∨ m.n = [] := by
  intro h
  unfold isMv at h
  by_cases h1 : m.o = []
  · exact .inl h1
  · by_cases h2 : m.n = []
    · exact .inr h2
    · rw [decide_eq_false h1, decide_eq_false h2] at h
      cases h
/-- short enough to be handled -/
structure Mv.Fit (m : Mv) (k : Nat) : Prop where
  o : m.o.length ≤ k
  n : m.n.length ≤ k
theorem Mv.Fit.mono {m : Mv} {j k : Nat} (h : m.Fit j) (l : j ≤ k) : m.Fit k := ⟨Nat.le_trans h.o l, Nat.le_trans h.n l⟩
theorem doMv_len {d : List Nat} {m : Mv} {k : Nat} (h : m.Fit k) : (doMv d m).length ≤ d.length + k := by
  unfold doMv
  have := h.n
  simp only [List.length_append, List.length_take, List.length_drop]
  omega
def tMade : Option (List Nat) → V
  | some d => .str (S d)
  | none => .non
def spIsMove : Sp := fun vs H Q _ => ∃ (t : Addr) (m : Mv), vs = [.ref t] ∧ Tm H t m ∧ m.Fit 100000 ∧ ∀ H', Same H H' → Q (.bl (isMv m)) H'
def spLawMade : Sp := fun vs H Q _ => ∃ (d : List Nat) (t : Addr) (m : Mv), vs = [.str (S d), .ref t] ∧ Tm H t m ∧ m.Fit 100000 ∧ d.length ≤ 1000000 ∧ ∀ H', Same H H' → Q (tMade (mkMv d m)) H'
/-- made, where the move can be made -/
def spMade : Sp := fun vs H Q _ => ∃ (d : List Nat) (t : Addr) (m : Mv) (x : List Nat), vs = [.str (S d), .ref t] ∧ Tm H t m ∧ m.Fit 100000 ∧ d.length ≤ 1000000 ∧ mkMv d m = some x ∧ ∀ H', Same H H' → Q (.str (S x)) H'
/-- made, both ways -/
def spMadeX (C : Addr) : Sp := fun vs H Q E => ∃ (d : List Nat) (t : Addr) (m : Mv), vs = [.str (S d), .ref t] ∧ Tm H t m ∧ m.Fit 100000 ∧ d.length ≤ 1000000 ∧ (∀ x, mkMv d m = some x → ∀ H', Same H H' → Q (.str (S x)) H') ∧ (mkMv d m = none → ∀ H', Same H H' → E (.ref C) none H')
/-- what the drawn moves keep -/
def Cn (d : List Nat) (m : Mv) : Prop := isMv m = true ∧ canMv d m = true ∧ m.Fit 6
def spPut : Sp := fun vs H Q _ => ∃ (a : Addr) (d : List Nat), vs = [.ref a, .str (S d)] ∧ Tape H a ∧ d.length ≤ 1000000 ∧ ∀ (t : Addr) (m : Mv) H', Cn d m → m.o = [] → But a H H' → Tape H' a → Tm H' t m → Q (.ref t) H'
def spTaken : Sp := fun vs H Q _ => ∃ (a : Addr) (d : List Nat), vs = [.ref a, .str (S d)] ∧ Tape H a ∧ d.length ≤ 1000000 ∧ ∀ (t : Addr) (m : Mv) H', Cn d m → But a H H' → Tape H' a → Tm H' t m → Q (.ref t) H'
def spNear : Sp := fun vs H Q _ => ∃ (a : Addr), vs = [.ref a] ∧ Tape H a ∧ ∀ (u : List Nat) H', u.length ≤ 20 → But a H H' → Tape H' a → Q (.str (S u)) H'
def spOdd : Sp := fun vs H Q _ => ∃ (a t0 : Addr) (m0 : Mv) (k : Nat), vs = [.ref a, .ref t0] ∧ Tape H a ∧ Tm H t0 m0 ∧ m0.Fit k ∧ 20 ≤ k ∧ k ≤ 10000 ∧ ∀ (t : Addr) (m : Mv) H', m.Fit (2 * k) → But a H H' → Tape H' a → Tm H' t m → Q (.ref t) H'
theorem wds_len {u : List Nat} (h : u ∈ wds) : u.length ≤ 6 ∧ 2 ≤ u.length := by
  simp only [wds, List.mem_cons, List.not_mem_nil, or_false] at h
  rcases h with rfl | rfl | rfl | rfl <;> decide
theorem Cn.put {d u : List Nat} {p : Int} (h : u ∈ wds) (h0 : 0 ≤ p) (h1 : p ≤ d.length) : Cn d ⟨p, [], u⟩ := by
  have hl := wds_len h
  have hu : u ≠ [] := fun z => by subst z; simp at hl
  refine ⟨?_, ?_, ⟨Nat.zero_le _, hl.1⟩⟩
  · unfold isMv
    simp only [decide_true, decide_eq_false hu, List.nil_append, decide_eq_true h]
    rfl
  · unfold canMv
    simp only [decide_eq_true h0, decide_eq_true h1, List.length_nil, List.take_zero, decide_true, Bool.and_true]
theorem Cn.putF (d : List Nat) : Cn d ⟨0, [], wF⟩ := by
  refine ⟨by decide, ?_, ⟨Nat.zero_le _, by decide⟩⟩
  unfold canMv
  simp only [List.length_nil, List.take_zero, decide_true, Bool.and_true, Int.le_refl, Bool.true_and]
  exact decide_eq_true (Int.natCast_nonneg _)
theorem Cn.take {d u : List Nat} {p : Int} (h : u ∈ wds) (h0 : 0 ≤ p) (h1 : p ≤ d.length) (e : (d.drop p.toNat).take u.length = u) : Cn d ⟨p, u, []⟩ := by
  have hl := wds_len h
  have hu : u ≠ [] := fun z => by subst z; simp at hl
  refine ⟨?_, ?_, ⟨hl.1, Nat.zero_le _⟩⟩
  · unfold isMv
    simp only [decide_true, decide_eq_false hu, List.append_nil, decide_eq_true h]
    rfl
  · unfold canMv
    simp only [decide_eq_true h0, decide_eq_true h1, decide_eq_true e, Bool.and_true]
theorem Cn.takeF {d : List Nat} (e : d.take 3 = wF) : Cn d ⟨0, wF, []⟩ := by
  refine ⟨by decide, ?_, ⟨by decide, Nat.zero_le _⟩⟩
  unfold canMv
  have : (List.drop (Int.toNat 0) d).take wF.length = wF := e
  simp only [decide_eq_true this, decide_true, Bool.and_true, Int.le_refl, Bool.true_and]
  exact decide_eq_true (Int.natCast_nonneg _)
theorem S_eta (z : Str) : S z.cps.toList = z := by
  cases z
  simp [S]
theorem pick_zs {zs : List Str} {n : Nat} (hz : ∀ z ∈ zs, z.length ≤ n) {r : Int} (h0 : 0 ≤ r) (h1 : r < (zs.length : Int)) : ∃ u : List Nat, atI (zs.map V.str) r = some (.str (S u)) ∧ u.length ≤ n := by
  obtain ⟨c, hc, m⟩ := atI_mk (xs := zs.map V.str) h0 (by rw [List.length_map]; exact h1)
  obtain ⟨z, hm, rfl⟩ := List.mem_map.mp m
  refine ⟨z.cps.toList, by rw [S_eta]; exact hc, ?_⟩
  have := hz z hm
  rw [← S_eta z, S_len] at this
  exact this
theorem mkMv_inv {d x : List Nat} {m : Mv} (h : mkMv d m = some x) : isMv m = true ∧ canMv d m = true ∧ x = doMv d m := by
  unfold mkMv at h
  by_cases c : isMv m = true ∧ canMv d m = true
  · rw [if_pos c] at h
    exact ⟨c.1, c.2, (Option.some.inj h).symm⟩
  · rw [if_neg c] at h
    cases h
theorem canMv_inv {d : List Nat} {m : Mv} (h : canMv d m = true) : 0 ≤ m.pl ∧ m.pl ≤ d.length ∧ (d.drop m.pl.toNat).take m.o.length = m.o := by
  unfold canMv at h
  simp only [Bool.and_eq_true, decide_eq_true_eq] at h
  exact h
def spHolds : Sp := fun vs H Q _ => ∃ (d : List Nat) (t : Addr) (m : Mv), vs = [.str (S d), .ref t] ∧ Tm H t m ∧ m.Fit 100000 ∧ d.length ≤ 1000000 ∧ ∀ H', Same H H' → Q (.bl true) H'
theorem pick_two {t1 t2 : Addr} {m1 m2 : Mv} {H : Hp} {d : List Nat} (h1 : Tm H t1 m1) (h2 : Tm H t2 m2) (c1 : Cn d m1) (c2 : Cn d m2) {r : Int} (r0 : 0 ≤ r) (r1 : r < 2) : ∃ (t : Addr) (m : Mv), atI [V.ref t1, .ref t2] r = some (.ref t) ∧ Tm H t m ∧ Cn d m := by
  have : r = 0 ∨ r = 1 := by omega
  rcases this with rfl | rfl
  · exact ⟨t1, m1, rfl, h1, c1⟩
  · exact ⟨t2, m2, rfl, h2, c2⟩
end
section
/-! ### == of two lists of the same objects -/
theorem vals_refs : ∀ {rs : List Addr} {its : List Value}, Vals (rs.map V.ref) its → its = rs.map Value.ref
  | [], _, h => by cases h; rfl
  | a :: r, _, h => by
    cases h with
    | cons h1 h2 =>
      have e1 : _ = Value.ref a := h1
      rw [e1, vals_refs h2]
      rfl
theorem eqP_self {prog : Program} {w : World} {A : Around} {s : Shared} (a : Addr) : SeqAt.EqP prog w A s (.ref a) (.ref a) true := fun E Q hq => by
  unfold eqBool
  refine wpAny_holding ?_
  exact wpAny_ite_split (fun _ => wpAny_bind (wpAny_rule (wpAny_pure hq))) (fun z => absurd (beq_self_eq_true _) z)
theorem op_eq_sameL {X : Cx} (hu : X.A.units < cLine) : OpR X (compareOp .Eq) (fun x y H Q => ∃ (p q : Addr) (rs : List Addr), x = .ref p ∧ y = .ref q ∧ SqL X.K H p (rs.map V.ref) ∧ SqL X.K H q (rs.map V.ref) ∧ Q (.bl true) H) := by
  intro pins s σ H x y v u Q I rx ry h
  obtain ⟨p, q, rs, rfl, rfl, hp, hq, hQ⟩ := h
  cases rx
  cases ry
  obtain ⟨its, r1, l1, _⟩ := I.list hp
  obtain ⟨its2, r2, l2, _⟩ := I.list hq
  have e1 := vals_refs r1
  have e2 := vals_refs r2
  subst e1 e2
  refine SeqAt.rcP_lists (e := fun _ => true) l1.isList l2.isList rfl hu (fun j h1 h2 => ?_) _ _ ?_
  · have hj : j < rs.length := by simpa using h1
    have e : ((rs.map Value.ref).toArray)[j] = Value.ref rs[j] := by simp
    rw [e]
    exact eqP_self _
  · refine ⟨.bl true, H, I, ?_, hQ⟩
    show Value.bool _ = Value.bool true
    congr 1
    simp
/-! ### rows of moves -/
def FitAll (ms : List Mv) (k : Nat) : Prop := ∀ m ∈ ms, m.Fit k
def led (d : List Nat) (ms : List Mv) : Option (List Nat) := ms.foldl (fun o m => o.bind fun x => mkMv x m) (some d)
theorem led_take {d : List Nat} {ms : List Mv} {i : Nat} {m : Mv} (h : ms[i]? = some m) : led d (ms.take (i + 1)) = (led d (ms.take i)).bind fun x => mkMv x m := by
  unfold led
  rw [List.take_add_one, h, List.foldl_append]
  rfl
theorem led_none (ms : List Mv) : ms.foldl (fun o m => o.bind fun x => mkMv x m) none = none := by
  induction ms with
  | nil => rfl
  | cons m r ih => exact ih
theorem led_stop {d : List Nat} {ms : List Mv} {i : Nat} (h : led d (ms.take i) = none) : led d ms = none := by
  have : led d ms = (ms.drop i).foldl (fun o m => o.bind fun x => mkMv x m) (led d (ms.take i)) := by
    unfold led
    rw [← List.foldl_append, List.take_append_drop]
  rw [this, h]
  exact led_none _
theorem mkMv_len {d x : List Nat} {m : Mv} {k : Nat} (f : m.Fit k) (h : mkMv d m = some x) : x.length ≤ d.length + k := by
  obtain ⟨_, _, rfl⟩ := mkMv_inv h
  exact doMv_len f
/-- items that stand for moves -/
def Mi (H : Hp) (k : Nat) (y : V) : Prop := ∃ (r : Addr) (m : Mv), y = .ref r ∧ Tm H r m ∧ m.Fit k
def Ml (H : Hp) (p : Addr) (k n : Nat) : Prop := ∃ xs, H p = some (.lst xs) ∧ xs.length ≤ n ∧ ∀ y ∈ xs, Mi H k y
theorem Mi.same {H H' : Hp} {k : Nat} {y : V} (h : Mi H k y) (s : Same H H') : Mi H' k y := by
  obtain ⟨r, m, e, t, f⟩ := h
  exact ⟨r, m, e, t.same s, f⟩
theorem Mi.but {H H' : Hp} {a : Addr} {k : Nat} {y : V} (h : Mi H k y) (s : But a H H') (tp : Tape H a) : Mi H' k y := by
  obtain ⟨r, m, e, t, f⟩ := h
  exact ⟨r, m, e, t.but s tp, f⟩
theorem Mi.mono {H : Hp} {k k' : Nat} {y : V} (h : Mi H k y) (l : k ≤ k') : Mi H k' y := by
  obtain ⟨r, m, e, t, f⟩ := h
  exact ⟨r, m, e, t, f.mono l⟩
theorem Ml.same {H H' : Hp} {p : Addr} {k n : Nat} (h : Ml H p k n) (s : Same H H') : Ml H' p k n := by
  obtain ⟨xs, e, z, a⟩ := h
  exact ⟨xs, s _ _ e, z, fun y hy => (a y hy).same s⟩
theorem Ml.tape {H H' : Hp} {a p : Addr} {k n : Nat} (h : Ml H p k n) (s : But a H H') (ne : p ≠ a) (tp : Tape H a) : Ml H' p k n := by
  obtain ⟨xs, e, z, al⟩ := h
  exact ⟨xs, s _ _ ne e, z, fun y hy => (al y hy).but s tp⟩
theorem Ml.tl {H : Hp} {p : Addr} {k n : Nat} (h : Ml H p k n) : ∃ ms : List Mv, Tl H p (ms.map Mv.vs) ∧ FitAll ms k ∧ ms.length ≤ n := by
  obtain ⟨xs, e, z, al⟩ := h
  suffices h : ∀ xs : List V, (∀ y ∈ xs, Mi H k y) → ∃ (rs : List Addr) (ms : List Mv), xs = rs.map V.ref ∧ rs.length = ms.length ∧ FitAll ms k ∧ ∀ (i : Nat) (r : Addr) (m : Mv), rs[i]? = some r → ms[i]? = some m → Tm H r m by
    obtain ⟨rs, ms, rfl, lz, fa, pw⟩ := h xs al
    refine ⟨ms, ⟨rs, e, by rw [List.length_map]; exact lz, fun i r d hr hd => ?_⟩, fa, by rw [← lz]; rw [List.length_map] at z; exact z⟩
    rw [List.getElem?_map] at hd
    cases hm : ms[i]? with
    | none => rw [hm] at hd; cases hd
    | some m =>
      rw [hm] at hd
      cases hd
      exact pw i r m hr hm
  intro xs
  induction xs with
  | nil => intro _; exact ⟨[], [], rfl, rfl, (fun m hm => by cases hm), fun i r m hr _ => by cases hr⟩
  | cons x r ih =>
    intro al
    obtain ⟨rs, ms, rfl, lz, fa, pw⟩ := ih fun y hy => al y (List.mem_cons_of_mem _ hy)
    obtain ⟨a, m, rfl, t, f⟩ := al x List.mem_cons_self
    refine ⟨a :: rs, m :: ms, rfl, by rw [List.length_cons, List.length_cons, lz], fun y hy => ?_, fun i r' m' hr hm => ?_⟩
    · rcases List.mem_cons.mp hy with rfl | hy
      · exact f
      · exact fa y hy
    · cases i with
      | zero => cases hr; cases hm; exact t
      | succ i => exact pw i r' m' hr hm
theorem Tl.ml {H : Hp} {p : Addr} {ms : List Mv} {k n : Nat} (h : Tl H p (ms.map Mv.vs)) (f : FitAll ms k) (z : ms.length ≤ n) : Ml H p k n := by
  obtain ⟨rs, e, lz, pw⟩ := h
  rw [List.length_map] at lz
  refine ⟨_, e, by rw [List.length_map, lz]; exact z, fun y hy => ?_⟩
  obtain ⟨i, hi, rfl⟩ := List.getElem_of_mem hy
  rw [List.length_map] at hi
  have hm : i < ms.length := by omega
  refine ⟨rs[i], ms[i], by rw [List.getElem_map], pw i _ _ (List.getElem?_eq_getElem hi) (by rw [List.getElem?_map, List.getElem?_eq_getElem hm]; rfl), f _ (List.getElem_mem hm)⟩
theorem cutV_mem {xs : List V} {lo hi : Option Int} {y : V} (h : y ∈ cutV xs lo hi) : y ∈ xs := List.mem_of_mem_drop (List.mem_of_mem_take h)
def spLeads : Sp := fun vs H Q _ => ∃ (o e : List Nat) (p : Addr) (ms : List Mv), vs = [.str (S o), .ref p, .str (S e)] ∧ Tl H p (ms.map Mv.vs) ∧ FitAll ms 200 ∧ ms.length ≤ 1000 ∧ o.length ≤ 1000 ∧ ∀ H', Same H H' → Q (.bl (decide (led o ms = some e))) H'
def spRow : Sp := fun vs H Q _ => ∃ (o e : List Nat) (p : Addr), vs = [.str (S o), .ref p, .str (S e)] ∧ Ml H p 200 1000 ∧ o.length ≤ 1000 ∧ ∀ H', Same H H' → Q (.bl true) H'
def spMoves : Sp := fun vs H Q _ => ∃ (a : Addr) (d : List Nat) (n : Int), vs = [.ref a, .str (S d), .int n] ∧ Tape H a ∧ d.length ≤ 40 ∧ 0 ≤ n ∧ n ≤ 100 ∧ ∀ (t p : Addr) (ms : List Mv) (x : List Nat) H', But a H H' → Tape H' a → H p = none → H' t = some (.tup [.ref p, .str (S x)]) → Tl H' p (ms.map Mv.vs) → FitAll ms 6 → (ms.length : Int) ≤ n → led d ms = some x → x.length ≤ 100 → Q (.ref t) H'
def spChanged : Sp := fun vs H Q _ => ∃ (a p : Addr) (k n : Nat), vs = [.ref a, .ref p] ∧ Tape H a ∧ p ≠ a ∧ Ml H p k n ∧ n ≤ 1000 ∧ 20 ≤ k ∧ k ≤ 1000 ∧ ∀ (p' : Addr) H', But a H H' → Tape H' a → p' ≠ a → Ml H' p' (2 * k) (3 * n + 1) → Q (.ref p') H'
def spPlain : Sp := fun vs H Q _ => ∃ (o : List Nat) (t : Addr) (m : Mv), vs = [.str (S o), .ref t] ∧ Tm H t m ∧ m.Fit 200 ∧ o.length ≤ 1000 ∧ (∀ H', Same H H' → Q .non H') ∧ ∀ x H', Same H H' → Q (.str (S x)) H'
def spSingle : Sp := fun vs H Q _ => ∃ (o : List Nat) (t : Addr) (m : Mv), vs = [.str (S o), .ref t] ∧ Tm H t m ∧ m.Fit 200 ∧ o.length ≤ 1000 ∧ ∀ H', Same H H' → Q (.bl true) H'
end
section
open TL (joinL tl tl_join join_eq split_join)
/-! ### standard dances -/
def nx (p q : Int) : Int := (p / q + 1) * q - p
theorem nx_eq (p q : Int) : nx p q = q - p % q := by
  unfold nx
  have := Int.mul_ediv_add_emod p q
  rw [Int.add_mul, Int.one_mul, Int.mul_comm]
  omega
theorem nx_gcd (p q : Int) : Int.gcd q (nx p q) = Int.gcd p q := by
  unfold nx
  rw [show (p / q + 1) * q - p = -p + q * (p / q + 1) by rw [Int.mul_comm]; omega, Int.gcd_add_mul_left_right, Int.gcd_neg, Int.gcd_comm]
theorem nx_pos {p q : Int} (h : 0 < q) : 0 < nx p q := by
  rw [nx_eq]
  have := Int.emod_lt_of_pos p h
  omega
theorem nx_lt {p q : Int} (h : 1 < q) (g : Int.gcd p q = 1) : nx p q < q := by
  rw [nx_eq]
  have h1 := Int.emod_nonneg p (show q ≠ 0 by omega)
  have h2 : p % q ≠ 0 := fun z => by
    have d : q ∣ p := Int.dvd_of_emod_eq_zero z
    have := Int.gcd_eq_natAbs_right d
    omega
  omega
def rn (b : Int) : List Nat := if b < 0 then List.replicate (-b).toNat 85 else List.replicate b.toNat 84
def bsF : Nat → Int → Int → List Int
  | 0, p, _ => [p]
  | n + 1, p, q => if q ≤ 1 then [p] else bsF n q (nx p q) ++ [p / q + 1]
def bs (p q : Int) : List Int := bsF q.toNat p q
theorem bsF_more : ∀ (n m : Nat) (p q : Int), 0 < q → Int.gcd p q = 1 → q ≤ n → q ≤ m → bsF n p q = bsF m p q
  | 0, _, p, q, h, _, hn, _ => by omega
  | n + 1, 0, p, q, h, _, _, hm => by omega
  | n + 1, m + 1, p, q, h, g, hn, hm => by
    unfold bsF
    by_cases c : q ≤ 1
    · rw [if_pos c, if_pos c]
    · rw [if_neg c, if_neg c, bsF_more n m q (nx p q) (nx_pos h) (by rw [nx_gcd]; exact g) (by have := nx_lt (show 1 < q by omega) g; omega) (by have := nx_lt (show 1 < q by omega) g; omega)]
theorem bs_one (p : Int) : bs p 1 = [p] := rfl
theorem bs_step {p q : Int} (h : 1 < q) (g : Int.gcd p q = 1) : bs p q = bs q (nx p q) ++ [p / q + 1] := by
  have l := nx_lt h g
  have l0 := nx_pos (p := p) (show 0 < q by omega)
  have e : q.toNat = (q.toNat - 1) + 1 := by omega
  have e1 : bs p q = bsF (q.toNat - 1) q (nx p q) ++ [p / q + 1] := by
    unfold bs
    generalize q.toNat - 1 = m at e
    rw [e]
    show (if q ≤ 1 then [p] else bsF m q (nx p q) ++ [p / q + 1]) = _
    rw [if_neg (by omega)]
  rw [e1]
  unfold bs
  rw [bsF_more (q.toNat - 1) (nx p q).toNat q (nx p q) l0 (by rw [nx_gcd]; exact g) (by omega) (by omega)]
theorem bs_ne {p q : Int} : bs p q ≠ [] := by
  unfold bs
  cases q.toNat with
  | zero => intro h; cases h
  | succ n =>
    unfold bsF
    split
    · intro h; cases h
    · intro h; simp at h
def stv (v : Int × Int) : List Nat := if v.2 = 0 then [82] else joinL [82] ((bs v.1 v.2).map rn)
theorem joinL_snoc (S y : List Nat) : ∀ {xs : List (List Nat)}, xs ≠ [] → joinL S (xs ++ [y]) = joinL S xs ++ (S ++ y)
  | [], h => absurd rfl h
  | [x], _ => rfl
  | x :: z :: r, _ => by
    show x ++ (S ++ joinL S ((z :: r) ++ [y])) = (x ++ (S ++ joinL S (z :: r))) ++ (S ++ y)
    rw [joinL_snoc S y (xs := z :: r) (by simp)]
    simp
theorem run_rn (p q b : Int) : run (p, q) (rn b) = (p + b * q, q) := by
  have up : ∀ (n : Nat) (p : Int), run (p, q) (List.replicate n 84) = (p + n * q, q) := by
    intro n
    induction n with
    | zero => intro p; simp [run]
    | succ n ih =>
      intro p
      rw [List.replicate_succ]
      show run (called (p, q) 84) _ = _
      rw [show called (p, q) 84 = (p + q, q) from rfl, ih]
      congr 1
      rw [Int.natCast_add, Int.add_mul, Int.natCast_one, Int.one_mul]
      omega
  have dn : ∀ (n : Nat) (p : Int), run (p, q) (List.replicate n 85) = (p - n * q, q) := by
    intro n
    induction n with
    | zero => intro p; simp [run]
    | succ n ih =>
      intro p
      rw [List.replicate_succ]
      show run (called (p, q) 85) _ = _
      rw [show called (p, q) 85 = (p - q, q) from rfl, ih]
      congr 1
      rw [Int.natCast_add, Int.add_mul, Int.natCast_one, Int.one_mul]
      omega
  unfold rn
  by_cases c : b < 0
  · rw [if_pos c, dn, Int.toNat_of_nonneg (by omega)]
    congr 1
    rw [Int.neg_mul]
    omega
  · rw [if_neg c, up, Int.toNat_of_nonneg (by omega)]
theorem num_bs : ∀ (n : Nat) (p q : Int), 0 < q → Int.gcd p q = 1 → q ≤ n → run (0, 1) (joinL [82] ((bs p q).map rn)) = (p, q)
  | 0, p, q, h, _, hn => by omega
  | n + 1, p, q, h, g, hn => by
    by_cases c : q = 1
    · subst c
      rw [bs_one]
      show run (0, 1) (rn p) = (p, 1)
      rw [run_rn]
      simp
    · have hq : 1 < q := by omega
      have l := nx_lt hq g
      rw [bs_step hq g, List.map_append, List.map_singleton, joinL_snoc [82] _ (fun z => bs_ne (List.map_eq_nil_iff.mp z)), run_app, num_bs n q (nx p q) (nx_pos h) (by rw [nx_gcd]; exact g) (by omega), run_app]
      show run (called (q, nx p q) 82) _ = _
      have e : called (q, nx p q) 82 = (0 - nx p q, q) := by
        unfold called
        rw [if_neg (by decide), if_neg (by decide), if_pos (show 0 < (q, nx p q).1 from h)]
      rw [e, run_rn]
      congr 1
      unfold nx
      omega
theorem num_stv {v : Int × Int} (h : Good v) : run (0, 1) (stv v) = v := by
  obtain ⟨p, q⟩ := v
  obtain ⟨h1, h2⟩ := h
  unfold stv
  by_cases c : q = 0
  · rcases h1 with h1 | h1
    · have : (0 : Int) < q := h1
      omega
    · cases h1
      rfl
  · rw [if_neg (show ¬ (p, q).2 = 0 from c)]
    have h0 : 0 < q := by
      rcases h1 with h1 | h1
      · exact h1
      · cases h1; exact absurd rfl c
    exact num_bs q.toNat p q h0 h2 (by omega)
theorem rn_len (b : Int) : (rn b).length = b.natAbs := by
  unfold rn
  split
  · rw [List.length_replicate]; omega
  · rw [List.length_replicate]; omega
theorem one_le_div {p q : Int} (h : 0 < q) (hp : q ≤ p) : 1 ≤ p / q := Int.le_ediv_of_mul_le h (by omega)
theorem len_in : ∀ (n : Nat) (p q : Int), 0 < q → q < p → Int.gcd p q = 1 → q ≤ n → ((joinL [82] ((bs p q).map rn)).length : Int) ≤ 3 * p
  | 0, p, q, h, _, _, hn => by omega
  | n + 1, p, q, h, hp, g, hn => by
    by_cases c : q = 1
    · subst c
      rw [bs_one]
      show ((rn p).length : Int) ≤ _
      rw [rn_len]
      omega
    · have hq : 1 < q := by omega
      have l := nx_lt hq g
      have l0 := nx_pos (p := p) h
      have ih := len_in n q (nx p q) l0 l (by rw [nx_gcd]; exact g) (by omega)
      rw [bs_step hq g, List.map_append, List.map_singleton, joinL_snoc [82] _ (fun z => bs_ne (List.map_eq_nil_iff.mp z)), List.length_append, List.length_append, rn_len]
      have e := Int.mul_ediv_add_emod p q
      have r0 := Int.emod_lt_of_pos p h
      rw [nx_eq] at l0 l
      have a1 : 1 ≤ p / q := one_le_div h (by omega)
      have m : (p / q - 1) * 1 ≤ (p / q - 1) * q := Int.mul_le_mul_of_nonneg_left (by omega) (by omega)
      have m2 : (p / q - 1) * q = q * (p / q) - q := by rw [Int.sub_mul, Int.one_mul, Int.mul_comm]
      rw [m2, Int.mul_one] at m
      show ((_ + ([82].length + (p / q + 1).natAbs) : Nat) : Int) ≤ _
      have : ([82] : List Nat).length = 1 := rfl
      omega
theorem ediv_abs {p q : Int} (h : 0 < q) : (p / q + 1).natAbs ≤ p.natAbs + 1 := by
  have e := Int.mul_ediv_add_emod p q
  have r0 := Int.emod_lt_of_pos p h
  have r1 := Int.emod_nonneg p (show q ≠ 0 by omega)
  have a := Int.natAbs_ediv_le_natAbs p q.toNat
  rw [Int.toNat_of_nonneg (by omega)] at a
  omega
theorem len_out {p q : Int} (h : 0 < q) (g : Int.gcd p q = 1) : ((joinL [82] ((bs p q).map rn)).length : Int) ≤ p.natAbs + 3 * q + 2 := by
  by_cases c : q = 1
  · subst c
    rw [bs_one]
    show ((rn p).length : Int) ≤ _
    rw [rn_len]
    omega
  · have hq : 1 < q := by omega
    have l := nx_lt hq g
    have l0 := nx_pos (p := p) h
    have ih := len_in q.toNat q (nx p q) l0 l (by rw [nx_gcd]; exact g) (by omega)
    rw [bs_step hq g, List.map_append, List.map_singleton, joinL_snoc [82] _ (fun z => bs_ne (List.map_eq_nil_iff.mp z)), List.length_append, List.length_append, rn_len]
    have := ediv_abs (p := p) h
    have : ([82] : List Nat).length = 1 := rfl
    omega
/-- the runs but the last one -/
theorem bs_two : ∀ (n : Nat) (p q : Int), 0 < q → q < p → Int.gcd p q = 1 → q ≤ n → ∀ b ∈ bs p q, 2 ≤ b
  | 0, p, q, h, _, _, hn => by omega
  | n + 1, p, q, h, hp, g, hn => by
    intro b hb
    by_cases c : q = 1
    · subst c
      rw [bs_one] at hb
      rw [List.mem_singleton.mp hb]
      omega
    · have hq : 1 < q := by omega
      have l := nx_lt hq g
      rw [bs_step hq g] at hb
      rcases List.mem_append.mp hb with hb | hb
      · exact bs_two n q (nx p q) (nx_pos h) l (by rw [nx_gcd]; exact g) (by omega) b hb
      · rw [List.mem_singleton.mp hb]
        have := one_le_div h (show q ≤ p by omega)
        omega
theorem bs_front {p q : Int} (h : 0 < q) (g : Int.gcd p q = 1) : ∀ b ∈ (bs p q).dropLast, 2 ≤ b := by
  intro b hb
  by_cases c : q = 1
  · subst c
    rw [bs_one] at hb
    cases hb
  · have hq : 1 < q := by omega
    rw [bs_step hq g, List.dropLast_concat] at hb
    exact bs_two q.toNat q (nx p q) (nx_pos h) (nx_lt hq g) (by rw [nx_gcd]; exact g) (by have := nx_lt hq g; omega) b hb
/-! ### how great a dance's number is -/
def Grow (n : Nat) (v : Int × Int) : Prop := ∃ k B : Nat, B ^ 3 * 3 ^ k ≤ 3 ^ n ∧ v.2.natAbs ≤ B ∧ v.1.natAbs ≤ (k + 1) * B
theorem cube_three : ∀ k : Nat, (k + 1) ^ 3 ≤ 3 ^ (k + 1)
  | 0 => by decide
  | 1 => by decide
  | 2 => by decide
  | k + 3 => by
    have ih := cube_three (k + 2)
    have e : (3 : Nat) ^ (k + 3 + 1) = 3 * 3 ^ (k + 2 + 1) := by rw [show k + 3 + 1 = (k + 2 + 1) + 1 from rfl, Nat.pow_succ (n := 3) (m := k + 2 + 1), Nat.mul_comm]
    rw [e]
    have h : (k + 3 + 1) ^ 3 ≤ 3 * (k + 2 + 1) ^ 3 := by
      have h1 : (3 * (k + 3 + 1)) ^ 3 ≤ (4 * (k + 2 + 1)) ^ 3 := Nat.pow_le_pow_left (by omega) 3
      rw [Nat.mul_pow, Nat.mul_pow] at h1
      omega
    exact Nat.le_trans h (Nat.mul_le_mul_left 3 ih)
theorem Grow.called {n : Nat} {v : Int × Int} (h : Grow n v) (c : Nat) : Grow (n + 1) (called v c) := by
  obtain ⟨k, B, hb, h2, h1⟩ := h
  have up : B ^ 3 * 3 ^ (k + 1) ≤ 3 ^ (n + 1) := by
    rw [Nat.pow_succ (m := k), Nat.pow_succ (m := n), ← Nat.mul_assoc]
    exact Nat.mul_le_mul_right 3 hb
  have e : (k + 1 + 1) * B = (k + 1) * B + B := by rw [Nat.add_mul (k + 1) 1 B, Nat.one_mul]
  unfold Rope.called
  by_cases c1 : c = 84
  · rw [if_pos c1]
    exact ⟨k + 1, B, up, h2, by rw [e]; show (v.1 + v.2).natAbs ≤ _; omega⟩
  rw [if_neg c1]
  by_cases c2 : c = 85
  · rw [if_pos c2]
    exact ⟨k + 1, B, up, h2, by rw [e]; show (v.1 - v.2).natAbs ≤ _; omega⟩
  rw [if_neg c2]
  have turn : ((k + 1) * B) ^ 3 * 3 ^ 0 ≤ 3 ^ (n + 1) := by
    rw [Nat.pow_zero, Nat.mul_one, Nat.mul_pow]
    exact Nat.le_trans (Nat.mul_le_mul_right _ (cube_three k)) (by rw [Nat.mul_comm]; exact up)
  have hBk : B ≤ (k + 1) * B := by rw [Nat.add_mul, Nat.one_mul]; omega
  by_cases c3 : 0 < v.1
  · rw [if_pos c3]
    exact ⟨0, (k + 1) * B, turn, h1, by show (0 - v.2).natAbs ≤ _; omega⟩
  rw [if_neg c3]
  by_cases c4 : v.1 < 0
  · rw [if_pos c4]
    exact ⟨0, (k + 1) * B, turn, by show (0 - v.1).natAbs ≤ _; omega, by show v.2.natAbs ≤ _; omega⟩
  rw [if_neg c4]
  refine ⟨0, 1, ?_, by show (0 : Int).natAbs ≤ 1; decide, by show (1 : Int).natAbs ≤ (0 + 1) * 1; decide⟩
  exact Nat.pow_pos (by decide)
theorem grow_run : ∀ (l : List Nat) {n : Nat} {v : Int × Int}, Grow n v → Grow (n + l.length) (run v l)
  | [], n, v, h => h
  | c :: r, n, v, h => by
    have := grow_run r (h.called c)
    rw [List.length_cons]
    rw [show n + (r.length + 1) = n + 1 + r.length by omega]
    exact this
theorem grow_cube {n : Nat} {v : Int × Int} (h : Grow n v) : v.1.natAbs ^ 3 ≤ 3 ^ (n + 1) ∧ v.2.natAbs ^ 3 ≤ 3 ^ (n + 1) := by
  obtain ⟨k, B, hb, h2, h1⟩ := h
  have up : B ^ 3 * 3 ^ (k + 1) ≤ 3 ^ (n + 1) := by
    rw [Nat.pow_succ (m := k), Nat.pow_succ (m := n), ← Nat.mul_assoc]
    exact Nat.mul_le_mul_right 3 hb
  have turn : ((k + 1) * B) ^ 3 ≤ 3 ^ (n + 1) := by
    rw [Nat.mul_pow]
    exact Nat.le_trans (Nat.mul_le_mul_right _ (cube_three k)) (by rw [Nat.mul_comm]; exact up)
  have hBk : B ≤ (k + 1) * B := by rw [Nat.add_mul, Nat.one_mul]; omega
  exact ⟨Nat.le_trans (Nat.pow_le_pow_left h1 3) turn, Nat.le_trans (Nat.pow_le_pow_left (Nat.le_trans h2 hBk) 3) turn⟩
/-- small enough to be written out -/
structure Sv (v : Int × Int) : Prop where
  good : Good v
  s1 : v.1.natAbs ≤ 3400000
  s2 : v.2.natAbs ≤ 3400000
theorem cube_small {x : Nat} (h : x ^ 3 ≤ 3 ^ 41) : x ≤ 3400000 := by
  by_cases c : x ≤ 3400000
  · exact c
  · have : (3400001 : Nat) ^ 3 ≤ x ^ 3 := Nat.pow_le_pow_left (by omega) 3
    have e : ¬ (3400001 : Nat) ^ 3 ≤ 3 ^ 41 := by decide +kernel
    exact absurd (Nat.le_trans this h) e
theorem sv_run {l : List Nat} (h : (l.length : Int) ≤ 40) : Sv (run (0, 1) l) := by
  have g := grow_run l (n := 0) (v := (0, 1)) ⟨0, 1, by decide, by decide, by decide⟩
  have q := grow_cube g
  have e : (3 : Nat) ^ (0 + l.length + 1) ≤ 3 ^ 41 := Nat.pow_le_pow_right (by decide) (by omega)
  exact ⟨good_run l Good.zero, cube_small (Nat.le_trans q.1 e), cube_small (Nat.le_trans q.2 e)⟩
theorem stv_len {v : Int × Int} (h : Sv v) : (stv v).length ≤ 14000000 := by
  obtain ⟨p, q⟩ := v
  obtain ⟨⟨h1, h2⟩, s1, s2⟩ := h
  unfold stv
  by_cases c : q = 0
  · rw [if_pos (show (p, q).2 = 0 from c)]
    decide
  · rw [if_neg (show ¬ (p, q).2 = 0 from c)]
    have h0 : 0 < q := by
      rcases h1 with h1 | h1
      · exact h1
      · cases h1; exact absurd rfl c
    have := len_out h0 h2
    simp only at s1 s2 this ⊢
    omega
theorem tl_S (l : List Nat) : tl (S l) = l := S_list l
theorem join_S (xs : List (List Nat)) : Txt.join (S [82]) (xs.map S) = S (joinL [82] xs) := by
  have e := tl_join (S [82]) (xs.map S)
  rw [← join_eq, List.map_map] at e
  have e2 : (tl ∘ S) = id := by funext l; exact tl_S l
  rw [e2, List.map_id, tl_S] at e
  exact (S_eta (Txt.join (S [82]) (xs.map S))).symm.trans (congrArg S e)
theorem sum_S (xs : List (List Nat)) : ((xs.map S).map (·.length)).sum = (xs.map List.length).sum := by
  rw [List.map_map]
  congr 1
theorem le_sum {x : Nat} : ∀ {l : List Nat}, x ∈ l → x ≤ l.sum
  | [], h => by cases h
  | y :: r, h => by
    rw [List.sum_cons]
    rcases List.mem_cons.mp h with rfl | h
    · omega
    · have := le_sum h
      omega
theorem joinL_len : ∀ (xs : List (List Nat)), xs ≠ [] → (joinL [82] xs).length + 1 = (xs.map List.length).sum + xs.length
  | [], h => absurd rfl h
  | [x], _ => by simp [joinL]
  | x :: y :: r, _ => by
    have := joinL_len (y :: r) (by simp)
    show (x ++ ([82] ++ joinL [82] (y :: r))).length + 1 = _
    rw [List.length_append, List.length_append, List.map_cons, List.sum_cons, List.length_cons]
    show x.length + (1 + _) + 1 = x.length + _ + (_ + 1)
    omega
def spRun : Sp := fun vs H Q _ => ∃ b : Int, vs = [.int b] ∧ b.natAbs ≤ 16000000 ∧ Q (.str (S (rn b))) H
def spStd : Sp := fun vs H Q _ => ∃ (t : Addr) (v : Int × Int), vs = [.ref t] ∧ Tup2 H t v ∧ Sv v ∧ ∀ H', Same H H' → Q (.str (S (stv v))) H'
theorem rn_up {b : Int} (h : 0 ≤ b) : (List.replicate b.toNat [84]).flatten = rn b := by
  unfold rn
  rw [if_neg (by omega)]
  induction b.toNat with
  | zero => rfl
  | succ n ih => rw [List.replicate_succ, List.flatten_cons, ih, List.replicate_succ]; rfl
theorem rn_dn {b : Int} (h : b < 0) : (List.replicate (-b).toNat [85]).flatten = rn b := by
  unfold rn
  rw [if_pos h]
  induction (-b).toNat with
  | zero => rfl
  | succ n ih => rw [List.replicate_succ, List.flatten_cons, ih, List.replicate_succ]; rfl
theorem fdiv_pos {p q : Int} (h : 0 < q) : p.fdiv q = p / q := Int.fdiv_eq_ediv_of_nonneg p (by omega)
def spNum : Sp := fun vs H Q _ => ∃ l : List Nat, vs = [.str (S l)] ∧ ∀ t' H', Same H H' → Tup2 H' t' (run (0, 1) l) → Q (.ref t') H'
theorem cut_last (xs : List V) : cutV xs none (some (-1)) = xs.dropLast := by
  unfold cutV
  rw [HT.sIx_none, List.drop_zero, Nat.sub_zero, List.dropLast_eq_take]
  congr 1
  unfold HT.sIx
  show (if (-1 : Int) < 0 then ((-1 : Int) + (xs.length : Int)).toNat else _) = _
  rw [if_pos (by decide)]
  omega
theorem sv_div {p q : Int} (hp : p.natAbs ≤ 400) (hq : q.natAbs ≤ 400) (h0 : 0 < q) : Sv (p / (Int.gcd p q : Int), q / (Int.gcd p q : Int)) := by
  have g0 : 0 < Int.gcd p q := Int.gcd_pos_of_ne_zero_right p (by omega)
  have a : ∀ (x : Int) (g : Nat), (x / (g : Int)).natAbs ≤ x.natAbs := fun x g => Int.natAbs_ediv_le_natAbs x g
  refine ⟨⟨.inl ?_, Int.gcd_ediv_gcd_ediv_gcd g0⟩, Nat.le_trans (a p _) (by omega), Nat.le_trans (a q _) (by omega)⟩
  exact Int.ediv_pos_of_pos_of_dvd h0 (by omega) (Int.gcd_dvd_right _ _)
theorem sv_chain {n : Int} (h0 : 2 ≤ n) (h1 : n ≤ 1000) : Sv (n, n - 1) := by
  refine ⟨⟨.inl (by show 0 < n - 1; omega), ?_⟩, by show n.natAbs ≤ _; omega, by show (n - 1).natAbs ≤ _; omega⟩
  show Int.gcd n (n - 1) = 1
  have := gcd_add' 1 (n - 1)
  rw [show 1 + (n - 1) = n by omega, Int.one_gcd] at this
  exact this
def Vi (H : Hp) (y : V) : Prop := ∃ (t : Addr) (v : Int × Int), y = .ref t ∧ Tup2 H t v ∧ Sv v
theorem Vi.same {H H' : Hp} {y : V} (h : Vi H y) (s : Same H H') : Vi H' y := by
  obtain ⟨t, v, e, a, b⟩ := h
  exact ⟨t, v, e, a.same s, b⟩
theorem rn_no (b : Int) : 82 ∉ rn b := by
  unfold rn
  intro h
  split at h
  · have := (List.mem_replicate.mp h).2; omega
  · have := (List.mem_replicate.mp h).2; omega
theorem rn_T {b : Int} (h : 0 ≤ b) : (List.replicate (rn b).length [84]).flatten = rn b := by
  rw [rn_len, show b.natAbs = b.toNat by omega]
  exact rn_up h
theorem tup2_is {H : Hp} {n : Nat} {t : Addr} {v : Int × Int} (h : Tup2 H t v) : Is H (n + 1) (.ref t) (.tup [.int v.1, .int v.2]) :=
  is_tup h rfl (by show 2 ≤ 1000000; decide) fun i x d hx hd => by
    match i with
    | 0 => cases hx; cases hd; exact int_is
    | 1 => cases hx; cases hd; exact int_is
    | i + 2 => cases hx
def spSmall : Sp := fun vs H Q _ => ∃ (a : Addr), vs = [.ref a] ∧ Tape H a ∧ ∀ (t : Addr) (v : Int × Int) H', Sv v → But a H H' → Tape H' a → Tup2 H' t v → Q (.ref t) H'
end
section
/-! ### moves keep the number -/
theorem run_TU (v : Int × Int) : run v [84, 85] = v := by
  obtain ⟨p, q⟩ := v
  show (p + q - q, q) = (p, q)
  congr 1
  omega
theorem run_UT (v : Int × Int) : run v [85, 84] = v := by
  obtain ⟨p, q⟩ := v
  show (p - q + q, q) = (p, q)
  congr 1
  omega
theorem turn_pos {p q : Int} (h : 0 < p) : called (p, q) 82 = (0 - q, p) := by
  unfold called
  rw [if_neg (by decide), if_neg (by decide), if_pos (show 0 < (p, q).1 from h)]
theorem turn_neg {p q : Int} (h : p < 0) : called (p, q) 82 = (q, 0 - p) := by
  unfold called
  rw [if_neg (by decide), if_neg (by decide), if_neg (show ¬ 0 < (p, q).1 from by show ¬ 0 < p; omega), if_pos (show (p, q).1 < 0 from h)]
theorem turn_zero {q : Int} : called (0, q) 82 = (1, 0) := rfl
theorem zero_one {q : Int} (g : Good (0, q)) : q = 1 := by
  obtain ⟨h1, h2⟩ := g
  have e : Int.gcd 0 q = 1 := h2
  rw [Int.gcd_zero_left] at e
  rcases h1 with h1 | h1
  · have : 0 < q := h1
    omega
  · cases h1
theorem turn_turn {v : Int × Int} (g : Good v) : called (called v 82) 82 = v := by
  obtain ⟨p, q⟩ := v
  rcases Int.lt_trichotomy p 0 with h | h | h
  · have q0 : 0 < q := by
      rcases g.1 with h1 | h1
      · exact h1
      · cases h1; omega
    rw [turn_neg h, turn_pos q0, Int.zero_sub, Int.zero_sub, Int.neg_neg]
  · subst h
    rw [zero_one g]
    rfl
  · rw [turn_pos h]
    rcases g.1 with h1 | h1
    · have q0 : 0 < q := h1
      rw [turn_neg (by omega)]
      congr 1
      omega
    · cases h1
      rfl
theorem run_RR {v : Int × Int} (g : Good v) : run v [82, 82] = v := turn_turn g
/-- x + 1, turned: three times it leads back -/
theorem run_six {v : Int × Int} (g : Good v) : run v [84, 82, 84, 82, 84, 82] = v := by
  obtain ⟨p, q⟩ := v
  show called (called (called (called (called (called (p, q) 84) 82) 84) 82) 84) 82 = (p, q)
  have tw : ∀ a b : Int, called (a, b) 84 = (a + b, b) := fun a b => rfl
  rcases g.1 with h1 | h1
  · have q0 : 0 < q := h1
    rw [tw p q]
    rcases Int.lt_trichotomy (p + q) 0 with h | h | h
    · rw [turn_neg h, tw q, turn_pos (show 0 < q + (0 - (p + q)) by omega), tw, turn_pos (by omega)]
      congr 1 <;> omega
    · have e : q = -p := by omega
      have g1 : Int.gcd p q = 1 := g.2
      rw [e, Int.gcd_neg, Int.gcd_self] at g1
      have : p = -1 := by omega
      subst this
      have : q = 1 := by omega
      subst this
      rfl
    · rw [turn_pos h, tw (0 - q)]
      rcases Int.lt_trichotomy p 0 with k | k | k
      · rw [turn_neg (show 0 - q + (p + q) < 0 by omega), tw, turn_pos (by omega)]
        congr 1 <;> omega
      · subst k
        rw [zero_one g]
        rfl
      · rw [turn_pos (show 0 < 0 - q + (p + q) by omega), tw, turn_neg (by omega)]
        congr 1 <;> omega
  · cases h1
    rfl
theorem run_word {u : List Nat} (h : u ∈ wds) {v : Int × Int} (g : Good v) : run v u = v := by
  unfold wds at h
  simp only [List.mem_cons, List.not_mem_nil, or_false] at h
  rcases h with rfl | rfl | rfl | rfl
  · exact run_TU v
  · exact run_UT v
  · exact run_RR g
  · exact run_six g
/-- what a move makes has the same number -/
theorem mk_num {d x : List Nat} {m : Mv} (h : mkMv d m = some x) : run (0, 1) x = run (0, 1) d := by
  obtain ⟨h1, h2, rfl⟩ := mkMv_inv h
  obtain ⟨c0, c1, c2⟩ := canMv_inv h2
  have word : ∀ v : Int × Int, Good v → (m.pl = 0 → v = (0, 1)) → run v (m.o ++ m.n) = v := fun v g z => by
    unfold isMv at h1
    rw [Bool.and_eq_true, Bool.or_eq_true, Bool.and_eq_true, decide_eq_true_eq, decide_eq_true_eq, decide_eq_true_eq] at h1
    rcases h1.2 with k | ⟨k0, k⟩
    · exact run_word k g
    · rw [k, z k0]
      rfl
  have e1 : d = d.take m.pl.toNat ++ (m.o ++ d.drop (m.pl.toNat + m.o.length)) := by
    conv => lhs; rw [← List.take_append_drop m.pl.toNat d]
    congr 1
    conv => lhs; rw [← List.take_append_drop m.o.length (d.drop m.pl.toNat)]
    rw [c2, List.drop_drop]
  have g := good_run (d.take m.pl.toNat) Good.zero
  have w := word (run (0, 1) (d.take m.pl.toNat)) g fun z => by rw [z]; rfl
  have e2 : run (run (0, 1) (d.take m.pl.toNat)) m.n = run (run (0, 1) (d.take m.pl.toNat)) m.o := by
    rcases isMv_empty h1 with k | k
    · rw [k] at w ⊢
      exact w
    · rw [k, List.append_nil] at w
      rw [k, w]
      rfl
  unfold doMv
  rw [run_app, run_app, e2]
  conv => rhs; rw [e1]
  rw [run_app, run_app]
end
section
open TL (joinL)
/-! ### a dance of the standard form is the standard dance of its number -/
theorem form_step (p q b : Int) (q0 : 0 < q) (qp : q < p) (g : Int.gcd p q = 1) : Int.gcd (0 - q + b * p) p = 1 ∧ bs (0 - q + b * p) p = bs p q ++ [b] := by
  have g1 : Int.gcd (0 - q + b * p) p = 1 := by
    rw [Int.gcd_add_mul_right_left, Int.zero_sub, Int.neg_gcd, Int.gcd_comm]
    exact g
  have d : (0 - q + b * p) / p = b - 1 := by
    rw [Int.add_mul_ediv_right _ _ (by omega : p ≠ 0)]
    have : (0 - q) / p = -1 := by
      have e1 : (0 - q) = (p - q) + (-1) * p := by omega
      rw [e1, Int.add_mul_ediv_right _ _ (by omega : p ≠ 0), Int.ediv_eq_zero_of_lt (by omega) (by omega)]
      omega
    omega
  have n : nx (0 - q + b * p) p = q := by
    unfold nx
    rw [d, show b - 1 + 1 = b by omega]
    omega
  refine ⟨g1, ?_⟩
  rw [bs_step (by omega) g1, n, d]
  congr 2
  omega
theorem form_two : ∀ (k : Nat) (r : List Int), r.length = k + 1 → (∀ b ∈ r, 2 ≤ b) → ∃ p q : Int, run (0, 1) (joinL [82] (r.map rn)) = (p, q) ∧ 0 < q ∧ q < p ∧ Int.gcd p q = 1 ∧ bs p q = r
  | 0, r, hk, h2 => by
    obtain ⟨b, rfl⟩ : ∃ b, r = [b] := List.length_eq_one_iff.mp hk
    have := h2 b List.mem_cons_self
    refine ⟨b, 1, ?_, by decide, by omega, Int.gcd_one_right _, rfl⟩
    show run (0, 1) (rn b) = _
    rw [run_rn]
    simp
  | k + 1, r, hk, h2 => by
    have hne : r ≠ [] := fun z => by rw [z] at hk; cases hk
    obtain ⟨r', b, rfl⟩ : ∃ r' b, r = r' ++ [b] := ⟨r.dropLast, r.getLast hne, (List.dropLast_concat_getLast hne).symm⟩
    have hk' : r'.length = k + 1 := by
      rw [List.length_append] at hk
      have : ([b] : List Int).length = 1 := rfl
      omega
    obtain ⟨p, q, e, q0, qp, g, eb⟩ := form_two k r' hk' fun x hx => h2 x (List.mem_append_left _ hx)
    have b2 := h2 b (List.mem_append_right _ List.mem_cons_self)
    have ne : r' ≠ [] := fun z => by rw [z] at hk'; cases hk'
    have st := form_step p q b q0 qp g
    refine ⟨0 - q + b * p, p, ?_, by omega, ?_, st.1, by rw [st.2, eb]⟩
    · rw [List.map_append, List.map_singleton, joinL_snoc [82] _ (fun z => ne (List.map_eq_nil_iff.mp z)), run_app, e, run_app]
      show run (called (p, q) 82) _ = _
      rw [show called (p, q) 82 = (0 - q, p) by unfold called; rw [if_neg (by decide), if_neg (by decide), if_pos (show 0 < (p, q).1 by show 0 < p; omega)], run_rn]
    · have : 2 * p ≤ b * p := Int.mul_le_mul_of_nonneg_right b2 (by omega)
      omega
theorem form_std {r : List Int} {b : Int} (h2 : ∀ x ∈ r, 2 ≤ x) : stv (run (0, 1) (joinL [82] ((r ++ [b]).map rn))) = joinL [82] ((r ++ [b]).map rn) := by
  by_cases hr : r = []
  · subst hr
    show stv (run (0, 1) (rn b)) = rn b
    rw [run_rn]
    unfold stv
    rw [if_neg (show ¬ (1 : Int) = 0 by decide)]
    show joinL [82] ((bs (0 + b * 1) 1).map rn) = _
    rw [bs_one, Int.mul_one, Int.zero_add]
    rfl
  · obtain ⟨p, q, e, q0, qp, g, eb⟩ := form_two (r.length - 1) r (by have := List.length_pos_iff.mpr hr; omega) h2
    have st := form_step p q b q0 qp g
    rw [List.map_append, List.map_singleton, joinL_snoc [82] _ (fun z => hr (List.map_eq_nil_iff.mp z)), run_app, e, run_app]
    show stv (run (called (p, q) 82) _) = _
    rw [show called (p, q) 82 = (0 - q, p) by unfold called; rw [if_neg (by decide), if_neg (by decide), if_pos (show 0 < (p, q).1 by show 0 < p; omega)], run_rn]
    unfold stv
    rw [if_neg (show ¬ p = 0 by omega)]
    show joinL [82] ((bs (0 - q + b * p) p).map rn) = _
    rw [st.2, eb, List.map_append, List.map_singleton, joinL_snoc [82] _ (fun z => hr (List.map_eq_nil_iff.mp z))]
end
section
/-! ### rows of moves at the front of a dance -/
def Lead (d : List Nat) (ms : List Mv) (d' : List Nat) : Prop := ∀ s, led (d ++ s) ms = some (d' ++ s)
theorem Lead.refl (d : List Nat) : Lead d [] d := fun s => rfl
theorem led_app (d : List Nat) (ms ns : List Mv) : led d (ms ++ ns) = (led d ms).bind fun x => led x ns := by
  have none_ : ∀ ns : List Mv, ns.foldl (fun (o : Option (List Nat)) m => o.bind fun x => mkMv x m) none = none := by
    intro ns
    induction ns with
    | nil => rfl
    | cons m r ih => exact ih
  unfold led
  rw [List.foldl_append]
  cases ms.foldl (fun (o : Option (List Nat)) m => o.bind fun x => mkMv x m) (some d) with
  | none => exact none_ ns
  | some x => rfl
theorem Lead.trans {a b c : List Nat} {ms ns : List Mv} (h : Lead a ms b) (k : Lead b ns c) : Lead a (ms ++ ns) c := fun s => by
  rw [led_app, h s]
  exact k s
theorem Lead.more {a b : List Nat} {ms : List Mv} (h : Lead a ms b) (s : List Nat) : Lead (a ++ s) ms (b ++ s) := fun t => by
  rw [List.append_assoc, List.append_assoc]
  exact h (s ++ t)
theorem Lead.make {a o n b : List Nat} (h : isMv ⟨(a.length : Int), o, n⟩ = true) : Lead (a ++ o ++ b) [⟨(a.length : Int), o, n⟩] (a ++ n ++ b) := fun s => by
  show mkMv (a ++ o ++ b ++ s) _ = _
  have c : canMv (a ++ o ++ b ++ s) ⟨(a.length : Int), o, n⟩ = true := by
    unfold canMv
    simp
    omega
  rw [mkMv_some h c]
  congr 1
  unfold doMv
  simp
theorem Lead.cast {a b a' b' : List Nat} {ms : List Mv} (h : Lead a ms b) (e : a = a') (k : b = b') : Lead a' ms b' := by rw [← e, ← k]; exact h
theorem Lead.num {a b : List Nat} {ms : List Mv} (h : Lead a ms b) : run (0, 1) b = run (0, 1) a := by
  have key : ∀ (ms : List Mv) (d x : List Nat), led d ms = some x → run (0, 1) x = run (0, 1) d := by
    intro ms
    induction ms with
    | nil =>
      intro d x h
      cases h
      rfl
    | cons m r ih =>
      intro d x h
      have e : led d (m :: r) = (led d [m]).bind fun y => led y r := led_app d [m] r
      rw [e] at h
      cases hy : led d [m] with
      | none => rw [hy] at h; cases h
      | some y =>
        rw [hy] at h
        rw [ih y x h]
        exact mk_num hy
  have := key ms (a ++ []) (b ++ []) (h [])
  rw [List.append_nil, List.append_nil] at this
  exact this
theorem isMv_put {u : List Nat} {p : Int} (h : u ∈ wds) : isMv ⟨p, [], u⟩ = true := by
  have ne : u ≠ [] := fun z => by subst z; revert h; decide
  unfold isMv
  simp [ne, h]
theorem isMv_take {u : List Nat} {p : Int} (h : u ∈ wds) : isMv ⟨p, u, []⟩ = true := by
  have ne : u ≠ [] := fun z => by subst z; revert h; decide
  unfold isMv
  simp [ne, h]
/-! the rows that the front makes -/
theorem lead_UT (a : List Nat) : Lead (a ++ [85, 84]) [⟨(a.length : Int), [85, 84], []⟩] a :=
  (Lead.make (a := a) (o := [85, 84]) (n := []) (b := []) (isMv_take (by decide))).cast (by simp) (by simp)
theorem lead_TU (a : List Nat) : Lead (a ++ [84, 85]) [⟨(a.length : Int), [84, 85], []⟩] a :=
  (Lead.make (a := a) (o := [84, 85]) (n := []) (b := []) (isMv_take (by decide))).cast (by simp) (by simp)
theorem lead_RR (a : List Nat) : Lead (a ++ [82, 82]) [⟨(a.length : Int), [82, 82], []⟩] a :=
  (Lead.make (a := a) (o := [82, 82]) (n := []) (b := []) (isMv_take (by decide))).cast (by simp) (by simp)
theorem lead_TRTRT (a : List Nat) : Lead (a ++ [84, 82, 84, 82, 84]) [⟨((a ++ [84, 82, 84, 82, 84]).length : Int), [], [82, 82]⟩, ⟨(a.length : Int), [84, 82, 84, 82, 84, 82], []⟩] (a ++ [82]) :=
  Lead.trans ((Lead.make (a := a ++ [84, 82, 84, 82, 84]) (o := []) (n := [82, 82]) (b := []) (isMv_put (by decide))).cast (by simp) rfl)
    ((Lead.make (a := a) (o := [84, 82, 84, 82, 84, 82]) (n := []) (b := [82]) (isMv_take (by decide))).cast (by simp) (by simp))
theorem lead_RT : Lead [82, 84] [⟨2, [], [82, 82]⟩, ⟨0, [82, 84, 82], []⟩] [82] :=
  Lead.trans ((Lead.make (a := [82, 84]) (o := []) (n := [82, 82]) (b := []) (isMv_put (by decide))).cast rfl rfl)
    ((Lead.make (a := []) (o := [82, 84, 82]) (n := []) (b := [82]) (by decide)).cast rfl rfl)
theorem lead_RU : Lead [82, 85] [⟨0, [], [82, 84, 82]⟩, ⟨2, [82, 82], []⟩, ⟨1, [84, 85], []⟩] [82] :=
  Lead.trans ((Lead.make (a := []) (o := []) (n := [82, 84, 82]) (b := [82, 85]) (by decide)).cast rfl rfl)
    (Lead.trans ((Lead.make (a := [82, 84]) (o := [82, 82]) (n := []) (b := [85]) (by decide)).cast rfl rfl)
      ((Lead.make (a := [82]) (o := [84, 85]) (n := []) (b := []) (by decide)).cast rfl rfl))
theorem lead_TRT : Lead [84, 82, 84] [⟨0, [], [82, 84, 82]⟩, ⟨6, [], [82, 82]⟩, ⟨1, [84, 82, 84, 82, 84, 82], []⟩, ⟨0, [82, 82], []⟩] [] :=
  Lead.trans ((Lead.make (a := []) (o := []) (n := [82, 84, 82]) (b := [84, 82, 84]) (by decide)).cast rfl rfl)
    (Lead.trans ((Lead.make (a := [82, 84, 82, 84, 82, 84]) (o := []) (n := [82, 82]) (b := []) (by decide)).cast rfl rfl)
      (Lead.trans ((Lead.make (a := [82]) (o := [84, 82, 84, 82, 84, 82]) (n := []) (b := [82]) (by decide)).cast rfl rfl)
        ((Lead.make (a := []) (o := [82, 82]) (n := []) (b := []) (by decide)).cast rfl rfl)))
theorem lead_spread0 : Lead [85] [⟨1, [], [84, 82, 84, 82, 84, 82]⟩, ⟨0, [85, 84], []⟩, ⟨0, [82, 84, 82], []⟩] [84, 82] :=
  Lead.trans ((Lead.make (a := [85]) (o := []) (n := [84, 82, 84, 82, 84, 82]) (b := []) (by decide)).cast rfl rfl)
    (Lead.trans ((Lead.make (a := []) (o := [85, 84]) (n := []) (b := [82, 84, 82, 84, 82]) (by decide)).cast rfl rfl)
      ((Lead.make (a := []) (o := [82, 84, 82]) (n := []) (b := [84, 82]) (by decide)).cast rfl rfl))
theorem lead_spread (y : List Nat) : Lead (y ++ [82, 85]) [⟨((y ++ [82, 85]).length : Int), [], [84, 82, 84, 82, 84, 82]⟩, ⟨((y ++ [82]).length : Int), [85, 84], []⟩, ⟨(y.length : Int), [82, 82], []⟩] (y ++ [84, 82, 84, 82]) :=
  Lead.trans ((Lead.make (a := y ++ [82, 85]) (o := []) (n := [84, 82, 84, 82, 84, 82]) (b := []) (isMv_put (by decide))).cast (by simp) rfl)
    (Lead.trans ((Lead.make (a := y ++ [82]) (o := [85, 84]) (n := []) (b := [82, 84, 82, 84, 82]) (isMv_take (by decide))).cast (by simp) rfl)
      ((Lead.make (a := y) (o := [82, 82]) (n := []) (b := [84, 82, 84, 82]) (isMv_take (by decide))).cast (by simp) (by simp)))
theorem lead_finish (x : List Nat) : Lead (x ++ [84, 82, 84, 82]) [⟨((x ++ [84, 82, 84, 82]).length : Int), [], [84, 85]⟩, ⟨((x ++ [84, 82, 84, 82, 84]).length : Int), [], [82, 82]⟩, ⟨(x.length : Int), [84, 82, 84, 82, 84, 82], []⟩] (x ++ [82, 85]) :=
  Lead.trans ((Lead.make (a := x ++ [84, 82, 84, 82]) (o := []) (n := [84, 85]) (b := []) (isMv_put (by decide))).cast (by simp) rfl)
    (Lead.trans ((Lead.make (a := x ++ [84, 82, 84, 82, 84]) (o := []) (n := [82, 82]) (b := [85]) (isMv_put (by decide))).cast (by simp) rfl)
      ((Lead.make (a := x) (o := [84, 82, 84, 82, 84, 82]) (n := []) (b := [82, 85]) (isMv_take (by decide))).cast (by simp) (by simp)))
theorem lead_finish0 : Lead [84, 82] [⟨0, [], [82, 84, 82]⟩, ⟨0, [], [85, 84]⟩, ⟨1, [84, 82, 84, 82, 84, 82], []⟩] [85] :=
  Lead.trans ((Lead.make (a := []) (o := []) (n := [82, 84, 82]) (b := [84, 82]) (by decide)).cast rfl rfl)
    (Lead.trans ((Lead.make (a := []) (o := []) (n := [85, 84]) (b := [82, 84, 82, 84, 82]) (by decide)).cast rfl rfl)
      ((Lead.make (a := [85]) (o := [84, 82, 84, 82, 84, 82]) (n := []) (b := []) (by decide)).cast rfl rfl))
end
section
open TL (joinL)
/-! ### what the front is after each letter -/
inductive Pf : List Nat → Prop
  | nil : Pf []
  | snoc {w : List Nat} (a : Nat) : Pf w → Pf (w ++ (List.replicate (a + 2) 84 ++ [82]))
inductive Fst : List Nat → Prop
  | A {w : List Nat} (b : Int) : Pf w → Fst (w ++ rn b)
  | B {w : List Nat} (m : Nat) : Pf w → Fst (w ++ ([84, 82] ++ List.replicate m 85))
  | C : Fst [82]
def wt (x : List Nat) : Nat := x.length + 2 * x.count 85
theorem wt_app (x y : List Nat) : wt (x ++ y) = wt x + wt y := by
  unfold wt
  rw [List.length_append, List.count_append]
  omega
theorem wt_U (m : Nat) : wt (List.replicate m 85) = 3 * m := by
  unfold wt
  rw [List.length_replicate, List.count_replicate_self]
  omega
theorem wt_T (m : Nat) : wt (List.replicate m 84) = m := by
  unfold wt
  rw [List.length_replicate, List.count_replicate]
  simp
theorem rn_nat (n : Nat) : rn (n : Int) = List.replicate n 84 := by
  unfold rn
  rw [if_neg (by omega), Int.toNat_natCast]
theorem rn_neg (n : Nat) : rn (-(n : Int)) = List.replicate n 85 := by
  unfold rn
  by_cases h : n = 0
  · subst h
    rfl
  · rw [if_pos (by omega), Int.neg_neg, Int.toNat_natCast]
theorem rep_snoc (n c : Nat) : List.replicate n c ++ [c] = List.replicate (n + 1) c := List.replicate_succ'.symm
/-- from c behind x to x' -/
def Goes (x : List Nat) (x' : List Nat) (k : Nat) : Prop := ∃ ms, Lead x ms x' ∧ Fst x' ∧ wt x' ≤ k
theorem spreads : ∀ (m : Nat) {w : List Nat}, Pf w → ∃ ms w', Pf w' ∧ Lead (w ++ ([84, 82] ++ List.replicate m 85)) ms (w' ++ [84, 82]) ∧ wt w' = wt w + 3 * m
  | 0, w, h => ⟨[], w, h, (Lead.refl _).cast rfl (by simp), rfl⟩
  | m + 1, w, h => by
    obtain ⟨ms, w', h', l, e⟩ := spreads m (Pf.snoc 0 h)
    refine ⟨_, w', h', Lead.trans (((lead_spread (w ++ [84])).more (List.replicate m 85)).cast ?_ ?_) l, ?_⟩
    · rw [List.replicate_succ]
      simp
    · simp [List.replicate]
    · rw [e, wt_app]
      show wt w + 3 + 3 * m = _
      omega
theorem goes_turn {w : List Nat} (h : Pf w) (m : Nat) : ∃ ms w', Pf w' ∧ Lead (w ++ ([84, 82] ++ List.replicate m 85) ++ [82]) ms (w' ++ rn 1) ∧ wt w' = wt w + 3 * m := by
  obtain ⟨ms, w', h', l, e⟩ := spreads m h
  exact ⟨_, w', h', Lead.trans (l.more [82]) ((lead_RR (w' ++ [84])).cast (by simp) rfl), e⟩
theorem goes {x : List Nat} (h : Fst x) {c : Nat} (hc : c = 84 ∨ c = 85 ∨ c = 82) : ∃ x', Goes (x ++ [c]) x' (wt x + 3) := by
  have o4 : wt [84] = 1 := rfl
  have o5 : wt [85] = 3 := rfl
  have o2 : wt [82] = 1 := rfl
  have otr : wt [84, 82] = 2 := rfl
  cases h with
  | @A w b hw =>
    obtain ⟨n, rfl | rfl⟩ : ∃ n : Nat, b = (n : Int) ∨ b = -((n + 1 : Nat) : Int) := by
      by_cases hb : 0 ≤ b
      · exact ⟨b.toNat, .inl (by omega)⟩
      · exact ⟨(-b).toNat - 1, .inr (by omega)⟩
    · rcases hc with rfl | rfl | rfl
      · refine ⟨w ++ rn ((n + 1 : Nat) : Int), [], (Lead.refl _).cast rfl ?_, .A _ hw, ?_⟩
        · rw [rn_nat, rn_nat, List.append_assoc, rep_snoc]
        · rw [rn_nat, rn_nat, wt_app, wt_app, wt_T, wt_T]
          omega
      · cases n with
        | zero =>
          refine ⟨w ++ rn (-((1 : Nat) : Int)), [], (Lead.refl _).cast rfl ?_, .A _ hw, ?_⟩
          · rw [rn_nat, rn_neg, List.append_assoc]
            rfl
          · rw [rn_nat, rn_neg, wt_app, wt_app, wt_T, wt_U]
            omega
        | succ k =>
          refine ⟨w ++ rn (k : Int), _, (lead_TU (w ++ rn (k : Int))).cast ?_ rfl, .A _ hw, ?_⟩
          · rw [rn_nat, rn_nat, ← rep_snoc]
            simp
          · rw [rn_nat, rn_nat, wt_app, wt_app, wt_T, wt_T]
            omega
      · match n with
        | 0 =>
          cases hw with
          | nil => exact ⟨[82], [], Lead.refl _, .C, by decide⟩
          | @snoc w1 a h1 =>
            refine ⟨w1 ++ rn ((a + 2 : Nat) : Int), _, (lead_RR (w1 ++ List.replicate (a + 2) 84)).cast ?_ (by rw [rn_nat]), .A _ h1, ?_⟩
            · rw [rn_nat]
              simp
            · rw [rn_nat, rn_nat, wt_app, wt_app, wt_app, wt_app, wt_T, wt_T]
              omega
        | 1 =>
          refine ⟨w ++ ([84, 82] ++ List.replicate 0 85), [], (Lead.refl _).cast rfl ?_, .B 0 hw, ?_⟩
          · rw [rn_nat]
            simp
          · rw [rn_nat, wt_app, wt_app, wt_app, wt_T, wt_U, otr]
            omega
        | n + 2 =>
          refine ⟨(w ++ (List.replicate (n + 2) 84 ++ [82])) ++ rn ((0 : Nat) : Int), [], (Lead.refl _).cast rfl ?_, .A _ (.snoc n hw), ?_⟩
          · rw [rn_nat, rn_nat]
            simp
          · rw [rn_nat, rn_nat, wt_app, wt_app, wt_app, wt_app, wt_T, wt_T, o2]
            omega
    · rcases hc with rfl | rfl | rfl
      · refine ⟨w ++ rn (-(n : Int)), _, (lead_UT (w ++ rn (-(n : Int)))).cast ?_ rfl, .A _ hw, ?_⟩
        · rw [rn_neg, rn_neg, ← rep_snoc]
          simp
        · rw [rn_neg, rn_neg, wt_app, wt_app, wt_U, wt_U]
          omega
      · refine ⟨w ++ rn (-((n + 2 : Nat) : Int)), [], (Lead.refl _).cast rfl ?_, .A _ hw, ?_⟩
        · rw [rn_neg, rn_neg, List.append_assoc, rep_snoc]
        · rw [rn_neg, rn_neg, wt_app, wt_app, wt_U, wt_U]
          omega
      · cases hw with
        | nil =>
          obtain ⟨ms, w', h', l, e⟩ := goes_turn Pf.nil n
          refine ⟨w' ++ rn 1, _, Lead.trans ((lead_spread0.more (List.replicate n 85 ++ [82])).cast ?_ ?_) l, .A 1 h', ?_⟩
          · rw [rn_neg, List.replicate_succ]
            simp
          · simp
          · rw [rn_neg, wt_app, wt_app, wt_U, e]
            show wt [] + 3 * n + 1 ≤ wt [] + 3 * (n + 1) + 3
            omega
        | @snoc w1 a h1 =>
          obtain ⟨ms, w', h', l, e⟩ := goes_turn (Pf.snoc (a + 1) h1) n
          refine ⟨w' ++ rn 1, _, Lead.trans (((lead_spread (w1 ++ List.replicate (a + 2) 84)).more (List.replicate n 85 ++ [82])).cast ?_ ?_) l, .A 1 h', ?_⟩
          · rw [rn_neg, show List.replicate (n + 1) 85 = 85 :: List.replicate n 85 from List.replicate_succ]
            simp
          · rw [show a + 1 + 2 = (a + 2) + 1 by omega, ← rep_snoc (a + 2) 84]
            simp
          · rw [rn_neg, wt_app, wt_app, wt_U, e, wt_app, wt_app, wt_T, wt_app, wt_app, wt_T]
            show wt w1 + (a + 1 + 2 + wt [82]) + 3 * n + 1 ≤ wt w1 + (a + 2 + wt [82]) + 3 * (n + 1) + 3
            omega
  | @B w m hw =>
    rcases hc with rfl | rfl | rfl
    · cases m with
      | zero =>
        cases hw with
        | nil => exact ⟨[] ++ rn 0, _, lead_TRT.cast rfl rfl, .A 0 .nil, by decide⟩
        | @snoc w1 a h1 =>
          cases a with
          | zero =>
            refine ⟨w1 ++ ([84, 82] ++ List.replicate 0 85), _, (lead_TRTRT (w1 ++ [84])).cast ?_ (by simp), .B 0 h1, ?_⟩
            · simp [List.replicate]
            · rw [wt_app, wt_app, wt_app, wt_app, wt_app, wt_app, wt_T, wt_U, otr, o2]
              omega
          | succ a =>
            refine ⟨(w1 ++ (List.replicate (a + 2) 84 ++ [82])) ++ rn 0, _, (lead_TRTRT (w1 ++ List.replicate (a + 2) 84)).cast ?_ ?_, .A 0 (.snoc a h1), ?_⟩
            · rw [show a + 1 + 2 = (a + 2) + 1 by omega, ← rep_snoc (a + 2) 84]
              simp
            · show _ = _ ++ []
              simp
            · rw [wt_app, wt_app, wt_app, wt_app, wt_app, wt_app, wt_app, wt_T, wt_T, wt_U, otr, o2]
              show wt w1 + (a + 2 + 1) + 0 ≤ _
              omega
      | succ m =>
        refine ⟨w ++ ([84, 82] ++ List.replicate m 85), _, (lead_UT (w ++ ([84, 82] ++ List.replicate m 85))).cast ?_ rfl, .B m hw, ?_⟩
        · rw [← rep_snoc]
          simp
        · rw [wt_app, wt_app, wt_app, wt_app, wt_U, wt_U]
          omega
    · refine ⟨w ++ ([84, 82] ++ List.replicate (m + 1) 85), [], (Lead.refl _).cast rfl ?_, .B (m + 1) hw, ?_⟩
      · rw [← rep_snoc]
        simp
      · rw [wt_app, wt_app, wt_app, wt_app, wt_U, wt_U]
        omega
    · obtain ⟨ms, w', h', l, e⟩ := goes_turn hw m
      refine ⟨w' ++ rn 1, ms, l, .A 1 h', ?_⟩
      rw [wt_app, wt_app, wt_app, wt_U, e, otr]
      show wt w + 3 * m + 1 ≤ _
      omega
  | C =>
    rcases hc with rfl | rfl | rfl
    · exact ⟨[82], _, lead_RT, .C, by decide⟩
    · exact ⟨[82], _, lead_RU, .C, by decide⟩
    · exact ⟨[] ++ rn 0, _, (lead_RR []).cast rfl rfl, .A 0 .nil, by decide⟩
/-! ### the end: a dance of the standard form -/
def Form (x : List Nat) : Prop := x = [82] ∨ ∃ (r : List Int) (b : Int), (∀ y ∈ r, 2 ≤ y) ∧ x = joinL [82] ((r ++ [b]).map rn)
theorem pf_join {w : List Nat} (h : Pf w) : ∃ r : List Int, (∀ y ∈ r, 2 ≤ y) ∧ ∀ b : Int, w ++ rn b = joinL [82] ((r ++ [b]).map rn) := by
  induction h with
  | nil => exact ⟨[], fun y h => (by cases h), fun b => rfl⟩
  | @snoc w a hw ih =>
    obtain ⟨r, h2, e⟩ := ih
    refine ⟨r ++ [((a + 2 : Nat) : Int)], fun y hy => ?_, fun b => ?_⟩
    · rcases List.mem_append.mp hy with hy | hy
      · exact h2 y hy
      · rw [List.mem_singleton.mp hy]
        omega
    · rw [List.map_append, List.map_singleton, joinL_snoc [82] _ (fun z => by simp at z), ← e, rn_nat]
      simp
theorem ends_B : ∀ {w : List Nat}, Pf w → ∀ m : Nat, ∃ ms w' b, Pf w' ∧ Lead (w ++ ([84, 82] ++ List.replicate m 85)) ms (w' ++ rn b) ∧ wt (w' ++ rn b) ≤ wt (w ++ ([84, 82] ++ List.replicate m 85)) + 1 := by
  have o2 : wt [82] = 1 := rfl
  have otr : wt [84, 82] = 2 := rfl
  intro w h
  induction h with
  | nil =>
    intro m
    refine ⟨_, [], -((m + 1 : Nat) : Int), .nil, (lead_finish0.more (List.replicate m 85)).cast (by simp) ?_, ?_⟩
    · rw [rn_neg, List.replicate_succ]
      rfl
    · rw [rn_neg, wt_app, wt_app, wt_app, wt_U, wt_U, otr]
      omega
  | @snoc w a hw ih =>
    intro m
    have l0 : Lead (w ++ (List.replicate (a + 2) 84 ++ [82]) ++ ([84, 82] ++ List.replicate m 85)) [⟨(((w ++ List.replicate (a + 1) 84) ++ [84, 82, 84, 82]).length : Int), [], [84, 85]⟩, ⟨(((w ++ List.replicate (a + 1) 84) ++ [84, 82, 84, 82, 84]).length : Int), [], [82, 82]⟩, ⟨((w ++ List.replicate (a + 1) 84).length : Int), [84, 82, 84, 82, 84, 82], []⟩] (w ++ (List.replicate (a + 1) 84 ++ [82]) ++ List.replicate (m + 1) 85) := by
      refine ((lead_finish (w ++ List.replicate (a + 1) 84)).more (List.replicate m 85)).cast ?_ ?_
      · rw [show a + 2 = (a + 1) + 1 by omega, ← rep_snoc (a + 1) 84]
        simp
      · rw [show List.replicate (m + 1) 85 = 85 :: List.replicate m 85 from List.replicate_succ]
        simp
    cases a with
    | zero =>
      obtain ⟨ms, w', b, h', l, e⟩ := ih (m + 1)
      refine ⟨_, w', b, h', Lead.trans (l0.cast rfl ?_) l, Nat.le_trans e ?_⟩
      · simp
      · rw [wt_app, wt_app, wt_app, wt_app, wt_app, wt_app, wt_T, wt_U, wt_U, otr, o2]
        omega
    | succ a =>
      refine ⟨_, w ++ (List.replicate (a + 2) 84 ++ [82]), -((m + 1 : Nat) : Int), .snoc a hw, l0.cast rfl (by rw [rn_neg]), ?_⟩
      rw [rn_neg, wt_app, wt_app, wt_app, wt_app, wt_app, wt_app, wt_app, wt_T, wt_T, wt_U, wt_U, otr, o2]
      omega
theorem ends {x : List Nat} (h : Fst x) : ∃ ms x', Lead x ms x' ∧ Form x' ∧ wt x' ≤ wt x + 1 := by
  have form : ∀ {w : List Nat} (b : Int), Pf w → Form (w ++ rn b) := fun b hw => by
    obtain ⟨r, h2, e⟩ := pf_join hw
    exact .inr ⟨r, b, h2, e b⟩
  cases h with
  | A b hw => exact ⟨[], _, Lead.refl _, form b hw, by omega⟩
  | B m hw =>
    obtain ⟨ms, w', b, h', l, e⟩ := ends_B hw m
    exact ⟨ms, _, l, form b h', e⟩
  | C => exact ⟨[], _, Lead.refl _, .inl rfl, by omega⟩
theorem leads_all : ∀ (l : List Nat), (∀ c ∈ l, c = 84 ∨ c = 85 ∨ c = 82) → ∀ {x : List Nat}, Fst x → ∃ ms x', Lead (x ++ l) ms x' ∧ Fst x' ∧ wt x' ≤ wt x + 3 * l.length
  | [], _, x, h => ⟨[], x, (Lead.refl _).cast (by simp) rfl, h, by simp⟩
  | c :: r, hl, x, h => by
    obtain ⟨x1, ms, l1, h1, e1⟩ := goes h (hl c List.mem_cons_self)
    obtain ⟨ns, x2, l2, h2, e2⟩ := leads_all r (fun d hd => hl d (List.mem_cons_of_mem _ hd)) h1
    refine ⟨_, x2, Lead.trans ((l1.more r).cast (by simp) rfl) l2, h2, ?_⟩
    rw [List.length_cons]
    omega
theorem form_is {x : List Nat} (h : Form x) : stv (run (0, 1) x) = x := by
  rcases h with rfl | ⟨r, b, h2, rfl⟩
  · rfl
  · exact form_std h2
/-- each dance is led to the standard dance of its number, whose length is at most three for each letter and one more -/
theorem leads_std {l : List Nat} (hl : ∀ c ∈ l, c = 84 ∨ c = 85 ∨ c = 82) : ∃ ms, Lead l ms (stv (run (0, 1) l)) ∧ (stv (run (0, 1) l)).length ≤ 3 * l.length + 1 := by
  obtain ⟨ms, x, l1, h1, e1⟩ := leads_all l hl (x := [] ++ rn 0) (.A 0 .nil)
  obtain ⟨ns, y, l2, h2, e2⟩ := ends h1
  have L := Lead.trans (l1.cast (show ([] ++ rn 0) ++ l = l from rfl) rfl) l2
  have e := form_is h2
  rw [L.num] at e
  rw [e]
  refine ⟨_, L, ?_⟩
  have : wt ([] ++ rn 0) = 0 := rfl
  have : y.length ≤ wt y := by unfold wt; omega
  omega
end
section
theorem log_okL {j : Int} (h : j.natAbs < 2 ^ 201) : j.natAbs.log2 < 9000 := Nat.lt_of_lt_of_le (PySem.Flt.log2_lt_of (by decide) h) (by decide)
/-- its standard dance is short enough to be written out -/
structure SvL (v : Int × Int) : Prop where
  good : Good v
  s2 : v.2.natAbs < 2 ^ 201
  len : (stv v).length ≤ 14000000
theorem svL_run {l : List Nat} (hl : Lets l) (h : l.length ≤ 200) : SvL (run (0, 1) l) := by
  obtain ⟨ms, _, e⟩ := leads_std hl
  have := run_size l (v := (0, 1)) (n := 1) (by decide) (by decide) (by decide)
  refine ⟨good_run l Good.zero, ?_, by omega⟩
  have k : 2 ^ l.length ≤ 2 ^ 200 := Nat.pow_le_pow_right (by decide) h
  omega
def spStdL : Sp := fun vs H Q _ => ∃ (t : Addr) (v : Int × Int), vs = [.ref t] ∧ Tup2 H t v ∧ SvL v ∧ ∀ H', Same H H' → Q (.str (S (stv v))) H'
theorem lets_rn (b : Int) : Lets (rn b) := fun c hc => by
  unfold rn at hc
  split at hc
  · exact .inr (.inl (List.eq_of_mem_replicate hc))
  · exact .inl (List.eq_of_mem_replicate hc)
theorem lets_join : ∀ {xs : List (List Nat)}, (∀ x ∈ xs, Lets x) → Lets (TL.joinL [82] xs)
  | [], _ => fun c h => by cases h
  | [x], h => h x List.mem_cons_self
  | x :: y :: r, h => fun c hc => by
    have e : TL.joinL [82] (x :: y :: r) = x ++ ([82] ++ TL.joinL [82] (y :: r)) := rfl
    rw [e] at hc
    rcases List.mem_append.mp hc with hc | hc
    · exact h x List.mem_cons_self c hc
    · rcases List.mem_append.mp hc with hc | hc
      · exact .inr (.inr (List.mem_singleton.mp hc))
      · exact lets_join (fun z hz => h z (List.mem_cons_of_mem _ hz)) c hc
theorem lets_stv (v : Int × Int) : Lets (stv v) := by
  unfold stv
  split
  · intro c hc
    exact .inr (.inr (List.mem_singleton.mp hc))
  · exact lets_join fun x hx => by
      obtain ⟨b, _, rfl⟩ := List.mem_map.mp hx
      exact lets_rn b
end
section
theorem e_UUR : (("UUR" : Str)) = S [85, 85, 82] := by decide +kernel
theorem e_TTR : (("TTR" : Str)) = S [84, 84, 82] := by decide +kernel
theorem e_TR : (("TR" : Str)) = S [84, 82] := by decide +kernel
theorem e_RTUR : (("RTUR" : Str)) = S [82, 84, 85, 82] := by decide +kernel
theorem lets_app {l m : List Nat} (h : Lets l) (k : Lets m) : Lets (l ++ m) := fun c hc => by
  rcases List.mem_append.mp hc with hc | hc
  · exact h c hc
  · exact k c hc
theorem lets_rep {l : List Nat} (h : Lets l) (n : Nat) : Lets (List.replicate n l).flatten := fun c hc => by
  obtain ⟨x, hx, hc⟩ := List.mem_flatten.mp hc
  rw [List.eq_of_mem_replicate hx] at hc
  exact h c hc
theorem rep_flat (l : List Nat) (n : Nat) : (List.replicate n l).flatten.length = n * l.length := by simp
theorem lets_take {l : List Nat} (h : Lets l) (n : Nat) : Lets (l.take n) := fun c hc => h c (List.mem_of_mem_take hc)
theorem lets_by {l : List Nat} (h : l.all (fun c => c == 84 || c == 85 || c == 82) = true) : Lets l := fun c hc => by
  have := List.all_eq_true.mp h c hc
  simp only [Bool.or_eq_true, beq_iff_eq] at this
  omega
def spSort : Sp := fun vs H Q _ => ∃ (a : Addr), vs = [.ref a] ∧ Tape H a ∧ ∀ l H', Lets l → l.length ≤ 130 → But a H H' → Q (.str (S l)) H'
end
section
def spToStd : Sp := fun vs H Q _ => ∃ l : List Nat, vs = [.str (S l)] ∧ Lets l ∧ l.length ≤ 130 ∧ ∀ (p : Addr) (ms : List Mv) H', Same H H' → Tl H' p (ms.map Mv.vs) → FitAll ms 6 → ms.length ≤ 100000 → led l ms = some (stv (run (0, 1) l)) → Q (.ref p) H'
def spFormed : Sp := fun vs H Q _ => ∃ (p : Addr) (ms : List Mv), vs = [.ref p] ∧ Tl H p (ms.map Mv.vs) ∧ ∀ H', Same H H' → Q (.bl true) H'
theorem led_some {l x : List Nat} {ms : List Mv} (h : led l ms = some x) (i : Nat) : ∃ d, led l (ms.take i) = some d := by
  cases e : led l (ms.take i) with
  | none =>
    rw [led_stop e] at h
    cases h
  | some d => exact ⟨d, rfl⟩
end
section
/-! ### the front as an object -/
structure MDfn (P : Program) (w : World) (K : PySem.W.Frag) (mg : Str → Option Value) (base : Heap) (C : Addr) (m : Str) (k : Nat) (ps : List Str) (sp : Sp) : Prop where
  ex : ∃ g fd, FnOk P w K mg base CX0 k g fd ps sp ∧ Binds K fd ps [] ∧ Meth K C m g
theorem lm_ : ¬ (("letters" : Str) = "moves") := by decide +kernel
def ff (l m : Addr) : List (Str × V) := putF "moves" (.ref m) (putF "letters" (.ref l) [])
theorem ff_letters (l m : Addr) : (ff l m).lookup ("letters" : Str) = some (.ref l) := by
  unfold ff
  rw [lookup_putF, if_neg lm_, lookup_putF, if_pos rfl]
theorem ff_moves (l m : Addr) : (ff l m).lookup ("moves" : Str) = some (.ref m) := by
  unfold ff
  rw [lookup_putF, if_pos rfl]
theorem ff_no (l m : Addr) {x : Str} (h1 : ¬ x = "moves") (h2 : ¬ x = "letters") : (ff l m).lookup x = none := by
  unfold ff
  rw [lookup_putF, if_neg h1]
  rw [lookup_putF, if_neg h2]
  all_goals rfl
def chs (l : List Nat) : List V := l.map fun c => V.str (S [c])
/-- what stood in H0 is kept; at p a front with these letters and moves, its lists made since -/
def FrAt (C : Addr) (H0 H : Hp) (p : Addr) (l : List Nat) (ms : List Mv) : Prop :=
  Same H0 H ∧ H0 p = none ∧ ∃ (dx a m : Addr), H0 a = none ∧ H0 m = none ∧ a ≠ m ∧ H p = some (.ins C dx (ff a m)) ∧ H a = some (.lst (chs l)) ∧ Tl H m (ms.map Mv.vs)
structure TxF (K : PySem.W.Frag) (mg : Str → Option Value) (C : Addr) : Prop where
  cl : Cls K C
  nL : NoAttr K C "letters"
  nM : NoAttr K C "moves"
  mgC : mg "Front" = some (.ref C)
/-- a new object does no harm -/
theorem FrAt.same {C : Addr} {H0 H H' : Hp} {p : Addr} {l : List Nat} {ms : List Mv} (h : FrAt C H0 H p l ms) (s : Same H H') : FrAt C H0 H' p l ms := by
  obtain ⟨s0, p0, dx, a, m, a0, m0, nam, hp, ha, hm⟩ := h
  exact ⟨s0.trans s, p0, dx, a, m, a0, m0, nam, s _ _ hp, s _ _ ha, hm.same s⟩
/-- other letters -/
theorem FrAt.letters {C : Addr} {H0 H : Hp} {p a : Addr} {l : List Nat} {ms : List Mv} (h : FrAt C H0 H p l ms) {dx m : Addr} (e : H p = some (.ins C dx (ff a m))) (l' : List Nat) : FrAt C H0 (upd H a (.lst (chs l'))) p l' ms := by
  obtain ⟨s0, p0, dx', a', m', a0, m0, nam, hp, ha, hm⟩ := h
  rw [e] at hp
  have e1 : ff a m = ff a' m' := by
    have := Option.some.inj hp
    cases this
    rfl
  have ea : a = a' := by
    have h1 := ff_letters a m
    rw [e1, ff_letters] at h1
    cases h1
    rfl
  subst ea
  have npa : p ≠ a := ne_of e ha (by intro z; cases z)
  refine ⟨fun b o hb => ?_, p0, dx', a, m', a0, m0, nam, by rw [upd_ne npa, e, hp], upd_same, ?_⟩
  · rw [upd_ne (ne_of_none hb a0)]
    exact s0 _ _ hb
  · obtain ⟨rs, h1, h2, h3⟩ := hm
    refine ⟨rs, by rw [upd_ne nam.symm]; exact h1, h2, fun i r d hr hd => ?_⟩
    have := h3 i r d hr hd
    rw [upd_ne (ne_of this ha (by intro z; cases z))]
    exact this
end
section
theorem FrAt.push {C : Addr} {H0 H : Hp} {p : Addr} {l : List Nat} {ms : List Mv} (h : FrAt C H0 H p l ms) {dx a m : Addr} (e : H p = some (.ins C dx (ff a m))) {t : Addr} {mv : Mv} (ht : H t = some (.tup mv.vs)) :
    ∃ xs, H m = some (.lst xs) ∧ xs.length = ms.length ∧ FrAt C H0 (upd H m (.lst (xs ++ [.ref t]))) p l (ms ++ [mv]) := by
  obtain ⟨s0, p0, dx', a', m', a0, m0, nam, hp, ha, rs, h1, h2, h3⟩ := h
  rw [e] at hp
  have e1 : ff a m = ff a' m' := by
    have := Option.some.inj hp
    cases this
    rfl
  have em : m = m' := by
    have k := ff_moves a m
    rw [e1, ff_moves] at k
    cases k
    rfl
  subst em
  rw [List.length_map] at h2
  have npm : p ≠ m := ne_of e h1 (by intro z; cases z)
  refine ⟨_, h1, by rw [List.length_map, h2], fun b o hb => ?_, p0, dx', a', m, a0, m0, nam, by rw [upd_ne npm, e, hp], by rw [upd_ne nam]; exact ha, rs ++ [t], by rw [upd_same, List.map_append]; rfl, by rw [List.length_append, List.length_map, List.length_append, h2]; rfl, fun i r d hr hd => ?_⟩
  · rw [upd_ne (ne_of_none hb m0)]
    exact s0 _ _ hb
  · by_cases hi : i < rs.length
    · rw [List.getElem?_append_left hi] at hr
      rw [List.map_append, List.getElem?_append_left (by rw [List.length_map]; omega)] at hd
      have := h3 i r d hr hd
      rw [upd_ne (ne_of this h1 (by intro z; cases z))]
      exact this
    · have hi2 : i = rs.length := by
        have := (List.getElem?_eq_some_iff.mp hr).1
        rw [List.length_append] at this
        have : ([t] : List Addr).length = 1 := rfl
        omega
      subst hi2
      rw [List.getElem?_append_right (Nat.le_refl _), Nat.sub_self] at hr
      rw [List.map_append, List.getElem?_append_right (by rw [List.length_map]; omega), List.length_map, h2, Nat.sub_self] at hd
      cases hr
      cases hd
      rw [upd_ne (ne_of ht h1 (by intro z; cases z))]
      exact ht
theorem FrAt.at {C : Addr} {H0 H : Hp} {p : Addr} {l : List Nat} {ms : List Mv} (h : FrAt C H0 H p l ms) : ∃ dx a m xs, H p = some (.ins C dx (ff a m)) ∧ H a = some (.lst (chs l)) ∧ H m = some (.lst xs) ∧ xs.length = ms.length ∧ a ≠ m := by
  obtain ⟨s0, p0, dx', a', m', a0, m0, nam, hp, ha, rs, h1, h2, h3⟩ := h
  exact ⟨_, _, _, _, hp, ha, h1, by rw [List.length_map, h2, List.length_map], nam⟩
theorem chs_mid (a o b n : List Nat) : (chs (a ++ o ++ b)).take a.length ++ chs n ++ (chs (a ++ o ++ b)).drop (a.length + o.length) = chs (a ++ n ++ b) := by
  unfold chs
  rw [← List.map_take, ← List.map_drop, ← List.map_append, ← List.map_append]
  congr 1
  rw [List.append_assoc a o b, List.take_left, ← List.append_assoc a o b, show a.length + o.length = (a ++ o).length by rw [List.length_append], List.drop_left]
end
section
variable {P : Program} {w : World} {K : PySem.W.Frag} {mg : Str → Option Value} {base : Heap} {f : Addr} {fd : FuncData}
theorem ok_law_run (F : Fun K "_law_run" "_law_run" s_law_run f fd)   : FnOk P w K mg base CX0 1 f fd ["count"] spRun := by
  refine F.ok sc_law_run (fun vs H Q E h => ?_) (fun cdv A outer s H vs Q E hr h => ?_)
  · obtain ⟨b, rfl, hb, q⟩ := h
    rfl
  obtain ⟨b, rfl, hb, q⟩ := h
  refine ⟨_, (pss_cons (ps_if (pt_cmpR op_lt (pv 0) pe_int (nomark _)) (pss_one (ps_ret (pe_op op_mul_str pe_str (pe_op op_sub pe_int (pv 0))))) pss_nil)
    (pss_one (ps_ret (pe_op op_mul_str pe_str (pv 0))))), ?_⟩
  refine ⟨_, rfl, _, _, rfl, rfl, _, rfl, ite2 (fun c => ?_) (fun c => ?_)⟩
  · have k : b < 0 := of_decide_eq_true c
    rw [e_U]
    refine ⟨_, rfl, _, _, rfl, rfl, [85], 0 - b, rfl, rfl, by omega, by omega, by show 1 * (0 - b).toNat ≤ 16777215; omega, ?_⟩
    rw [Int.zero_sub, rn_dn k]
    exact q
  · have k : 0 ≤ b := by
      have : ¬ b < 0 := fun z => c (decide_eq_true z)
      omega
    rw [e_T]
    refine ⟨_, rfl, [84], b, rfl, rfl, by omega, by omega, by show 1 * b.toNat ≤ 16777215; omega, ?_⟩
    rw [rn_up k]
    exact q
end
section
variable {P : Program} {w : World} {K : PySem.W.Frag} {mg : Str → Option Value} {base : Heap} {f : Addr} {fd : FuncData}
theorem ok_law_standard (F : Fun K "_law_standard" "_law_standard" s_law_standard f fd) (D_law_run : Dfn P w K mg base "_law_run" 1 ["count"] spRun)  : FnOk P w K mg base CX0 2 f fd ["value"] spStdL := by
  refine F.ok sc_law_standard (fun vs H Q E h => ?_) (fun cdv A outer s H vs Q E hr h => ?_)
  · obtain ⟨t, v, rfl, hT, sv, q⟩ := h
    rfl
  obtain ⟨t, v, rfl, hT, sv, q⟩ := h
  refine ⟨_, (pss_cons (ps_asg (pv 0) (pg_tup (by rfl) (pgs_cons (pg_name (i := 1) sc_law_standard.nd rfl (.inl rfl)) (pgs_cons (pg_name (i := 2) sc_law_standard.nd rfl (.inl rfl)) pgs_nil))))
    (pss_cons (ps_if (pt_cmpR op_eq (pv 2) pe_int (nomark _)) (pss_one (ps_ret pe_str)) pss_nil)
    (pss_cons (ps_set (i := 3) sc_law_standard.nd rfl (.inl rfl) pe_str)
    (pss_cons (ps_while PassesOwn.never (pt_cmpR op_gt (pv 2) pe_int (nomark _)) (pss_cons (ps_set (i := 4) sc_law_standard.nd rfl (.inl rfl) (pe_op op_add (pe_op op_fdivWN (pv 1) (pv 2)) pe_int))
    (pss_cons (ps_set (i := 3) sc_law_standard.nd rfl (.inl rfl) (pe_op op_add_str (pe_op op_add_str pe_str (pe_do D_law_run hr (pa_cons (pv 4) pa_nil))) (pv 3)))
    (pss_one (ps_par (i := 1) (j := 2) (by rfl) sc_law_standard.nd rfl rfl (by decide) rfl rfl (pa_cons (pv 2) (pa_cons (pe_op op_sub (pe_op op_mul (pv 4) (pv 2)) (pv 1)) pa_nil)) (by rfl))))))
    (pss_one (ps_ret (pe_op op_add_str (pe_do D_law_run hr (pa_cons (pv 1) pa_nil)) (pv 3)))))))), ?_⟩
  obtain ⟨p, q'⟩ := v
  have q0 := q H (Same.refl H)
  obtain ⟨⟨h1, h2⟩, s2, hlen⟩ := sv
  simp only at h1 h2 s2
  refine ⟨_, rfl, t, _, rfl, SqT.of hT, rfl, _, _, rfl, _, _, rfl, rfl, ?_⟩
  refine ⟨_, rfl, rfl, _, rfl, ite2 (fun c => ?_) (fun c => ?_)⟩
  · have k : q' = 0 := V.int.inj (of_decide_eq_true c)
    subst k
    rw [e_R]
    exact q0
  have k : ¬ q' = 0 := fun z => c (decide_eq_true (congrArg V.int z))
  have h0 : 0 < q' := by
    rcases h1 with h1 | h1
    · exact h1
    · cases h1; exact absurd rfl k
  have es : stv (p, q') = TL.joinL [82] ((bs p q').map rn) := if_neg k
  rw [es] at q0 hlen
  refine while_by (fun σ G => G = H ∧ ∃ (x y : Int) (d : List Nat) (x4 : Option V), σ = [some (.ref t), some (.int x), some (.int y), some (.str (S d)), x4] ∧ 0 < y ∧ y.natAbs < 2 ^ 201 ∧ Int.gcd x y = 1 ∧ TL.joinL [82] ((bs p q').map rn) = TL.joinL [82] ((bs x y).map rn) ++ d) (fun σ _ => match σ with | [_, _, some (.int b), _, _] => b.natAbs | _ => 0) ⟨rfl, p, q', [], none, by rw [e_empty]; rfl, h0, s2, h2, by rw [List.append_nil]⟩ ?_ ?_
  · rintro σ _ ⟨rfl, x, y, d, x4, rfl, y0, ys, gx, ej⟩
    have tot : (TL.joinL [82] ((bs x y).map rn)).length + d.length ≤ 14000000 := by
      have := congrArg List.length ej
      rw [List.length_append] at this
      omega
    refine ⟨_, rfl, _, _, rfl, rfl, _, rfl, ite2 (fun c1 => ?_) (fun c1 => ?_)⟩
    · have y1 : 1 < y := of_decide_eq_true c1
      have nl := nx_lt y1 gx
      have np := nx_pos (p := x) y0
      have bst := bs_step y1 gx
      have jst : TL.joinL [82] ((bs x y).map rn) = TL.joinL [82] ((bs y (nx x y)).map rn) ++ ([82] ++ rn (x / y + 1)) := by
        rw [bst, List.map_append, List.map_singleton, joinL_snoc [82] _ (fun z => bs_ne (List.map_eq_nil_iff.mp z))]
      have rl := rn_len (x / y + 1)
      have jl := congrArg List.length jst
      rw [List.length_append, List.length_append, rl] at jl
      have o1 : ([82] : List Nat).length = 1 := rfl
      refine ⟨_, rfl, _, rfl, _, _, rfl, rfl, ⟨by omega, log_okL ys⟩, _, _, rfl, rfl, ?_⟩
      rw [fdiv_pos y0]
      refine ⟨_, rfl, x / y + 1, rfl, by omega, ?_⟩
      rw [e_R]
      refine ⟨_, _, rfl, rfl, by rw [S_len, S_len, rl]; exact fits (by show 1 + _ ≤ _; omega), ?_⟩
      rw [S_app]
      refine ⟨_, rfl, _, _, rfl, rfl, by rw [S_len, S_len, List.length_append, rl]; exact fits (by show 1 + _ + _ ≤ _; omega), ?_⟩
      rw [S_app]
      refine ⟨_, rfl, _, rfl, _, rfl, _, _, rfl, rfl, .inl ⟨by omega, by omega⟩, _, rfl, _, _, rfl, rfl, _, _, rfl, ⟨rfl, y, nx x y, ([82] ++ rn (x / y + 1)) ++ d, _, rfl, np, by omega, by rw [nx_gcd]; exact gx, ?_⟩, ?_⟩
      · rw [ej, jst, List.append_assoc]
      · show (nx x y).natAbs < y.natAbs
        omega
    · have y1 : y = 1 := by
        have : ¬ 1 < y := fun z => c1 (decide_eq_true z)
        omega
      subst y1
      have tot' : (rn x).length + d.length ≤ 14000000 := tot
      rw [rn_len] at tot'
      rw [bs_one] at ej
      refine ⟨_, rfl, x, rfl, by omega, _, rfl, _, _, rfl, rfl, by rw [S_len, S_len, rn_len]; exact fits (by omega), ?_⟩
      rw [S_app]
      rw [ej] at q0
      exact q0
  · rintro σ H' Q1 Q2 hm ⟨v, e, i, j, e1, e2, b, e3, qq⟩
    exact ⟨v, e, i, j, e1, e2, b, e3, hm _ _ qq⟩
end
section
variable {P : Program} {w : World} {K : PySem.W.Frag} {mg : Str → Option Value} {base : Heap} {f : Addr} {fd : FuncData}
theorem ok_law_sort (F : Fun K "_law_sort" "_law_sort" s_law_sort f fd) (D_dance : Dfn P w K mg base "_law_dance" 2 ["tape", "most"] spDance) (D_take : Dfn P w K mg base "_law_take" 2 ["tape", "many"] spTake) (D_law_standard : Dfn P w K mg base "_law_standard" 2 ["value"] spStdL) (D_number : Dfn P w K mg base "_law_number" 2 ["dance"] (spNumber K))  : FnOk P w K mg base CX0 3 f fd ["tape"] spSort := by
  refine F.ok sc_law_sort (fun vs H Q E h => ?_) (fun cdv A outer s H vs Q E hr h => ?_)
  · obtain ⟨a, rfl, hT, q⟩ := h
    rfl
  obtain ⟨a, rfl, hT, q⟩ := h
  refine ⟨_, (pss_cons (ps_set (i := 1) sc_law_sort.nd rfl (.inl rfl) (pe_do D_dance hr (pa_cons (pv 0) (pa_cons pe_int pa_nil))))
    (pss_cons (ps_set (i := 2) sc_law_sort.nd rfl (.inl rfl) (pe_do D_take hr (pa_cons (pv 0) (pa_cons pe_int pa_nil))))
    (pss_cons (ps_if (pt_cmpR op_eq (pv 2) pe_int (nomark _)) (pss_one (ps_ret (pe_op op_add_str pe_str (pv 1)))) pss_nil)
    (pss_cons (ps_if (pt_cmpR op_eq (pv 2) pe_int (nomark _)) (pss_one (ps_ret (pe_op op_add_str (pe_op op_add_str (pe_do D_law_standard hr (pa_cons (pe_do D_number hr (pa_cons (pe_slice sl_str (pv 1) po_none (po_some pe_int)) pa_nil)) pa_nil)) (pe_ix ix_str pe_str (pe_do D_take hr (pa_cons (pv 0) (pa_cons pe_int pa_nil))) (fun _ _ => rfl))) (pe_slice sl_str (pv 1) po_none (po_some pe_int))))) pss_nil)
    (pss_cons (ps_if (pt_cmpR op_eq (pv 2) pe_int (nomark _)) (pss_one (ps_ret (pe_op op_add_str (pe_op op_add_str (pe_op op_add_str (pe_op op_mul_str pe_str (pe_do D_take hr (pa_cons (pv 0) (pa_cons pe_int pa_nil)))) pe_str) (pe_op op_mul_str pe_str (pe_do D_take hr (pa_cons (pv 0) (pa_cons pe_int pa_nil))))) (pe_slice sl_str (pv 1) po_none (po_some pe_int))))) pss_nil)
    (pss_cons (ps_if (pt_cmpR op_eq (pv 2) pe_int (nomark _)) (pss_one (ps_ret (pe_op op_add_str (pe_op op_add_str (pe_op op_mul_str pe_str (pe_do D_take hr (pa_cons (pv 0) (pa_cons pe_int pa_nil)))) pe_str) (pe_slice sl_str (pv 1) po_none (po_some pe_int))))) pss_nil)
    (pss_one (ps_ret (pv 1))))))))), ?_⟩
  have sz : ∀ x y : List Nat, x.length ≤ 1000 → y.length ≤ 1000 → (S x).length + (S y).length ≤ sizeLine := fun x y h1 h2 => by rw [S_len, S_len]; exact fits (by omega)
  refine ⟨_, rfl, a, 60, rfl, hT, by decide, by decide, fun l H1 hl hz b1 t1 => ?_⟩
  refine ⟨_, rfl, a, 6, rfl, t1, by decide, by decide, fun r H2 r0 r1 b2 t2 => ?_⟩
  have B2 := b1.trans b2
  have zl : l.length ≤ 60 := by omega
  have sl : (S l).length ≤ sizeLine := by rw [S_len]; exact fits (by omega)
  refine ⟨_, rfl, rfl, _, rfl, ite2 (fun _ => ?_) (fun _ => ?_)⟩
  · rw [e_R]
    refine ⟨_, rfl, _, _, rfl, rfl, sz _ _ (by decide) (by omega), ?_⟩
    rw [S_app]
    exact q _ _ (lets_app (lets_by rfl) hl) (by rw [List.length_append]; show 1 + _ ≤ _; omega) B2
  refine ⟨_, rfl, rfl, _, rfl, ite2 (fun _ => ?_) (fun _ => ?_)⟩
  · refine ⟨_, rfl, _, rfl, _, rfl, sl, ?_⟩
    rw [S_take l (by decide)]
    refine ⟨_, rfl, fun t H3 s3 tt => ⟨t, _, rfl, tt, svL_run (lets_take hl _) (by rw [List.length_take]; omega), fun H4 s4 => ?_⟩⟩
    refine ⟨_, rfl, a, 4, rfl, (t2.same s3).same s4, by decide, by decide, fun r2 H5 r20 r21 b5 t5 => ?_⟩
    obtain ⟨c, hc, mc⟩ := pick_sign e_RTUR r20 r21
    have lc : Lets [c] := fun d hd => by
      rw [List.mem_singleton.mp hd]
      simp only [List.mem_cons, List.not_mem_nil, or_false] at mc
      omega
    have ll : (stv (run (0, 1) (l.take (30 : Int).toNat))).length ≤ 91 := by
      obtain ⟨_, _, e⟩ := leads_std (lets_take hl (30 : Int).toNat)
      rw [List.length_take] at e
      have : (30 : Int).toNat = 30 := rfl
      omega
    refine ⟨_, _, c, rfl, rfl, fits (by decide +kernel), hc, ?_⟩
    refine ⟨_, S [c], rfl, rfl, sz _ _ (by omega) (by show 1 ≤ _; decide), ?_⟩
    rw [S_app]
    refine ⟨_, rfl, _, rfl, _, rfl, sl, ?_⟩
    rw [S_take l (by decide)]
    have l5 : (l.take (5 : Int).toNat).length ≤ 5 := by rw [List.length_take]; show min 5 _ ≤ 5; omega
    have l6 : (stv (run (0, 1) (l.take (30 : Int).toNat)) ++ [c]).length ≤ 92 := by rw [List.length_append]; show _ + 1 ≤ _; omega
    refine ⟨_, _, rfl, rfl, sz _ _ (by omega) (by omega), ?_⟩
    rw [S_app]
    exact q _ _ (lets_app (lets_app (lets_stv _) lc) (lets_take hl _)) (by rw [List.length_append]; omega) ((B2.trans (But.of (s3.trans s4))).trans b5)
  have l10 : (l.take (10 : Int).toNat).length ≤ 10 := by rw [List.length_take]; show min 10 _ ≤ 10; omega
  refine ⟨_, rfl, rfl, _, rfl, ite2 (fun _ => ?_) (fun _ => ?_)⟩
  · rw [e_U, e_R, e_UUR]
    refine ⟨_, rfl, a, 12, rfl, t2, by decide, by decide, fun r2 H3 r20 r21 b3 t3 => ⟨_, r2, rfl, rfl, r20, by omega, by show 1 * _ ≤ _; omega, ?_⟩⟩
    have e1 := rep_flat [85] r2.toNat
    have f1 : ([85] : List Nat).length = 1 := rfl
    rw [f1] at e1
    refine ⟨_, _, rfl, rfl, sz _ _ (by omega) (by decide), ?_⟩
    rw [S_app]
    refine ⟨_, rfl, a, 6, rfl, t3, by decide, by decide, fun r3 H4 r30 r31 b4 t4 => ⟨_, r3, rfl, rfl, r30, by omega, by show 3 * _ ≤ _; omega, ?_⟩⟩
    have e2 := rep_flat [85, 85, 82] r3.toNat
    have f2 : ([85, 85, 82] : List Nat).length = 3 := rfl
    rw [f2] at e2
    have f3 : ((List.replicate r2.toNat [85]).flatten ++ [82]).length ≤ 20 := by rw [List.length_append]; show _ + 1 ≤ _; omega
    refine ⟨_, _, rfl, rfl, sz _ _ (by omega) (by omega), ?_⟩
    rw [S_app]
    refine ⟨_, rfl, _, rfl, _, rfl, sl, ?_⟩
    rw [S_take l (by decide)]
    have f4 : (((List.replicate r2.toNat [85]).flatten ++ [82]) ++ (List.replicate r3.toNat [85, 85, 82]).flatten).length ≤ 50 := by rw [List.length_append]; omega
    refine ⟨_, _, rfl, rfl, sz _ _ (by omega) (by omega), ?_⟩
    rw [S_app]
    exact q _ _ (lets_app (lets_app (lets_app (lets_rep (lets_by rfl) _) (lets_by rfl)) (lets_rep (lets_by rfl) _)) (lets_take hl _)) (by rw [List.length_append]; omega) ((B2.trans b3).trans b4)
  refine ⟨_, rfl, rfl, _, rfl, ite2 (fun _ => ?_) (fun _ => ?_)⟩
  · rw [e_TTR, e_TR]
    refine ⟨_, rfl, a, 12, rfl, t2, by decide, by decide, fun r2 H3 r20 r21 b3 t3 => ⟨_, r2, rfl, rfl, r20, by omega, by show 3 * _ ≤ _; omega, ?_⟩⟩
    have e1 := rep_flat [84, 84, 82] r2.toNat
    have f1 : ([84, 84, 82] : List Nat).length = 3 := rfl
    rw [f1] at e1
    refine ⟨_, _, rfl, rfl, sz _ _ (by omega) (by decide), ?_⟩
    rw [S_app]
    have f3 : ((List.replicate r2.toNat [84, 84, 82]).flatten ++ [84, 82]).length ≤ 40 := by rw [List.length_append]; show _ + 2 ≤ _; omega
    refine ⟨_, rfl, _, rfl, _, rfl, sl, ?_⟩
    rw [S_take l (by decide)]
    refine ⟨_, _, rfl, rfl, sz _ _ (by omega) (by omega), ?_⟩
    rw [S_app]
    exact q _ _ (lets_app (lets_app (lets_rep (lets_by rfl) _) (lets_by rfl)) (lets_take hl _)) (by rw [List.length_append]; omega) (B2.trans b3)
  · exact ⟨_, rfl, q l _ hl (by omega) B2⟩
end
section
variable {P : Program} {w : World} {K : PySem.W.Frag} {mg : Str → Option Value} {base : Heap} {f : Addr} {fd : FuncData}
theorem ok_law_is_move (F : Fun K "_law_is_move" "_law_is_move" s_law_is_move f fd)   : FnOk P w K mg base CX0 1 f fd ["move"] spIsMove := by
  refine F.ok sc_law_is_move (fun vs H Q E h => ?_) (fun cdv A outer s H vs Q E hr h => ?_)
  · obtain ⟨t, m, rfl, hT, hf, q⟩ := h
    rfl
  obtain ⟨t, m, rfl, hT, hf, q⟩ := h
  refine ⟨_, (pss_cons (ps_asg (pv 0) (pg_tup (by rfl) (pgs_cons (pg_name (i := 1) sc_law_is_move.nd rfl (.inl rfl)) (pgs_cons (pg_name (i := 2) sc_law_is_move.nd rfl (.inl rfl)) (pgs_cons (pg_name (i := 3) sc_law_is_move.nd rfl (.inl rfl)) pgs_nil)))))
    (pss_cons (ps_if (pt_cmpR op_eq (pe_cmpR op_eq (pv 2) pe_str (nomark _)) (pe_cmpR op_eq (pv 3) pe_str (nomark _)) (nomark _)) (pss_one (ps_ret pe_bl)) pss_nil)
    (pss_one (ps_ret (pe_or (pe_cmpR op_in_seq (pe_op op_add_str (pv 2) (pv 3)) (pe_tup (pa_cons pe_str (pa_cons pe_str (pa_cons pe_str (pa_cons pe_str pa_nil))))) (by rfl)) (pe_one (pe_and (pe_cmpR op_eq (pv 1) pe_int (nomark _)) (pe_one (pe_cmpR op_eq (pe_op op_add_str (pv 2) (pv 3)) pe_str (nomark _)))))))))), ?_⟩
  have z1 := hf.o
  have z2 := hf.n
  have sz : (S m.o).length + (S m.n).length ≤ sizeLine := by rw [S_len, S_len]; exact fits (by omega)
  have ee : ∀ l : List Nat, (decide (V.str (S l) = V.str "")) = decide (l = []) := fun l => by rw [e_empty]; exact decide_eq_decide.mpr tx_iff
  refine ⟨_, rfl, t, _, rfl, SqT.of hT, rfl, _, _, rfl, _, _, rfl, _, _, rfl, rfl, ?_⟩
  refine ⟨_, rfl, rfl, _, rfl, rfl, rfl, _, rfl, ?_⟩
  rw [ee, ee]
  refine ite2 (fun c => ?_) (fun c => ?_)
  · have c' : decide (m.o = []) = decide (m.n = []) := V.bl.inj (of_decide_eq_true c)
    have e : isMv m = false := by unfold isMv; rw [c', bne_self_eq_false, Bool.false_and]
    have := q H (Same.refl H)
    rw [e] at this
    exact this
  · have c' : decide (m.o = []) ≠ decide (m.n = []) := fun z => c (decide_eq_true (congrArg V.bl z))
    have e : isMv m = (decide (m.o ++ m.n ∈ wds) || (decide (m.pl = 0) && decide (m.o ++ m.n = wF))) := by unfold isMv; rw [bne_iff_ne.mpr c', Bool.true_and]
    rw [e] at q
    refine ⟨_, rfl, _, rfl, _, _, rfl, rfl, sz, fits (by decide), fun p hp => ⟨p, _, rfl, .inr (SqT.of upd_same), rfl, rfl, ?_⟩⟩
    rw [four_words, S_app]
    refine ⟨_, rfl, ?_⟩
    rw [show (if false = true then !(inV (V.str (S (m.o ++ m.n))) (wds.map tx)) else inV (V.str (S (m.o ++ m.n))) (wds.map tx)) = decide (m.o ++ m.n ∈ wds) from inV_strs _ _]
    have q1 := fun o => q _ (same_new hp o)
    refine ite2 (fun c1 => ?_) (fun c1 => ?_)
    · rw [c1, Bool.true_or] at q1
      exact q1 _
    · rw [Bool.not_eq_true] at c1
      rw [c1, Bool.false_or] at q1
      refine ⟨_, rfl, rfl, _, rfl, ite2 (fun c2 => ?_) (fun c2 => ?_)⟩
      · have k2 : m.pl = 0 := V.int.inj (of_decide_eq_true c2)
        rw [decide_eq_true k2, Bool.true_and] at q1
        refine ⟨_, rfl, _, rfl, _, _, rfl, rfl, sz, rfl, ?_⟩
        rw [S_app, e_RTR, show decide (V.str (S (m.o ++ m.n)) = V.str (S wF)) = decide (m.o ++ m.n = wF) from decide_eq_decide.mpr tx_iff]
        exact q1 _
      · have k2 : ¬ m.pl = 0 := fun z => c2 (decide_eq_true (congrArg V.int z))
        rw [decide_eq_false k2, Bool.false_and] at q1
        exact q1 _
end
section
variable {P : Program} {w : World} {K : PySem.W.Frag} {mg : Str → Option Value} {base : Heap} {f : Addr} {fd : FuncData}
theorem ok_law_made (F : Fun K "_law_made" "_law_made" s_law_made f fd) (D_law_is_move : Dfn P w K mg base "_law_is_move" 1 ["move"] spIsMove) (y_len : mg "len" = none)  : FnOk P w K mg base CX0 2 f fd ["dance", "move"] spLawMade := by
  refine F.ok sc_law_made (fun vs H Q E h => ?_) (fun cdv A outer s H vs Q E hr h => ?_)
  · obtain ⟨d, t, m, rfl, hT, hf, hd, q⟩ := h
    rfl
  obtain ⟨d, t, m, rfl, hT, hf, hd, q⟩ := h
  refine ⟨_, (pss_cons (ps_asg (pv 1) (pg_tup (by rfl) (pgs_cons (pg_name (i := 2) sc_law_made.nd rfl (.inl rfl)) (pgs_cons (pg_name (i := 3) sc_law_made.nd rfl (.inl rfl)) (pgs_cons (pg_name (i := 4) sc_law_made.nd rfl (.inl rfl)) pgs_nil)))))
    (pss_cons (ps_if (PW.pt (pw_or (pt_not (pt_val (pe_do D_law_is_move hr (pa_cons (pv 1) pa_nil)))) (pw_or (pt_cmpR op_lt (pv 2) pe_int (nomark _)) (pw_or1 (pt_cmpR op_gt (pv 2) (pe_callB call_len_str rfl y_len PySem.boot_len (pa_cons (pv 0) pa_nil)) (nomark _)))))) (pss_one (ps_ret pe_non)) pss_nil)
    (pss_cons (ps_if (pt_cmpR op_ne (pe_slice sl_str (pv 0) (po_some (pv 2)) (po_some (pe_op op_add (pv 2) (pe_callB call_len_str rfl y_len PySem.boot_len (pa_cons (pv 3) pa_nil))))) (pv 3) (nomark _)) (pss_one (ps_ret pe_non)) pss_nil)
    (pss_one (ps_ret (pe_op op_add_str (pe_op op_add_str (pe_slice sl_str (pv 0) po_none (po_some (pv 2))) (pv 4)) (pe_slice sl_str (pv 0) (po_some (pe_op op_add (pv 2) (pe_callB call_len_str rfl y_len PySem.boot_len (pa_cons (pv 3) pa_nil)))) po_none))))))), ?_⟩
  have z1 := hf.o
  have z2 := hf.n
  refine ⟨_, rfl, t, _, rfl, SqT.of hT, rfl, _, _, rfl, _, _, rfl, _, _, rfl, rfl, ?_⟩
  refine ⟨_, rfl, t, m, rfl, hT, hf, fun H1 s1 => ?_⟩
  have q1 := q H1 s1
  refine ⟨_, rfl, ?_⟩
  cases e : isMv m with
  | false =>
    rw [mkMv_not e] at q1
    exact iteT q1
  | true =>
    refine iteF ?_
    refine ⟨_, rfl, _, _, rfl, rfl, _, rfl, ite2 (fun c1 => ?_) (fun c1 => ?_)⟩
    · have k1 : m.pl < 0 := of_decide_eq_true c1
      have ec : canMv d m = false := by unfold canMv; rw [decide_eq_false (by omega), Bool.false_and]
      rw [mkMv_cannot ec] at q1
      exact iteT q1
    have k1 : 0 ≤ m.pl := by
      have : ¬ m.pl < 0 := fun z => c1 (decide_eq_true z)
      omega
    refine ⟨_, rfl, _, rfl, _, rfl, by rw [S_len]; exact fits (by omega), _, _, rfl, rfl, _, rfl, ?_⟩
    rw [S_len]
    refine ite2 (fun c2 => ?_) (fun c2 => ?_)
    · have k2 : (d.length : Int) < m.pl := of_decide_eq_true c2
      have ec : canMv d m = false := by unfold canMv; rw [decide_eq_false (show ¬ m.pl ≤ d.length by omega), Bool.false_and, Bool.and_false]
      rw [mkMv_cannot ec] at q1
      exact q1
    have k2 : m.pl ≤ d.length := by
      have : ¬ (d.length : Int) < m.pl := fun z => c2 (decide_eq_true z)
      omega
    refine ⟨_, rfl, _, rfl, _, rfl, _, rfl, _, rfl, _, rfl, by rw [S_len]; exact fits (by omega), _, _, rfl, rfl, _, rfl, _, rfl, by rw [S_len]; exact fits (by omega), ?_⟩
    rw [S_len, S_mid d k1]
    refine ⟨_, rfl, rfl, _, rfl, ?_⟩
    rw [show decide (V.str (S ((d.drop m.pl.toNat).take m.o.length)) = V.str (S m.o)) = decide ((d.drop m.pl.toNat).take m.o.length = m.o) from decide_eq_decide.mpr tx_iff]
    refine ite2 (fun c3 => ?_) (fun c3 => ?_)
    · have k3 : ¬ (d.drop m.pl.toNat).take m.o.length = m.o := by simpa using c3
      have ec : canMv d m = false := by unfold canMv; rw [decide_eq_false k3, Bool.and_false, Bool.and_false]
      rw [mkMv_cannot ec] at q1
      exact q1
    · have k3 : (d.drop m.pl.toNat).take m.o.length = m.o := by simpa using c3
      have ec : canMv d m = true := by unfold canMv; rw [decide_eq_true k1, decide_eq_true k2, decide_eq_true k3]; rfl
      rw [mkMv_some e ec] at q1
      refine ⟨_, rfl, _, rfl, _, rfl, _, rfl, by rw [S_len]; exact fits (by omega), ?_⟩
      rw [S_take d k1]
      refine ⟨_, rfl, _, _, rfl, rfl, ?_, ?_⟩
      · rw [S_len, S_len, List.length_take]; exact fits (by omega)
      refine ⟨_, rfl, _, rfl, _, rfl, _, rfl, by rw [S_len]; exact fits (by omega), _, _, rfl, rfl, _, rfl, _, rfl, by rw [S_len]; exact fits (by omega), ?_⟩
      rw [S_len, S_app, S_drop d (show 0 ≤ m.pl + (m.o.length : Int) by omega), show (m.pl + (m.o.length : Int)).toNat = m.pl.toNat + m.o.length by omega]
      refine ⟨_, _, rfl, rfl, ?_, ?_⟩
      · rw [S_len, S_len, List.length_append, List.length_take, List.length_drop]; exact fits (by omega)
      rw [S_app]
      exact q1
end
section
variable {P : Program} {w : World} {K : PySem.W.Frag} {mg : Str → Option Value} {base : Heap} {f : Addr} {fd : FuncData}
theorem ok_law_formed (F : Fun K "_law_formed" "_law_formed" s_law_formed f fd) (y_isinstance : mg "isinstance" = none) (y_list : mg "list" = none) (y_bool : mg "bool" = none) (y_int : mg "int" = none) (y_len : mg "len" = none) (y_tuple : mg "tuple" = none) (y_str : mg "str" = none)  : FnOk P w K mg base CX0 1 f fd ["told"] spFormed := by
  refine F.ok sc_law_formed (fun vs H Q E h => ?_) (fun cdv A outer s H vs Q E hr h => ?_)
  · obtain ⟨p, ms, rfl, tl, q⟩ := h
    rfl
  obtain ⟨p, ms, rfl, tl, q⟩ := h
  refine ⟨_, (pss_cons (ps_if (pt_not (pt_val (pe_callB call_isi rfl y_isinstance (by decide +kernel) (pa_cons (pv 0) (pa_cons (pe_bltn (v := .ty "list") rfl y_list (by decide +kernel) rfl) pa_nil))))) (pss_one (ps_ret pe_bl)) pss_nil)
    (pss_cons (ps_for PassesOwn.never rfl (pi_list (pv 0)) (pg_name (i := 1) sc_law_formed.nd rfl (.inl rfl))
    (pss_cons (ps_if (PW.pt (pw_or (pt_not (pt_val (pe_callB call_isi rfl y_isinstance (by decide +kernel) (pa_cons (pv 1) (pa_cons (pe_bltn (v := .ty "tuple") rfl y_tuple (by decide +kernel) rfl) pa_nil))))) (pw_or (pt_cmpR op_ne (pe_callB call_len_seq rfl y_len PySem.boot_len (pa_cons (pv 1) pa_nil)) pe_int (nomark _)) (pw_or (pt_not (pt_val (pe_callB call_isi rfl y_isinstance (by decide +kernel) (pa_cons (pe_ix ix_tup (pv 1) pe_int (fun _ _ => rfl)) (pa_cons (pe_bltn (v := .ty "int") rfl y_int (by decide +kernel) rfl) pa_nil))))) (pw_or1 (pt_val (pe_callB call_isi rfl y_isinstance (by decide +kernel) (pa_cons (pe_ix ix_tup (pv 1) pe_int (fun _ _ => rfl)) (pa_cons (pe_bltn (v := .ty "bool") rfl y_bool (by decide +kernel) rfl) pa_nil))))))))) (pss_one (ps_ret pe_bl)) pss_nil)
    (pss_one (ps_if (PW.pt (pw_or (pt_not (pt_val (pe_callB call_isi rfl y_isinstance (by decide +kernel) (pa_cons (pe_ix ix_tup (pv 1) pe_int (fun _ _ => rfl)) (pa_cons (pe_bltn (v := .ty "str") rfl y_str (by decide +kernel) rfl) pa_nil))))) (pw_or1 (pt_not (pt_val (pe_callB call_isi rfl y_isinstance (by decide +kernel) (pa_cons (pe_ix ix_tup (pv 1) pe_int (fun _ _ => rfl)) (pa_cons (pe_bltn (v := .ty "str") rfl y_str (by decide +kernel) rfl) pa_nil)))))))) (pss_one (ps_ret pe_bl)) pss_nil))))
    (pss_one (ps_ret pe_bl)))), ?_⟩
  obtain ⟨rs, hrs, zr, kr⟩ := tl
  refine ⟨_, rfl, _, _, _, _, true, rfl, .ty _, .base (.lst hrs), kit_ty (by decide +kernel), _, rfl, iteF ?_⟩
  refine ⟨_, rfl, p, rfl, ⟨_, SqL.of hrs⟩, for_list (K := K) (a := p) (xs := rs.map V.ref) (fun i σ G => ∃ (x1 : Option V), σ = [some (.ref p), x1] ∧ Same H G) ?_ ?_ ?_ ?_⟩
  · exact ⟨_, rfl, Same.refl H⟩
  · rintro i σ G _ ⟨x1, _, sm⟩
    exact SqL.of (sm _ _ hrs)
  · rintro i y σ G hy ⟨x1, rfl, sm⟩
    rw [List.getElem?_map] at hy
    cases hr : rs[i]? with
    | none => rw [hr] at hy; cases hy
    | some r =>
      rw [hr] at hy
      cases hy
      have hi : i < ms.length := by
        have := (List.getElem?_eq_some_iff.mp hr).1
        rw [List.length_map] at zr
        omega
      have hm : ms[i]? = some ms[i] := List.getElem?_eq_getElem hi
      generalize ms[i] = m at hm
      have tm : G r = some (.tup m.vs) := sm _ _ (kr i r _ hr (by rw [List.getElem?_map, hm]; rfl))
      refine ⟨_, rfl, _, _, _, _, true, rfl, .ty _, .base (.tup tm), kit_ty (by decide +kernel), _, rfl, iteF ?_⟩
      refine ⟨_, rfl, r, _, rfl, .inr (SqT.of tm), rfl, _, rfl, iteF ?_⟩
      refine ⟨_, rfl, r, _, _, _, rfl, rfl, SqT.of tm, rfl, _, _, _, _, true, rfl, .ty _, .base (.int _), kit_ty (by decide +kernel), _, rfl, iteF ?_⟩
      refine ⟨_, rfl, r, _, _, _, rfl, rfl, SqT.of tm, rfl, _, _, _, _, false, rfl, .ty _, .base (.int _), kit_ty (by decide +kernel), _, rfl, iteF ?_⟩
      refine ⟨_, rfl, r, _, _, _, rfl, rfl, SqT.of tm, rfl, _, _, _, _, true, rfl, .ty _, .base (.str _), kit_ty (by decide +kernel), _, rfl, iteF ?_⟩
      refine ⟨_, rfl, r, _, _, _, rfl, rfl, SqT.of tm, rfl, _, _, _, _, true, rfl, .ty _, .base (.str _), kit_ty (by decide +kernel), _, rfl, iteF ?_⟩
      exact ⟨_, rfl, sm⟩
  · rintro σ G ⟨x1, rfl, sm⟩
    exact q G sm
end
def spLaw (K : PySem.W.Frag) : Sp := fun vs H Q _ => ∃ (a : Addr) (ns : List Int), vs = [.ref a] ∧ SqL K H a (ns.map V.int) ∧ ns.length ≤ 63 ∧ ∀ H', Q (.bl true) H'
section
variable {P : Program} {w : World} {K : PySem.W.Frag} {mg : Str → Option Value} {base : Heap} {f : Addr} {fd : FuncData}
theorem ok_law (F : Fun K "law" "law" s_law f fd) (D_law_sort : Dfn P w K mg base "_law_sort" 6 ["tape"] spSort) (D_tape : Dfn P w K mg base "_law_tape" 6 ["script", "k"] (spTape K)) (D_to_standard : Dfn P w K mg base "to_standard" 6 ["dance"] spToStd) (D_law_formed : Dfn P w K mg base "_law_formed" 6 ["told"] spFormed) (D_law_standard : Dfn P w K mg base "_law_standard" 6 ["value"] spStdL) (D_number : Dfn P w K mg base "_law_number" 6 ["dance"] (spNumber K)) (D_law_made : Dfn P w K mg base "_law_made" 6 ["dance", "move"] spLawMade) (y_range : mg "range" = none)  : FnOk P w K mg base CX0 7 f fd ["script"] (spLaw K) := by
  refine F.ok sc_law (fun vs H Q E h => ?_) (fun cdv A outer s H vs Q E hr h => ?_)
  · obtain ⟨sa, ns, rfl, hS, h63, q⟩ := h
    rfl
  obtain ⟨sa, ns, rfl, hS, h63, q⟩ := h
  refine ⟨_, (pss_cons (ps_for PassesOwn.never rfl (pi_range1 rfl y_range (pa_cons pe_int pa_nil)) (pg_name (i := 1) sc_law.nd rfl (.inl rfl))
    (pss_cons (ps_set (i := 2) sc_law.nd rfl (.inl rfl) (pe_do D_law_sort hr (pa_cons (pe_do D_tape hr (pa_cons (pv 0) (pa_cons (pv 1) pa_nil))) pa_nil)))
    (pss_cons (ps_set (i := 3) sc_law.nd rfl (.inl rfl) (pe_do D_to_standard hr (pa_cons (pv 2) pa_nil)))
    (pss_cons (ps_if (pt_not (pt_val (pe_do D_law_formed hr (pa_cons (pv 3) pa_nil)))) (pss_one (ps_ret pe_bl)) pss_nil)
    (pss_cons (ps_set (i := 4) sc_law.nd rfl (.inl rfl) (pe_do D_law_standard hr (pa_cons (pe_do D_number hr (pa_cons (pv 2) pa_nil)) pa_nil)))
    (pss_cons (ps_for PassesOwn.never rfl (pi_list (pv 3)) (pg_name (i := 5) sc_law.nd rfl (.inl rfl))
    (pss_cons (ps_set (i := 2) sc_law.nd rfl (.inl rfl) (pe_do D_law_made hr (pa_cons (pv 2) (pa_cons (pv 5) pa_nil))))
    (pss_one (ps_if (pt_cmpR op_isN (pv 2) pe_non (nomark _)) (pss_one (ps_ret pe_bl)) pss_nil))))
    (pss_one (ps_if (pt_cmpR op_ne (pv 2) (pv 4) (nomark _)) (pss_one (ps_ret pe_bl)) pss_nil))))))))
    (pss_one (ps_ret pe_bl))), ?_⟩
  refine ⟨6, rfl, by decide, by decide, for_range (lo := 0) (n := 6) (fun i σ H' => ∃ (x1 x2 x3 x4 x5 : Option V), σ = [some (.ref sa), x1, x2, x3, x4, x5] ∧ Same H H') ?_ ?_ ?_⟩
  · exact ⟨_, _, _, _, _, rfl, Same.refl H⟩
  · rintro i σ H0 hi ⟨x1, x2, x3, x4, x5, rfl, sm⟩
    refine ⟨_, rfl, _, rfl, sa, ns, 0 + (i : Int), rfl, sm.seq hS, by omega, fun tp H1 s1 ntp t1 => ⟨tp, rfl, t1, fun l H2 hl zl b2 => ?_⟩⟩
    have S2 : Same H0 H2 := ((But.of s1).trans b2).same (Same.refl H0) ntp
    refine ⟨_, rfl, l, rfl, hl, zl, fun p ms H3 s3 tl fa zm ld => ?_⟩
    refine ⟨_, rfl, p, ms, rfl, tl, fun H4 s4 => ⟨_, rfl, iteF ?_⟩⟩
    refine ⟨_, rfl, l, rfl, fun t H5 s5 tt => ⟨t, _, rfl, tt, svL_run hl (by omega), fun H6 s6 => ?_⟩⟩
    have S46 := (s4.trans s5).trans s6
    have tl6 := tl.same S46
    obtain ⟨rs, hrs, zr, kr⟩ := tl6
    rw [List.length_map] at zr
    refine ⟨_, rfl, p, rfl, ⟨_, SqL.of hrs⟩, for_list (K := K) (a := p) (xs := rs.map V.ref) (fun j σ G => ∃ (d : List Nat) (x5 : Option V), σ = [some (.ref sa), some (.int (0 + (i : Int))), some (.str (S d)), some (.ref p), some (.str (S (stv (run (0, 1) l)))), x5] ∧ Same H6 G ∧ led l (ms.take j) = some d ∧ d.length ≤ 130 + 6 * j) ?_ ?_ ?_ ?_⟩
    · exact ⟨l, _, rfl, Same.refl H6, rfl, by omega⟩
    · rintro j σ G _ ⟨d, x5, _, sg, _⟩
      exact SqL.of (sg _ _ hrs)
    · rintro j y σ G hy ⟨d, x5, rfl, sg, hd, zd⟩
      rw [List.getElem?_map] at hy
      cases hr : rs[j]? with
      | none => rw [hr] at hy; cases hy
      | some r =>
        rw [hr] at hy
        cases hy
        have hj : j < ms.length := by
          have := (List.getElem?_eq_some_iff.mp hr).1
          omega
        have hm : ms[j]? = some ms[j] := List.getElem?_eq_getElem hj
        have fm := fa _ (List.getElem_mem hj)
        generalize ms[j] = m at hm fm
        have tm : Tm G r m := sg _ _ (kr j r _ hr (by rw [List.getElem?_map, hm]; rfl))
        obtain ⟨d', hd'⟩ := led_some ld (j + 1)
        have st := led_take (d := l) hm
        rw [hd', hd] at st
        have st' : mkMv d m = some d' := st.symm
        have ln := mkMv_len fm st'
        refine ⟨_, rfl, _, rfl, d, r, m, rfl, tm, fm.mono (by decide), by omega, fun G1 s1 => ?_⟩
        rw [st']
        exact ⟨_, rfl, rfl, _, rfl, iteF ⟨d', _, rfl, sg.trans s1, hd', by omega⟩⟩
    · rintro σ G ⟨d, x5, rfl, sg, hd, zd⟩
      rw [List.length_map, zr, List.take_of_length_le (Nat.le_refl _), ld] at hd
      cases hd
      refine ⟨_, rfl, _, rfl, rfl, _, rfl, ?_⟩
      rw [decide_eq_true rfl]
      exact iteF ⟨_, _, _, _, _, rfl, ((sm.trans S2).trans s3).trans (S46.trans sg)⟩
  · rintro σ H' ⟨x1, x2, x3, x4, x5, rfl, sm⟩
    exact q H'
end
abbrev s_F__init__ : Stmt := inClass (top 2) 0
theorem sc_F__init__ : FnScope ["self"] ["self"] (defScope s_F__init__) := ⟨rfl, rfl, rfl, by decide +kernel, rfl, by decide +kernel, by decide +kernel⟩
abbrev s_Ftake : Stmt := inClass (top 2) 1
theorem sc_Ftake : FnScope ["self", "letter"] ["self", "letter"] (defScope s_Ftake) := ⟨rfl, rfl, rfl, by decide +kernel, rfl, by decide +kernel, by decide +kernel⟩
abbrev s_Ftake_twist : Stmt := inClass (top 2) 2
theorem sc_Ftake_twist : FnScope ["self"] ["self"] (defScope s_Ftake_twist) := ⟨rfl, rfl, rfl, by decide +kernel, rfl, by decide +kernel, by decide +kernel⟩
abbrev s_Ftake_untwist : Stmt := inClass (top 2) 3
theorem sc_Ftake_untwist : FnScope ["self"] ["self"] (defScope s_Ftake_untwist) := ⟨rfl, rfl, rfl, by decide +kernel, rfl, by decide +kernel, by decide +kernel⟩
abbrev s_Ftake_turn : Stmt := inClass (top 2) 4
theorem sc_Ftake_turn : FnScope ["self", "many", "_"] ["self"] (defScope s_Ftake_turn) := ⟨rfl, rfl, rfl, by decide +kernel, rfl, by decide +kernel, by decide +kernel⟩
abbrev s_Fspread_untwist : Stmt := inClass (top 2) 5
theorem sc_Fspread_untwist : FnScope ["self"] ["self"] (defScope s_Fspread_untwist) := ⟨rfl, rfl, rfl, by decide +kernel, rfl, by decide +kernel, by decide +kernel⟩
abbrev s_Ffinish : Stmt := inClass (top 2) 6
theorem sc_Ffinish : FnScope ["self"] ["self"] (defScope s_Ffinish) := ⟨rfl, rfl, rfl, by decide +kernel, rfl, by decide +kernel, by decide +kernel⟩
abbrev s_Fleave_untwists : Stmt := inClass (top 2) 7
theorem sc_Fleave_untwists : FnScope ["self", "many"] ["self"] (defScope s_Fleave_untwists) := ⟨rfl, rfl, rfl, by decide +kernel, rfl, by decide +kernel, by decide +kernel⟩
abbrev s_Fmake : Stmt := inClass (top 2) 8
theorem sc_Fmake : FnScope ["self", "back", "old", "new", "place"] ["self", "back", "old", "new"] (defScope s_Fmake) := ⟨rfl, rfl, rfl, by decide +kernel, rfl, by decide +kernel, by decide +kernel⟩
abbrev s_Fends_with : Stmt := inClass (top 2) 9
theorem sc_Fends_with : FnScope ["self", "text"] ["self", "text"] (defScope s_Fends_with) := ⟨rfl, rfl, rfl, by decide +kernel, rfl, by decide +kernel, by decide +kernel⟩
abbrev s_Fis_now : Stmt := inClass (top 2) 10
theorem sc_Fis_now : FnScope ["self", "text"] ["self", "text"] (defScope s_Fis_now) := ⟨rfl, rfl, rfl, by decide +kernel, rfl, by decide +kernel, by decide +kernel⟩
section
def spMake (C : Addr) : Sp := fun vs H Q _ => ∃ (H0 : Hp) (p : Addr) (a o n b : List Nat) (ms : List Mv), vs = [.ref p, .int ((o.length + b.length : Nat) : Int), .str (S o), .str (S n)] ∧ FrAt C H0 H p (a ++ o ++ b) ms ∧ (a ++ o ++ b).length ≤ 100000 ∧ n.length ≤ 100 ∧ ms.length ≤ 100000 ∧ ∀ H', FrAt C H0 H' p (a ++ n ++ b) (ms ++ [⟨(a.length : Int), o, n⟩]) → Q .non H'
def spEnds (C : Addr) : Sp := fun vs H Q _ => ∃ (H0 : Hp) (p : Addr) (l t : List Nat) (ms : List Mv), vs = [.ref p, .str (S t)] ∧ FrAt C H0 H p l ms ∧ Lets l ∧ Lets t ∧ t ≠ [] ∧ t.length ≤ 100 ∧ l.length ≤ 200000 ∧ ∀ H', Same H H' → Q (.bl (decide (l.drop (l.length - t.length) = t))) H'
def spNow (C : Addr) : Sp := fun vs H Q _ => ∃ (H0 : Hp) (p : Addr) (l t : List Nat) (ms : List Mv), vs = [.ref p, .str (S t)] ∧ FrAt C H0 H p l ms ∧ Lets l ∧ Lets t ∧ t.length ≤ 100 ∧ l.length ≤ 200000 ∧ ∀ H', Same H H' → Q (.bl (decide (l = t))) H'
def spInitF (C : Addr) : Sp := fun vs H Q _ => ∃ (H0 : Hp) (p dx : Addr), vs = [.ref p] ∧ Same H0 H ∧ H0 p = none ∧ H p = some (.ins C dx []) ∧ ∀ H' : Hp, FrAt C H0 H' p [] [] → Q .non H'
theorem dp_chs {K : PySem.W.Frag} {H : Hp} : ∀ l : List Nat, DpAll K H (chs l) (l.map fun c => PyData.str (S [c]))
  | [] => .nil
  | c :: r => .cons (.str _) (dp_chs r)
theorem lay_chs : ∀ l : List Nat, Lets l → PyData.canLayAll0 (l.map fun c => PyData.str (S [c])) = true
  | [], _ => by simp [PyData.canLayAll0]
  | a :: r, h => by
    have e : PyData.strOk (S [a]) = true := by
      rcases h a List.mem_cons_self with rfl | rfl | rfl <;> decide +kernel
    simp [PyData.canLayAll0, PyData.canLay0, lay_chs r (fun c hc => h c (List.mem_cons_of_mem _ hc)), e]
theorem depth_chs : ∀ l : List Nat, PyData.depthAll (l.map fun c => PyData.str (S [c])) = 0
  | [] => by simp [PyData.depthAll]
  | a :: r => by simp [PyData.depthAll, PyData.depth, depth_chs r]
theorem sh_chs {l : List Nat} (h : Lets l) : SeqAt.shaped (.list (l.map fun c => PyData.str (S [c]))) = true := by
  unfold SeqAt.shaped
  have e : PyData.canLay0 (.list (l.map fun c => PyData.str (S [c]))) = true := by
    simp only [PyData.canLay0]
    exact lay_chs l h
  rw [e]
  simp only [PyData.depth, depth_chs l, Bool.true_and]
  decide
theorem eqv_chsAll : ∀ a b : List Nat, PyData.eqvAll (a.map fun c => PyData.str (S [c])) (b.map fun c => PyData.str (S [c])) = decide (a = b)
  | [], [] => by simp [PyData.eqvAll]
  | [], _ :: _ => by simp [PyData.eqvAll]
  | _ :: _, [] => by simp [PyData.eqvAll]
  | x :: a, y :: b => by
    rw [List.map_cons, List.map_cons, PyData.eqvAll, eqv_chsAll a b]
    have e : PyData.eqv (PyData.str (S [x])) (PyData.str (S [y])) = decide (x = y) := by
      have h : (S [x] = S [y]) ↔ x = y := ⟨fun z => by have := S_inj z; cases this; rfl, fun z => by rw [z]⟩
      rw [PyData.eqv, Bool.eq_iff_iff, beq_iff_eq, decide_eq_true_eq]
      exact h
    rw [e]
    by_cases h1 : x = y
    · subst h1
      simp
    · simp [h1]
theorem eqv_chs (a b : List Nat) : PyData.eqv (.list (a.map fun c => PyData.str (S [c]))) (.list (b.map fun c => PyData.str (S [c]))) = decide (a = b) := by
  rw [PyData.eqv]
  exact eqv_chsAll a b
theorem cut_end {l : List Nat} {k : Nat} (h : 0 < k) : cutV (chs l) (some (-(k : Int))) none = chs (l.drop (l.length - k)) := by
  unfold cutV chs
  have z : (l.map fun c => V.str (S [c])).length = l.length := List.length_map ..
  have e1 : HT.sIx (l.map fun c => V.str (S [c])).length 0 (some (-(k : Int))) = l.length - k := by
    rw [z]
    simp only [HT.sIx]
    split <;> omega
  have e2 : HT.sIx (l.map fun c => V.str (S [c])).length (l.map fun c => V.str (S [c])).length none = l.length := by
    rw [z]
    rfl
  rw [e1, e2, ← List.map_drop, List.take_of_length_le]
  rw [List.length_map, List.length_drop]
  omega
end
section
def spLeave (C : Addr) : Sp := fun vs H Q _ => ∃ (H0 : Hp) (p : Addr) (l : List Nat) (m : Nat) (ms : List Mv), vs = [.ref p] ∧ FrAt C H0 H p (l ++ List.replicate m 85) ms ∧ (∀ x, l ≠ x ++ [85]) ∧ Lets l ∧ (l ++ List.replicate m 85).length ≤ 100000 ∧ ∀ H', FrAt C H0 H' p l ms → Q (.int (m : Int)) H'
theorem drop_last (x : List Nat) (c : Nat) : (x ++ [c]).drop ((x ++ [c]).length - 1) = [c] := by
  rw [List.length_append, show x.length + ([c] : List Nat).length - 1 = x.length by show x.length + 1 - 1 = _; omega, List.drop_left]
theorem lets_U {l : List Nat} (h : Lets l) (j : Nat) : Lets (l ++ List.replicate j 85) := fun c hc => by
  rcases List.mem_append.mp hc with hc | hc
  · exact h c hc
  · exact .inr (.inl (List.eq_of_mem_replicate hc))
end
section
def spSpread (C : Addr) : Sp := fun vs H Q _ => ∃ (H0 : Hp) (p : Addr) (y : List Nat) (ms : List Mv), vs = [.ref p] ∧ FrAt C H0 H p (y ++ [85]) ms ∧ (y = [] ∨ ∃ x, y = x ++ [82]) ∧ Lets y ∧ y.length ≤ 90000 ∧ ms.length ≤ 90000 ∧
  ∀ H' l' ns, FrAt C H0 H' p l' (ms ++ ns) → Lead (y ++ [85]) ns l' → (y = [] ∧ l' = [84, 82] ∨ ∃ x, y = x ++ [82] ∧ l' = x ++ [84, 82, 84, 82]) → ns.length = 3 → FitAll ns 6 → Q .non H'
end
section
theorem e_RTRTR : (("RTRTR" : Str)) = S [82, 84, 82, 84, 82] := by decide +kernel
theorem FrAt.cast {C : Addr} {H0 H : Hp} {p : Addr} {l l' : List Nat} {ms : List Mv} (h : FrAt C H0 H p l ms) (e : l = l') : FrAt C H0 H p l' ms := e ▸ h
theorem FrAt.castM {C : Addr} {H0 H : Hp} {p : Addr} {l : List Nat} {ms ns : List Mv} (h : FrAt C H0 H p l ms) (e : ms = ns) : FrAt C H0 H p l ns := e ▸ h
theorem fit_by {ns : List Mv} (h : ns.all (fun m => decide (m.o.length ≤ 6) && decide (m.n.length ≤ 6)) = true) : FitAll ns 6 := fun m hm => by
  have := List.all_eq_true.mp h m hm
  rw [Bool.and_eq_true, decide_eq_true_eq, decide_eq_true_eq] at this
  exact ⟨this.1, this.2⟩
end
section
def spStep (C : Addr) (c : Nat) : Sp := fun vs H Q _ => ∃ (H0 : Hp) (p : Addr) (x : List Nat) (ms : List Mv), vs = [.ref p] ∧ FrAt C H0 H p x ms ∧ Fst x ∧ Lets x ∧ x.length ≤ 1000 ∧ ms.length ≤ 80000 ∧
  ∀ H' x' ns, FrAt C H0 H' p x' (ms ++ ns) → Lead (x ++ [c]) ns x' → Fst x' → wt x' ≤ wt x + 3 → ns.length ≤ 4 → FitAll ns 6 → Q .non H'
theorem last_ne {z y : List Nat} {a b : Nat} (h : z ++ [a] = y ++ [b]) : z = y ∧ a = b := by
  obtain ⟨h1, h2⟩ := List.append_inj' h rfl
  cases h2
  exact ⟨h1, rfl⟩
theorem pf_last {w : List Nat} (h : Pf w) : w = [] ∨ ∃ y, w = y ++ [82] := by
  cases h with
  | nil => exact .inl rfl
  | @snoc w a h => exact .inr ⟨w ++ List.replicate (a + 2) 84, by simp⟩
/-- the last untwist's partner -/
theorem fst_T {z : List Nat} (h : Fst (z ++ [84])) : Fst z := by
  generalize e : z ++ [84] = x at h
  cases h with
  | @A w b hw =>
    obtain ⟨n, rfl | rfl⟩ : ∃ n : Nat, b = (n : Int) ∨ b = -((n + 1 : Nat) : Int) := by
      by_cases hb : 0 ≤ b
      · exact ⟨b.toNat, .inl (by omega)⟩
      · exact ⟨(-b).toNat - 1, .inr (by omega)⟩
    · cases n with
      | zero =>
        rw [rn_nat, List.replicate_zero, List.append_nil] at e
        rcases pf_last hw with rfl | ⟨y, rfl⟩
        · simp at e
        · exact absurd (last_ne e).2 (by decide)
      | succ n =>
        rw [rn_nat, ← rep_snoc, ← List.append_assoc] at e
        rw [(last_ne e).1, ← rn_nat]
        exact .A _ hw
    · rw [rn_neg, ← rep_snoc, ← List.append_assoc] at e
      exact absurd (last_ne e).2 (by decide)
  | @B w m hw =>
    cases m with
    | zero =>
      rw [show w ++ ([84, 82] ++ List.replicate 0 85) = (w ++ [84]) ++ [82] by simp] at e
      exact absurd (last_ne e).2 (by decide)
    | succ m =>
      rw [← rep_snoc, ← List.append_assoc, ← List.append_assoc] at e
      exact absurd (last_ne e).2 (by decide)
  | C => exact absurd (last_ne (y := []) e).2 (by decide)
theorem fst_U {x : List Nat} (h : Fst x) (h1 : ∀ z, x ≠ z ++ [84]) (h2 : x ≠ [82]) : Fst (x ++ [85]) := by
  cases h with
  | @A w b hw =>
    obtain ⟨n, rfl | rfl⟩ : ∃ n : Nat, b = (n : Int) ∨ b = -((n + 1 : Nat) : Int) := by
      by_cases hb : 0 ≤ b
      · exact ⟨b.toNat, .inl (by omega)⟩
      · exact ⟨(-b).toNat - 1, .inr (by omega)⟩
    · cases n with
      | zero =>
        have e : w ++ rn (((0 : Nat)) : Int) ++ [85] = w ++ rn (-((1 : Nat) : Int)) := by rw [rn_nat, rn_neg, List.append_assoc]; rfl
        rw [e]
        exact .A _ hw
      | succ n => exact absurd (by rw [rn_nat, ← rep_snoc, ← List.append_assoc]) (h1 (w ++ List.replicate n 84))
    · have e : w ++ rn (-((n + 1 : Nat) : Int)) ++ [85] = w ++ rn (-((n + 1 + 1 : Nat) : Int)) := by rw [rn_neg, rn_neg, List.append_assoc, rep_snoc]
      rw [e]
      exact .A _ hw
  | @B w m hw =>
    have e : w ++ ([84, 82] ++ List.replicate m 85) ++ [85] = w ++ ([84, 82] ++ List.replicate (m + 1) 85) := by rw [← rep_snoc]; simp
    rw [e]
    exact .B _ hw
  | C => exact absurd rfl h2
end
section
theorem e_RU : (("RU" : Str)) = S [82, 85] := by decide +kernel
theorem chs_snoc (x : List Nat) (c : Nat) : chs x ++ [V.str (S [c])] = chs (x ++ [c]) := by unfold chs; rw [List.map_append]; rfl
theorem two_end {x : List Nat} {a b : Nat} : (x ++ [b]).drop ((x ++ [b]).length - ([a, b] : List Nat).length) = [a, b] ↔ ∃ z, x = z ++ [a] := by
  constructor
  · intro h
    have k := List.take_append_drop ((x ++ [b]).length - ([a, b] : List Nat).length) (x ++ [b])
    rw [h] at k
    exact ⟨_, (last_ne (y := x) (by rw [List.append_assoc]; exact k)).1.symm⟩
  · rintro ⟨z, rfl⟩
    rw [List.length_append, List.length_append, show z.length + ([a] : List Nat).length + ([b] : List Nat).length - ([a, b] : List Nat).length = z.length by show z.length + 1 + 1 - 2 = _; omega, List.append_assoc, List.drop_left]
    rfl
end
section
def spStepR (C : Addr) : Sp := fun vs H Q _ => ∃ (H0 : Hp) (p : Addr) (x : List Nat) (ms : List Mv), vs = [.ref p] ∧ FrAt C H0 H p x ms ∧ Fst x ∧ Lets x ∧ x.length ≤ 1000 ∧ ms.length ≤ 80000 ∧
  ∀ H' x' ns, FrAt C H0 H' p x' (ms ++ ns) → Lead (x ++ [82]) ns x' → Fst x' → wt x' ≤ wt x + 3 → ns.length ≤ wt x + 4 → FitAll ns 6 → Q .non H'
def spTakeF (C : Addr) : Sp := fun vs H Q _ => ∃ (H0 : Hp) (p : Addr) (x : List Nat) (ms : List Mv) (c : Nat), vs = [.ref p, .str (S [c])] ∧ (c = 84 ∨ c = 85 ∨ c = 82) ∧ FrAt C H0 H p x ms ∧ Fst x ∧ Lets x ∧ x.length ≤ 1000 ∧ ms.length ≤ 80000 ∧
  ∀ H' x' ns, FrAt C H0 H' p x' (ms ++ ns) → Lead (x ++ [c]) ns x' → Fst x' → wt x' ≤ wt x + 3 → ns.length ≤ wt x + 4 → FitAll ns 6 → Q .non H'
end
section
/-! ### the last three methods -/
theorem e_UT2 : (("UT" : Str)) = S [85, 84] := by decide +kernel
theorem e_TRTRT : (("TRTRT" : Str)) = S [84, 82, 84, 82, 84] := by decide +kernel
theorem e_RT2 : (("RT" : Str)) = S [82, 84] := by decide +kernel
theorem e_TRT2 : (("TRT" : Str)) = S [84, 82, 84] := by decide +kernel
theorem e_TR2 : (("TR" : Str)) = S [84, 82] := by decide +kernel
theorem end_iff {l t : List Nat} : l.drop (l.length - t.length) = t ↔ ∃ z, l = z ++ t := by
  constructor
  · intro h
    have k := List.take_append_drop (l.length - t.length) l
    rw [h] at k
    exact ⟨_, k.symm⟩
  · rintro ⟨z, rfl⟩
    rw [List.length_append, show z.length + t.length - t.length = z.length by omega, List.drop_left]
theorem fst_cases {x : List Nat} (h : Fst x) : (∃ w n, Pf w ∧ x = w ++ List.replicate n 84) ∨ (∃ w n, Pf w ∧ x = w ++ List.replicate (n + 1) 85) ∨ (∃ w m, Pf w ∧ x = w ++ [84, 82] ++ List.replicate m 85) ∨ x = [82] := by
  cases h with
  | @A w b hw =>
    obtain ⟨n, rfl | rfl⟩ : ∃ n : Nat, b = (n : Int) ∨ b = -((n + 1 : Nat) : Int) := by
      by_cases hb : 0 ≤ b
      · exact ⟨b.toNat, .inl (by omega)⟩
      · exact ⟨(-b).toNat - 1, .inr (by omega)⟩
    · exact .inl ⟨w, n, hw, by rw [rn_nat]⟩
    · exact .inr (.inl ⟨w, n, hw, by rw [rn_neg]⟩)
  | @B w m hw => exact .inr (.inr (.inl ⟨w, m, hw, by rw [List.append_assoc]⟩))
  | C => exact .inr (.inr (.inr rfl))
theorem fst_up {w : List Nat} (hw : Pf w) (n : Nat) : Fst (w ++ List.replicate n 84) := by rw [← rn_nat]; exact .A _ hw
theorem fst_dn {w : List Nat} (hw : Pf w) (n : Nat) : Fst (w ++ List.replicate n 85) := by rw [← rn_neg]; exact .A _ hw
theorem fst_b {w : List Nat} (hw : Pf w) (m : Nat) : Fst (w ++ [84, 82] ++ List.replicate m 85) := by rw [List.append_assoc]; exact .B m hw
/-- the last letter of what was put there as a whole -/
theorem pf_end {w z : List Nat} {c : Nat} (h : Pf w) (e : w = z ++ [c]) : c = 82 ∧ ∃ w1 a, Pf w1 ∧ z = w1 ++ List.replicate (a + 2) 84 := by
  cases h with
  | nil => simp at e
  | @snoc w a h =>
    rw [← List.append_assoc] at e
    obtain ⟨e1, e2⟩ := last_ne e
    exact ⟨e2.symm, w, a, h, e1.symm⟩
theorem fst_offU {z : List Nat} (h : Fst (z ++ [85])) : Fst z := by
  rcases fst_cases h with ⟨w, n, hw, e⟩ | ⟨w, n, hw, e⟩ | ⟨w, m, hw, e⟩ | e
  · cases n with
    | zero =>
      rw [List.replicate_zero, List.append_nil] at e
      exact absurd (pf_end hw e.symm).1 (by decide)
    | succ n =>
      rw [← rep_snoc, ← List.append_assoc] at e
      exact absurd (last_ne e).2 (by decide)
  · rw [← rep_snoc, ← List.append_assoc] at e
    rw [(last_ne e).1]
    exact fst_dn hw n
  · cases m with
    | zero =>
      rw [List.replicate_zero, List.append_nil, show w ++ [84, 82] = (w ++ [84]) ++ [82] by simp] at e
      exact absurd (last_ne e).2 (by decide)
    | succ m =>
      rw [← rep_snoc, ← List.append_assoc] at e
      rw [(last_ne e).1]
      exact fst_b hw m
  · exact absurd (last_ne (y := []) e).2 (by decide)
theorem fst_offR {z : List Nat} (h : Fst (z ++ [82])) : Fst z := by
  rcases fst_cases h with ⟨w, n, hw, e⟩ | ⟨w, n, hw, e⟩ | ⟨w, m, hw, e⟩ | e
  · cases n with
    | zero =>
      rw [List.replicate_zero, List.append_nil] at e
      obtain ⟨_, w1, a, h1, e1⟩ := pf_end hw e.symm
      rw [e1]
      exact fst_up h1 _
    | succ n =>
      rw [← rep_snoc, ← List.append_assoc] at e
      exact absurd (last_ne e).2 (by decide)
  · rw [← rep_snoc, ← List.append_assoc] at e
    exact absurd (last_ne e).2 (by decide)
  · cases m with
    | zero =>
      rw [List.replicate_zero, List.append_nil, show w ++ [84, 82] = (w ++ [84]) ++ [82] by simp] at e
      rw [(last_ne e).1]
      exact fst_up hw 1
    | succ m =>
      rw [← rep_snoc, ← List.append_assoc] at e
      exact absurd (last_ne e).2 (by decide)
  · rw [(last_ne (y := []) e).1]
    exact fst_up .nil 0
theorem fst_onR {x : List Nat} (h : Fst x) (h1 : ∀ z, x ≠ z ++ [82]) (h2 : ∀ z, x ≠ z ++ [85]) : Fst (x ++ [82]) := by
  rcases fst_cases h with ⟨w, n, hw, rfl⟩ | ⟨w, n, hw, rfl⟩ | ⟨w, m, hw, rfl⟩ | rfl
  · match n with
    | 0 =>
      cases hw with
      | nil => exact .C
      | @snoc w a hw => exact absurd (by simp) (h1 (w ++ List.replicate (a + 2) 84))
    | 1 =>
      have := fst_b hw 0
      rw [List.replicate_zero, List.append_nil] at this
      rw [show w ++ List.replicate 1 84 ++ [82] = w ++ [84, 82] by simp]
      exact this
    | n + 2 =>
      have := fst_up (Pf.snoc n hw) 0
      rw [List.replicate_zero, List.append_nil, ← List.append_assoc] at this
      exact this
  · exact absurd (by rw [← rep_snoc, ← List.append_assoc]) (h2 (w ++ List.replicate n 85))
  · cases m with
    | zero => exact absurd (by simp) (h1 (w ++ [84]))
    | succ m => exact absurd (by rw [← rep_snoc, ← List.append_assoc]) (h2 (w ++ [84, 82] ++ List.replicate m 85))
  · exact absurd rfl (h1 [])
theorem fst_onT {x : List Nat} (h : Fst x) (h1 : ∀ z, x ≠ z ++ [85]) (h2 : ∀ z, x ≠ z ++ [84, 82, 84, 82]) (h3 : x ≠ [82]) (h4 : x ≠ [84, 82]) : Fst (x ++ [84]) := by
  rcases fst_cases h with ⟨w, n, hw, rfl⟩ | ⟨w, n, hw, rfl⟩ | ⟨w, m, hw, rfl⟩ | rfl
  · rw [List.append_assoc, rep_snoc]
    exact fst_up hw _
  · exact absurd (by rw [← rep_snoc, ← List.append_assoc]) (h1 (w ++ List.replicate n 85))
  · cases m with
    | zero =>
      cases hw with
      | nil => exact absurd (by simp) h4
      | @snoc w a hw =>
        refine absurd ?_ (h2 (w ++ List.replicate (a + 1) 84))
        rw [show List.replicate (a + 2) 84 = List.replicate (a + 1) 84 ++ [84] from (rep_snoc _ _).symm]
        simp
    | succ m => exact absurd (by rw [← rep_snoc, ← List.append_assoc]) (h1 (w ++ [84, 82] ++ List.replicate m 85))
  · exact absurd rfl h3
theorem fst_offTRTR {z : List Nat} (h : Fst (z ++ [84, 82, 84, 82])) : Fst (z ++ [82]) := by
  have ea : z ++ [84, 82, 84, 82] = z ++ [84, 82, 84] ++ [82] := by simp
  rcases fst_cases h with ⟨w, n, hw, e⟩ | ⟨w, n, hw, e⟩ | ⟨w, m, hw, e⟩ | e
  · cases n with
    | zero =>
      rw [List.replicate_zero, List.append_nil, ea] at e
      obtain ⟨_, w1, a, h1, e1⟩ := pf_end hw e.symm
      rw [← rep_snoc, ← rep_snoc, show z ++ [84, 82, 84] = z ++ [84] ++ [82] ++ [84] by simp, ← List.append_assoc, ← List.append_assoc] at e1
      exact absurd (last_ne (last_ne e1).1).2 (by decide)
    | succ n =>
      rw [ea, ← rep_snoc, ← List.append_assoc] at e
      exact absurd (last_ne e).2 (by decide)
  · rw [ea, ← rep_snoc, ← List.append_assoc] at e
    exact absurd (last_ne e).2 (by decide)
  · cases m with
    | zero =>
      rw [List.replicate_zero, List.append_nil, show z ++ [84, 82, 84, 82] = (z ++ [84] ++ [82]) ++ [84, 82] by simp] at e
      have e1 := List.append_cancel_right e
      obtain ⟨_, w1, a, h1, e2⟩ := pf_end hw e1.symm
      rw [← rep_snoc, ← List.append_assoc] at e2
      rw [(last_ne e2).1]
      cases a with
      | zero =>
        have := fst_b h1 0
        rw [List.replicate_zero, List.append_nil] at this
        rw [show w1 ++ List.replicate (0 + 1) 84 ++ [82] = w1 ++ [84, 82] by simp]
        exact this
      | succ a =>
        have := fst_up (Pf.snoc a h1) 0
        rw [List.replicate_zero, List.append_nil, ← List.append_assoc] at this
        exact this
    | succ m =>
      rw [ea, ← rep_snoc, ← List.append_assoc] at e
      exact absurd (last_ne e).2 (by decide)
  · have := congrArg List.length e
    simp at this
/-- the Us at the end are left off -/
theorem fst_left {x : List Nat} (h : Fst x) : ∃ l m, x = l ++ List.replicate m 85 ∧ (∀ z, l ≠ z ++ [85]) ∧ (m = 0 ∨ Pf l ∨ ∃ w, Pf w ∧ l = w ++ [84, 82]) := by
  have nb : ∀ (w z : List Nat), w ++ [84, 82] ≠ z ++ [85] := fun w z e => by
    rw [show w ++ [84, 82] = (w ++ [84]) ++ [82] by simp] at e
    exact absurd (last_ne e).2 (by decide)
  rcases fst_cases h with ⟨w, n, hw, rfl⟩ | ⟨w, n, hw, rfl⟩ | ⟨w, m, hw, rfl⟩ | rfl
  · refine ⟨w ++ List.replicate n 84, 0, by simp, fun z e => ?_, .inl rfl⟩
    cases n with
    | zero =>
      rw [List.replicate_zero, List.append_nil] at e
      exact absurd (pf_end hw e).1 (by decide)
    | succ n =>
      rw [← rep_snoc, ← List.append_assoc] at e
      exact absurd (last_ne e).2 (by decide)
  · exact ⟨w, n + 1, rfl, fun z e => absurd (pf_end hw e).1 (by decide), .inr (.inl hw)⟩
  · exact ⟨w ++ [84, 82], m, rfl, nb w, .inr (.inr ⟨w, hw, rfl⟩)⟩
  · exact ⟨[82], 0, by simp, fun z e => absurd (last_ne (y := z) (z := []) e).2 (by decide), .inl rfl⟩
/-- the front while the Us left off are taken up again, one by one -/
def Mid (l : List Nat) (i : Nat) (y : List Nat) : Prop := (∃ w, Pf w ∧ y = w ++ [84, 82] ∧ wt w + 2 ≤ wt l + 3 * i) ∨ (i = 0 ∧ Pf l ∧ y = l)
theorem Mid.ready {l y : List Nat} {i : Nat} (h : Mid l i y) : y = [] ∨ ∃ x, y = x ++ [82] := by
  rcases h with ⟨w, _, rfl, _⟩ | ⟨_, hp, rfl⟩
  · exact .inr ⟨w ++ [84], by simp⟩
  · exact pf_last hp
theorem Mid.next {l y l' : List Nat} {i : Nat} (h : Mid l i y) (e : y = [] ∧ l' = [84, 82] ∨ ∃ x, y = x ++ [82] ∧ l' = x ++ [84, 82, 84, 82]) : Mid l (i + 1) l' := by
  have o2 : wt [82] = 1 := rfl
  have otr : wt [84, 82] = 2 := rfl
  rcases h with ⟨w, hw, rfl, z⟩ | ⟨rfl, hp, rfl⟩
  · rcases e with ⟨e, _⟩ | ⟨x, e, rfl⟩
    · simp at e
    · rw [show w ++ [84, 82] = (w ++ [84]) ++ [82] by simp] at e
      refine .inl ⟨w ++ (List.replicate (0 + 2) 84 ++ [82]), .snoc 0 hw, ?_, ?_⟩
      · rw [← (last_ne e).1]
        simp [List.replicate]
      · rw [wt_app]
        show wt w + 3 + 2 ≤ _
        omega
  · rcases e with ⟨rfl, rfl⟩ | ⟨x, e, rfl⟩
    · exact .inl ⟨[], .nil, rfl, by show 0 + 2 ≤ 0 + 3 * 1; omega⟩
    · obtain ⟨_, w1, a, h1, rfl⟩ := pf_end hp e
      refine .inl ⟨w1 ++ (List.replicate (a + 1 + 2) 84 ++ [82]), .snoc (a + 1) h1, ?_, ?_⟩
      · rw [show a + 1 + 2 = (a + 2) + 1 by omega, ← rep_snoc (a + 2) 84]
        simp
      · rw [e, wt_app, wt_app, wt_app, wt_app, wt_T, wt_T, o2]
        omega
/-- the front at the end, the k Us left off -/
def Fin (l : List Nat) (k : Nat) : Prop := (∃ w, Pf w ∧ l = w ++ [84, 82]) ∨ (Form (l ++ List.replicate k 85) ∧ (∀ z, l ≠ z ++ [82, 84, 82]) ∧ l ≠ [84, 82])
theorem form_dn {w : List Nat} (h : Pf w) (k : Nat) : Form (w ++ List.replicate k 85) := by
  obtain ⟨r, h2, e⟩ := pf_join h
  exact .inr ⟨r, -(k : Int), h2, by rw [← e, rn_neg]⟩
theorem pf_notRTR {w : List Nat} (h : Pf w) (z : List Nat) : w ≠ z ++ [82, 84, 82] := fun e => by
  rw [show z ++ [82, 84, 82] = (z ++ [82] ++ [84]) ++ [82] by simp] at e
  obtain ⟨_, w1, a, h1, e2⟩ := pf_end h e
  rw [← rep_snoc, ← rep_snoc, ← List.append_assoc, ← List.append_assoc] at e2
  exact absurd (last_ne (last_ne e2).1).2 (by decide)
theorem pf_notTR {w : List Nat} (h : Pf w) : w ≠ [84, 82] := fun e => by
  obtain ⟨_, w1, a, h1, e2⟩ := pf_end (z := [84]) h e
  have := congrArg List.length e2
  rw [List.length_append, List.length_replicate] at this
  have : ([84] : List Nat).length = 1 := rfl
  omega
theorem Fin.start {x : List Nat} (h : Fst x) : ∃ l m, x = l ++ List.replicate m 85 ∧ (∀ z, l ≠ z ++ [85]) ∧ Fin l m := by
  obtain ⟨l, m, e, nU, c⟩ := fst_left h
  refine ⟨l, m, e, nU, ?_⟩
  rcases c with rfl | hp | hb
  · rw [List.replicate_zero, List.append_nil] at e
    subst e
    rcases fst_cases h with ⟨w, n, hw, rfl⟩ | ⟨w, n, hw, rfl⟩ | ⟨w, m, hw, rfl⟩ | rfl
    · obtain ⟨r, h2, e⟩ := pf_join hw
      refine .inr ⟨.inr ⟨r, (n : Int), h2, by rw [← e, rn_nat]; simp⟩, fun z e => ?_, fun e => ?_⟩
      · cases n with
        | zero =>
          rw [List.replicate_zero, List.append_nil] at e
          exact pf_notRTR hw z e
        | succ n =>
          rw [← rep_snoc, ← List.append_assoc, show z ++ [82, 84, 82] = (z ++ [82, 84]) ++ [82] by simp] at e
          exact absurd (last_ne e).2 (by decide)
      · cases n with
        | zero =>
          rw [List.replicate_zero, List.append_nil] at e
          exact pf_notTR hw e
        | succ n =>
          rw [← rep_snoc, ← List.append_assoc] at e
          exact absurd (last_ne (y := [84]) e).2 (by decide)
    · exact absurd (by rw [← rep_snoc, ← List.append_assoc]) (nU (w ++ List.replicate n 85))
    · cases m with
      | zero => exact .inl ⟨w, hw, by simp⟩
      | succ m => exact absurd (by rw [← rep_snoc, ← List.append_assoc]) (nU (w ++ [84, 82] ++ List.replicate m 85))
    · refine .inr ⟨.inl rfl, fun z e => ?_, by decide⟩
      have := congrArg List.length e
      rw [List.length_append] at this
      have a1 : ([82] : List Nat).length = 1 := rfl
      have a2 : ([82, 84, 82] : List Nat).length = 3 := rfl
      omega
  · exact .inr ⟨form_dn hp m, pf_notRTR hp, pf_notTR hp⟩
  · exact .inl hb
/-- one turn of the last loop -/
theorem Fin.turn {l z : List Nat} {k : Nat} (h : Fin l k) (e : l = z ++ [82, 84, 82]) : ∃ y, z = y ++ [84] ∧ Fin (y ++ [82]) (k + 1) := by
  rcases h with ⟨w, hw, rfl⟩ | ⟨_, no, _⟩
  · rw [show z ++ [82, 84, 82] = (z ++ [82]) ++ [84, 82] by simp] at e
    obtain ⟨_, w1, a, h1, rfl⟩ := pf_end hw (List.append_cancel_right e)
    refine ⟨w1 ++ List.replicate (a + 1) 84, by rw [List.append_assoc, rep_snoc], ?_⟩
    cases a with
    | zero => exact .inl ⟨w1, h1, by simp⟩
    | succ a =>
      have hp := Pf.snoc a h1
      rw [← List.append_assoc] at hp
      exact .inr ⟨form_dn hp _, pf_notRTR hp, pf_notTR hp⟩
  · exact absurd e (no z)
theorem Fin.end {l : List Nat} {k : Nat} (h : Fin l k) (no : ∀ z, l ≠ z ++ [82, 84, 82]) : l = [84, 82] ∨ (Form (l ++ List.replicate k 85) ∧ l ≠ [84, 82]) := by
  rcases h with ⟨w, hw, rfl⟩ | ⟨hf, _, h2⟩
  · cases hw with
    | nil => exact .inl rfl
    | @snoc w a hw => exact absurd (by simp) (no (w ++ List.replicate (a + 2) 84))
  · exact .inr ⟨hf, h2⟩
theorem form_TR (k : Nat) : Form ([85] ++ List.replicate k 85) := by
  have := form_dn .nil (k + 1)
  rw [List.replicate_succ] at this
  exact this
theorem pf_lets {w : List Nat} (h : Pf w) : Lets w := by
  induction h with
  | nil => exact fun c hc => by cases hc
  | @snoc w a _ ih =>
    intro c hc
    rcases List.mem_append.mp hc with hc | hc
    · exact ih c hc
    · rcases List.mem_append.mp hc with hc | hc
      · exact .inl (List.eq_of_mem_replicate hc)
      · exact .inr (.inr (List.mem_singleton.mp hc))
theorem fst_lets {x : List Nat} (h : Fst x) : Lets x := by
  rcases fst_cases h with ⟨w, n, hw, rfl⟩ | ⟨w, n, hw, rfl⟩ | ⟨w, m, hw, rfl⟩ | rfl
  · intro c hc
    rcases List.mem_append.mp hc with hc | hc
    · exact pf_lets hw c hc
    · exact .inl (List.eq_of_mem_replicate hc)
  · exact lets_U (pf_lets hw) _
  · exact lets_U (lets_app (pf_lets hw) (lets_by rfl)) _
  · exact lets_by rfl
def spFinish (C : Addr) : Sp := fun vs H Q _ => ∃ (H0 : Hp) (p : Addr) (x : List Nat) (ms : List Mv), vs = [.ref p] ∧ FrAt C H0 H p x ms ∧ Fst x ∧ Lets x ∧ x.length ≤ 1000 ∧ ms.length ≤ 80000 ∧
  ∀ H' x' y ns, FrAt C H0 H' p y (ms ++ ns) → Lead x ns x' → Form x' → ns.length ≤ x.length + 3 → FitAll ns 6 → Q .non H'
end
section
def lenAt (H : Hp) (p : Addr) : Nat := match H p with
  | some (.ins _ _ fs) => match fs.lookup ("letters" : Str) with
    | some (.ref a) => match H a with
      | some (.lst xs) => xs.length
      | _ => 0
    | _ => 0
  | _ => 0
theorem lenAt_is {C : Addr} {H0 H : Hp} {p : Addr} {l : List Nat} {ms : List Mv} (h : FrAt C H0 H p l ms) : lenAt H p = l.length := by
  obtain ⟨dx, a, m, xs, hp, ha, _, _, _⟩ := h.at
  unfold lenAt
  rw [hp]
  simp only [ff_letters, ha]
  unfold chs
  rw [List.length_map]
end
section
variable {P : Program} {w : World} {K : PySem.W.Frag} {mg : Str → Option Value} {base : Heap} {f : Addr} {fd : FuncData}
theorem ok_Fis_now {C : Addr} (F : Fun K "is_now" "Front.is_now" s_Fis_now f fd) (T : TxF K mg C) (y_list : mg "list" = none) : FnOk P w K mg base CX0 1 f fd ["self", "text"] (spNow C) := by
  refine F.ok sc_Fis_now (fun vs H Q E h => ?_) (fun cdv A outer s H vs Q E hr h => ?_)
  · obtain ⟨H0, p, l, t, ms, rfl, fr, Ll, Lt, zt, zl, q⟩ := h
    rfl
  obtain ⟨H0, p, l, t, ms, rfl, fr, Ll, Lt, zt, zl, q⟩ := h
  refine ⟨_, pss_one (ps_ret (pe_cmpR (op_eqD hr.units) (pe_fld (pv 0) rfl) (pe_callTy (call_list_text rfl) rfl y_list (by decide +kernel) (pa_cons (pv 1) pa_nil)) (nomark _))), ?_⟩
  obtain ⟨s0, p0, dx, a, m, a0, m0, nam, hp, ha, hm⟩ := fr
  refine ⟨_, rfl, p, C, dx, _, _, rfl, hp, T.cl, T.nL, ff_letters _ _, _, rfl, t, rfl, fits (by omega), fun x hx => ?_⟩
  have SS := same_new hx (.lst (t.map fun c => V.str (S [c])))
  refine ⟨_, _, .lst (SqL.of (SS _ _ ha)) (dp_chs l), .lst (SqL.of upd_same) (dp_chs t), sh_chs Ll, sh_chs Lt, ?_⟩
  rw [eqv_chs]
  exact q _ SS
end
section
variable {P : Program} {w : World} {K : PySem.W.Frag} {mg : Str → Option Value} {base : Heap} {f : Addr} {fd : FuncData}
theorem ok_Fends_with {C : Addr} (F : Fun K "ends_with" "Front.ends_with" s_Fends_with f fd) (T : TxF K mg C) (y_list : mg "list" = none) (y_len : mg "len" = none) : FnOk P w K mg base CX0 1 f fd ["self", "text"] (spEnds C) := by
  refine F.ok sc_Fends_with (fun vs H Q E h => ?_) (fun cdv A outer s H vs Q E hr h => ?_)
  · obtain ⟨H0, p, l, t, ms, rfl, fr, Ll, Lt, nt, zt, zl, q⟩ := h
    rfl
  obtain ⟨H0, p, l, t, ms, rfl, fr, Ll, Lt, nt, zt, zl, q⟩ := h
  refine ⟨_, pss_one (ps_ret (pe_cmpR (op_eqD hr.units) (pe_slice sl_list (pe_fld (pv 0) rfl) (po_some (pe_un un_neg (pe_callB call_len_str rfl y_len PySem.boot_len (pa_cons (pv 1) pa_nil)))) po_none) (pe_callTy (call_list_text rfl) rfl y_list (by decide +kernel) (pa_cons (pv 1) pa_nil)) (nomark _))), ?_⟩
  obtain ⟨s0, p0, dx, a, m, a0, m0, nam, hp, ha, hm⟩ := fr
  have tp : 0 < t.length := List.length_pos_iff.mpr nt
  refine ⟨_, rfl, p, C, dx, _, _, rfl, hp, T.cl, T.nL, ff_letters _ _, _, rfl, _, rfl, by rw [S_len]; exact fits (by omega), _, rfl, _, rfl, a, _, rfl, SqL.of ha, fun y hy => ?_⟩
  rw [S_len, cut_end tp] at *
  have S1 := same_new hy (.lst (chs (l.drop (l.length - t.length))))
  refine ⟨_, rfl, t, rfl, fits (by omega), fun x hx => ?_⟩
  have S2 := same_new hx (.lst (t.map fun c => V.str (S [c])))
  refine ⟨_, _, .lst (SqL.of (S2 _ _ upd_same)) (dp_chs _), .lst (SqL.of upd_same) (dp_chs t), sh_chs (fun c hc => Ll c (List.mem_of_mem_drop hc)), sh_chs Lt, ?_⟩
  rw [eqv_chs]
  exact q _ (S1.trans S2)
end
section
variable {P : Program} {w : World} {K : PySem.W.Frag} {mg : Str → Option Value} {base : Heap} {f : Addr} {fd : FuncData}
theorem ok_Fmake {C : Addr} (F : Fun K "make" "Front.make" s_Fmake f fd) (T : TxF K mg C) (y_list : mg "list" = none) (y_len : mg "len" = none) : FnOk P w K mg base CX0 1 f fd ["self", "back", "old", "new"] (spMake C) := by
  refine F.ok sc_Fmake (fun vs H Q E h => ?_) (fun cdv A outer s H vs Q E hr h => ?_)
  · obtain ⟨H0, p, a, o, n, b, ms, rfl, fr, zl, zn, zm, q⟩ := h
    rfl
  obtain ⟨H0, p, a, o, n, b, ms, rfl, fr, zl, zn, zm, q⟩ := h
  refine ⟨_, pss_cons (ps_set (i := 4) sc_Fmake.nd rfl (.inl rfl) (pe_op op_sub (pe_callB call_len_seq rfl y_len PySem.boot_len (pa_cons (pe_fld (pv 0) rfl) pa_nil)) (pv 1)))
    (pss_cons (ps_asg (pe_callTy (call_list_text rfl) rfl y_list (by decide +kernel) (pa_cons (pv 3) pa_nil)) (pg_slc (pe_fld (pv 0) rfl) (po_some (pv 4)) (po_some (pe_op op_add (pv 4) (pe_callB call_len_str rfl y_len PySem.boot_len (pa_cons (pv 2) pa_nil))))))
    (pss_one (ps_expr (pe_bm PySem.F.plainAttrs_list PySem.F.slot_list_append PySem.F.type_list_append mt_append (pe_fld (pv 0) rfl) (pa_cons (pe_tup (pa_cons (pv 4) (pa_cons (pv 2) (pa_cons (pv 3) pa_nil)))) pa_nil))))), ?_⟩
  obtain ⟨dx, x, m, xs, hp, hx, hm, lx, nxm⟩ := fr.at
  rw [List.length_append, List.length_append] at zl
  refine ⟨_, rfl, p, C, dx, _, _, rfl, hp, T.cl, T.nL, ff_letters _ _, x, _, rfl, .inl (SqL.of hx), _, rfl, _, _, rfl, rfl, ?_⟩
  have hpl : (((chs (a ++ o ++ b)).length : Nat) : Int) - ((o.length + b.length : Nat) : Int) = (a.length : Int) := by
    unfold chs
    rw [List.length_map, List.length_append, List.length_append]
    omega
  dsimp only
  rw [hpl]
  refine ⟨_, rfl, n, rfl, fits (by omega), fun y hy => ?_⟩
  have S1 := same_new hy (.lst (n.map fun c => V.str (S [c])))
  have fr1 := fr.same S1
  have lw : (chs (a ++ o ++ b)).length = a.length + o.length + b.length := by
    unfold chs
    rw [List.length_map, List.length_append, List.length_append]
  have ln : (n.map fun c => V.str (S [c])).length = n.length := List.length_map ..
  refine ⟨_, rfl, p, C, dx, _, _, rfl, S1 _ _ hp, T.cl, T.nL, ff_letters _ _, _, rfl, _, rfl, _, rfl, _, rfl, _, rfl, by rw [S_len]; exact fits (by omega), _, _, rfl, rfl, _, rfl, x, y, _, _, (a.length : Int), (a.length : Int) + ((S o).length : Int), rfl, rfl, rfl, rfl, S1 _ _ hx, upd_same, ne_of_none hx hy, by omega, by omega, by rw [S_len, lw]; omega, by rw [lw, ln]; exact fits (by omega), ?_⟩
  have ec : (chs (a ++ o ++ b)).take (a.length : Int).toNat ++ (n.map fun c => V.str (S [c])) ++ (chs (a ++ o ++ b)).drop ((a.length : Int) + ((S o).length : Int)).toNat = chs (a ++ n ++ b) := by
    rw [S_len, Int.toNat_natCast, show ((a.length : Int) + (o.length : Int)).toNat = a.length + o.length by omega]
    exact chs_mid a o b n
  rw [ec]
  have fr2 := fr1.letters (S1 _ _ hp) (a ++ n ++ b)
  have hp2 : upd (upd H y (.lst (n.map fun c => V.str (S [c])))) x (.lst (chs (a ++ n ++ b))) p = some (.ins C dx (ff x m)) := by
    rw [upd_ne (ne_of (S1 _ _ hp) (S1 _ _ hx) (by intro z; cases z))]
    exact S1 _ _ hp
  have hm2 : upd (upd H y (.lst (n.map fun c => V.str (S [c])))) x (.lst (chs (a ++ n ++ b))) m = some (.lst xs) := by
    rw [upd_ne nxm.symm]
    exact S1 _ _ hm
  generalize upd (upd H y (.lst (n.map fun c => V.str (S [c])))) x (.lst (chs (a ++ n ++ b))) = H2 at *
  refine ⟨_, rfl, p, C, dx, _, _, rfl, hp2, T.cl, T.nM, ff_moves _ _, .inl ⟨rfl, _, SqL.of hm2⟩, _, rfl, _, rfl, _, rfl, fits (by show 3 ≤ 16777216; decide), fun t ht => ?_⟩
  have S3 := same_new ht (.tup [V.int (a.length : Int), .str (S o), .str (S n)])
  obtain ⟨xs', e1, l1, fr4⟩ := (fr2.same S3).push (S3 _ _ hp2) (t := t) (mv := ⟨(a.length : Int), o, n⟩) upd_same
  exact ⟨m, xs', _, rfl, rfl, e1, Nat.lt_of_lt_of_le (show xs'.length < 16777216 by omega) sizeLine_big, q _ fr4⟩
end
section
variable {P : Program} {w : World} {K : PySem.W.Frag} {mg : Str → Option Value} {base : Heap} {f : Addr} {fd : FuncData}
theorem ok_F__init__ {C : Addr} (F : Fun K "__init__" "Front.__init__" s_F__init__ f fd) (T : TxF K mg C)  : FnOk P w K mg base CX0 1 f fd ["self"] (spInitF C) := by
  refine F.ok sc_F__init__ (fun vs H Q E h => ?_) (fun cdv A outer s H vs Q E hr h => ?_)
  · obtain ⟨H0, p, dx, rfl, s0, p0, hp, q⟩ := h
    rfl
  obtain ⟨H0, p, dx, rfl, s0, p0, hp, q⟩ := h
  refine ⟨_, pss_cons (ps_fld (pv 0) (pe_lst pa_nil) rfl) (pss_one (ps_fld (pv 0) (pe_lst pa_nil) rfl)), ?_⟩
  refine ⟨Nat.zero_le _, fun a ha => ?_⟩
  have npa : p ≠ a := ne_of_none hp ha
  refine ⟨_, rfl, p, C, dx, [], rfl, (by rw [upd_ne npa]; exact hp), T.cl, T.nL, (by show 0 < 1000; decide), Nat.zero_le _, fun m hm => ?_⟩
  have npm : p ≠ m := fun z => by rw [z, upd_same] at hm; cases hm
  have nam : a ≠ m := fun z => by rw [← z, upd_ne npa.symm, upd_same] at hm; cases hm
  have hm0 : H m = none := by
    rw [upd_ne npm.symm, upd_ne nam.symm] at hm
    exact hm
  refine ⟨_, rfl, p, C, dx, _, rfl, Eq.trans (upd_ne npm) upd_same, T.cl, T.nM, (by show 1 < 1000; decide), ?_⟩
  refine q _ ⟨fun b o e => ?_, p0, dx, a, m, s0.free ha, s0.free hm0, nam, upd_same, ?_, [], by rw [upd_ne npm.symm, upd_same]; rfl, rfl, fun i r d hr _ => by cases hr⟩
  · have nbp : b ≠ p := fun z => by rw [z, p0] at e; cases e
    rw [upd_ne nbp, upd_ne (ne_of_none (s0 _ _ e) hm0), upd_ne nbp, upd_ne (ne_of_none (s0 _ _ e) ha)]
    exact s0 _ _ e
  · rw [upd_ne npa.symm, upd_ne nam, upd_ne npa.symm, upd_same]
    rfl
end
section
variable {P : Program} {w : World} {K : PySem.W.Frag} {mg : Str → Option Value} {base : Heap} {f : Addr} {fd : FuncData}
theorem ok_Fleave_untwists {C : Addr} (F : Fun K "leave_untwists" "Front.leave_untwists" s_Fleave_untwists f fd) (T : TxF K mg C) (D_ends_with : MDfn P w K mg base C "ends_with" 1 ["self", "text"] (spEnds C)) : FnOk P w K mg base CX0 2 f fd ["self"] (spLeave C) := by
  obtain ⟨g_ends_with, fd_ends_with, G_ends_with, B_ends_with, M_ends_with⟩ := D_ends_with.ex
  refine F.ok sc_Fleave_untwists (fun vs H Q E h => ?_) (fun cdv A outer s H vs Q E hr h => ?_)
  · obtain ⟨H0, p, l, m, ms, rfl, fr, nU, Ll, zl, q⟩ := h
    rfl
  obtain ⟨H0, p, l, m, ms, rfl, fr, nU, Ll, zl, q⟩ := h
  refine ⟨_, pss_cons (ps_set (i := 1) sc_Fleave_untwists.nd rfl (.inl rfl) pe_int)
    (pss_cons (ps_while PassesOwn.never (pt_val (pe_meth (pv 0) T.cl M_ends_with G_ends_with (hr.mono (by decide)) B_ends_with .nil pass0 (pa_cons pe_str pa_nil))) (pss_cons (ps_expr (pe_bm0 PySem.F.plainAttrs_list PySem.F.slot_list_pop PySem.F.type_list_pop mt_pop (pe_fld (pv 0) rfl))) (pss_one (ps_aug (i := 1) sc_Fleave_untwists.nd rfl (.inl rfl) pe_int ip_add))))
    (pss_one (ps_ret (pv 1)))), ?_⟩
  rw [List.length_append, List.length_replicate] at zl
  refine while_by (fun σ G => ∃ j : Nat, j ≤ m ∧ σ = [some (.ref p), some (.int (((m - j : Nat)) : Int))] ∧ FrAt C H0 G p (l ++ List.replicate j 85) ms) (fun σ _ => match σ with | [_, some (.int b)] => m - b.toNat | _ => 0) ⟨m, Nat.le_refl _, by rw [Nat.sub_self]; rfl, fr⟩ ?_ ?_
  · rintro σ G ⟨j, hj, rfl, fj⟩
    obtain ⟨dx, a, mm, xs, hp, ha, hm, lx, nam⟩ := fj.at
    rw [e_U]
    refine ⟨_, rfl, p, dx, _, rfl, hp, ff_no _ _ (by decide +kernel) (by decide +kernel), H0, p, _, [85], ms, rfl, fj, lets_U Ll j, lets_by rfl, by decide, by decide, by rw [List.length_append, List.length_replicate]; omega, fun G1 s1 => ⟨_, rfl, ?_⟩⟩
    have f1 := fj.same s1
    cases j with
    | zero =>
      have e : decide ((l ++ List.replicate 0 85).drop ((l ++ List.replicate 0 85).length - ([85] : List Nat).length) = [85]) = false := decide_eq_false fun z => by
        rw [show l ++ List.replicate 0 85 = l by simp] at z
        have k := List.take_append_drop (l.length - ([85] : List Nat).length) l
        rw [z] at k
        exact nU _ k.symm
      rw [e]
      refine iteF ⟨_, rfl, ?_⟩
      rw [show l ++ List.replicate 0 85 = l by simp] at f1
      exact q _ f1
    | succ j =>
      have e1 : l ++ List.replicate (j + 1) 85 = (l ++ List.replicate j 85) ++ [85] := by rw [← rep_snoc, List.append_assoc]
      have e : decide ((l ++ List.replicate (j + 1) 85).drop ((l ++ List.replicate (j + 1) 85).length - ([85] : List Nat).length) = [85]) = true := decide_eq_true (by rw [e1]; exact drop_last _ _)
      rw [e]
      have ha1 := s1 _ _ ha
      rw [e1] at ha1 f1
      have ec : chs ((l ++ List.replicate j 85) ++ [85]) = chs (l ++ List.replicate j 85) ++ [V.str (S [85])] := by unfold chs; rw [List.map_append]; rfl
      refine iteT ⟨_, rfl, p, C, dx, _, _, rfl, s1 _ _ hp, T.cl, T.nL, ff_letters _ _, .inl ⟨rfl, _, SqL.of ha1⟩, a, _, V.str (S [85]), rfl, rfl, ha1, ?_, ?_⟩
      · rw [ec, List.length_append, List.getElem?_append_right (by show _ ≤ _ + 1 - 1; omega)]
        show [V.str (S [85])][_ + 1 - 1 - _]? = _
        rw [show (chs (l ++ List.replicate j 85)).length + 1 - 1 - (chs (l ++ List.replicate j 85)).length = 0 by omega]
        rfl
      · rw [ec, List.dropLast_concat]
        have f2 := f1.letters (s1 _ _ hp) (l ++ List.replicate j 85)
        refine ⟨_, rfl, _, _, rfl, rfl, ⟨j, by omega, ?_, f2⟩, ?_⟩
        · show [_, some (V.int (((m - (j + 1) : Nat) : Int) + 1))] = _
          rw [show ((m - (j + 1) : Nat) : Int) + 1 = ((m - j : Nat) : Int) by omega]
        · show m - (((m - (j + 1) : Nat) : Int) + 1).toNat < m - ((m - (j + 1) : Nat) : Int).toNat
          omega
  · rintro σ H' Q1 Q2 hm ⟨v, e1, aa, dd, fs, e2, e3, e4, h0', p', l', t', ms', e5, e6, e7, e8, e9, e10, e11, k⟩
    exact ⟨v, e1, aa, dd, fs, e2, e3, e4, h0', p', l', t', ms', e5, e6, e7, e8, e9, e10, e11, fun G s => by
      obtain ⟨b, e12, qq⟩ := k G s
      exact ⟨b, e12, hm _ _ qq⟩⟩
end
section
variable {P : Program} {w : World} {K : PySem.W.Frag} {mg : Str → Option Value} {base : Heap} {f : Addr} {fd : FuncData}
theorem ok_Fspread_untwist {C : Addr} (F : Fun K "spread_untwist" "Front.spread_untwist" s_Fspread_untwist f fd) (T : TxF K mg C) (D_make : MDfn P w K mg base C "make" 1 ["self", "back", "old", "new"] (spMake C)) (D_is_now : MDfn P w K mg base C "is_now" 1 ["self", "text"] (spNow C)) : FnOk P w K mg base CX0 2 f fd ["self"] (spSpread C) := by
  obtain ⟨g_make, fd_make, G_make, B_make, M_make⟩ := D_make.ex
  obtain ⟨g_is_now, fd_is_now, G_is_now, B_is_now, M_is_now⟩ := D_is_now.ex
  refine F.ok sc_Fspread_untwist (fun vs H Q E h => ?_) (fun cdv A outer s H vs Q E hr h => ?_)
  · obtain ⟨H0, p, y, ms, rfl, fr, hy, Ly, zy, zm, q⟩ := h
    rfl
  obtain ⟨H0, p, y, ms, rfl, fr, hy, Ly, zy, zm, q⟩ := h
  refine ⟨_, pss_cons (ps_expr (pe_meth (pv 0) T.cl M_make G_make (hr.mono (by decide)) B_make .nil pass0 (pa_cons pe_int (pa_cons pe_str (pa_cons pe_str pa_nil))))) (pss_cons (ps_expr (pe_meth (pv 0) T.cl M_make G_make (hr.mono (by decide)) B_make .nil pass0 (pa_cons pe_int (pa_cons pe_str (pa_cons pe_str pa_nil))))) (pss_one (ps_if (pt_val (pe_meth (pv 0) T.cl M_is_now G_is_now (hr.mono (by decide)) B_is_now .nil pass0 (pa_cons pe_str pa_nil))) (pss_one (ps_expr (pe_meth (pv 0) T.cl M_make G_make (hr.mono (by decide)) B_make .nil pass0 (pa_cons pe_int (pa_cons pe_str (pa_cons pe_str pa_nil)))))) (pss_one (ps_expr (pe_meth (pv 0) T.cl M_make G_make (hr.mono (by decide)) B_make .nil pass0 (pa_cons pe_int (pa_cons pe_str (pa_cons pe_str pa_nil))))))))), ?_⟩
  rw [e_empty, e_six, e_UT, e_RTR, e_RR, e_RTRTR]
  obtain ⟨dx1, a1, m1, xs1, hp1, _, _, _, _⟩ := fr.at
  have c1 : FrAt C H0 _ p ((y ++ [85]) ++ [] ++ []) _ := fr.cast (by simp)
  refine ⟨_, rfl, p, dx1, _, rfl, hp1, ff_no _ _ (by decide +kernel) (by decide +kernel), H0, p, (y ++ [85]), [], [84, 82, 84, 82, 84, 82], [], _, rfl, c1, (by first | omega | (simp; omega) | simp), (by decide), (by first | omega | (simp; omega) | simp), fun G1 f1 => ?_⟩
  obtain ⟨dx2, a2, m2, xs2, hp2, _, _, _, _⟩ := f1.at
  have c2 : FrAt C H0 _ p (y ++ [85, 84] ++ [82, 84, 82, 84, 82]) _ := f1.cast (by simp)
  refine ⟨_, rfl, p, dx2, _, rfl, hp2, ff_no _ _ (by decide +kernel) (by decide +kernel), H0, p, y, [85, 84], [], [82, 84, 82, 84, 82], _, rfl, c2, (by first | omega | (simp; omega) | simp), (by decide), (by first | omega | (simp; omega) | simp), fun G2 f2 => ?_⟩
  obtain ⟨dx3, a3, m3, xs3, hp3, _, _, _, _⟩ := f2.at
  refine ⟨_, rfl, p, dx3, _, rfl, hp3, ff_no _ _ (by decide +kernel) (by decide +kernel), H0, p, _, [82, 84, 82, 84, 82], _, rfl, f2, ?_, lets_by rfl, by decide, by simp; omega, fun G3 s3 => ⟨_, rfl, ?_⟩⟩
  · intro c hc
    rcases List.mem_append.mp hc with hc | hc
    · rw [List.append_nil] at hc
      exact Ly c hc
    · exact lets_by (l := [82, 84, 82, 84, 82]) rfl c hc
  have f3 := f2.same s3
  rcases hy with hy | ⟨x, hy⟩
  · subst hy
    rw [decide_eq_true (show ([] : List Nat) ++ [] ++ [82, 84, 82, 84, 82] = [82, 84, 82, 84, 82] from rfl)]
    refine iteT ?_
    obtain ⟨dx4, a4, m4, xs4, hp4, _, _, _, _⟩ := f3.at
    have c4 : FrAt C H0 _ p ([] ++ [82, 84, 82] ++ [84, 82]) _ := f3.cast (by simp)
    refine ⟨_, rfl, p, dx4, _, rfl, hp4, ff_no _ _ (by decide +kernel) (by decide +kernel), H0, p, [], [82, 84, 82], [], [84, 82], _, rfl, c4, (by first | omega | (simp; omega) | simp), (by decide), (by first | omega | (simp; omega) | simp), fun G4 f4 => ?_⟩
    exact q G4 _ [⟨1, [], [84, 82, 84, 82, 84, 82]⟩, ⟨0, [85, 84], []⟩, ⟨0, [82, 84, 82], []⟩] (f4.castM (by simp)) lead_spread0 (.inl ⟨rfl, rfl⟩) rfl (fit_by rfl)
  · subst hy
    have zx : x.length ≤ 90000 := by rw [List.length_append] at zy; omega
    rw [decide_eq_false (show ¬ (x ++ [82] ++ [] ++ [82, 84, 82, 84, 82] = [82, 84, 82, 84, 82]) from fun z => by have := congrArg List.length z; simp at this)]
    refine iteF ?_
    obtain ⟨dx5, a5, m5, xs5, hp5, _, _, _, _⟩ := f3.at
    have c5 : FrAt C H0 _ p (x ++ [82, 82] ++ [84, 82, 84, 82]) _ := f3.cast (by simp)
    refine ⟨_, rfl, p, dx5, _, rfl, hp5, ff_no _ _ (by decide +kernel) (by decide +kernel), H0, p, x, [82, 82], [], [84, 82, 84, 82], _, rfl, c5, (by first | omega | (simp; omega) | simp), (by decide), (by first | omega | (simp; omega) | simp), fun G5 f5 => ?_⟩
    exact q G5 (x ++ [84, 82, 84, 82]) [⟨((x ++ [82, 85]).length : Int), [], [84, 82, 84, 82, 84, 82]⟩, ⟨((x ++ [82]).length : Int), [85, 84], []⟩, ⟨(x.length : Int), [82, 82], []⟩] ((f5.cast (by simp)).castM (by simp)) ((lead_spread x).cast (by simp) rfl) (.inr ⟨x, rfl, rfl⟩) rfl (fit_by rfl)
end
section
variable {P : Program} {w : World} {K : PySem.W.Frag} {mg : Str → Option Value} {base : Heap} {f : Addr} {fd : FuncData}
theorem ok_Ftake_untwist {C : Addr} (F : Fun K "take_untwist" "Front.take_untwist" s_Ftake_untwist f fd) (T : TxF K mg C) (D_make : MDfn P w K mg base C "make" 1 ["self", "back", "old", "new"] (spMake C)) (D_is_now : MDfn P w K mg base C "is_now" 1 ["self", "text"] (spNow C)) (D_ends_with : MDfn P w K mg base C "ends_with" 1 ["self", "text"] (spEnds C)) : FnOk P w K mg base CX0 2 f fd ["self"] (spStep C 85) := by
  obtain ⟨g_make, fd_make, G_make, B_make, M_make⟩ := D_make.ex
  obtain ⟨g_is_now, fd_is_now, G_is_now, B_is_now, M_is_now⟩ := D_is_now.ex
  obtain ⟨g_ends_with, fd_ends_with, G_ends_with, B_ends_with, M_ends_with⟩ := D_ends_with.ex
  refine F.ok sc_Ftake_untwist (fun vs H Q E h => ?_) (fun cdv A outer s H vs Q E hr h => ?_)
  · obtain ⟨H0, p, x, ms, rfl, fr, fx, Lx, zx, zm, q⟩ := h
    rfl
  obtain ⟨H0, p, x, ms, rfl, fr, fx, Lx, zx, zm, q⟩ := h
  refine ⟨_, pss_cons (ps_expr (pe_bm PySem.F.plainAttrs_list PySem.F.slot_list_append PySem.F.type_list_append mt_append (pe_fld (pv 0) rfl) (pa_cons pe_str pa_nil))) (pss_one (ps_if (pt_val (pe_meth (pv 0) T.cl M_ends_with G_ends_with (hr.mono (by decide)) B_ends_with .nil pass0 (pa_cons pe_str pa_nil))) (pss_one (ps_expr (pe_meth (pv 0) T.cl M_make G_make (hr.mono (by decide)) B_make .nil pass0 (pa_cons pe_int (pa_cons pe_str (pa_cons pe_str pa_nil)))))) (pss_one (ps_if (pt_val (pe_meth (pv 0) T.cl M_is_now G_is_now (hr.mono (by decide)) B_is_now .nil pass0 (pa_cons pe_str pa_nil))) (pss_cons (ps_expr (pe_meth (pv 0) T.cl M_make G_make (hr.mono (by decide)) B_make .nil pass0 (pa_cons pe_int (pa_cons pe_str (pa_cons pe_str pa_nil))))) (pss_cons (ps_expr (pe_meth (pv 0) T.cl M_make G_make (hr.mono (by decide)) B_make .nil pass0 (pa_cons pe_int (pa_cons pe_str (pa_cons pe_str pa_nil))))) (pss_one (ps_expr (pe_meth (pv 0) T.cl M_make G_make (hr.mono (by decide)) B_make .nil pass0 (pa_cons pe_int (pa_cons pe_str (pa_cons pe_str pa_nil)))))))) pss_nil)))), ?_⟩
  rw [e_U, e_TU, e_RU, e_empty, e_RTR, e_RR]
  obtain ⟨dx, a, m, xs, hp, ha, hm, _, _⟩ := fr.at
  have zc : (chs x).length = x.length := List.length_map ..
  refine ⟨_, rfl, p, C, dx, _, _, rfl, hp, T.cl, T.nL, ff_letters _ _, .inl ⟨rfl, _, SqL.of ha⟩, a, _, _, rfl, rfl, ha, Nat.lt_of_lt_of_le (show (chs x).length < 16777216 by omega) sizeLine_big, ?_⟩
  rw [chs_snoc]
  have f1 := fr.letters hp (x ++ [85])
  have Lx1 : Lets (x ++ [85]) := lets_app Lx (lets_by rfl)
  have z1 : (x ++ [85]).length ≤ 1001 := by rw [List.length_append]; show _ + 1 ≤ _; omega
  obtain ⟨dx1, a1, m1, xs1, hp1, _, _, _, _⟩ := f1.at
  refine ⟨_, rfl, p, dx1, _, rfl, hp1, ff_no _ _ (by decide +kernel) (by decide +kernel), H0, p, _, [84, 85], _, rfl, f1, Lx1, lets_by rfl, by decide, by decide, by omega, fun G1 s1 => ⟨_, rfl, ?_⟩⟩
  have f2 := f1.same s1
  refine ite2 (fun k => ?_) (fun k => ?_)
  · obtain ⟨z, rfl⟩ := two_end.mp (of_decide_eq_true k)
    rw [List.length_append] at zx
    obtain ⟨dx3, a3, m3, xs3, hp3, _, _, _, _⟩ := f2.at
    have c3 : FrAt C H0 _ p (z ++ [84, 85] ++ []) _ := f2.cast (by simp)
    refine ⟨_, rfl, p, dx3, _, rfl, hp3, ff_no _ _ (by decide +kernel) (by decide +kernel), H0, p, z, [84, 85], [], [], _, rfl, c3, (by first | omega | (simp; omega) | simp), (by decide), (by first | omega | (simp; omega) | simp), fun G3 f3 => ?_⟩
    refine q G3 z [⟨(z.length : Int), [84, 85], []⟩] (f3.cast (by simp)) ((lead_TU z).cast (by simp) rfl) (fst_T fx) ?_ (by show 1 ≤ 4; decide) (fit_by rfl)
    rw [wt_app]
    omega
  · have hT : ∀ z, x ≠ z ++ [84] := fun z e => k (decide_eq_true (two_end.mpr ⟨z, e⟩))
    obtain ⟨dx2, a2, m2, xs2, hp2, _, _, _, _⟩ := f2.at
    refine ⟨_, rfl, p, dx2, _, rfl, hp2, ff_no _ _ (by decide +kernel) (by decide +kernel), H0, p, _, [82, 85], _, rfl, f2, Lx1, lets_by rfl, by decide, by omega, fun G2 s2 => ⟨_, rfl, ?_⟩⟩
    have f3 := f2.same s2
    refine ite2 (fun k2 => ?_) (fun k2 => ?_)
    · have e := (last_ne (y := [82]) (of_decide_eq_true k2)).1
      subst e
      obtain ⟨dx4, a4, m4, xs4, hp4, _, _, _, _⟩ := f3.at
      have c4 : FrAt C H0 _ p ([] ++ [] ++ [82, 85]) _ := f3.cast (by simp)
      refine ⟨_, rfl, p, dx4, _, rfl, hp4, ff_no _ _ (by decide +kernel) (by decide +kernel), H0, p, [], [], [82, 84, 82], [82, 85], _, rfl, c4, (by first | omega | (simp; omega) | simp), (by decide), (by first | omega | (simp; omega) | simp), fun G4 f4 => ?_⟩
      obtain ⟨dx5, a5, m5, xs5, hp5, _, _, _, _⟩ := f4.at
      have c5 : FrAt C H0 _ p ([82, 84] ++ [82, 82] ++ [85]) _ := f4.cast (by simp)
      refine ⟨_, rfl, p, dx5, _, rfl, hp5, ff_no _ _ (by decide +kernel) (by decide +kernel), H0, p, [82, 84], [82, 82], [], [85], _, rfl, c5, (by first | omega | (simp; omega) | simp), (by decide), (by first | omega | (simp; omega) | simp), fun G5 f5 => ?_⟩
      obtain ⟨dx6, a6, m6, xs6, hp6, _, _, _, _⟩ := f5.at
      have c6 : FrAt C H0 _ p ([82] ++ [84, 85] ++ []) _ := f5.cast (by simp)
      refine ⟨_, rfl, p, dx6, _, rfl, hp6, ff_no _ _ (by decide +kernel) (by decide +kernel), H0, p, [82], [84, 85], [], [], _, rfl, c6, (by first | omega | (simp; omega) | simp), (by decide), (by first | omega | (simp; omega) | simp), fun G6 f6 => ?_⟩
      exact q G6 [82] [⟨0, [], [82, 84, 82]⟩, ⟨2, [82, 82], []⟩, ⟨1, [84, 85], []⟩] (f6.castM (by simp)) lead_RU .C (by decide) (by decide) (fit_by rfl)
    · have hR : x ≠ [82] := fun e => k2 (decide_eq_true (by rw [e]; rfl))
      refine q G2 (x ++ [85]) [] (f3.castM (by simp)) (Lead.refl _) (fst_U fx hT hR) ?_ (by decide) (fit_by rfl)
      rw [wt_app]
      show wt x + 3 ≤ _
      omega
end
section
variable {P : Program} {w : World} {K : PySem.W.Frag} {mg : Str → Option Value} {base : Heap} {f : Addr} {fd : FuncData}
theorem ok_Ftake {C : Addr} (F : Fun K "take" "Front.take" s_Ftake f fd) (T : TxF K mg C) (D_take_twist : MDfn P w K mg base C "take_twist" 2 ["self"] (spStep C 84)) (D_take_untwist : MDfn P w K mg base C "take_untwist" 2 ["self"] (spStep C 85)) (D_take_turn : MDfn P w K mg base C "take_turn" 3 ["self"] (spStepR C)) : FnOk P w K mg base CX0 4 f fd ["self", "letter"] (spTakeF C) := by
  obtain ⟨g_take_twist, fd_take_twist, G_take_twist, B_take_twist, M_take_twist⟩ := D_take_twist.ex
  obtain ⟨g_take_untwist, fd_take_untwist, G_take_untwist, B_take_untwist, M_take_untwist⟩ := D_take_untwist.ex
  obtain ⟨g_take_turn, fd_take_turn, G_take_turn, B_take_turn, M_take_turn⟩ := D_take_turn.ex
  refine F.ok sc_Ftake (fun vs H Q E h => ?_) (fun cdv A outer s H vs Q E hr h => ?_)
  · obtain ⟨H0, p, x, ms, c, rfl, hc, fr, fx, Lx, zx, zm, q⟩ := h
    rfl
  obtain ⟨H0, p, x, ms, c, rfl, hc, fr, fx, Lx, zx, zm, q⟩ := h
  refine ⟨_, pss_one (ps_if (pt_cmpR op_eq (pv 1) pe_str (nomark _)) (pss_one (ps_expr (pe_meth0 (pv 0) T.cl M_take_twist G_take_twist (hr.mono (by decide)) B_take_twist .nil pass0))) (pss_one (ps_if (pt_cmpR op_eq (pv 1) pe_str (nomark _)) (pss_one (ps_expr (pe_meth0 (pv 0) T.cl M_take_untwist G_take_untwist (hr.mono (by decide)) B_take_untwist .nil pass0))) (pss_one (ps_expr (pe_meth0 (pv 0) T.cl M_take_turn G_take_turn (hr.mono (by decide)) B_take_turn .nil pass0)))))), ?_⟩
  obtain ⟨dx, a, m, xs, hp, ha, hm, _, _⟩ := fr.at
  refine ⟨_, rfl, rfl, _, rfl, ite2 (fun k1 => ?_) (fun k1 => ?_)⟩
  · have e : c = 84 := (sign_eq e_T).mp (of_decide_eq_true k1)
    subst e
    exact ⟨_, rfl, p, dx, _, rfl, hp, ff_no _ _ (by decide +kernel) (by decide +kernel), H0, p, x, ms, rfl, fr, fx, Lx, zx, zm, fun H' x' ns h1 h2 h3 h4 h5 h6 => q H' x' ns h1 h2 h3 h4 (by omega) h6⟩
  have n1 : ¬ c = 84 := fun z => k1 (decide_eq_true ((sign_eq e_T).mpr z))
  refine ⟨_, rfl, rfl, _, rfl, ite2 (fun k2 => ?_) (fun k2 => ?_)⟩
  · have e : c = 85 := (sign_eq e_U).mp (of_decide_eq_true k2)
    subst e
    exact ⟨_, rfl, p, dx, _, rfl, hp, ff_no _ _ (by decide +kernel) (by decide +kernel), H0, p, x, ms, rfl, fr, fx, Lx, zx, zm, fun H' x' ns h1 h2 h3 h4 h5 h6 => q H' x' ns h1 h2 h3 h4 (by omega) h6⟩
  have n2 : ¬ c = 85 := fun z => k2 (decide_eq_true ((sign_eq e_U).mpr z))
  have e : c = 82 := by omega
  subst e
  exact ⟨_, rfl, p, dx, _, rfl, hp, ff_no _ _ (by decide +kernel) (by decide +kernel), H0, p, x, ms, rfl, fr, fx, Lx, zx, zm, q⟩
end
section
variable {P : Program} {w : World} {K : PySem.W.Frag} {mg : Str → Option Value} {base : Heap} {f : Addr} {fd : FuncData}
theorem ok_Ftake_twist {C : Addr} (F : Fun K "take_twist" "Front.take_twist" s_Ftake_twist f fd) (T : TxF K mg C) (D_make : MDfn P w K mg base C "make" 1 ["self", "back", "old", "new"] (spMake C)) (D_is_now : MDfn P w K mg base C "is_now" 1 ["self", "text"] (spNow C)) (D_ends_with : MDfn P w K mg base C "ends_with" 1 ["self", "text"] (spEnds C)) : FnOk P w K mg base CX0 2 f fd ["self"] (spStep C 84) := by
  obtain ⟨g_make, fd_make, G_make, B_make, M_make⟩ := D_make.ex
  obtain ⟨g_is_now, fd_is_now, G_is_now, B_is_now, M_is_now⟩ := D_is_now.ex
  obtain ⟨g_ends_with, fd_ends_with, G_ends_with, B_ends_with, M_ends_with⟩ := D_ends_with.ex
  refine F.ok sc_Ftake_twist (fun vs H Q E h => ?_) (fun cdv A outer s H vs Q E hr h => ?_)
  · obtain ⟨H0, p, x, ms, rfl, fr, fx, Lx, zx, zm, q⟩ := h
    rfl
  obtain ⟨H0, p, x, ms, rfl, fr, fx, Lx, zx, zm, q⟩ := h
  refine ⟨_, pss_cons (ps_expr (pe_bm PySem.F.plainAttrs_list PySem.F.slot_list_append PySem.F.type_list_append mt_append (pe_fld (pv 0) rfl) (pa_cons pe_str pa_nil))) (pss_one (ps_if (pt_val (pe_meth (pv 0) T.cl M_ends_with G_ends_with (hr.mono (by decide)) B_ends_with .nil pass0 (pa_cons pe_str pa_nil))) (pss_one (ps_expr (pe_meth (pv 0) T.cl M_make G_make (hr.mono (by decide)) B_make .nil pass0 (pa_cons pe_int (pa_cons pe_str (pa_cons pe_str pa_nil)))))) (pss_one (ps_if (pt_val (pe_meth (pv 0) T.cl M_ends_with G_ends_with (hr.mono (by decide)) B_ends_with .nil pass0 (pa_cons pe_str pa_nil))) (pss_cons (ps_expr (pe_meth (pv 0) T.cl M_make G_make (hr.mono (by decide)) B_make .nil pass0 (pa_cons pe_int (pa_cons pe_str (pa_cons pe_str pa_nil))))) (pss_one (ps_expr (pe_meth (pv 0) T.cl M_make G_make (hr.mono (by decide)) B_make .nil pass0 (pa_cons pe_int (pa_cons pe_str (pa_cons pe_str pa_nil))))))) (pss_one (ps_if (pt_val (pe_meth (pv 0) T.cl M_is_now G_is_now (hr.mono (by decide)) B_is_now .nil pass0 (pa_cons pe_str pa_nil))) (pss_cons (ps_expr (pe_meth (pv 0) T.cl M_make G_make (hr.mono (by decide)) B_make .nil pass0 (pa_cons pe_int (pa_cons pe_str (pa_cons pe_str pa_nil))))) (pss_one (ps_expr (pe_meth (pv 0) T.cl M_make G_make (hr.mono (by decide)) B_make .nil pass0 (pa_cons pe_int (pa_cons pe_str (pa_cons pe_str pa_nil))))))) (pss_one (ps_if (pt_val (pe_meth (pv 0) T.cl M_is_now G_is_now (hr.mono (by decide)) B_is_now .nil pass0 (pa_cons pe_str pa_nil))) (pss_cons (ps_expr (pe_meth (pv 0) T.cl M_make G_make (hr.mono (by decide)) B_make .nil pass0 (pa_cons pe_int (pa_cons pe_str (pa_cons pe_str pa_nil))))) (pss_cons (ps_expr (pe_meth (pv 0) T.cl M_make G_make (hr.mono (by decide)) B_make .nil pass0 (pa_cons pe_int (pa_cons pe_str (pa_cons pe_str pa_nil))))) (pss_cons (ps_expr (pe_meth (pv 0) T.cl M_make G_make (hr.mono (by decide)) B_make .nil pass0 (pa_cons pe_int (pa_cons pe_str (pa_cons pe_str pa_nil))))) (pss_one (ps_expr (pe_meth (pv 0) T.cl M_make G_make (hr.mono (by decide)) B_make .nil pass0 (pa_cons pe_int (pa_cons pe_str (pa_cons pe_str pa_nil))))))))) pss_nil)))))))), ?_⟩
  rw [e_T, e_UT2, e_TRTRT, e_RT2, e_TRT2, e_empty, e_RTR, e_RR, e_six]
  obtain ⟨dx, a, m, xs, hp, ha, hm, _, _⟩ := fr.at
  have zc : (chs x).length = x.length := List.length_map ..
  refine ⟨_, rfl, p, C, dx, _, _, rfl, hp, T.cl, T.nL, ff_letters _ _, .inl ⟨rfl, _, SqL.of ha⟩, a, _, _, rfl, rfl, ha, Nat.lt_of_lt_of_le (show (chs x).length < 16777216 by omega) sizeLine_big, ?_⟩
  rw [chs_snoc]
  have f1 := fr.letters hp (x ++ [84])
  have Lx1 : Lets (x ++ [84]) := lets_app Lx (lets_by rfl)
  have z1 : (x ++ [84]).length ≤ 1001 := by rw [List.length_append]; show _ + 1 ≤ _; omega
  obtain ⟨dx1, a1, m1, xs1, hp1, _, _, _, _⟩ := f1.at
  refine ⟨_, rfl, p, dx1, _, rfl, hp1, ff_no _ _ (by decide +kernel) (by decide +kernel), H0, p, _, [85, 84], _, rfl, f1, Lx1, lets_by rfl, by decide, by decide, by omega, fun G1 s1 => ⟨_, rfl, ?_⟩⟩
  have f2 := f1.same s1
  refine ite2 (fun k => ?_) (fun k => ?_)
  · obtain ⟨z, rfl⟩ := two_end.mp (of_decide_eq_true k)
    rw [List.length_append] at zx
    obtain ⟨dx3, a3, m3, xs3, hp3, _, _, _, _⟩ := f2.at
    have c3 : FrAt C H0 _ p (z ++ [85, 84] ++ []) _ := f2.cast (by simp)
    refine ⟨_, rfl, p, dx3, _, rfl, hp3, ff_no _ _ (by decide +kernel) (by decide +kernel), H0, p, z, [85, 84], [], [], _, rfl, c3, (by first | omega | (simp; omega) | simp), (by decide), (by first | omega | (simp; omega) | simp), fun G3 f3 => ?_⟩
    refine q G3 z [⟨(z.length : Int), [85, 84], []⟩] (f3.cast (by simp)) ((lead_UT z).cast (by simp) rfl) (fst_offU fx) ?_ (by show 1 ≤ 4; decide) (fit_by rfl)
    rw [wt_app]
    omega
  have hU : ∀ z, x ≠ z ++ [85] := fun z e => k (decide_eq_true (two_end.mpr ⟨z, e⟩))
  obtain ⟨dx2, a2, m2, xs2, hp2, _, _, _, _⟩ := f2.at
  refine ⟨_, rfl, p, dx2, _, rfl, hp2, ff_no _ _ (by decide +kernel) (by decide +kernel), H0, p, _, [84, 82, 84, 82, 84], _, rfl, f2, Lx1, lets_by rfl, by decide, by decide, by omega, fun G2 s2 => ⟨_, rfl, ?_⟩⟩
  have f3 := f2.same s2
  refine ite2 (fun k => ?_) (fun k => ?_)
  · obtain ⟨z, ez⟩ := end_iff.mp (of_decide_eq_true k)
    have ex : x = z ++ [84, 82, 84, 82] := (last_ne (by rw [ez]; simp : x ++ [84] = (z ++ [84, 82, 84, 82]) ++ [84])).1
    subst ex
    rw [List.length_append] at zx
    obtain ⟨dx4, a4, m4, xs4, hp4, _, _, _, _⟩ := f3.at
    have c4 : FrAt C H0 _ p ((z ++ [84, 82, 84, 82, 84]) ++ [] ++ []) _ := f3.cast (by simp)
    refine ⟨_, rfl, p, dx4, _, rfl, hp4, ff_no _ _ (by decide +kernel) (by decide +kernel), H0, p, (z ++ [84, 82, 84, 82, 84]), [], [82, 82], [], _, rfl, c4, (by first | omega | (simp; omega) | simp), (by decide), (by first | omega | (simp; omega) | simp), fun G4 f4 => ?_⟩
    obtain ⟨dx5, a5, m5, xs5, hp5, _, _, _, _⟩ := f4.at
    have c5 : FrAt C H0 _ p (z ++ [84, 82, 84, 82, 84, 82] ++ [82]) _ := f4.cast (by simp)
    refine ⟨_, rfl, p, dx5, _, rfl, hp5, ff_no _ _ (by decide +kernel) (by decide +kernel), H0, p, z, [84, 82, 84, 82, 84, 82], [], [82], _, rfl, c5, (by first | omega | (simp; omega) | simp), (by decide), (by first | omega | (simp; omega) | simp), fun G5 f5 => ?_⟩
    refine q G5 (z ++ [82]) [⟨((z ++ [84, 82, 84, 82, 84]).length : Int), [], [82, 82]⟩, ⟨(z.length : Int), [84, 82, 84, 82, 84, 82], []⟩] ((f5.cast (by simp)).castM (by simp)) ((lead_TRTRT z).cast (by simp) rfl) (fst_offTRTR fx) ?_ (by show 2 ≤ 4; decide) (fit_by rfl)
    rw [wt_app, wt_app]
    show wt z + 1 ≤ _
    omega
  have hE : ∀ z, x ≠ z ++ [84, 82, 84, 82] := fun z e => k (decide_eq_true (end_iff.mpr ⟨z, by rw [e]; simp⟩))
  obtain ⟨dx3, a3, m3, xs3, hp3, _, _, _, _⟩ := f3.at
  refine ⟨_, rfl, p, dx3, _, rfl, hp3, ff_no _ _ (by decide +kernel) (by decide +kernel), H0, p, _, [82, 84], _, rfl, f3, Lx1, lets_by rfl, by decide, by omega, fun G3 s3 => ⟨_, rfl, ?_⟩⟩
  have f4 := f3.same s3
  refine ite2 (fun k => ?_) (fun k => ?_)
  · have ex := (last_ne (y := [82]) (of_decide_eq_true k)).1
    subst ex
    obtain ⟨dx4, a4, m4, xs4, hp4, _, _, _, _⟩ := f4.at
    have c4 : FrAt C H0 _ p ([82, 84] ++ [] ++ []) _ := f4.cast (by simp)
    refine ⟨_, rfl, p, dx4, _, rfl, hp4, ff_no _ _ (by decide +kernel) (by decide +kernel), H0, p, [82, 84], [], [82, 82], [], _, rfl, c4, (by first | omega | (simp; omega) | simp), (by decide), (by first | omega | (simp; omega) | simp), fun G4 f5 => ?_⟩
    obtain ⟨dx5, a5, m5, xs5, hp5, _, _, _, _⟩ := f5.at
    have c5 : FrAt C H0 _ p ([] ++ [82, 84, 82] ++ [82]) _ := f5.cast (by simp)
    refine ⟨_, rfl, p, dx5, _, rfl, hp5, ff_no _ _ (by decide +kernel) (by decide +kernel), H0, p, [], [82, 84, 82], [], [82], _, rfl, c5, (by first | omega | (simp; omega) | simp), (by decide), (by first | omega | (simp; omega) | simp), fun G5 f6 => ?_⟩
    exact q G5 [82] [⟨2, [], [82, 82]⟩, ⟨0, [82, 84, 82], []⟩] (f6.castM (by simp)) lead_RT .C (by decide) (by decide) (fit_by rfl)
  have hR : x ≠ [82] := fun e => k (decide_eq_true (by rw [e]; rfl))
  obtain ⟨dx4, a4, m4, xs4, hp4, _, _, _, _⟩ := f4.at
  refine ⟨_, rfl, p, dx4, _, rfl, hp4, ff_no _ _ (by decide +kernel) (by decide +kernel), H0, p, _, [84, 82, 84], _, rfl, f4, Lx1, lets_by rfl, by decide, by omega, fun G4 s4 => ⟨_, rfl, ?_⟩⟩
  have f5 := f4.same s4
  refine ite2 (fun k => ?_) (fun k => ?_)
  · have ex := (last_ne (y := [84, 82]) (of_decide_eq_true k)).1
    subst ex
    obtain ⟨dx5, a5, m5, xs5, hp5, _, _, _, _⟩ := f5.at
    have c5 : FrAt C H0 _ p ([] ++ [] ++ [84, 82, 84]) _ := f5.cast (by simp)
    refine ⟨_, rfl, p, dx5, _, rfl, hp5, ff_no _ _ (by decide +kernel) (by decide +kernel), H0, p, [], [], [82, 84, 82], [84, 82, 84], _, rfl, c5, (by first | omega | (simp; omega) | simp), (by decide), (by first | omega | (simp; omega) | simp), fun G5 f6 => ?_⟩
    obtain ⟨dx6, a6, m6, xs6, hp6, _, _, _, _⟩ := f6.at
    have c6 : FrAt C H0 _ p ([82, 84, 82, 84, 82, 84] ++ [] ++ []) _ := f6.cast (by simp)
    refine ⟨_, rfl, p, dx6, _, rfl, hp6, ff_no _ _ (by decide +kernel) (by decide +kernel), H0, p, [82, 84, 82, 84, 82, 84], [], [82, 82], [], _, rfl, c6, (by first | omega | (simp; omega) | simp), (by decide), (by first | omega | (simp; omega) | simp), fun G6 f7 => ?_⟩
    obtain ⟨dx7, a7, m7, xs7, hp7, _, _, _, _⟩ := f7.at
    have c7 : FrAt C H0 _ p ([82] ++ [84, 82, 84, 82, 84, 82] ++ [82]) _ := f7.cast (by simp)
    refine ⟨_, rfl, p, dx7, _, rfl, hp7, ff_no _ _ (by decide +kernel) (by decide +kernel), H0, p, [82], [84, 82, 84, 82, 84, 82], [], [82], _, rfl, c7, (by first | omega | (simp; omega) | simp), (by decide), (by first | omega | (simp; omega) | simp), fun G7 f8 => ?_⟩
    obtain ⟨dx8, a8, m8, xs8, hp8, _, _, _, _⟩ := f8.at
    have c8 : FrAt C H0 _ p ([] ++ [82, 82] ++ []) _ := f8.cast (by simp)
    refine ⟨_, rfl, p, dx8, _, rfl, hp8, ff_no _ _ (by decide +kernel) (by decide +kernel), H0, p, [], [82, 82], [], [], _, rfl, c8, (by first | omega | (simp; omega) | simp), (by decide), (by first | omega | (simp; omega) | simp), fun G8 f9 => ?_⟩
    exact q G8 [] [⟨0, [], [82, 84, 82]⟩, ⟨6, [], [82, 82]⟩, ⟨1, [84, 82, 84, 82, 84, 82], []⟩, ⟨0, [82, 82], []⟩] (f9.castM (by simp)) lead_TRT (fst_up .nil 0) (by decide) (by decide) (fit_by rfl)
  have hTR : x ≠ [84, 82] := fun e => k (decide_eq_true (by rw [e]; rfl))
  refine q G4 (x ++ [84]) [] (f5.castM (by simp)) (Lead.refl _) (fst_onT fx hU hE hR hTR) ?_ (by decide) (fit_by rfl)
  rw [wt_app]
  show wt x + 1 ≤ _
  omega
end
section
variable {P : Program} {w : World} {K : PySem.W.Frag} {mg : Str → Option Value} {base : Heap} {f : Addr} {fd : FuncData}
theorem ok_Ftake_turn {C : Addr} (F : Fun K "take_turn" "Front.take_turn" s_Ftake_turn f fd) (T : TxF K mg C) (D_leave_untwists : MDfn P w K mg base C "leave_untwists" 2 ["self"] (spLeave C)) (D_spread_untwist : MDfn P w K mg base C "spread_untwist" 2 ["self"] (spSpread C)) (D_make : MDfn P w K mg base C "make" 1 ["self", "back", "old", "new"] (spMake C)) (D_ends_with : MDfn P w K mg base C "ends_with" 1 ["self", "text"] (spEnds C)) (y_range : mg "range" = none) : FnOk P w K mg base CX0 3 f fd ["self"] (spStepR C) := by
  obtain ⟨g_leave_untwists, fd_leave_untwists, G_leave_untwists, B_leave_untwists, M_leave_untwists⟩ := D_leave_untwists.ex
  obtain ⟨g_spread_untwist, fd_spread_untwist, G_spread_untwist, B_spread_untwist, M_spread_untwist⟩ := D_spread_untwist.ex
  obtain ⟨g_make, fd_make, G_make, B_make, M_make⟩ := D_make.ex
  obtain ⟨g_ends_with, fd_ends_with, G_ends_with, B_ends_with, M_ends_with⟩ := D_ends_with.ex
  refine F.ok sc_Ftake_turn (fun vs H Q E h => ?_) (fun cdv A outer s H vs Q E hr h => ?_)
  · obtain ⟨H0, p, x, ms, rfl, fr, fx, Lx, zx, zm, q⟩ := h
    rfl
  obtain ⟨H0, p, x, ms, rfl, fr, fx, Lx, zx, zm, q⟩ := h
  refine ⟨_, pss_cons (ps_set (i := 1) sc_Ftake_turn.nd rfl (.inl rfl) (pe_meth0 (pv 0) T.cl M_leave_untwists G_leave_untwists (hr.mono (by decide)) B_leave_untwists .nil pass0))
    (pss_cons (ps_for PassesOwn.never rfl (pi_range1 rfl y_range (pa_cons (pv 1) pa_nil)) (pg_name (i := 2) sc_Ftake_turn.nd rfl (.inl rfl)) (pss_cons (ps_expr (pe_bm PySem.F.plainAttrs_list PySem.F.slot_list_append PySem.F.type_list_append mt_append (pe_fld (pv 0) rfl) (pa_cons pe_str pa_nil))) (pss_one (ps_expr (pe_meth0 (pv 0) T.cl M_spread_untwist G_spread_untwist (hr.mono (by decide)) B_spread_untwist .nil pass0)))))
    (pss_cons (ps_expr (pe_bm PySem.F.plainAttrs_list PySem.F.slot_list_append PySem.F.type_list_append mt_append (pe_fld (pv 0) rfl) (pa_cons pe_str pa_nil))) (pss_one (ps_if (pt_val (pe_meth (pv 0) T.cl M_ends_with G_ends_with (hr.mono (by decide)) B_ends_with .nil pass0 (pa_cons pe_str pa_nil))) (pss_one (ps_expr (pe_meth (pv 0) T.cl M_make G_make (hr.mono (by decide)) B_make .nil pass0 (pa_cons pe_int (pa_cons pe_str (pa_cons pe_str pa_nil)))))) pss_nil)))), ?_⟩
  rw [e_R, e_U, e_RR, e_empty]
  obtain ⟨l, m, rfl, nU, cs⟩ := fst_left fx
  obtain ⟨dx, a, mm, xs, hp, ha, hm, _, _⟩ := fr.at
  have zl : l.length + m ≤ 1000 := by rw [List.length_append, List.length_replicate] at zx; exact zx
  have Ll : Lets l := fun c hc => Lx c (List.mem_append_left _ hc)
  refine ⟨_, rfl, p, dx, _, rfl, hp, ff_no _ _ (by decide +kernel) (by decide +kernel), H0, p, l, m, ms, rfl, fr, nU, Ll, by omega, fun G fG => ?_⟩
  have wx : wt (l ++ List.replicate m 85) = wt l + 3 * m := by rw [wt_app, wt_U]
  refine ⟨_, rfl, (m : Int), rfl, by omega, by omega, for_range (lo := 0) (n := (m : Int).toNat) (fun i σ F => ∃ (y : List Nat) (ns : List Mv) (x2 : Option V), σ = [some (.ref p), some (.int (m : Int)), x2] ∧ FrAt C H0 F p y (ms ++ ns) ∧ Lead (l ++ List.replicate i 85) ns y ∧ ns.length = 3 * i ∧ FitAll ns 6 ∧ Lets y ∧ y.length ≤ l.length + 3 * i ∧ (i = 0 → y = l) ∧ (0 < m → Mid l i y)) ?_ ?_ ?_⟩
  · refine ⟨l, [], _, rfl, fG.castM (by simp), (Lead.refl l).cast (by simp) rfl, rfl, fit_by rfl, Ll, by omega, fun _ => rfl, fun h => ?_⟩
    rcases cs with h0 | hp | ⟨w, hw, e⟩
    · omega
    · exact .inr ⟨rfl, hp, rfl⟩
    · refine .inl ⟨w, hw, e, ?_⟩
      rw [e, wt_app]
      show wt w + 2 ≤ wt w + 2 + _
      omega
  · rintro i σ F hi ⟨y, ns, x2, rfl, fF, ld, nl, ft, Ly, zy, _, md⟩
    have hi' : i < m := by omega
    have md := md (by omega)
    obtain ⟨dx1, a1, m1, xs1, hp1, ha1, _, _, _⟩ := fF.at
    have zc : (chs y).length = y.length := List.length_map ..
    refine ⟨_, rfl, p, C, dx1, _, _, rfl, hp1, T.cl, T.nL, ff_letters _ _, .inl ⟨rfl, _, SqL.of ha1⟩, a1, _, _, rfl, rfl, ha1, Nat.lt_of_lt_of_le (show (chs y).length < 16777216 by omega) sizeLine_big, ?_⟩
    rw [chs_snoc]
    have f1 := fF.letters hp1 (y ++ [85])
    obtain ⟨dx2, a2, m2, xs2, hp2, _, _, _, _⟩ := f1.at
    refine ⟨_, rfl, p, dx2, _, rfl, hp2, ff_no _ _ (by decide +kernel) (by decide +kernel), H0, p, y, _, rfl, f1, md.ready, Ly, by omega, by rw [List.length_append]; omega, fun F2 l' ns' f2 ld2 e2 nl2 ft2 => ?_⟩
    refine ⟨l', ns ++ ns', _, rfl, f2.castM (by rw [List.append_assoc]), ?_, by rw [List.length_append]; omega, ?_, ?_, ?_, fun h => by omega, fun _ => md.next e2⟩
    · refine Lead.trans ((ld.more [85]).cast ?_ rfl) ld2
      rw [List.append_assoc, rep_snoc]
    · intro v hv
      rcases List.mem_append.mp hv with hv | hv
      · exact ft v hv
      · exact ft2 v hv
    · rcases e2 with ⟨rfl, rfl⟩ | ⟨z, rfl, rfl⟩
      · exact lets_by rfl
      · exact lets_app (fun c hc => Ly c (List.mem_append_left _ hc)) (lets_by rfl)
    · rcases e2 with ⟨rfl, rfl⟩ | ⟨z, rfl, rfl⟩
      · show 2 ≤ _
        omega
      · rw [List.length_append] at zy ⊢
        have : ([82] : List Nat).length = 1 := rfl
        have : ([84, 82, 84, 82] : List Nat).length = 4 := rfl
        omega
  · rintro σ F ⟨y, ns, x2, rfl, fF, ld, nl, ft, Ly, zy, y0, md⟩
    rw [Int.toNat_natCast] at ld nl zy y0 md
    obtain ⟨dx1, a1, m1, xs1, hp1, ha1, _, _, _⟩ := fF.at
    have zc : (chs y).length = y.length := List.length_map ..
    refine ⟨_, rfl, p, C, dx1, _, _, rfl, hp1, T.cl, T.nL, ff_letters _ _, .inl ⟨rfl, _, SqL.of ha1⟩, a1, _, _, rfl, rfl, ha1, Nat.lt_of_lt_of_le (show (chs y).length < 16777216 by omega) sizeLine_big, ?_⟩
    rw [chs_snoc]
    have f1 := fF.letters hp1 (y ++ [82])
    have Ly1 : Lets (y ++ [82]) := lets_app Ly (lets_by rfl)
    obtain ⟨dx2, a2, m2, xs2, hp2, _, _, _, _⟩ := f1.at
    refine ⟨_, rfl, p, dx2, _, rfl, hp2, ff_no _ _ (by decide +kernel) (by decide +kernel), H0, p, _, [82, 82], _, rfl, f1, Ly1, lets_by rfl, by decide, by decide, by rw [List.length_append]; show _ + 1 ≤ _; omega, fun G2 s2 => ⟨_, rfl, ?_⟩⟩
    have f2 := f1.same s2
    have ld1 : Lead (l ++ List.replicate m 85 ++ [82]) ns (y ++ [82]) := ld.more [82]
    refine ite2 (fun k => ?_) (fun k => ?_)
    · obtain ⟨z, rfl⟩ := two_end.mp (of_decide_eq_true k)
      rw [List.length_append] at zy
      obtain ⟨dx3, a3, m3, xs3, hp3, _, _, _, _⟩ := f2.at
      have c3 : FrAt C H0 _ p (z ++ [82, 82] ++ []) _ := f2.cast (by simp)
      refine ⟨_, rfl, p, dx3, _, rfl, hp3, ff_no _ _ (by decide +kernel) (by decide +kernel), H0, p, z, [82, 82], [], [], _, rfl, c3, (by first | omega | (simp; omega) | simp), (by decide), (by first | omega | (simp; omega) | simp), fun G3 f3 => ?_⟩
      refine q G3 z (ns ++ [⟨(z.length : Int), [82, 82], []⟩]) ((f3.cast (by simp)).castM (by simp)) (Lead.trans ld1 ((lead_RR z).cast (by simp) rfl)) ?_ ?_ ?_ ?_
      · by_cases m0 : 0 < m
        · rcases md m0 with ⟨w, hw, e, _⟩ | ⟨e0, _, _⟩
          · rw [show w ++ [84, 82] = (w ++ [84]) ++ [82] by simp] at e
            rw [(last_ne e).1]
            exact fst_up hw 1
          · omega
        · have e0 : m = 0 := by omega
          subst e0
          rw [List.replicate_zero, List.append_nil, ← y0 rfl] at fx
          exact fst_offR fx
      · rw [wx]
        by_cases m0 : 0 < m
        · rcases md m0 with ⟨w, hw, e, wl⟩ | ⟨e0, _, _⟩
          · rw [show w ++ [84, 82] = (w ++ [84]) ++ [82] by simp] at e
            rw [(last_ne e).1, wt_app]
            show wt w + 1 ≤ _
            omega
          · omega
        · have e0 : m = 0 := by omega
          rw [← y0 e0, wt_app]
          omega
      · rw [wx, List.length_append]
        show _ + 1 ≤ _
        omega
      · intro v hv
        rcases List.mem_append.mp hv with hv | hv
        · exact ft v hv
        · exact fit_by (ns := [⟨(z.length : Int), [82, 82], []⟩]) rfl v hv
    · have hR : ∀ z, y ≠ z ++ [82] := fun z e => k (decide_eq_true (two_end.mpr ⟨z, e⟩))
      have m0 : m = 0 := by
        refine Decidable.byContradiction fun z => ?_
        rcases md (by omega) with ⟨w, hw, e, _⟩ | ⟨e0, _, _⟩
        · exact hR (w ++ [84]) (by rw [e]; simp)
        · omega
      subst m0
      have yl := y0 rfl
      subst yl
      rw [List.replicate_zero, List.append_nil] at fx
      refine q G2 (y ++ [82]) ns f2 ld1 (fst_onR fx hR nU) ?_ (by omega) ft
      rw [wx, wt_app]
      show wt y + 1 ≤ _
      omega
end
section
variable {P : Program} {w : World} {K : PySem.W.Frag} {mg : Str → Option Value} {base : Heap} {f : Addr} {fd : FuncData}
theorem ok_Ffinish {C : Addr} (F : Fun K "finish" "Front.finish" s_Ffinish f fd) (T : TxF K mg C) (D_leave_untwists : MDfn P w K mg base C "leave_untwists" 2 ["self"] (spLeave C)) (D_is_now : MDfn P w K mg base C "is_now" 1 ["self", "text"] (spNow C)) (D_make : MDfn P w K mg base C "make" 1 ["self", "back", "old", "new"] (spMake C)) (D_ends_with : MDfn P w K mg base C "ends_with" 1 ["self", "text"] (spEnds C)) : FnOk P w K mg base CX0 3 f fd ["self"] (spFinish C) := by
  obtain ⟨g_leave_untwists, fd_leave_untwists, G_leave_untwists, B_leave_untwists, M_leave_untwists⟩ := D_leave_untwists.ex
  obtain ⟨g_is_now, fd_is_now, G_is_now, B_is_now, M_is_now⟩ := D_is_now.ex
  obtain ⟨g_make, fd_make, G_make, B_make, M_make⟩ := D_make.ex
  obtain ⟨g_ends_with, fd_ends_with, G_ends_with, B_ends_with, M_ends_with⟩ := D_ends_with.ex
  refine F.ok sc_Ffinish (fun vs H Q E h => ?_) (fun cdv A outer s H vs Q E hr h => ?_)
  · obtain ⟨H0, p, x, ms, rfl, fr, fx, Lx, zx, zm, q⟩ := h
    rfl
  obtain ⟨H0, p, x, ms, rfl, fr, fx, Lx, zx, zm, q⟩ := h
  refine ⟨_, pss_cons (ps_expr (pe_meth0 (pv 0) T.cl M_leave_untwists G_leave_untwists (hr.mono (by decide)) B_leave_untwists .nil pass0))
    (pss_cons (ps_while PassesOwn.never (pt_val (pe_meth (pv 0) T.cl M_ends_with G_ends_with (hr.mono (by decide)) B_ends_with .nil pass0 (pa_cons pe_str pa_nil))) (pss_cons (ps_expr (pe_meth (pv 0) T.cl M_make G_make (hr.mono (by decide)) B_make .nil pass0 (pa_cons pe_int (pa_cons pe_str (pa_cons pe_str pa_nil))))) (pss_cons (ps_expr (pe_meth (pv 0) T.cl M_make G_make (hr.mono (by decide)) B_make .nil pass0 (pa_cons pe_int (pa_cons pe_str (pa_cons pe_str pa_nil))))) (pss_cons (ps_expr (pe_meth (pv 0) T.cl M_make G_make (hr.mono (by decide)) B_make .nil pass0 (pa_cons pe_int (pa_cons pe_str (pa_cons pe_str pa_nil))))) (pss_one (ps_expr (pe_meth0 (pv 0) T.cl M_leave_untwists G_leave_untwists (hr.mono (by decide)) B_leave_untwists .nil pass0)))))))
    (pss_one (ps_if (pt_val (pe_meth (pv 0) T.cl M_is_now G_is_now (hr.mono (by decide)) B_is_now .nil pass0 (pa_cons pe_str pa_nil))) (pss_cons (ps_expr (pe_meth (pv 0) T.cl M_make G_make (hr.mono (by decide)) B_make .nil pass0 (pa_cons pe_int (pa_cons pe_str (pa_cons pe_str pa_nil))))) (pss_cons (ps_expr (pe_meth (pv 0) T.cl M_make G_make (hr.mono (by decide)) B_make .nil pass0 (pa_cons pe_int (pa_cons pe_str (pa_cons pe_str pa_nil))))) (pss_one (ps_expr (pe_meth (pv 0) T.cl M_make G_make (hr.mono (by decide)) B_make .nil pass0 (pa_cons pe_int (pa_cons pe_str (pa_cons pe_str pa_nil)))))))) pss_nil))), ?_⟩
  rw [e_RTR, e_TU, e_RR, e_six, e_empty, e_TR2, e_UT2]
  obtain ⟨l, m, rfl, nU, fin⟩ := Fin.start fx
  obtain ⟨dx, a, mm, xs, hp, ha, hm, _, _⟩ := fr.at
  have zl : l.length + m ≤ 1000 := by rw [List.length_append, List.length_replicate] at zx; exact zx
  have Ll : Lets l := fun c hc => Lx c (List.mem_append_left _ hc)
  refine ⟨_, rfl, p, dx, _, rfl, hp, ff_no _ _ (by decide +kernel) (by decide +kernel), H0, p, l, m, ms, rfl, fr, nU, Ll, by omega, fun G fG => ?_⟩
  have lx : (l ++ List.replicate m 85).length = l.length + m := by rw [List.length_append, List.length_replicate]
  rw [lx] at q
  refine while_by (fun σ F => ∃ (y : List Nat) (k : Nat) (ns : List Mv), σ = [some (.ref p)] ∧ FrAt C H0 F p y (ms ++ ns) ∧ Lead (l ++ List.replicate m 85) ns (y ++ List.replicate k 85) ∧ Fin y k ∧ (∀ z, y ≠ z ++ [85]) ∧ Lets y ∧ ns.length + y.length ≤ l.length ∧ FitAll ns 6) (fun _ F => lenAt F p) ⟨l, m, [], rfl, fG.castM (by simp), Lead.refl _, fin, nU, Ll, by show 0 + _ ≤ _; omega, fit_by rfl⟩ ?_ ?_
  · rintro σ F ⟨y, k, ns, rfl, fF, ld, fn, nUy, Ly, zy, ft⟩
    obtain ⟨dx1, a1, m1, xs1, hp1, _, _, _, _⟩ := fF.at
    refine ⟨_, rfl, p, dx1, _, rfl, hp1, ff_no _ _ (by decide +kernel) (by decide +kernel), H0, p, _, [82, 84, 82], _, rfl, fF, Ly, lets_by rfl, by decide, by decide, by omega, fun G1 s1 => ⟨_, rfl, ?_⟩⟩
    have f1 := fF.same s1
    refine ite2 (fun t => ?_) (fun t => ?_)
    · obtain ⟨z, ez⟩ := end_iff.mp (of_decide_eq_true t)
      obtain ⟨u, rfl, fn2⟩ := fn.turn ez
      subst ez
      have zu : u.length + 4 ≤ l.length := by
        rw [List.length_append, List.length_append] at zy
        have : ([84] : List Nat).length = 1 := rfl
        have : ([82, 84, 82] : List Nat).length = 3 := rfl
        omega
      have zn : ns.length ≤ 1000 := by omega
      obtain ⟨dx3, a3, m3, xs3, hp3, _, _, _, _⟩ := f1.at
      have c3 : FrAt C H0 _ p ((u ++ [84, 82, 84, 82]) ++ [] ++ []) _ := f1.cast (by simp)
      refine ⟨_, rfl, p, dx3, _, rfl, hp3, ff_no _ _ (by decide +kernel) (by decide +kernel), H0, p, (u ++ [84, 82, 84, 82]), [], [84, 85], [], _, rfl, c3, (by first | omega | (simp; omega) | simp), (by decide), (by first | omega | (simp; omega) | simp), fun G3 f3 => ?_⟩
      obtain ⟨dx4, a4, m4, xs4, hp4, _, _, _, _⟩ := f3.at
      have c4 : FrAt C H0 _ p ((u ++ [84, 82, 84, 82, 84]) ++ [] ++ [85]) _ := f3.cast (by simp)
      refine ⟨_, rfl, p, dx4, _, rfl, hp4, ff_no _ _ (by decide +kernel) (by decide +kernel), H0, p, (u ++ [84, 82, 84, 82, 84]), [], [82, 82], [85], _, rfl, c4, (by first | omega | (simp; omega) | simp), (by decide), (by first | omega | (simp; omega) | simp), fun G4 f4 => ?_⟩
      obtain ⟨dx5, a5, m5, xs5, hp5, _, _, _, _⟩ := f4.at
      have c5 : FrAt C H0 _ p (u ++ [84, 82, 84, 82, 84, 82] ++ [82, 85]) _ := f4.cast (by simp)
      refine ⟨_, rfl, p, dx5, _, rfl, hp5, ff_no _ _ (by decide +kernel) (by decide +kernel), H0, p, u, [84, 82, 84, 82, 84, 82], [], [82, 85], _, rfl, c5, (by first | omega | (simp; omega) | simp), (by decide), (by first | omega | (simp; omega) | simp), fun G5 f5 => ?_⟩
      have c6 : FrAt C H0 _ p (u ++ [82] ++ List.replicate 1 85) _ := f5.cast (by simp)
      obtain ⟨dx6, a6, m6, xs6, hp6, _, _, _, _⟩ := c6.at
      have nU2 : ∀ z, u ++ [82] ≠ z ++ [85] := fun z e => absurd (last_ne e).2 (by decide)
      have Lu : Lets (u ++ [82]) := lets_app (fun c hc => Ly c (by simp [hc])) (lets_by rfl)
      refine ⟨_, rfl, p, dx6, _, rfl, hp6, ff_no _ _ (by decide +kernel) (by decide +kernel), H0, p, _, 1, _, rfl, c6, nU2, Lu, by rw [List.length_append, List.length_append]; show u.length + 1 + 1 ≤ _; omega, fun G7 f7 => ⟨⟨u ++ [82], k + 1, ns ++ [⟨((u ++ [84, 82, 84, 82]).length : Int), [], [84, 85]⟩, ⟨((u ++ [84, 82, 84, 82, 84]).length : Int), [], [82, 82]⟩, ⟨(u.length : Int), [84, 82, 84, 82, 84, 82], []⟩], rfl, f7.castM (by simp), ?_, fn2, nU2, Lu, ?_, ?_⟩, ?_⟩⟩
      · refine Lead.trans (ld.cast rfl ?_) (((lead_finish u).more (List.replicate k 85)).cast rfl ?_)
        · simp
        · rw [List.replicate_succ]
          simp
      · rw [List.length_append, List.length_append] at zy
        have : ([84] : List Nat).length = 1 := rfl
        have : ([82, 84, 82] : List Nat).length = 3 := rfl
        simp only [List.length_append, List.length_cons, List.length_nil]
        omega
      · intro v hv
        rcases List.mem_append.mp hv with hv | hv
        · exact ft v hv
        · simp only [List.mem_cons, List.not_mem_nil, or_false] at hv
          rcases hv with rfl | rfl | rfl <;> exact ⟨by simp, by simp⟩
      · rw [lenAt_is f7, lenAt_is fF, List.length_append, List.length_append, List.length_append]
        show u.length + 1 < u.length + 1 + 3
        omega
    · have no : ∀ z, y ≠ z ++ [82, 84, 82] := fun z e => t (decide_eq_true (end_iff.mpr ⟨z, e⟩))
      obtain ⟨dx2, a2, m2, xs2, hp2, _, _, _, _⟩ := f1.at
      refine ⟨_, rfl, p, dx2, _, rfl, hp2, ff_no _ _ (by decide +kernel) (by decide +kernel), H0, p, _, [84, 82], _, rfl, f1, Ly, lets_by rfl, by decide, by omega, fun G2 s2 => ⟨_, rfl, ?_⟩⟩
      have f2 := f1.same s2
      have zn : ns.length ≤ 1000 := by omega
      rcases fn.end no with rfl | ⟨fo, ne⟩
      · rw [decide_eq_true rfl]
        refine iteT ?_
        obtain ⟨dx3, a3, m3, xs3, hp3, _, _, _, _⟩ := f2.at
        have c3 : FrAt C H0 _ p ([] ++ [] ++ [84, 82]) _ := f2.cast (by simp)
        refine ⟨_, rfl, p, dx3, _, rfl, hp3, ff_no _ _ (by decide +kernel) (by decide +kernel), H0, p, [], [], [82, 84, 82], [84, 82], _, rfl, c3, (by first | omega | (simp; omega) | simp), (by decide), (by first | omega | (simp; omega) | simp), fun G3 f3 => ?_⟩
        obtain ⟨dx4, a4, m4, xs4, hp4, _, _, _, _⟩ := f3.at
        have c4 : FrAt C H0 _ p ([] ++ [] ++ [82, 84, 82, 84, 82]) _ := f3.cast (by simp)
        refine ⟨_, rfl, p, dx4, _, rfl, hp4, ff_no _ _ (by decide +kernel) (by decide +kernel), H0, p, [], [], [85, 84], [82, 84, 82, 84, 82], _, rfl, c4, (by first | omega | (simp; omega) | simp), (by decide), (by first | omega | (simp; omega) | simp), fun G4 f4 => ?_⟩
        obtain ⟨dx5, a5, m5, xs5, hp5, _, _, _, _⟩ := f4.at
        have c5 : FrAt C H0 _ p ([85] ++ [84, 82, 84, 82, 84, 82] ++ []) _ := f4.cast (by simp)
        refine ⟨_, rfl, p, dx5, _, rfl, hp5, ff_no _ _ (by decide +kernel) (by decide +kernel), H0, p, [85], [84, 82, 84, 82, 84, 82], [], [], _, rfl, c5, (by first | omega | (simp; omega) | simp), (by decide), (by first | omega | (simp; omega) | simp), fun G5 f5 => ?_⟩
        refine q G5 ([85] ++ List.replicate k 85) [85] (ns ++ [⟨0, [], [82, 84, 82]⟩, ⟨0, [], [85, 84]⟩, ⟨1, [84, 82, 84, 82, 84, 82], []⟩]) (f5.castM (by simp)) (Lead.trans ld (lead_finish0.more _)) (form_TR k) (by rw [List.length_append]; show ns.length + 3 ≤ _; omega) ?_
        intro v hv
        rcases List.mem_append.mp hv with hv | hv
        · exact ft v hv
        · exact fit_by (ns := [⟨0, [], [82, 84, 82]⟩, ⟨0, [], [85, 84]⟩, ⟨1, [84, 82, 84, 82, 84, 82], []⟩]) rfl v hv
      · rw [decide_eq_false ne]
        exact iteF (q G2 _ y ns f2 ld fo (by omega) ft)
  · rintro σ H' Q1 Q2 hm ⟨v, e1, aa, dd, fs, e2, e3, e4, h0', p', l', t', ms', e5, e6, e7, e8, e9, e10, e11, k⟩
    exact ⟨v, e1, aa, dd, fs, e2, e3, e4, h0', p', l', t', ms', e5, e6, e7, e8, e9, e10, e11, fun G s => by
      obtain ⟨b, e12, qq⟩ := k G s
      exact ⟨b, e12, hm _ _ qq⟩⟩
end
section
variable {P : Program} {w : World} {K : PySem.W.Frag} {mg : Str → Option Value} {base : Heap} {f : Addr} {fd : FuncData}
theorem ok_to_standard {C fI : Addr} {fdI : FuncData} (F : Fun K "to_standard" "to_standard" s_to_standard f fd) (T : TxF K mg C) (M : Mk K C fI) (GI : FnOk P w K mg base CX0 1 fI fdI ["self"] (spInitF C)) (bI : Binds K fdI ["self"] []) (D_take : MDfn P w K mg base C "take" 4 ["self", "letter"] (spTakeF C)) (D_finish : MDfn P w K mg base C "finish" 3 ["self"] (spFinish C)) : FnOk P w K mg base CX0 6 f fd ["dance"] spToStd := by
  obtain ⟨g_take, fd_take, G_take, B_take, M_take⟩ := D_take.ex
  obtain ⟨g_finish, fd_finish, G_finish, B_finish, M_finish⟩ := D_finish.ex
  refine F.ok sc_to_standard (fun vs H Q E h => ?_) (fun cdv A outer s H vs Q E hr h => ?_)
  · obtain ⟨l, rfl, _⟩ := h
    rfl
  obtain ⟨l, rfl, hl, zl, q⟩ := h
  have hr5 : Room 2 _ := hr.mono (by decide)
  refine ⟨_, pss_cons (ps_set (i := 1) sc_to_standard.nd rfl (.inl rfl) (pe_make0 M GI hr5 rfl T.mgC bI .nil pass0)) (pss_cons (ps_for PassesOwn.never rfl (pi_str (pv 0)) (pg_name (i := 2) sc_to_standard.nd rfl (.inl rfl)) (pss_one (ps_expr (pe_meth (pv 1) T.cl M_take G_take (hr.mono (by decide)) B_take .nil pass0 (pa_cons (pv 2) pa_nil)))))
    (pss_cons (ps_expr (pe_meth0 (pv 1) T.cl M_finish G_finish (hr.mono (by decide)) B_finish .nil pass0)) (pss_one (ps_ret (pe_fld (pv 1) rfl))))), ?_⟩
  intro p dx np ndx ndp
  have s0 : Same H (upd (upd H dx (.own p)) p (.ins C dx [])) := fun b o e => by
    rw [upd_ne (ne_of_none e np), upd_ne (ne_of_none e ndx)]
    exact e
  refine ⟨H, p, dx, rfl, s0, np, upd_same, fun H1 f0 => ⟨rfl, ?_⟩⟩
  refine ⟨_, rfl, _, rfl, for_str (l := l) (fun i σ F => ∃ (x : List Nat) (ms : List Mv) (x2 : Option V), σ = [some (.str (S l)), some (.ref p), x2] ∧ FrAt C H F p x ms ∧ Lead (l.take i) ms x ∧ Fst x ∧ wt x ≤ 3 * i ∧ ms.length ≤ 400 * i ∧ FitAll ms 6) ?_ ?_ ?_⟩
  · exact ⟨[], [], _, rfl, f0, Lead.refl _, fst_up .nil 0, Nat.zero_le _, Nat.zero_le _, fit_by rfl⟩
  · rintro i c σ F hc ⟨x, ms, x2, rfl, fF, ld, fx, wx, ml, ft⟩
    have hi : i < l.length := (List.getElem?_eq_some_iff.mp hc).1
    have xl : x.length ≤ wt x := by unfold wt; omega
    obtain ⟨dx1, a1, m1, xs1, hp1, _, _, _, _⟩ := fF.at
    refine ⟨_, rfl, p, dx1, _, rfl, hp1, ff_no _ _ (by decide +kernel) (by decide +kernel), _, rfl, H, p, x, ms, c, rfl, hl c (List.mem_of_getElem? hc), fF, fx, fst_lets fx, by omega, by omega, fun F2 x' ns f2 ld2 fx2 w2 n2 ft2 => ?_⟩
    refine ⟨x', ms ++ ns, _, rfl, f2, ?_, fx2, by omega, by rw [List.length_append]; omega, fun v hv => ?_⟩
    · rw [List.take_add_one, hc]
      exact Lead.trans (ld.more [c]) ld2
    · rcases List.mem_append.mp hv with hv | hv
      · exact ft v hv
      · exact ft2 v hv
  · rintro σ F ⟨x, ms, x2, rfl, fF, ld, fx, wx, ml, ft⟩
    rw [List.take_of_length_le (Nat.le_refl _)] at ld
    have xl : x.length ≤ wt x := by unfold wt; omega
    obtain ⟨dx1, a1, m1, xs1, hp1, _, _, _, _⟩ := fF.at
    refine ⟨_, rfl, p, dx1, _, rfl, hp1, ff_no _ _ (by decide +kernel) (by decide +kernel), H, p, x, ms, rfl, fF, fx, fst_lets fx, by omega, by omega, fun F2 x' y ns f2 ld2 fo n2 ft2 => ?_⟩
    obtain ⟨sF, _, dx2, a2, m2, _, _, _, hp2, _, hm2⟩ := f2
    have LD := Lead.trans ld ld2
    refine ⟨_, rfl, p, C, dx2, _, _, rfl, hp2, T.cl, T.nM, ff_moves _ _, q m2 (ms ++ ns) F2 sF hm2 (fun v hv => ?_) (by rw [List.length_append]; omega) ?_⟩
    · rcases List.mem_append.mp hv with hv | hv
      · exact ft v hv
      · exact ft2 v hv
    · have := LD []
      rw [List.append_nil, List.append_nil] at this
      rw [this, ← LD.num, form_is fo]
end
theorem all_mk {l : PySem.W.OpenLaw} {w : World} {K : PySem.W.Frag} {h : Heap} {mg : Str → Option Value} {fa : Addr} (X : K.In h) (G : h.Ns mainGlobals mg) (hfa : mg "law" = some (.ref fa))
    {f0 f1 f2 f3 f4 f5 f6 f7 f8 f9 f10 f11 f12 : Addr} {od0 an0 od1 an1 od2 an2 od3 an3 od4 an4 od5 an5 od6 an6 od7 an7 od8 an8 od9 an9 od10 an10 od11 an11 od12 an12 : Option Addr} {sl0 sl1 sl2 sl3 sl4 sl5 sl6 sl7 sl8 sl9 sl10 sl11 sl12 : Array (Option Value)}
    {oc0 kV0 dc0 pm0 cd0 ct0 oc1 kV1 dc1 pm1 cd1 ct1 oc2 kV2 dc2 pm2 cd2 ct2 oc3 kV3 dc3 pm3 cd3 ct3 oc4 kV4 dc4 pm4 cd4 ct4 oc5 kV5 dc5 pm5 cd5 ct5 oc6 kV6 dc6 pm6 cd6 ct6 oc7 kV7 dc7 pm7 cd7 ct7 oc8 kV8 dc8 pm8 cd8 ct8 oc9 kV9 dc9 pm9 cd9 ct9 oc10 kV10 dc10 pm10 cd10 ct10 oc11 kV11 dc11 pm11 cd11 ct11 oc12 kV12 dc12 pm12 cd12 ct12 : Value}
    (a0 : PySem.W.nsIn K mainGlobals "to_standard" = some (some (.ref f0))) (l0 : K.lookup f0 = some ⟨oc0, od0, .func (PySem.W.fnOf "to_standard" "to_standard" (defArgs s_to_standard) (defBody s_to_standard) (defScope s_to_standard) .none kV0 dc0 pm0 an0 cd0 ct0), sl0⟩) (c0 : PySem.W.codeIn K cd0 "to_standard" = true) (k0 : PySem.W.keepIn K (.ref f0) = true)
    (a1 : PySem.W.nsIn K mainGlobals "_law_tape" = some (some (.ref f1))) (l1 : K.lookup f1 = some ⟨oc1, od1, .func (PySem.W.fnOf "_law_tape" "_law_tape" (defArgs s_law_tape) (defBody s_law_tape) (defScope s_law_tape) .none kV1 dc1 pm1 an1 cd1 ct1), sl1⟩) (c1 : PySem.W.codeIn K cd1 "_law_tape" = true) (k1 : PySem.W.keepIn K (.ref f1) = true)
    (a2 : PySem.W.nsIn K mainGlobals "_law_take" = some (some (.ref f2))) (l2 : K.lookup f2 = some ⟨oc2, od2, .func (PySem.W.fnOf "_law_take" "_law_take" (defArgs s_law_take) (defBody s_law_take) (defScope s_law_take) .none kV2 dc2 pm2 an2 cd2 ct2), sl2⟩) (c2 : PySem.W.codeIn K cd2 "_law_take" = true) (k2 : PySem.W.keepIn K (.ref f2) = true)
    (a3 : PySem.W.nsIn K mainGlobals "_law_dance" = some (some (.ref f3))) (l3 : K.lookup f3 = some ⟨oc3, od3, .func (PySem.W.fnOf "_law_dance" "_law_dance" (defArgs s_law_dance) (defBody s_law_dance) (defScope s_law_dance) .none kV3 dc3 pm3 an3 cd3 ct3), sl3⟩) (c3 : PySem.W.codeIn K cd3 "_law_dance" = true) (k3 : PySem.W.keepIn K (.ref f3) = true)
    (a4 : PySem.W.nsIn K mainGlobals "_law_called" = some (some (.ref f4))) (l4 : K.lookup f4 = some ⟨oc4, od4, .func (PySem.W.fnOf "_law_called" "_law_called" (defArgs s_law_called) (defBody s_law_called) (defScope s_law_called) .none kV4 dc4 pm4 an4 cd4 ct4), sl4⟩) (c4 : PySem.W.codeIn K cd4 "_law_called" = true) (k4 : PySem.W.keepIn K (.ref f4) = true)
    (a5 : PySem.W.nsIn K mainGlobals "_law_number" = some (some (.ref f5))) (l5 : K.lookup f5 = some ⟨oc5, od5, .func (PySem.W.fnOf "_law_number" "_law_number" (defArgs s_law_number) (defBody s_law_number) (defScope s_law_number) .none kV5 dc5 pm5 an5 cd5 ct5), sl5⟩) (c5 : PySem.W.codeIn K cd5 "_law_number" = true) (k5 : PySem.W.keepIn K (.ref f5) = true)
    (a6 : PySem.W.nsIn K mainGlobals "_law_is_move" = some (some (.ref f6))) (l6 : K.lookup f6 = some ⟨oc6, od6, .func (PySem.W.fnOf "_law_is_move" "_law_is_move" (defArgs s_law_is_move) (defBody s_law_is_move) (defScope s_law_is_move) .none kV6 dc6 pm6 an6 cd6 ct6), sl6⟩) (c6 : PySem.W.codeIn K cd6 "_law_is_move" = true) (k6 : PySem.W.keepIn K (.ref f6) = true)
    (a7 : PySem.W.nsIn K mainGlobals "_law_made" = some (some (.ref f7))) (l7 : K.lookup f7 = some ⟨oc7, od7, .func (PySem.W.fnOf "_law_made" "_law_made" (defArgs s_law_made) (defBody s_law_made) (defScope s_law_made) .none kV7 dc7 pm7 an7 cd7 ct7), sl7⟩) (c7 : PySem.W.codeIn K cd7 "_law_made" = true) (k7 : PySem.W.keepIn K (.ref f7) = true)
    (a8 : PySem.W.nsIn K mainGlobals "_law_run" = some (some (.ref f8))) (l8 : K.lookup f8 = some ⟨oc8, od8, .func (PySem.W.fnOf "_law_run" "_law_run" (defArgs s_law_run) (defBody s_law_run) (defScope s_law_run) .none kV8 dc8 pm8 an8 cd8 ct8), sl8⟩) (c8 : PySem.W.codeIn K cd8 "_law_run" = true) (k8 : PySem.W.keepIn K (.ref f8) = true)
    (a9 : PySem.W.nsIn K mainGlobals "_law_standard" = some (some (.ref f9))) (l9 : K.lookup f9 = some ⟨oc9, od9, .func (PySem.W.fnOf "_law_standard" "_law_standard" (defArgs s_law_standard) (defBody s_law_standard) (defScope s_law_standard) .none kV9 dc9 pm9 an9 cd9 ct9), sl9⟩) (c9 : PySem.W.codeIn K cd9 "_law_standard" = true) (k9 : PySem.W.keepIn K (.ref f9) = true)
    (a10 : PySem.W.nsIn K mainGlobals "_law_sort" = some (some (.ref f10))) (l10 : K.lookup f10 = some ⟨oc10, od10, .func (PySem.W.fnOf "_law_sort" "_law_sort" (defArgs s_law_sort) (defBody s_law_sort) (defScope s_law_sort) .none kV10 dc10 pm10 an10 cd10 ct10), sl10⟩) (c10 : PySem.W.codeIn K cd10 "_law_sort" = true) (k10 : PySem.W.keepIn K (.ref f10) = true)
    (a11 : PySem.W.nsIn K mainGlobals "_law_formed" = some (some (.ref f11))) (l11 : K.lookup f11 = some ⟨oc11, od11, .func (PySem.W.fnOf "_law_formed" "_law_formed" (defArgs s_law_formed) (defBody s_law_formed) (defScope s_law_formed) .none kV11 dc11 pm11 an11 cd11 ct11), sl11⟩) (c11 : PySem.W.codeIn K cd11 "_law_formed" = true) (k11 : PySem.W.keepIn K (.ref f11) = true)
    (a12 : PySem.W.nsIn K mainGlobals "law" = some (some (.ref f12))) (l12 : K.lookup f12 = some ⟨oc12, od12, .func (PySem.W.fnOf "law" "law" (defArgs s_law) (defBody s_law) (defScope s_law) .none kV12 dc12 pm12 an12 cd12 ct12), sl12⟩) (c12 : PySem.W.codeIn K cd12 "law" = true) (k12 : PySem.W.keepIn K (.ref f12) = true)
    (z_len : PySem.W.nsIn K mainGlobals "len" = some none)
    (z_abs : PySem.W.nsIn K mainGlobals "abs" = some none)
    (z_int : PySem.W.nsIn K mainGlobals "int" = some none)
    (z_range : PySem.W.nsIn K mainGlobals "range" = some none)
    (z_isinstance : PySem.W.nsIn K mainGlobals "isinstance" = some none)
    (z_tuple : PySem.W.nsIn K mainGlobals "tuple" = some none)
    (z_list : PySem.W.nsIn K mainGlobals "list" = some none)
    (z_str : PySem.W.nsIn K mainGlobals "str" = some none)
    (z_bool : PySem.W.nsIn K mainGlobals "bool" = some none)
    {C : Addr} (aCl : PySem.W.nsIn K mainGlobals "Front" = some (some (.ref C)))
    {gg0 : Addr} {od_0 an_0 : Option Addr} {sl_0 : Array (Option Value)} {oc_0 kV_0 dc_0 pm_0 cd_0 ct_0 : Value}
    (A0 : PySem.W.findIn K (.ref C) "__init__" = some (some (.ref gg0))) (I0 : PySem.W.isFn K (.ref gg0) = true) (L0 : K.lookup gg0 = some ⟨oc_0, od_0, .func (PySem.W.fnOf "__init__" "Front.__init__" (defArgs s_F__init__) (defBody s_F__init__) (defScope s_F__init__) .none kV_0 dc_0 pm_0 an_0 cd_0 ct_0), sl_0⟩) (C0 : PySem.W.codeIn K cd_0 "Front.__init__" = true) (K0 : PySem.W.keepIn K (.ref gg0) = true)
    {gg1 : Addr} {od_1 an_1 : Option Addr} {sl_1 : Array (Option Value)} {oc_1 kV_1 dc_1 pm_1 cd_1 ct_1 : Value}
    (A1 : PySem.W.findIn K (.ref C) "take" = some (some (.ref gg1))) (I1 : PySem.W.isFn K (.ref gg1) = true) (L1 : K.lookup gg1 = some ⟨oc_1, od_1, .func (PySem.W.fnOf "take" "Front.take" (defArgs s_Ftake) (defBody s_Ftake) (defScope s_Ftake) .none kV_1 dc_1 pm_1 an_1 cd_1 ct_1), sl_1⟩) (C1 : PySem.W.codeIn K cd_1 "Front.take" = true) (K1 : PySem.W.keepIn K (.ref gg1) = true)
    {gg2 : Addr} {od_2 an_2 : Option Addr} {sl_2 : Array (Option Value)} {oc_2 kV_2 dc_2 pm_2 cd_2 ct_2 : Value}
    (A2 : PySem.W.findIn K (.ref C) "take_twist" = some (some (.ref gg2))) (I2 : PySem.W.isFn K (.ref gg2) = true) (L2 : K.lookup gg2 = some ⟨oc_2, od_2, .func (PySem.W.fnOf "take_twist" "Front.take_twist" (defArgs s_Ftake_twist) (defBody s_Ftake_twist) (defScope s_Ftake_twist) .none kV_2 dc_2 pm_2 an_2 cd_2 ct_2), sl_2⟩) (C2 : PySem.W.codeIn K cd_2 "Front.take_twist" = true) (K2 : PySem.W.keepIn K (.ref gg2) = true)
    {gg3 : Addr} {od_3 an_3 : Option Addr} {sl_3 : Array (Option Value)} {oc_3 kV_3 dc_3 pm_3 cd_3 ct_3 : Value}
    (A3 : PySem.W.findIn K (.ref C) "take_untwist" = some (some (.ref gg3))) (I3 : PySem.W.isFn K (.ref gg3) = true) (L3 : K.lookup gg3 = some ⟨oc_3, od_3, .func (PySem.W.fnOf "take_untwist" "Front.take_untwist" (defArgs s_Ftake_untwist) (defBody s_Ftake_untwist) (defScope s_Ftake_untwist) .none kV_3 dc_3 pm_3 an_3 cd_3 ct_3), sl_3⟩) (C3 : PySem.W.codeIn K cd_3 "Front.take_untwist" = true) (K3 : PySem.W.keepIn K (.ref gg3) = true)
    {gg4 : Addr} {od_4 an_4 : Option Addr} {sl_4 : Array (Option Value)} {oc_4 kV_4 dc_4 pm_4 cd_4 ct_4 : Value}
    (A4 : PySem.W.findIn K (.ref C) "take_turn" = some (some (.ref gg4))) (I4 : PySem.W.isFn K (.ref gg4) = true) (L4 : K.lookup gg4 = some ⟨oc_4, od_4, .func (PySem.W.fnOf "take_turn" "Front.take_turn" (defArgs s_Ftake_turn) (defBody s_Ftake_turn) (defScope s_Ftake_turn) .none kV_4 dc_4 pm_4 an_4 cd_4 ct_4), sl_4⟩) (C4 : PySem.W.codeIn K cd_4 "Front.take_turn" = true) (K4 : PySem.W.keepIn K (.ref gg4) = true)
    {gg5 : Addr} {od_5 an_5 : Option Addr} {sl_5 : Array (Option Value)} {oc_5 kV_5 dc_5 pm_5 cd_5 ct_5 : Value}
    (A5 : PySem.W.findIn K (.ref C) "spread_untwist" = some (some (.ref gg5))) (I5 : PySem.W.isFn K (.ref gg5) = true) (L5 : K.lookup gg5 = some ⟨oc_5, od_5, .func (PySem.W.fnOf "spread_untwist" "Front.spread_untwist" (defArgs s_Fspread_untwist) (defBody s_Fspread_untwist) (defScope s_Fspread_untwist) .none kV_5 dc_5 pm_5 an_5 cd_5 ct_5), sl_5⟩) (C5 : PySem.W.codeIn K cd_5 "Front.spread_untwist" = true) (K5 : PySem.W.keepIn K (.ref gg5) = true)
    {gg6 : Addr} {od_6 an_6 : Option Addr} {sl_6 : Array (Option Value)} {oc_6 kV_6 dc_6 pm_6 cd_6 ct_6 : Value}
    (A6 : PySem.W.findIn K (.ref C) "finish" = some (some (.ref gg6))) (I6 : PySem.W.isFn K (.ref gg6) = true) (L6 : K.lookup gg6 = some ⟨oc_6, od_6, .func (PySem.W.fnOf "finish" "Front.finish" (defArgs s_Ffinish) (defBody s_Ffinish) (defScope s_Ffinish) .none kV_6 dc_6 pm_6 an_6 cd_6 ct_6), sl_6⟩) (C6 : PySem.W.codeIn K cd_6 "Front.finish" = true) (K6 : PySem.W.keepIn K (.ref gg6) = true)
    {gg7 : Addr} {od_7 an_7 : Option Addr} {sl_7 : Array (Option Value)} {oc_7 kV_7 dc_7 pm_7 cd_7 ct_7 : Value}
    (A7 : PySem.W.findIn K (.ref C) "leave_untwists" = some (some (.ref gg7))) (I7 : PySem.W.isFn K (.ref gg7) = true) (L7 : K.lookup gg7 = some ⟨oc_7, od_7, .func (PySem.W.fnOf "leave_untwists" "Front.leave_untwists" (defArgs s_Fleave_untwists) (defBody s_Fleave_untwists) (defScope s_Fleave_untwists) .none kV_7 dc_7 pm_7 an_7 cd_7 ct_7), sl_7⟩) (C7 : PySem.W.codeIn K cd_7 "Front.leave_untwists" = true) (K7 : PySem.W.keepIn K (.ref gg7) = true)
    {gg8 : Addr} {od_8 an_8 : Option Addr} {sl_8 : Array (Option Value)} {oc_8 kV_8 dc_8 pm_8 cd_8 ct_8 : Value}
    (A8 : PySem.W.findIn K (.ref C) "make" = some (some (.ref gg8))) (I8 : PySem.W.isFn K (.ref gg8) = true) (L8 : K.lookup gg8 = some ⟨oc_8, od_8, .func (PySem.W.fnOf "make" "Front.make" (defArgs s_Fmake) (defBody s_Fmake) (defScope s_Fmake) .none kV_8 dc_8 pm_8 an_8 cd_8 ct_8), sl_8⟩) (C8 : PySem.W.codeIn K cd_8 "Front.make" = true) (K8 : PySem.W.keepIn K (.ref gg8) = true)
    {gg9 : Addr} {od_9 an_9 : Option Addr} {sl_9 : Array (Option Value)} {oc_9 kV_9 dc_9 pm_9 cd_9 ct_9 : Value}
    (A9 : PySem.W.findIn K (.ref C) "ends_with" = some (some (.ref gg9))) (I9 : PySem.W.isFn K (.ref gg9) = true) (L9 : K.lookup gg9 = some ⟨oc_9, od_9, .func (PySem.W.fnOf "ends_with" "Front.ends_with" (defArgs s_Fends_with) (defBody s_Fends_with) (defScope s_Fends_with) .none kV_9 dc_9 pm_9 an_9 cd_9 ct_9), sl_9⟩) (C9 : PySem.W.codeIn K cd_9 "Front.ends_with" = true) (K9 : PySem.W.keepIn K (.ref gg9) = true)
    {gg10 : Addr} {od_10 an_10 : Option Addr} {sl_10 : Array (Option Value)} {oc_10 kV_10 dc_10 pm_10 cd_10 ct_10 : Value}
    (A10 : PySem.W.findIn K (.ref C) "is_now" = some (some (.ref gg10))) (I10 : PySem.W.isFn K (.ref gg10) = true) (L10 : K.lookup gg10 = some ⟨oc_10, od_10, .func (PySem.W.fnOf "is_now" "Front.is_now" (defArgs s_Fis_now) (defBody s_Fis_now) (defScope s_Fis_now) .none kV_10 dc_10 pm_10 an_10 cd_10 ct_10), sl_10⟩) (C10 : PySem.W.codeIn K cd_10 "Front.is_now" = true) (K10 : PySem.W.keepIn K (.ref gg10) = true)
    (pg : PySem.W.plainGet K C Str.empty = true) (hd : PySem.W.hasDictIn K C = true) (po : PySem.W.plainOver K C = true) (sa : PySem.W.findIn K (.ref C) "__setattr__" = some (some (.builtin "object.__setattr__"))) (mk : PySem.W.makesIn K C = true) (kc : PySem.W.keepIn K (.ref C) = true)
    (nLt : PySem.W.findIn K (.ref C) "letters" = some none) (nMv : PySem.W.findIn K (.ref C) "moves" = some none) :
    ∃ fd : FuncData, (∀ (s : Shared) (v : Value), BindsTo s fd ⟨[v], []⟩ [("script", v)]) ∧ ∀ base : Heap, K.In base → base.Ns mainGlobals mg → FnOk l.prog w K mg base CX0 7 fa fd ["script"] (spLaw K) := by
  have e := hfa.symm.trans (PySem.W.mg_of X G a12)
  cases e
  have F_to_standard := fun_mk (st := s_to_standard) l0 c0 k0
  have m_to_standard := PySem.W.mg_of X G a0
  have b_to_standard := F_to_standard.binds (ps := ["dance"]) fun _ _ _ _ _ _ us hl => match us, hl with | [_], _ => rfl
  have F__law_tape := fun_mk (st := s_law_tape) l1 c1 k1
  have m__law_tape := PySem.W.mg_of X G a1
  have b__law_tape := F__law_tape.binds (ps := ["script", "k"]) fun _ _ _ _ _ _ us hl => match us, hl with | [_, _], _ => rfl
  have F__law_take := fun_mk (st := s_law_take) l2 c2 k2
  have m__law_take := PySem.W.mg_of X G a2
  have b__law_take := F__law_take.binds (ps := ["tape", "many"]) fun _ _ _ _ _ _ us hl => match us, hl with | [_, _], _ => rfl
  have F__law_dance := fun_mk (st := s_law_dance) l3 c3 k3
  have m__law_dance := PySem.W.mg_of X G a3
  have b__law_dance := F__law_dance.binds (ps := ["tape", "most"]) fun _ _ _ _ _ _ us hl => match us, hl with | [_, _], _ => rfl
  have F__law_called := fun_mk (st := s_law_called) l4 c4 k4
  have m__law_called := PySem.W.mg_of X G a4
  have b__law_called := F__law_called.binds (ps := ["value", "letter"]) fun _ _ _ _ _ _ us hl => match us, hl with | [_, _], _ => rfl
  have F__law_number := fun_mk (st := s_law_number) l5 c5 k5
  have m__law_number := PySem.W.mg_of X G a5
  have b__law_number := F__law_number.binds (ps := ["dance"]) fun _ _ _ _ _ _ us hl => match us, hl with | [_], _ => rfl
  have F__law_is_move := fun_mk (st := s_law_is_move) l6 c6 k6
  have m__law_is_move := PySem.W.mg_of X G a6
  have b__law_is_move := F__law_is_move.binds (ps := ["move"]) fun _ _ _ _ _ _ us hl => match us, hl with | [_], _ => rfl
  have F__law_made := fun_mk (st := s_law_made) l7 c7 k7
  have m__law_made := PySem.W.mg_of X G a7
  have b__law_made := F__law_made.binds (ps := ["dance", "move"]) fun _ _ _ _ _ _ us hl => match us, hl with | [_, _], _ => rfl
  have F__law_run := fun_mk (st := s_law_run) l8 c8 k8
  have m__law_run := PySem.W.mg_of X G a8
  have b__law_run := F__law_run.binds (ps := ["count"]) fun _ _ _ _ _ _ us hl => match us, hl with | [_], _ => rfl
  have F__law_standard := fun_mk (st := s_law_standard) l9 c9 k9
  have m__law_standard := PySem.W.mg_of X G a9
  have b__law_standard := F__law_standard.binds (ps := ["value"]) fun _ _ _ _ _ _ us hl => match us, hl with | [_], _ => rfl
  have F__law_sort := fun_mk (st := s_law_sort) l10 c10 k10
  have m__law_sort := PySem.W.mg_of X G a10
  have b__law_sort := F__law_sort.binds (ps := ["tape"]) fun _ _ _ _ _ _ us hl => match us, hl with | [_], _ => rfl
  have F__law_formed := fun_mk (st := s_law_formed) l11 c11 k11
  have m__law_formed := PySem.W.mg_of X G a11
  have b__law_formed := F__law_formed.binds (ps := ["told"]) fun _ _ _ _ _ _ us hl => match us, hl with | [_], _ => rfl
  have F_law := fun_mk (st := s_law) l12 c12 k12
  have m_law := PySem.W.mg_of X G a12
  have b_law := F_law.binds (ps := ["script"]) fun _ _ _ _ _ _ us hl => match us, hl with | [_], _ => rfl
  have y_len := PySem.W.mg_none_of X G z_len
  have y_abs := PySem.W.mg_none_of X G z_abs
  have y_int := PySem.W.mg_none_of X G z_int
  have y_range := PySem.W.mg_none_of X G z_range
  have y_isinstance := PySem.W.mg_none_of X G z_isinstance
  have y_tuple := PySem.W.mg_none_of X G z_tuple
  have y_list := PySem.W.mg_none_of X G z_list
  have y_str := PySem.W.mg_none_of X G z_str
  have y_bool := PySem.W.mg_none_of X G z_bool
  refine ⟨PySem.W.fnOf "law" "law" (defArgs s_law) (defBody s_law) (defScope s_law) .none kV12 dc12 pm12 an12 cd12 ct12, fun s v => .of_eq rfl, fun base _ _ => ?_⟩
  have D_tape : Dfn l.prog w K mg base "_law_tape" 1 _ (spTape K) := ⟨_, _, ok_tape F__law_tape y_len y_abs y_int, m__law_tape, F__law_tape.kp, b__law_tape⟩
  have D_take : Dfn l.prog w K mg base "_law_take" 1 _ spTake := ⟨_, _, ok_take F__law_take y_int, m__law_take, F__law_take.kp, b__law_take⟩
  have D_dance : Dfn l.prog w K mg base "_law_dance" 2 _ spDance := ⟨_, _, ok_dance F__law_dance D_take y_range, m__law_dance, F__law_dance.kp, b__law_dance⟩
  have D_called : Dfn l.prog w K mg base "_law_called" 1 _ (spCalled K) := ⟨_, _, ok_called F__law_called, m__law_called, F__law_called.kp, b__law_called⟩
  have D_number : Dfn l.prog w K mg base "_law_number" 2 _ (spNumber K) := ⟨_, _, ok_number F__law_number D_called, m__law_number, F__law_number.kp, b__law_number⟩
  have D_law_run : Dfn l.prog w K mg base "_law_run" 1 _ spRun := ⟨_, _, ok_law_run F__law_run  , m__law_run, F__law_run.kp, b__law_run⟩
  have D_law_standard : Dfn l.prog w K mg base "_law_standard" 2 _ spStdL := ⟨_, _, ok_law_standard F__law_standard D_law_run , m__law_standard, F__law_standard.kp, b__law_standard⟩
  have D_law_sort : Dfn l.prog w K mg base "_law_sort" 3 _ spSort := ⟨_, _, ok_law_sort F__law_sort D_dance (D_take.mono (by decide)) D_law_standard D_number , m__law_sort, F__law_sort.kp, b__law_sort⟩
  have D_law_is_move : Dfn l.prog w K mg base "_law_is_move" 1 _ spIsMove := ⟨_, _, ok_law_is_move F__law_is_move  , m__law_is_move, F__law_is_move.kp, b__law_is_move⟩
  have D_law_made : Dfn l.prog w K mg base "_law_made" 2 _ spLawMade := ⟨_, _, ok_law_made F__law_made D_law_is_move y_len , m__law_made, F__law_made.kp, b__law_made⟩
  have D_law_formed : Dfn l.prog w K mg base "_law_formed" 1 _ spFormed := ⟨_, _, ok_law_formed F__law_formed y_isinstance y_list y_bool y_int y_len y_tuple y_str , m__law_formed, F__law_formed.kp, b__law_formed⟩
  have TF : TxF K mg C := ⟨⟨pg, hd, po, sa⟩, nLt, nMv, PySem.W.mg_of X G aCl⟩
  have F_F__init__ := fun_mk (st := s_F__init__) L0 C0 K0
  have b_F__init__ := F_F__init__.binds (ps := ["self"]) fun _ _ _ _ _ _ us hl => match us, hl with | [_], _ => rfl
  have F_Ftake := fun_mk (st := s_Ftake) L1 C1 K1
  have b_Ftake := F_Ftake.binds (ps := ["self", "letter"]) fun _ _ _ _ _ _ us hl => match us, hl with | [_, _], _ => rfl
  have F_Ftake_twist := fun_mk (st := s_Ftake_twist) L2 C2 K2
  have b_Ftake_twist := F_Ftake_twist.binds (ps := ["self"]) fun _ _ _ _ _ _ us hl => match us, hl with | [_], _ => rfl
  have F_Ftake_untwist := fun_mk (st := s_Ftake_untwist) L3 C3 K3
  have b_Ftake_untwist := F_Ftake_untwist.binds (ps := ["self"]) fun _ _ _ _ _ _ us hl => match us, hl with | [_], _ => rfl
  have F_Ftake_turn := fun_mk (st := s_Ftake_turn) L4 C4 K4
  have b_Ftake_turn := F_Ftake_turn.binds (ps := ["self"]) fun _ _ _ _ _ _ us hl => match us, hl with | [_], _ => rfl
  have F_Fspread_untwist := fun_mk (st := s_Fspread_untwist) L5 C5 K5
  have b_Fspread_untwist := F_Fspread_untwist.binds (ps := ["self"]) fun _ _ _ _ _ _ us hl => match us, hl with | [_], _ => rfl
  have F_Ffinish := fun_mk (st := s_Ffinish) L6 C6 K6
  have b_Ffinish := F_Ffinish.binds (ps := ["self"]) fun _ _ _ _ _ _ us hl => match us, hl with | [_], _ => rfl
  have F_Fleave_untwists := fun_mk (st := s_Fleave_untwists) L7 C7 K7
  have b_Fleave_untwists := F_Fleave_untwists.binds (ps := ["self"]) fun _ _ _ _ _ _ us hl => match us, hl with | [_], _ => rfl
  have F_Fmake := fun_mk (st := s_Fmake) L8 C8 K8
  have b_Fmake := F_Fmake.binds (ps := ["self", "back", "old", "new"]) fun _ _ _ _ _ _ us hl => match us, hl with | [_, _, _, _], _ => rfl
  have F_Fends_with := fun_mk (st := s_Fends_with) L9 C9 K9
  have b_Fends_with := F_Fends_with.binds (ps := ["self", "text"]) fun _ _ _ _ _ _ us hl => match us, hl with | [_, _], _ => rfl
  have F_Fis_now := fun_mk (st := s_Fis_now) L10 C10 K10
  have b_Fis_now := F_Fis_now.binds (ps := ["self", "text"]) fun _ _ _ _ _ _ us hl => match us, hl with | [_, _], _ => rfl
  have DM_is_now : MDfn l.prog w K mg base C "is_now" 1 ["self", "text"] (spNow C) := ⟨_, _, ok_Fis_now F_Fis_now TF y_list, b_Fis_now, ⟨A10, I10, K10⟩⟩
  have DM_ends_with : MDfn l.prog w K mg base C "ends_with" 1 ["self", "text"] (spEnds C) := ⟨_, _, ok_Fends_with F_Fends_with TF y_list y_len, b_Fends_with, ⟨A9, I9, K9⟩⟩
  have DM_make : MDfn l.prog w K mg base C "make" 1 ["self", "back", "old", "new"] (spMake C) := ⟨_, _, ok_Fmake F_Fmake TF y_list y_len, b_Fmake, ⟨A8, I8, K8⟩⟩
  have DM_leave_untwists : MDfn l.prog w K mg base C "leave_untwists" 2 ["self"] (spLeave C) := ⟨_, _, ok_Fleave_untwists F_Fleave_untwists TF DM_ends_with, b_Fleave_untwists, ⟨A7, I7, K7⟩⟩
  have DM_spread_untwist : MDfn l.prog w K mg base C "spread_untwist" 2 ["self"] (spSpread C) := ⟨_, _, ok_Fspread_untwist F_Fspread_untwist TF DM_make DM_is_now, b_Fspread_untwist, ⟨A5, I5, K5⟩⟩
  have DM_take_untwist : MDfn l.prog w K mg base C "take_untwist" 2 ["self"] (spStep C 85) := ⟨_, _, ok_Ftake_untwist F_Ftake_untwist TF DM_make DM_is_now DM_ends_with, b_Ftake_untwist, ⟨A3, I3, K3⟩⟩
  have DM_take_twist : MDfn l.prog w K mg base C "take_twist" 2 ["self"] (spStep C 84) := ⟨_, _, ok_Ftake_twist F_Ftake_twist TF DM_make DM_is_now DM_ends_with, b_Ftake_twist, ⟨A2, I2, K2⟩⟩
  have DM_take_turn : MDfn l.prog w K mg base C "take_turn" 3 ["self"] (spStepR C) := ⟨_, _, ok_Ftake_turn F_Ftake_turn TF DM_leave_untwists DM_spread_untwist DM_make DM_ends_with y_range, b_Ftake_turn, ⟨A4, I4, K4⟩⟩
  have DM_take : MDfn l.prog w K mg base C "take" 4 ["self", "letter"] (spTakeF C) := ⟨_, _, ok_Ftake F_Ftake TF DM_take_twist DM_take_untwist DM_take_turn, b_Ftake, ⟨A1, I1, K1⟩⟩
  have DM_finish : MDfn l.prog w K mg base C "finish" 3 ["self"] (spFinish C) := ⟨_, _, ok_Ffinish F_Ffinish TF DM_leave_untwists DM_is_now DM_make DM_ends_with, b_Ffinish, ⟨A6, I6, K6⟩⟩
  have D_to_standard : Dfn l.prog w K mg base "to_standard" 6 _ spToStd := ⟨_, _, ok_to_standard F_to_standard TF ⟨mk, A0, I0, kc⟩ (ok_F__init__ F_F__init__ TF) b_F__init__ DM_take DM_finish, m_to_standard, F_to_standard.kp, b_to_standard⟩
  exact ok_law F_law (D_law_sort.mono (by decide)) (D_tape.mono (by decide)) D_to_standard (D_law_formed.mono (by decide)) (D_law_standard.mono (by decide)) (D_number.mono (by decide)) (D_law_made.mono (by decide)) y_range
theorem walk {l : PySem.W.OpenLaw} {q : Program} {loose : List Str} {XP : (Str → Option Value) → Heap → Prop} {YP : World → Heap → Prop} {d : DefRec} {K : Params → PySem.W.Frag} (hn : l.most = some 63) (hdf : d.params.defaults = [])
    (hY : ∀ (w : World) (h : Heap), YP w h → (K w.params).In h)
    (F : ∀ (w : World) (mg : Str → Option Value) (fa : Addr) (h : Heap), (K w.params).In h → h.Ns mainGlobals mg → mg d.name = some (.ref fa) →
      ∃ fd : FuncData, (∀ (s : Shared) (u : Value), BindsTo s fd ⟨[u], []⟩ [("script", u)]) ∧ ∀ base : Heap, (K w.params).In base → base.Ns mainGlobals mg → FnOk l.prog w (K w.params) mg base CX0 7 fa fd ["script"] (spLaw (K w.params))) :
    PySem.W.WalkO q loose XP YP l.row.toRowW d [] (fun f vs => PySem.call f vs) :=
  L2.walk_of (n := 63) (k := 7) (x := "script") (CX := fun _ => CX0) (sp := fun w => spLaw (K w.params)) hn (by decide) hdf ⟨rfl, by decide, by decide⟩ hY F (fun _ _ a ns hl _ hS => ⟨a, ns, rfl, hS, hl, fun _ => rfl⟩) fun _ _ _ _ _ z => z
end Rope
open PySem PySem.W PyProof.Rows
set_option maxRecDepth 100000 in
set_option maxHeartbeats 0 in
theorem PySem.Challenge.cw_ropedance_k09_to_the_standard_dance_holds : PySem.Challenge.rw_ropedance_k09_to_the_standard_dance.Holds := by
  w_on; o_law; k_head; (case hw => w_witness2)
  k_fill
  refine Rope.walk (l := PySem.Challenge.rw_ropedance_k09_to_the_standard_dance) rfl rfl (fun w h Y => PySem.W.kIn_of Y) ?F
  case F =>
    intro w mg fa h KX G hmg
    refine' Rope.all_mk KX G hmg ?a0 ?l0 ?c0 ?k0 ?a1 ?l1 ?c1 ?k1 ?a2 ?l2 ?c2 ?k2 ?a3 ?l3 ?c3 ?k3 ?a4 ?l4 ?c4 ?k4 ?a5 ?l5 ?c5 ?k5 ?a6 ?l6 ?c6 ?k6 ?a7 ?l7 ?c7 ?k7 ?a8 ?l8 ?c8 ?k8 ?a9 ?l9 ?c9 ?k9 ?a10 ?l10 ?c10 ?k10 ?a11 ?l11 ?c11 ?k11 ?a12 ?l12 ?c12 ?k12 ?z_len ?z_abs ?z_int ?z_range ?z_isinstance ?z_tuple ?z_list ?z_str ?z_bool ?aCl ?A0 ?I0 ?L0 ?C0 ?K0 ?A1 ?I1 ?L1 ?C1 ?K1 ?A2 ?I2 ?L2 ?C2 ?K2 ?A3 ?I3 ?L3 ?C3 ?K3 ?A4 ?I4 ?L4 ?C4 ?K4 ?A5 ?I5 ?L5 ?C5 ?K5 ?A6 ?I6 ?L6 ?C6 ?K6 ?A7 ?I7 ?L7 ?C7 ?K7 ?A8 ?I8 ?L8 ?C8 ?K8 ?A9 ?I9 ?L9 ?C9 ?K9 ?A10 ?I10 ?L10 ?C10 ?K10 ?pg ?hd ?po ?sa ?mk ?kc ?nLt ?nMv
    (case a0 => k_is)
    (case l0 => k_is)
    (case c0 => k_is)
    (case k0 => k_is)
    (case a1 => k_is)
    (case l1 => k_is)
    (case c1 => k_is)
    (case k1 => k_is)
    (case a2 => k_is)
    (case l2 => k_is)
    (case c2 => k_is)
    (case k2 => k_is)
    (case a3 => k_is)
    (case l3 => k_is)
    (case c3 => k_is)
    (case k3 => k_is)
    (case a4 => k_is)
    (case l4 => k_is)
    (case c4 => k_is)
    (case k4 => k_is)
    (case a5 => k_is)
    (case l5 => k_is)
    (case c5 => k_is)
    (case k5 => k_is)
    (case a6 => k_is)
    (case l6 => k_is)
    (case c6 => k_is)
    (case k6 => k_is)
    (case a7 => k_is)
    (case l7 => k_is)
    (case c7 => k_is)
    (case k7 => k_is)
    (case a8 => k_is)
    (case l8 => k_is)
    (case c8 => k_is)
    (case k8 => k_is)
    (case a9 => k_is)
    (case l9 => k_is)
    (case c9 => k_is)
    (case k9 => k_is)
    (case a10 => k_is)
    (case l10 => k_is)
    (case c10 => k_is)
    (case k10 => k_is)
    (case a11 => k_is)
    (case l11 => k_is)
    (case c11 => k_is)
    (case k11 => k_is)
    (case a12 => k_is)
    (case l12 => k_is)
    (case c12 => k_is)
    (case k12 => k_is)
    (case z_len => k_is)
    (case z_abs => k_is)
    (case z_int => k_is)
    (case z_range => k_is)
    (case z_isinstance => k_is)
    (case z_tuple => k_is)
    (case z_list => k_is)
    (case z_str => k_is)
    (case z_bool => k_is)
    (case aCl => k_is)
    (case A0 => k_is)
    (case I0 => k_is)
    (case L0 => k_is)
    (case C0 => k_is)
    (case K0 => k_is)
    (case A1 => k_is)
    (case I1 => k_is)
    (case L1 => k_is)
    (case C1 => k_is)
    (case K1 => k_is)
    (case A2 => k_is)
    (case I2 => k_is)
    (case L2 => k_is)
    (case C2 => k_is)
    (case K2 => k_is)
    (case A3 => k_is)
    (case I3 => k_is)
    (case L3 => k_is)
    (case C3 => k_is)
    (case K3 => k_is)
    (case A4 => k_is)
    (case I4 => k_is)
    (case L4 => k_is)
    (case C4 => k_is)
    (case K4 => k_is)
    (case A5 => k_is)
    (case I5 => k_is)
    (case L5 => k_is)
    (case C5 => k_is)
    (case K5 => k_is)
    (case A6 => k_is)
    (case I6 => k_is)
    (case L6 => k_is)
    (case C6 => k_is)
    (case K6 => k_is)
    (case A7 => k_is)
    (case I7 => k_is)
    (case L7 => k_is)
    (case C7 => k_is)
    (case K7 => k_is)
    (case A8 => k_is)
    (case I8 => k_is)
    (case L8 => k_is)
    (case C8 => k_is)
    (case K8 => k_is)
    (case A9 => k_is)
    (case I9 => k_is)
    (case L9 => k_is)
    (case C9 => k_is)
    (case K9 => k_is)
    (case A10 => k_is)
    (case I10 => k_is)
    (case L10 => k_is)
    (case C10 => k_is)
    (case K10 => k_is)
    (case pg => k_is)
    (case hd => k_is)
    (case po => k_is)
    (case sa => k_is)
    (case mk => k_is)
    (case kc => k_is)
    (case nLt => k_is)
    (case nMv => k_is)
