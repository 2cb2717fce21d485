import PyProof.Rows.All
import Wide.All
import OpenK.AllK
import Wide.FinOn
import PyProof.StrBlock2
import HandS.ForMost
import HandS.Wide
import HandS.IsInst
import HandS.Exc
import HandS.ExcOwn
import HandS.ExcCtx
import HandS.ExcIs
import HandS.Hot
import HandS.WordsExc
import HandS.Gcd
import HandS.AnyAll
import HandS.Style
import HandS.More
import PyProof.GenCompT
import PyProof.WalksPairs
import HandS.List
import HandS.Conv
import PyProof.ListStr
import PyProof.EvalArms
import HandS.SetFor
import HandS.TupLe
import HandS.Deep
import HandS.TryOnly
import HandS.ListEq
import HandS.Walk
import HandS.Rev
import HandS.HeadHook4
import HandS.HeadEnd
import HandS.HeadWalk
import HandS.Head0
import HandS.Head1
import HandS.Head2
import HandS.Head3
import PySem.Challenge.RW_ropedance_k15_papers
set_option Elab.async false
set_option linter.all false
set_option maxRecDepth 100000
set_option maxHeartbeats 4000000
namespace Rope
open PySem L2


/-! ### texts as lists of codes -/
def S (l : List Nat) : Str := ⟨l.toArray⟩
theorem S_len (l : List Nat) : (S l).length = l.length := by simp [S, Str.length]
theorem S_list (l : List Nat) : (S l).cps.toList = l := by simp [S]
theorem S_size (l : List Nat) : (S l).cps.size = l.length := by simp [S]
theorem S_get (l : List Nat) (i : Nat) : (S l).cps[i]? = l[i]? := by simp [S]
theorem S_inj {l m : List Nat} (h : S l = S m) : l = m := by
  have := congrArg (fun z : Str => z.cps.toList) h
  simpa [S] using this
theorem S_app (l m : List Nat) : S l ++ S m = S (l ++ m) := by
  show Str.append (S l) (S m) = S (l ++ m)
  simp [Str.append, S]
theorem S_mul (l : List Nat) (n : Int) : Txt.mul (S l) n = S (List.replicate n.toNat l).flatten := by
  unfold Txt.mul
  by_cases h1 : n < 1
  · rw [if_pos h1]
    have : n.toNat = 0 := by omega
    rw [this]
    rfl
  · rw [if_neg h1]
    by_cases h2 : (n == 1 || (S l).length == 0) = true
    · rw [if_pos h2]
      simp only [Bool.or_eq_true, beq_iff_eq] at h2
      rcases h2 with h2 | h2
      · subst h2
        show S l = S (List.replicate 1 l).flatten
        simp
      · rw [S_len] at h2
        have : l = [] := List.eq_nil_of_length_eq_zero h2
        subst this
        simp
    · rw [if_neg h2]
      have aux : ∀ (k : Nat) (a : Array Nat), ((List.replicate k (S l).cps).foldl (· ++ ·) a).toList = a.toList ++ (List.replicate k l).flatten := by
        intro k
        induction k with
        | zero => intro a; simp
        | succ k ih =>
          intro a
          rw [List.replicate_succ, List.foldl_cons, ih, List.replicate_succ, List.flatten_cons, Array.toList_append, List.append_assoc, S_list]
      have := aux n.toNat #[]
      unfold S
      congr 1
      apply Array.toList_inj.mp
      rw [show S l = (⟨l.toArray⟩ : Str) from rfl] at this
      rw [this]
      simp
theorem S_cut (l : List Nat) (lo hi : Option Int) : cutS (S l) lo hi = S ((l.drop (HT.sIx l.length 0 lo)).take (HT.sIx l.length l.length hi - HT.sIx l.length 0 lo)) := by
  unfold cutS
  rw [S_len, S_list]
  rfl
theorem S_take (l : List Nat) {m : Int} (h : 0 ≤ m) : cutS (S l) none (some m) = S (l.take m.toNat) := by
  obtain ⟨k, rfl⟩ := Int.eq_ofNat_of_zero_le h
  rw [S_cut, HT.sIx_none, HT.sIx_nat, List.drop_zero, Nat.sub_zero, Int.toNat_natCast]
  congr 1
  by_cases h2 : k ≤ l.length
  · rw [Nat.min_eq_left h2]
  · rw [Nat.min_eq_right (by omega), List.take_of_length_le (Nat.le_refl _), List.take_of_length_le (by omega)]
theorem S_drop (l : List Nat) {m : Int} (h : 0 ≤ m) : cutS (S l) (some m) none = S (l.drop m.toNat) := by
  obtain ⟨k, rfl⟩ := Int.eq_ofNat_of_zero_le h
  rw [S_cut, HT.sIx_none, HT.sIx_nat, Int.toNat_natCast]
  congr 1
  rw [List.take_of_length_le (by simp)]
  by_cases h2 : k ≤ l.length
  · rw [Nat.min_eq_left h2]
  · rw [Nat.min_eq_right (by omega), List.drop_length, List.drop_eq_nil_of_le (by omega)]
/-- a text times an int -/
theorem op_mul_str {X : Cx} : OpR X (binaryOp .Mult) (fun x y H Q => ∃ (l : List Nat) (n : Int), x = .str (S l) ∧ y = .int n ∧ 0 ≤ n ∧ n < 2 ^ 62 ∧ l.length * n.toNat ≤ 16777215 ∧ Q (.str (S (List.replicate n.toNat l).flatten)) H) := by
  intro pins s σ H x y v u Q I rx ry h
  obtain ⟨l, n, rfl, rfl, h0, h1, h2, q⟩ := h
  obtain ⟨t, rfl⟩ := rx
  obtain ⟨t', rfl⟩ := ry
  have e1 : decide (n < -(2 ^ 63 : Int)) = false := decide_eq_false (by omega)
  have e2 : decide (n ≥ 2 ^ 63) = false := decide_eq_false (by omega)
  refine SB.mul ⟨by rw [e1, e2]; rfl, fun z1 z2 => ?_, fun z1 z2 => ?_⟩ fun t' k => ⟨.str _, H, I.tok _, ⟨_, rfl⟩, by rw [S_mul]; exact q⟩
  · rw [S_len]
    have h3 : (l.length : Int) * n ≤ 16777215 := by
      have : ((l.length * n.toNat : Nat) : Int) ≤ 16777215 := Int.ofNat_le.mpr h2
      rw [Int.natCast_mul, Int.toNat_of_nonneg h0] at this
      exact this
    have hn : 0 < n := by omega
    intro hc
    have hc' : (2 ^ 63 - 1) / n < (l.length : Int) := hc
    have := (Int.ediv_lt_iff_lt_mul hn).mp hc'
    omega
  · rw [S_len]
    unfold Builtin.Str.tooLong
    rw [sizeLine_eq]
    exact decide_eq_false (by omega)
/-! ### the calls: a fraction by a letter -/
def called (v : Int × Int) (c : Nat) : Int × Int :=
  if c = 84 then (v.1 + v.2, v.2) else if c = 85 then (v.1 - v.2, v.2) else if 0 < v.1 then (0 - v.2, v.1) else if v.1 < 0 then (v.2, 0 - v.1) else (1, 0)
def run (v : Int × Int) (l : List Nat) : Int × Int := l.foldl called v
theorem run_nil (v : Int × Int) : run v [] = v := rfl
theorem run_app (v : Int × Int) (l m : List Nat) : run v (l ++ m) = run (run v l) m := List.foldl_append
theorem run_take {l : List Nat} {i c : Nat} (v : Int × Int) (h : l[i]? = some c) : run v (l.take (i + 1)) = called (run v (l.take i)) c := by
  rw [List.take_add_one, h, run_app]
  rfl
/-- what a fraction of the laws keeps: q positive or infinite, no common divisor -/
def Good (v : Int × Int) : Prop := (0 < v.2 ∨ v = (1, 0)) ∧ Int.gcd v.1 v.2 = 1
theorem Good.zero : Good (0, 1) := ⟨.inl (by decide), by decide⟩
theorem gcd_add' (p q : Int) : Int.gcd (p + q) q = Int.gcd p q := by
  have := Int.gcd_add_mul_right_left p q 1
  simpa using this
theorem Good.called {v : Int × Int} (h : Good v) (c : Nat) : Good (called v c) := by
  obtain ⟨p, q⟩ := v
  obtain ⟨h1, h2⟩ := h
  simp only at h1 h2
  unfold Rope.called
  by_cases c1 : c = 84
  · rw [if_pos c1]
    refine ⟨?_, ?_⟩
    · rcases h1 with h1 | h1
      · exact .inl h1
      · cases h1; exact .inr rfl
    · show Int.gcd (p + q) q = 1
      rw [gcd_add']; exact h2
  rw [if_neg c1]
  by_cases c2 : c = 85
  · rw [if_pos c2]
    refine ⟨?_, ?_⟩
    · rcases h1 with h1 | h1
      · exact .inl h1
      · cases h1; exact .inr rfl
    · show Int.gcd (p - q) q = 1
      have := gcd_add' (p - q) q
      rw [Int.sub_add_cancel] at this
      rw [← this]; exact h2
  rw [if_neg c2]
  by_cases c3 : 0 < p
  · rw [if_pos (show 0 < (p, q).1 from c3)]
    refine ⟨.inl c3, ?_⟩
    show Int.gcd (0 - q) p = 1
    rw [Int.zero_sub, Int.neg_gcd, Int.gcd_comm]; exact h2
  rw [if_neg (show ¬ 0 < (p, q).1 from c3)]
  by_cases c4 : p < 0
  · rw [if_pos (show (p, q).1 < 0 from c4)]
    refine ⟨.inl (by show 0 < 0 - p; omega), ?_⟩
    show Int.gcd q (0 - p) = 1
    rw [Int.zero_sub, Int.gcd_neg, Int.gcd_comm]; exact h2
  rw [if_neg (show ¬ (p, q).1 < 0 from c4)]
  exact ⟨.inr rfl, by decide⟩
theorem good_run : ∀ (l : List Nat) {v : Int × Int}, Good v → Good (run v l)
  | [], _, h => h
  | c :: r, _, h => good_run r (h.called c)
/-- its size grows by a bit a letter -/
theorem called_size {v : Int × Int} {n : Nat} (h1 : v.1.natAbs ≤ n) (h2 : v.2.natAbs ≤ n) (h0 : 1 ≤ n) (c : Nat) : (called v c).1.natAbs ≤ 2 * n ∧ (called v c).2.natAbs ≤ 2 * n := by
  unfold called
  repeat' split
  all_goals simp only
  all_goals omega
theorem run_size : ∀ (l : List Nat) {v : Int × Int} {n : Nat}, v.1.natAbs ≤ n → v.2.natAbs ≤ n → 1 ≤ n → (run v l).1.natAbs ≤ 2 ^ l.length * n ∧ (run v l).2.natAbs ≤ 2 ^ l.length * n
  | [], v, n, h1, h2, _ => by simpa [run] using ⟨h1, h2⟩
  | c :: r, v, n, h1, h2, h0 => by
    have q := called_size h1 h2 h0 c
    have ih := run_size r q.1 q.2 (by omega)
    have e : 2 ^ (c :: r).length * n = 2 ^ r.length * (2 * n) := by
      rw [List.length_cons, Nat.pow_succ, Nat.mul_assoc]
    rw [e]
    exact ih
/-! ### the divisor -/
theorem gcd_step (x y : Int) : Nat.gcd y.natAbs (x.fmod y).natAbs = Nat.gcd x.natAbs y.natAbs := by
  show Int.gcd y (x.fmod y) = Int.gcd x y
  have e : x.fmod y = x + y * (-(x.fdiv y)) := by
    have := Int.fmod_def x y
    rw [this, Int.mul_neg]
    rfl
  rw [e, Int.gcd_add_mul_left_right, Int.gcd_comm]
theorem fmod_less {x y : Int} (h : y ≠ 0) : (x.fmod y).natAbs < y.natAbs := by
  by_cases h0 : 0 < y
  · rw [Int.fmod_eq_emod_of_nonneg x (by omega)]
    have h1 := Int.emod_nonneg x h
    have h2 := Int.emod_lt_of_pos x h0
    omega
  · have e : x.fmod y = -((-x).fmod (-y)) := by
      have := Int.neg_fmod_neg (a := x) (b := y)
      omega
    rw [e, Int.fmod_eq_emod_of_nonneg _ (by omega)]
    have h1 := Int.emod_nonneg (-x) (b := -y) (by omega)
    have h2 := Int.emod_lt_of_pos (-x) (b := -y) (by omega)
    omega
/-- for letter in text -/
theorem for_str {l : List Nat} {g : TG} {tb : TS} {D : Ends} {σ : L2.St} {H : Hp} (Pv : Nat → L2.St → Hp → Prop) (h0 : Pv 0 σ H)
    (hs : ∀ i c σ H, l[i]? = some c → Pv i σ H → g (.str (S [c])) σ H fun σ2 H2 => tb { D with nx := Pv (i + 1), ct := Pv (i + 1), bk := D.nx } σ2 H2) (hd : ∀ σ H, Pv l.length σ H → D.nx σ H) :
    ∃ W : Nat → Nat → L2.St → Hp → Prop, (∃ m, W 0 m σ H) ∧ ∀ i m σ H, W i m σ H →
      ((Its (S l)).stop i H ∧ D.nx σ H) ∨ ((Its (S l)).go i H ∧ ∃ N : L2.St → Hp → Prop, (∀ σ' H', N σ' H' → ∃ m', m' < m ∧ W (i + 1) m' σ' H') ∧ ∀ x H', (Its (S l)).yld i H x H' → g x σ H' fun σ2 H2 => tb { D with nx := N, ct := N, bk := D.nx } σ2 H2) := by
  refine ⟨fun i m σ H => m = l.length - i ∧ i ≤ l.length ∧ Pv i σ H, ⟨l.length, by simp, Nat.zero_le _, h0⟩, ?_⟩
  rintro i m σ H ⟨rfl, hi, p⟩
  by_cases hlt : i < l.length
  · refine .inr ⟨by show i < (S l).cps.size; rw [S_size]; exact hlt, Pv (i + 1), fun σ' H' p' => ⟨l.length - (i + 1), by omega, rfl, hlt, p'⟩, fun x H' y => ?_⟩
    obtain ⟨e, c, hc, rfl⟩ := y
    subst e
    rw [S_get] at hc
    exact hs i c σ _ hc p
  · have e : i = l.length := by omega
    subst e
    exact .inl ⟨by show (S l).cps.size ≤ l.length; rw [S_size]; exact Nat.le_refl _, hd σ H p⟩

section
open PySem.F HotX
variable {prog : Program} {w : World} {A : Around} {E : Value → Shared → Prop} {s : Shared}
/-- the end of a list's walk while an exception is handled -/
theorem list_end_hot {it l x1 : Addr} {i : Nat} {items : Array Value} {Q : Option Value → Shared → Prop} (hot : HotAt A x1 s.heap) (hne : x1 ≠ it)
    (hit : s.heap.IsListIter it l i) (hl : s.heap.IsList l items) (hx : items[i]? = none)
    (hQ : ∀ h', Heap.ExtBut it s.heap h' → Q none { s with heap := h' }) : wpAny (model prog w) A (pyNext (.ref it)) Q E s := by
  obtain ⟨io, iAt, _, iDat⟩ := id hit
  obtain ⟨lo, lAt, _, ln, lDat⟩ := hl
  obtain ⟨he, xo, xv, xAt, xDat, xCtx⟩ := hot
  have typ := hit.typeIs
  unfold pyNext
  refine wpAny_bind (wpAny_attempt (wpAny_callSpecial?_slot (name := Str.ofString "__next__") typ slot_listiter_next (wpAny_call_entry slot_listiter_next typ entry_listiter_next ?body (args_listiter_next _))))
  -- the list, the place, the items: nothing is left
  show wpAny _ _ (field (.ref it) 0 >>= _) _ _ s; refine wpAny_bind (wpAny_field iAt iDat (x := .ref l) rfl ?_)
  show wpAny _ _ (if (Value.ref l == Value.none) = true then _ else _) _ _ s; rw [if_neg (show ¬ ((Value.ref l == Value.none) = true) from Bool.false_ne_true)]
  show wpAny _ _ (field (.ref it) 1 >>= _) _ _ s; refine wpAny_bind (wpAny_field iAt iDat (x := .int i 0) rfl ?_)
  show wpAny _ _ (seqItems? (.ref l) >>= _) _ _ s; refine wpAny_bind (wpAny_seqItems lAt lDat ?_); simp only [Int.toNat_natCast, hx]
  refine wpAny_bind (wpAny_rule (wpAny_bind (wpAny_setField iAt iDat (by simp) ?stop)))
  -- StopIteration is made and raised on top of the one that is handled
  show wpAny _ _ (newExc (.type "StopIteration") [] >>= _) _ _ _; refine wpAny_bind ?_; simp only [newExc, newTuple]
  refine wpAny_bind (wpAny_newObj_type (wpAny_bind (m := firstArgMember _ _) (wpAny_of_eq (a := Value.none) (by first | rfl | (simp only [firstArgMember]; rfl)) (wpAny_newObj_type ?_ (by size_fits)))) (by size_fits))
  have kept := (Heap.get?_update_other s.heap (Obj.mapFields (·.setIfInBounds 0 .none)) hne.symm).trans xAt
  have far := Heap.lt_size (Heap.get?_push_of_some { cls := .type "tuple", data := .seq #[] } kept)
  refine raiseNew_hot ⟨he, xo, xv, Heap.get?_push_of_some _ (Heap.get?_push_of_some _ kept), xDat, xCtx⟩ (Nat.ne_of_lt far) (Heap.get?_push_size _ rfl) rfl (by first | (simp; done) | (simp; omega) | (simp only [Array.size_append]; simp; omega)) ?_
  refine wpAny_bind (wpAny_isInstance (T := "StopIteration") (b := true) ⟨_, Heap.get?_update_self _ (Heap.get?_push_size _ rfl) rfl, rfl⟩ isSubtype_stop (wpAny_pure (hQ _ fun c u hc e => ?_)))
  have e2 := (Heap.SameBut.update s.heap it (Obj.mapFields (·.setIfInBounds 0 .none))).extBut c u hc e
  have e3 := Heap.get?_push_of_some { cls := .type "tuple", data := .seq #[] } e2
  exact (Heap.get?_update_other _ _ (Nat.ne_of_gt (Heap.lt_size e3))).trans (Heap.get?_push_of_some _ e3)
end
/-- a list walked while an exception is handled -/
theorem walks_list_hot {prog : Program} {w : World} {A : Around} {x1 : Addr} {o1 : Obj} {vs1 : Array Value} (hh : A.handled = some (.ref x1)) (d1 : o1.data = .fields vs1) (c1 : vs1[2]? = some .none) (I ax : Addr) (hne : ax ≠ I) (h1I : x1 ≠ I) (items : Array Value) :
    Walks prog w A I [I, ax, x1] [I] items.size (fun i v => items[i]? = some v) (fun i h => h.IsListIter I ax i ∧ h.IsList ax items ∧ h.get? x1 = some o1) where
  sub := fun b hb => by simp at hb; simp [hb]
  frame := fun _ _ _ st hk => ⟨st.1.at fun o e => hk I (by simp) o e, st.2.1.at fun o e => hk ax (by simp) o e, hk x1 (by simp) _ st.2.2⟩
  item := fun i s Q E hi st hQ => by
    exact wpAny_pyNext_list_item st.1 st.2.1 (x := items[i]) (by simp [hi]) fun h' hit' hs' => hQ _ h' s.toks (by simp [hi]) ⟨hit', st.2.1.extBut hs'.extBut hne, hs'.extBut x1 _ h1I st.2.2⟩ fun b o hb e => hs'.extBut b o (fun h => hb (by simp [h])) e
  done := fun s Q E st hQ => list_end_hot ⟨hh, o1, vs1, st.2.2, d1, c1⟩ h1I st.1 st.2.1 (by simp) fun h' he' => hQ h' s.toks fun b o hb e => he' b o (fun h => hb (by simp [h])) e
  self := fun _ _ _ _ st hQ => wpAny_pyIter_listiter st.1 hQ
section
variable {X : Cx} {a : Addr} {oe : Obj} {cls : Value} {d : Option Addr} {pn : List (Addr × Obj)}
/-- any(list of bools) within an except suite -/
theorem any_hot (hz : L2N.Zn cls d oe) (hf : ∃ vs, oe.data = .fields vs) : CallR (X.suite a ((a, oe) :: pn)) (.builtin "any") (rAny X.K) := fun pins s σ H vs us Q I r ⟨b, bs, ev, hs, q⟩ => by
  subst ev
  obtain ⟨its, rv, hl, _⟩ := Inv.list I hs
  obtain ⟨fv, hd⟩ := hf
  have here := (I.pin (a, oe) (List.mem_append_left _ List.mem_cons_self)).1
  have lt := Heap.lt_size here
  rw [Vals.ref1 r]
  have items := rv.bls
  refine call_any_walk (iter_any hl.isList fun z ez st ne => ?_); subst ez
  refine ⟨_, _, _, _, _, _, _, rfl, walks_list_hot (A := (X.suite a ((a, oe) :: pn)).A.in1) (x1 := a) (o1 := oe) rfl hd (hz.2.2 fv hd) _ b ne (Nat.ne_of_lt lt) its.toArray, ⟨st.1, st.2, Heap.get?_push_of_some _ here⟩, truth_bools items, fun h' tk hk => ?_⟩
  have all : ∀ c u, s.heap.get? c = some u → h'.get? c = some u := fun c u e => hk c u (fun m => by
    rw [List.mem_singleton.mp m] at e
    exact Nat.lt_irrefl _ (Heap.lt_size e)) (Heap.get?_push_of_some _ e)
  refine ⟨.bl (bs.any id), H, I.kept all, ?_, q⟩
  show Value.bool ((List.range its.toArray.size).any fun i => bs.getD i false) = .bool (bs.any id)
  rw [← any_range, items, List.size_toArray, List.length_map]
/-- isinstance(e, c) of the error that the suite holds -/
def rIsF (K : PySem.W.Frag) (D a : Addr) (cls : Value) (d : Option Addr) : List V → Hp → VK → Prop := fun xs H Q => cls = .ref D ∧ d = none ∧ rIsE K D a xs H Q
theorem call_isF {D : Addr} (C : ExcC X.K D) (hz : L2N.Zn cls d oe) (hf : ∃ vs, oe.data = .fields vs) : CallR (X.suite a ((a, oe) :: pn)) (.builtin "isinstance") (rIsF X.K D a cls d) := by
  intro pins s σ H xs us Q I r h
  obtain ⟨rfl, rfl, h⟩ := h
  exact call_isE C hz.zc hf pins s σ H xs us Q I r h
end
theorem takes0N {X : Cx} : L2N.Takes X (fun _ _ _ _ => False) := fun _ _ ⟨_, _, _, _, _, _, _, _, _, _, _, _, _, _, _, _, no⟩ => False.elim no
theorem okX {P : Program} {w : World} {K : PySem.W.Frag} {mg : Str → Option Value} {base : Heap} {x qual : Str} {st : Stmt} {f : Addr} {fd : FuncData} {N ps : List Str} {k : Nat} {sp : Sp} (F : Fun K x qual st f fd) (S : FnScope N ps (defScope st)) (len : ∀ vs H Q E, sp vs H Q E → vs.length = ps.length)
    (hbody : ∀ (cdv : Value) (A : Around) (outer : List Env) (s : Shared) (H : Hp) (vs : List V) (Q : VK) (E : XK), Room k (A.deeper (PyProof.Rows.envOfC qual (defScope st) s.heap.objs.size f cdv)) → sp vs H Q E →
      ∃ t, PSs (cxOf (L2N.CX P w) P w K mg base N qual (defScope st) f cdv A outer s H E) (defBody st) t ∧ t { nx := fun _ H' => Q .non H', rt := Q } (start N vs) H) : FnOk P w K mg base (L2N.CX P w) (k + 1) f fd ps sp := by
  obtain ⟨_, _, _, _, _, _, cdv, _, _, rfl, lk, hcd⟩ := F.ex
  exact fn_of lk hcd S len (hbody cdv)
/-! ### an error class of the program -/
structure Err (K : PySem.W.Frag) (mg : Str → Option Value) (x : Str) (C : Addr) : Prop where
  g : mg x = some (.ref C)
  x : PySem.W.excIn K C [.type "ValueError", .type "Exception", .type "BaseException", .type "object"] "ValueError.__new__" = true
  k : PySem.W.keepIn K (.ref C) = true
  b : PySem.W.subIn K (.ref C) (.type "BaseException") = some true
  t : PySem.W.typeIn K (.ref C) = some (.type "type")
  hd : PySem.W.hasDictIn K C = true
  hg : PySem.W.findIn K (.ref C) "__getattribute__" = some (some (.builtin "BaseException.__getattribute__"))
  hk : PySem.W.findIn K (.ref C) "__getattr__" = some none
  ha : PySem.W.findIn K (.ref C) "__class__" = some (some (.builtin "object.__class__"))
  hm : PySem.W.mroIn K C (.type "object") = some true
theorem Err.c {K : PySem.W.Frag} {mg : Str → Option Value} {x : Str} {C : Addr} (e : Err K mg x C) (hn : PySem.W.specialIn K (.builtin "object.__class__") "__get__" = some (some (.builtin "getset_descriptor.__get__"))) (ht : PySem.W.takesIn K (.builtin "object.__class__") = some true) : ExcC K C :=
  ⟨e.hg, e.hk, e.b, e.hd, e.ha, hn, ht, e.hm⟩
/-- // of great ints, of any sign -/
theorem op_fdivWN {X : Cx} : OpR X (binaryOp .FloorDiv) (rI (fun _ j => j ≠ 0 ∧ j.natAbs.log2 < 9000) fun i j => .int (i.fdiv j)) := opI fun i j _ _ _ _ _ hc q =>
  PyProof.Rows.floordiv_int hc.1 q (.inl (PyProof.noPylong_of_log2 hc.2))

/-! ### text[::-1] -/
theorem rev_pick (l : List Nat) (t : Tok) (a : Tok) : sliceMade (S l) t none none (some (-1, a)) = Made.str (S l.reverse) := by
  have hs : slicePicked (S l) none none (some (-1, a)) = (List.range l.length).reverse := by
    show sliceRange (((S l).length : Int) - 1) (-1) (-1) = _
    rw [S_len, PySem.W.krv_sliceRange, PySem.W.krv_range]
  have hf : ((List.range l.length).reverse.filterMap ((S l).cps[·]?)) = l.reverse := by
    rw [List.filterMap_reverse]
    congr 1
    have : ∀ m : List Nat, (List.range m.length).filterMap (fun i => m[i]?) = m := fun m => by
      induction m with
      | nil => rfl
      | cons c r ih =>
        rw [List.length_cons, List.range_succ_eq_map, List.filterMap_cons, List.filterMap_map]
        show c :: (List.range r.length).filterMap (fun i => r[i]?) = c :: r
        rw [ih]
    have h2 : (fun i => (S l).cps[i]?) = fun i => l[i]? := funext fun i => S_get l i
    rw [h2]
    exact this l
  unfold sliceMade
  rw [hs, hf]
  rfl
def tRevS (te : TE) : TE := fun σ H Q => te σ H fun x H1 => ∃ l : List Nat, x = .str (S l) ∧ l.length ≤ 16777216 ∧ Q (.str (S l.reverse)) H1
theorem pe_revS {X : Cx} {e : Expr} {te : TE} {k : Nat} {p1 p2 p3 pos : Pos} (he : PE X e te) : PE X (.Subscript e (.Slice none none (some (.UnaryOp .USub (.Constant (.int 1) k p1) p2)) p3) pos) (tRevS te) := by
  constructor
  intro pins s σ H Q I hyp
  apply PyProof.Rows.Subscript_
  refine thn (he.run pins s σ H _ I hyp) fun v s1 ⟨x, H1, I1, r1, l, ex, hl, q⟩ => ?_
  subst ex
  obtain ⟨tk, rfl⟩ := r1
  have minus : PO X (some (.UnaryOp .USub (.Constant (.int 1) k p1) p2)) (tPart (tUn (rU fun i => .int (-i)) (tC (.int 1)))) := po_some (pe_un un_neg pe_int)
  apply wpAny_Slice
  refine thn (po_none.run pins s1 σ H1 (fun o G => o = none ∧ G = H1) I1 ⟨rfl, rfl⟩) fun v1 s2 ⟨o1, G1, J1, a1, b1, c1⟩ => ?_
  subst b1; subst c1
  refine thn (po_none.run pins s2 σ G1 (fun o G => o = none ∧ G = G1) J1 ⟨rfl, rfl⟩) fun v2 s3 ⟨o2, G2, J2, a2, b2, c2⟩ => ?_
  subst b2; subst c2
  refine thn (minus.run pins s3 σ G2 (fun o G => o = some (-1) ∧ G = G2) J2 ⟨1, rfl, -1, rfl, rfl, rfl⟩) fun v3 s4 ⟨o3, G3, J3, a3, b3, c3⟩ => ?_
  subst b3; subst c3
  obtain ⟨y1, rfl, g1⟩ := IsPart.raw a1
  obtain ⟨y2, rfl, g2⟩ := IsPart.raw a2
  obtain ⟨y3, rfl, g3⟩ := IsPart.raw a3
  cases y1 with
  | some z => cases g1
  | none =>
  cases y2 with
  | some z => cases g2
  | none =>
  cases y3 with
  | none => cases g3
  | some z =>
  obtain ⟨z1, z2⟩ := z
  have ez : z1 = -1 := Option.some.inj g3
  subst ez
  show wpAny (model X.prog X.w) X.A (PyProof.Rows.subscriptTail e (.Slice none none (some (.UnaryOp .USub (.Constant (.int 1) k p1) p2)) p3) (.str (S l) tk) (.ref s4.heap.objs.size)) (EP X pins σ Q) X.xe { s4 with heap := s4.heap.push { cls := .type "slice", data := .fields #[partValue none, partValue none, partValue (some (-1, z2))] } }
  refine PyProof.Rows.tail_any (ops := [.str (S l) tk, .ref s4.heap.objs.size]) (typeIs_str _ _ _) PySem.F.slot_str_getitem.lookup ?_ (by with_unfolding_all rfl)
  refine wpAny_getItem_str_slice (l := none) (u := none) (st := some (-1, z2)) ⟨_, Heap.get?_push_size _ rfl, rfl, rfl⟩ (by rfl) ?_
  rw [rev_pick]
  exact ⟨by rw [S_len, List.length_reverse, sizeLine_eq]; exact hl, .str _, _, J3.kept (t' := s4.toks + 1) fun b ob w => Heap.get?_push_of_some _ w, ⟨_, rfl⟩, q⟩
/-! ### all(test for x in text), where the test may read what the top has written -/
section
open GxR
variable {X : Cx} {pins : List (Addr × Obj)} {σ : L2.St} {H : Hp} {s : Shared}
def EltG (X : Cx) (scope : Scope) (x : Str) (elt : Expr) (pb : Nat → Bool) : Prop :=
  ∀ (cenv : Env) (A' : Around) (E' : Value → Shared → Prop) (c : Nat) (t : Tok) (z : Shared) (m : Str → Option Value), X.Ok → cenv.scope = scope → cenv.globals = X.env.globals → (∀ b o, X.base.get? b = some o → z.heap.get? b = some o) →
    z.heap.Ns cenv.locals m → m x = some (.str ⟨#[c]⟩ t) → wpAny (model X.prog X.w) A' (eval elt cenv) (fun y z' => y = .bool (pb c) ∧ Keeps z z') E' z
theorem tbl_not {H : Hp} {P : Addr} {ps : Array Value} (hP : H P = some (.tbl ps)) {b : Addr} (h : H b = none) : b ≠ P := fun z => by rw [z, hP] at h; cases h
theorem gen_go {c P : Addr} {elt : Expr} {x : Str} {scope : Scope} {pb : Nat → Bool} {k : Nat} {Q' : Value → Shared → Prop} {a : Str} {o : Obj} {St : Nat → Heap → Prop} {ps : Array Value}
    (hr : Room k X.A) (TB : TabB X.base X.mg c P) (sc : GenS X.env scope x) (hel : EltG X scope x elt pb) (J : L2.Inv X pins σ H s) (hP : H P = some (.tbl ps)) (atP : s.heap.get? P = some { cls := .none, data := .fields ps }) (ltP : P < s.heap.objs.size)
    (W : ∀ A' : Around, A'.handled = none → Walks X.prog X.w A' s.heap.objs.size [s.heap.objs.size] [s.heap.objs.size] a.cps.size (SignAt a) St) (st0 : St 0 (s.heap.push o)) (code : Value) (h3 : Heap) (tk : Nat) (ps' more : Array Value) (em : ps' = ps ++ more)
    (hx : Heap.ExtBut P (s.heap.push o) h3) (hsz : (s.heap.push o).objs.size ≤ h3.objs.size) (h3P : h3.get? P = some { cls := .none, data := .fields ps' }) (ok' : TriplesOk ps'.toList) (lim : (s.heap.push o).NoLimit) (hQ : ∀ g z, Ready X pins σ H P a pb g z → Q' (.ref g) z) :
    wpAny (model X.prog X.w) X.A (builtinsFor X.env.globals X.env.builtins) (fun bi s₄ =>
      ∃ Ia fp wr n₀ Pf St₀ pz F, Value.ref s.heap.objs.size = .ref Ia ∧ (∀ A' : Around, A'.handled = none → Walks X.prog X.w A' Ia fp wr n₀ Pf St₀) ∧ St₀ 0 s₄.heap ∧ (∀ b ∈ fp, b < s₄.heap.objs.size) ∧ s₄.heap.NoLimit ∧ cStatics ∉ wr ∧
        (∀ href : Heap, (∀ b u, s₄.heap.get? b = some u → href.get? b = some u) → QuietGen X.prog X.w (genEnv scope (cloFrom X.env.cells scope.names []) s₄.heap.objs.size code bi X.env) x [] elt (List.range s₄.heap.objs.size) wr Pf pz F href) ∧
        (∀ g h₅ tk gs, gs.bare = true → s₄.heap.objs.size < g → h₅.objs.size = g + 1 → (∀ b u, s₄.heap.get? b = some u → h₅.get? b = some u) →
          WalksS X.prog X.w X.A.in4 g (g :: s₄.heap.objs.size :: List.range s₄.heap.objs.size) (s₄.heap.objs.size :: wr) (GenOnlyQ s₄.gens.size) (passing pz n₀ 0).length (fun j y => ∃ i, (passing pz n₀ 0)[j]? = some i ∧ F i y) (GenAt X.prog X.w X.A.in4 g s₄.gens.size s₄.heap.objs.size (List.range s₄.heap.objs.size) wr pz n₀ F) →
          GenAt X.prog X.w X.A.in4 g s₄.gens.size s₄.heap.objs.size (List.range s₄.heap.objs.size) wr pz n₀ F 0 { s₄ with gens := s₄.gens.push gs, toks := tk, heap := h₅ } → Q' (.ref g) { s₄ with gens := s₄.gens.push gs, toks := tk, heap := h₅ })) X.xe { s with heap := h3, toks := tk } := by
  obtain ⟨bm, ob, q1, q2, q3, q4, q5, q6, q7, q8⟩ := TB.bm
  obtain ⟨cm, cns, cnn⟩ := J.nolimit
  have cP : cStatics ≠ P := fun z => by
    obtain ⟨o2, es, ep, g1, g2, _⟩ := cns
    rw [z, atP] at g1
    cases g1
    cases g2
  have cL : cStatics < s.heap.objs.size := cns.lt
  have big : (s.heap.push o).objs.size = s.heap.objs.size + 1 := Heap.size_push ..
  have kept : ∀ b u, b ≠ P → s.heap.get? b = some u → h3.get? b = some u := fun b u n e => hx b u n (Heap.get?_push_of_some _ e)
  have bases : ∀ b u, X.base.get? b = some u → h3.get? b = some u := fun b u e => kept b u (tbl_not hP (J.bs b u e).2) (J.bk b u e)
  refine wpAny_builtinsFor (m := X.mg) (by rw [J.ok.glob]; exact J.mod.glob.keeps bases) q1 q2 (bases _ _ q5) q6 q7 q8 ?_
  refine ⟨s.heap.objs.size, [s.heap.objs.size], [s.heap.objs.size], a.cps.size, SignAt a, St, fun _ => true, fun i y => ∃ cc, a.cps[i]? = some cc ∧ y = .bool (pb cc), rfl, W, ?_, ?_, lim.extBut hx cP, ?_, ?_, ?_⟩
  · refine (W X.A hr.hd).frame _ _ _ st0 fun b hb u e => hx b u ?_ e
    rw [List.mem_singleton.mp hb]
    exact Nat.ne_of_gt ltP
  · intro b hb
    rw [List.mem_singleton.mp hb]
    exact Nat.lt_of_lt_of_le (by rw [big]; exact Nat.lt_succ_self _) hsz
  · rw [List.mem_singleton]
    exact Nat.ne_of_lt cL
  · intro href hh
    refine ⟨fun A' E' i v s₂ m₂ _ _ _ _ _ => ?_, fun A' E' i v s₂ m₂ _ hv _ hn hm hk => ?_⟩
    · rw [List.forIn_nil]
      exact wpAny_pure ⟨rfl, keeps_refl s₂⟩
    · obtain ⟨cc, u, hcc, rfl⟩ := hv
      refine wpAny_mono (hel _ A' E' cc u s₂ m₂ J.ok rfl rfl (fun b w e => ?_) hn hm) (fun y z r => ⟨⟨cc, hcc, r.1⟩, r.2⟩) fun _ _ e => e
      have lb := Heap.lt_size (J.bk b w e)
      exact hk b (List.mem_range.mpr (Nat.lt_of_lt_of_le (Nat.lt_of_lt_of_le lb (by rw [big]; exact Nat.le_succ _)) hsz)) (by rw [List.mem_singleton]; exact Nat.ne_of_lt lb) w (hh b w (bases b w e))
  · intro g h5 tk5 gs bare _ _ _ W5 at5
    have W6 := W5
    simp only [GxR.passing_true, List.length_range] at W6
    refine hQ g _ ⟨_, _, _, _, _, W6.in4_1, at5, fun j y sj Qj Ej hy hq => ?_, fun z mv => ?_⟩
    · obtain ⟨i, hi, cc, hcc, rfl⟩ := hy
      obtain ⟨_, ei⟩ := List.getElem?_eq_some_iff.mp hi
      rw [List.getElem_range] at ei
      subst ei
      have hq' : Qj (trF pb a.cps.toList j) sj := hq
      rw [trF_some (show a.cps.toList[j]? = some cc by rw [Array.getElem?_toList]; exact hcc)] at hq'
      exact wpAny_truthy_bool hq'
    · have off : ∀ b u, s.heap.get? b = some u → b ∉ h3.objs.size :: [s.heap.objs.size] := fun b u e hb => by
        have l1 := Heap.lt_size e
        have l2 : s.heap.objs.size < h3.objs.size := Nat.lt_of_lt_of_le (by rw [big]; exact Nat.lt_succ_self _) hsz
        rcases List.mem_cons.mp hb with r | r
        · rw [r] at l1; exact absurd (Nat.lt_trans l1 l2) (Nat.lt_irrefl _)
        · rw [List.mem_singleton.mp r] at l1; exact absurd l1 (Nat.lt_irrefl _)
      have five : ∀ b u, h3.get? b = some u → h5.get? b = some u := by assumption
      have L := inv_tab (more := more) (h' := z.heap) (g' := z.gens) (d' := z.drawn) (t' := z.toks) J hP (fun b u n e => mv.heap b u (off b u e) (five b u (kept b u n e))) (by rw [← em]; exact mv.heap P _ (off P _ atP) (five P _ h3P)) (PyProof.Rows.AllBare.movedS (J.bare.push bare) mv)
      rw [sh_eta s z mv.os] at L
      exact ⟨upd H P (.tbl (ps ++ more)), ⟨⟨ps ++ more, upd_same, by rw [← em]; exact ok'⟩, fun b n => upd_ne n⟩, L⟩
theorem gen_signs {c P : Addr} {elt iter : Expr} {x : Str} {px gpos : Pos} {scope : Scope} {pb : Nat → Bool} {te : TE} {k : Nat} {Q' : Value → Shared → Prop} {R : Str → Hp → Prop}
    (hr : Room k X.A) (TB : TabB X.base X.mg c P) (hcode : X.env.code = .ref c) (sc : GenS X.env scope x) (hi : PE X iter te) (hel : EltG X scope x elt pb) (hs : ∀ v, genFold iter X.env v = pure v)
    (I : L2.Inv X pins σ H s) (h : te σ H fun v G => ∃ a : Str, v = .str a ∧ TabG G P ∧ R a G) (hQ : ∀ a G g z, R a G → Ready X pins σ G P a pb g z → Q' (.ref g) z) :
    wpAny (model X.prog X.w) X.A (eval (.GeneratorExp elt [⟨.Name x px, iter, [], 0⟩] scope gpos) X.env) Q' X.xe s := by
  have room : X.A.depth < recursionLimit := by have := hr.dp; omega
  refine wpAny_GeneratorExp_walksQ hr.hd sc.co (closure_ok sc.free) sc.cell sc.dot sc.loc sc.kind room (thn (hi.run pins s σ H _ I h) fun u s1 ⟨v, G, J, rv, a, ev, ⟨ps, hP, ok⟩, hR⟩ => ?_) hs
  subst ev
  obtain ⟨t, rfl⟩ := id rv
  refine wpAny_pyIter_str fun o St W st0 => ?_
  -- the table, the sizes, what is kept
  have atP : s1.heap.get? P = some { cls := .none, data := .fields ps } := J.hok P _ hP
  have ltP : P < s1.heap.objs.size := Heap.lt_size atP
  have atP' : (s1.heap.push o).get? P = some { cls := .none, data := .fields ps } := Heap.get?_push_of_some _ atP
  have cd : PySem.W.CodeHd (s1.heap.push o) c P := TB.code.keeps fun b w e => Heap.get?_push_of_some _ (J.bk b w e)
  have lim : (s1.heap.push o).NoLimit := J.nolimit.push o
  have next : ∀ (code : Value) (h3 : Heap) (tk : Nat) (ps' more : Array Value), ps' = ps ++ more → Heap.ExtBut P (s1.heap.push o) h3 → (s1.heap.push o).objs.size ≤ h3.objs.size → h3.get? P = some { cls := .none, data := .fields ps' } → TriplesOk ps'.toList → _ :=
    fun code h3 tk ps' more em hx hsz h3P ok' => gen_go (elt := elt) hr TB sc hel J hP atP ltP W st0 code h3 tk ps' more em hx hsz h3P ok' lim fun g z rd => hQ a G g z hR rd
  refine ⟨lim, ?_⟩
  cases hf : codeAmong gpos ps.toList with
  | some cv => exact wpAny_genexprCode_hit hcode (cd.code atP' ok) hf (next cv (s1.heap.push o) s1.toks ps #[] (by simp) (Heap.ExtBut.refl _ _) (Nat.le_refl _) atP' ok)
  | none =>
    refine wpAny_genexprCodeX hcode (cd.code atP' ok) (cd.tab atP') hf fun c' h' tk hx hge hlt hco' _ htab' _ => ?_
    obtain ⟨o1, vs, f1, tf, fl, tg, inF, tx, tt, op, _, _, _, _, _, _, _, _, _, htr, _⟩ := hco'
    exact next _ h' tk _ _ rfl hx (Nat.le_trans hge (Nat.le_of_lt hlt)) htab'.2 htr
theorem pe_allG {c P : Addr} {elt iter : Expr} {x : Str} {px p pos gpos : Pos} {scope : Scope} {pb : Nat → Bool} {te : TE} {k : Nat} (hr : Room k X.A) (hg : Gl X "all") (hm : X.mg "all" = none) (TB : TabB X.base X.mg c P) (hcode : X.env.code = .ref c)
    (sc : GenS X.env scope x) (hi : PE X iter te) (hel : EltG X scope x elt pb) (hs : ∀ v, genFold iter X.env v = pure v)
    (he : starEach [.GeneratorExp elt [⟨.Name x px, iter, [], 0⟩] scope gpos] X.env = (false, eval (.GeneratorExp elt [⟨.Name x px, iter, [], 0⟩] scope gpos) X.env) :: starEach [] X.env := by rfl) :
    PE X (.Call (.Name "all" p) [.GeneratorExp elt [⟨.Name x px, iter, [], 0⟩] scope gpos] [] pos) (tAllS P pb te) := by
  constructor
  intro pins s σ H Q I hyp
  have hb : bootBuiltins "all" = some (.builtin "all") := by decide +kernel
  refine wpAny_Call_Name_kw (ld_blt I hg hm hb (PyProof.Rows.callWith_builtin1 ?_ he (by rfl)))
  rw [he]
  show wpAny _ _ (spliced ((false, eval (.GeneratorExp elt [⟨.Name x px, iter, [], 0⟩] scope gpos) X.env) :: backTo pos (starEach [] X.env))) _ _ s
  refine Calls.spliced_cons (gen_signs (R := fun a G => ∀ G', Tabbed P G G' → Q (.bl (a.cps.toList.all pb)) G') hr TB hcode sc hi hel hs I hyp fun a G g z hR rd => Calls.spliced_nil ?_)
  obtain ⟨fp, wr, Gs, F, St, W, st, tr, done⟩ := rd
  refine call_all_walkS (W.self 0 _ _ _ st ⟨g, fp, wr, Gs, _, F, St, _, rfl, W, st, tr, fun z' mv => ?_⟩)
  obtain ⟨G', tb, L⟩ := done z' mv
  refine ⟨.bl _, G', L, rfl, ?_⟩
  rw [all_signs a pb]
  exact hR G' tb
/-- x in D, D a dict that the top has written -/
theorem elt_in {scope : Scope} {x y : Str} {pb : Nat → Bool} {d : Addr} {es : Array DictEntry} {n : Nat} {p1 p2 p3 : Pos} (D : KDict X.K X.w d es n) (gy : X.mg y = some (.ref d)) (hp : ∀ c, ∃ r, PySem.W.nsIn X.K d (S [c]) = some r ∧ r.isSome = pb c)
    (hk : scope.kind = .function) (hl : scope.names.lookup x = some .local) (hy : scope.names.lookup y = some .globalImplicit) (hd : (x == ("__debug__" : Str)) = false := by decide) (hd2 : (y == ("__debug__" : Str)) = false := by decide) :
    EltG X scope x (.Compare (.Name x p1) [.In] [.Name y p2] p3) pb := by
  intro cenv A' E' c t z m ok hs hg hb hn hm
  have kind : cenv.scope.kind = .function := by rw [hs]; exact hk
  refine wpAny_Compare1 (wpAny_Name (wpAny_loadName_local kind (show cenv.scope.names.lookup x = some .local by rw [hs]; exact hl) hn hm ?_) hd)
  refine Calls.Name_function_global kind (show cenv.scope.names.lookup y = some .globalImplicit by rw [hs]; exact hy) (Calls.loadGlobal_global (by rw [hg, ok.glob]; exact ok.mod.glob.keeps hb) gy ?_) hd2
  obtain ⟨r, e1, e2⟩ := hp c
  refine wpAny_in_of (PySem.strKind_is X.prog X.w (S [c]) t) D.low (PySem.W.mapOf_K (prog := X.prog) (ok.mod.kin.keeps hb) D.at_ D.lit) ?_
  rw [PySem.W.find_K D.at_ e1, e2]
  exact ⟨rfl, keeps_tok _ _⟩
end
/-! ### ''.join of texts, comprehensions over a text -/
theorem join_empty (ys : List (List Nat)) : Txt.join (S []) (ys.map S) = S ys.flatten := by
  have go : ∀ (zs : List (List Nat)) (a : Array Nat), ((zs.map S).foldl (fun acc p => acc ++ (S []).cps ++ p.cps) a).toList = a.toList ++ zs.flatten := by
    intro zs
    induction zs with
    | nil => intro a; simp
    | cons z r ih =>
      intro a
      rw [List.map_cons, List.foldl_cons, ih]
      simp [S]
  show Builtin.Str.glued (S []) (ys.map S) = _
  unfold Builtin.Str.glued
  cases ys with
  | nil => rfl
  | cons y r =>
    have := go r (S y).cps
    show (⟨(r.map S).foldl (fun acc p => acc ++ (S []).cps ++ p.cps) (S y).cps⟩ : Str) = _
    unfold S at this ⊢
    congr 1
    apply Array.toList_inj.mp
    rw [this]
    simp
theorem join_signs (l : List Nat) : Txt.join (S []) (l.map fun c => S [c]) = S l := by
  have := join_empty (l.map fun c => [c])
  rw [List.map_map] at this
  rw [show (l.map fun c => S [c]) = l.map (S ∘ fun c => [c]) from rfl, this]
  congr 1
  induction l with
  | nil => rfl
  | cons c r ih => rw [List.map_cons, List.flatten_cons, ih (join_empty _ |>.trans rfl |> fun h => by rw [List.map_map] at h; exact h)]; rfl
theorem sum_ones (l : List Nat) : ((l.map fun c => S [c]).map (·.length)).sum = l.length := by
  induction l with
  | nil => rfl
  | cons c r ih =>
    rw [List.map_cons, List.map_cons, List.sum_cons, ih, S_len, List.length_cons]
    show 1 + r.length = r.length + 1
    omega
theorem lc_str {l : List Nat} {g : TG} {tt : TT} {te : TE} {vs : List Nat} {σ : L2.St} {H1 : Hp} {D : Addr} {Qd : Hp → Prop} (Pv : Nat → Hp → Prop) (h0 : Pv 0 (upd H1 D (.lst [])))
    (hs : ∀ i c H, l[i]? = some c → Pv i H → g (.str (S [c])) (wipe σ vs) H fun σ2 H2 => wipe σ2 vs = wipe σ vs ∧ tt σ2 H2 fun b H3 =>
      if b = true then te σ2 H3 fun y H4 => ∃ acc, H4 D = some (.lst acc) ∧ acc.length < sizeLine ∧ Pv (i + 1) (upd H4 D (.lst (acc ++ [y]))) else Pv (i + 1) H3) (hd : ∀ H, Pv l.length H → Qd H) :
    ∃ W : Nat → Nat → Hp → Prop, (∃ m, W 0 m (upd H1 D (.lst []))) ∧ ∀ i m H, W i m H →
      ((Its (S l)).stop i H ∧ Qd H) ∨ ((Its (S l)).go i H ∧ ∃ Nx : Hp → Prop, (∀ H', Nx H' → ∃ m', m' < m ∧ W (i + 1) m' H') ∧ ∀ x H', (Its (S l)).yld i H x H' → g x (wipe σ vs) H' fun σ2 H2 => wipe σ2 vs = wipe σ vs ∧ tt σ2 H2 fun b H3 =>
        if b = true then te σ2 H3 fun y H4 => ∃ acc, H4 D = some (.lst acc) ∧ acc.length < sizeLine ∧ Nx (upd H4 D (.lst (acc ++ [y]))) else Nx H3) := by
  refine ⟨fun i m H => m = l.length - i ∧ i ≤ l.length ∧ Pv i H, ⟨l.length, by simp, Nat.zero_le _, h0⟩, ?_⟩
  rintro i m H ⟨rfl, hi, p⟩
  by_cases hlt : i < l.length
  · refine .inr ⟨by show i < (S l).cps.size; rw [S_size]; exact hlt, Pv (i + 1), fun H' p' => ⟨l.length - (i + 1), by omega, rfl, hlt, p'⟩, fun x H' y => ?_⟩
    obtain ⟨e, c, hc, rfl⟩ := y
    subst e
    rw [S_get] at hc
    exact hs i c _ hc p
  · have e : i = l.length := by omega
    subst e
    exact .inl ⟨by show (S l).cps.size ≤ l.length; rw [S_size]; exact Nat.le_refl _, hd H p⟩
/-- a def whose code object is told -/
theorem okC {P : Program} {w : World} {K : PySem.W.Frag} {mg : Str → Option Value} {base : Heap} {x qual : Str} {st : Stmt} {f c : Addr} {fd : FuncData} {N ps : List Str} {k : Nat} {sp : Sp} (F : Fun K x qual st f fd) (hc : fd.code = .ref c) (S : FnScope N ps (defScope st)) (len : ∀ vs H Q E, sp vs H Q E → vs.length = ps.length)
    (body : ∀ (A : Around) (outer : List Env) (s : Shared) (H : Hp) (vs : List V) (Q : VK) (E : XK), Room k (A.deeper (PyProof.Rows.envOfC qual (defScope st) s.heap.objs.size f (.ref c))) → sp vs H Q E →
      ∃ t, PSs (cxOf CX0 P w K mg base N qual (defScope st) f (.ref c) A outer s H E).nox (defBody st) t ∧ t { nx := fun _ H' => Q .non H', rt := Q } (start N vs) H) : FnOk P w K mg base CX0 (k + 1) f fd ps sp := by
  obtain ⟨_, _, _, _, _, _, cdv, _, _, rfl, lk, hcd⟩ := F.ex
  have e : cdv = .ref c := hc
  subst e
  refine fn_of lk hcd S len fun A outer s H vs Q E hr h => ?_
  obtain ⟨t, a, b⟩ := body A outer s H vs Q E hr h
  exact ⟨t, a.nox, b⟩

/-! ### a generator expression with three names as its target, over a list of tuples -/
section
variable {prog : Program} {w : World}
abbrev gx3 (elt iter : Expr) (xa xb xc : Str) (pa pb pc pt : Pos) (kt : Nat) (scope : Scope) (pos : Pos) : Expr := .GeneratorExp elt [⟨.Tuple [.Name xa pa, .Name xb pb, .Name xc pc] kt pt, iter, [], 0⟩] scope pos
/-- the element, once the three names are bound -/
def Quiet3 (prog : Program) (w : World) (cenv : Env) (xa xb xc : Str) (elt : Expr) (fp wr : List Addr) (Pt : Nat → Array Value → Prop) (F : Nat → Value → Prop) (href : Heap) : Prop :=
  ∀ (A1 : Around) (E1 : Value → Shared → Prop) (i : Nat) (u v x : Value) (z : Shared) (m : Str → Option Value), A1.handled = none → Pt i #[u, v, x] → z.heap.Ns cenv.locals m → m xa = some u → m xb = some v → m xc = some x →
    (∀ b ∈ fp, b ∉ wr → ∀ o, href.get? b = some o → z.heap.get? b = some o) → wpAny (model prog w) A1 (eval elt cenv) (fun y z' => F i y ∧ Keeps z z') E1 z
abbrev Ends3 (C : Addr) (wr : List Addr) : GenEnd := fun n s₀ r s₁ => r = .ok .next ∧ (n = 0 ∧ GenSince C wr s₀ s₁)
theorem loop3 {A : Around} {elt iter : Expr} {xa xb xc : Str} {pa pb pc pt : Pos} {kt : Nat} {scope : Scope} {pos : Pos} {I : Addr} {fp wr : List Addr} {N : Nat} {Pt : Nat → Array Value → Prop} {St : Nat → Heap → Prop} {Mid : Nat → Addr → Heap → Prop} {cenv : Env}
    (hA : A.handled = none) (W : ∀ A1 : Around, A1.handled = none → WalksU prog w A1 I fp wr N Pt St Mid) (three : ∀ i vs, Pt i vs → ∃ u v x, vs = #[u, v, x]) (nab : xa ≠ xb) (nac : xa ≠ xc) (nbc : xb ≠ xc) (F : Nat → Value → Prop) (href : Heap)
    (ka : cenv.kindOf xa = some .local) (kb : cenv.kindOf xb = some .local) (kc : cenv.kindOf xc = some .local) (hp : (cenv.scope.kind == .class || (cenv.scope.kind == .module && cenv.locals != cenv.globals)) = false)
    (hco : cenv.scope.isCoroutine = false) (out : cenv.locals ∉ fp) (hq : Quiet3 prog w cenv xa xb xc elt fp wr Pt F href) :
    ∀ (k i : Nat) (s₀ s : Shared) (m : Str → Option Value), N - i = k → i ≤ N → St i s.heap → s.heap.Ns cenv.locals m → GenSince cenv.locals wr s₀ s → (∀ b ∈ fp, b ∉ wr → ∀ o, href.get? b = some o → s.heap.get? b = some o) →
      Seg (model prog w) A (Ends3 cenv.locals wr) (genProto cenv.locals fp wr (fun _ => true) N F) (passing (fun _ => true) N i).length s₀
        (.compLoop (gx3 elt iter xa xb xc pa pb pc pt kt scope pos) 0 (.ref I) .none cenv) ((model prog w).den (.compLoop (gx3 elt iter xa xb xc pa pb pc pt kt scope pos) 0 (.ref I) .none cenv)) [] s := by
  have hA1 : (A.over (.compLoop (gx3 elt iter xa xb xc pa pb pc pt kt scope pos) 0 (.ref I) .none cenv) []).handled = none := hA
  have outw : cenv.locals ∉ wr := fun z => out ((W A hA).sub _ z)
  intro k
  induction k with
  | zero =>
    intro i s₀ s m hk hi st ns since kept
    obtain rfl : i = N := by omega
    show Seg _ A _ _ _ s₀ _ ((compTurn (gx3 elt iter xa xb xc pa pb pc pt kt scope pos) 0 (.ref I) .none cenv).onRaise (leaving cenv)) [] s
    rw [compTurn_gen, Sem.onRaise_eq_wrap]
    refine seg_bind_wrap (wpAny_standAt (seg_bind_wrap ((W _ hA1).done s _ _ st fun h1 t1 kh => ?_)))
    refine seg_end (.ok .next) ⟨rfl, ?_, since.step fun b o _ hw e => kh b o hw e⟩
    rw [passing_end]
    rfl
  | succ k ih =>
    intro i s₀ s m hk hi st ns since kept
    have lt : i < N := by omega
    show Seg _ A _ _ _ s₀ _ ((compTurn (gx3 elt iter xa xb xc pa pb pc pt kt scope pos) 0 (.ref I) .none cenv).onRaise (leaving cenv)) [] s
    rw [compTurn_gen, Sem.onRaise_eq_wrap]
    refine seg_bind_wrap (wpAny_standAt (seg_bind_wrap ((W _ hA1).item i s _ _ lt st fun T vs h1 t1 pt1 tup mid kh => ?_)))
    obtain ⟨u, v, x, rfl⟩ := three i vs pt1
    have apart := (W _ hA1).apart i T _ mid
    refine seg_bind_wrap ((W _ hA1).go _ _ _ i T _ _ _ mid fun h2 st2 k2 => ?_)
    have tup2 : h2.IsTuple T #[u, v, x] := by
      obtain ⟨o, e, r⟩ := tup
      exact ⟨o, k2 _ o apart e, r⟩
    refine seg_bind_wrap (wpAny_assign_Tuple hA1 tup2 rfl rfl fun h3 e3 => ?_)
    have k3 : ∀ b o, h2.get? b = some o → h3.get? b = some o := fun b o e => e3 b o (Nat.ne_of_lt (Heap.lt_size e)) e
    have ns3 : h3.Ns cenv.locals m := ns.at' fun o e => k3 _ o (k2 _ o outw (kh _ o outw e))
    show wpAny _ _ (do holding [v, x] (assign (.Name xa pa) cenv u); do holding [x] (assign (.Name xb pb) cenv v); do holding [] (assign (.Name xc pc) cenv x); pure ()) _ _ _
    refine wpAny_bind (wpAny_holding (wpAny_assign_Name (wpAny_storeName_local ka ns3 (fun h4 ns4 s4 => ?_) hp)))
    refine wpAny_bind (wpAny_holding (wpAny_assign_Name (wpAny_storeName_local kb ns4 (fun h5 ns5 s5 => ?_) hp)))
    refine wpAny_bind (wpAny_holding (wpAny_assign_Name (wpAny_storeName_local kc ns5 (fun h6 ns6 s6 => wpAny_pure ?_) hp)))
    have k6 : ∀ b o, b ≠ cenv.locals → h3.get? b = some o → h6.get? b = some o := fun b o n e => Heap.SameBut.extBut s6 b o n (Heap.SameBut.extBut s5 b o n (Heap.SameBut.extBut s4 b o n e))
    have all6 : ∀ b o, b ≠ cenv.locals → b ∉ wr → s.heap.get? b = some o → h6.get? b = some o := fun b o n nw e => k6 b o n (k3 b o (k2 b o nw (kh b o nw e)))
    have st6 : St (i + 1) h6 := (W A hA).frame _ _ _ st2 fun b hb o e => k6 b o (fun z => out (z ▸ hb)) (k3 b o e)
    have kept6 : ∀ b ∈ fp, b ∉ wr → ∀ o, href.get? b = some o → h6.get? b = some o := fun b hb nw o e => all6 b o (fun z => out (z ▸ hb)) nw (kept b hb nw o e)
    refine seg_bind_wrap (wpAny_of_eq (a := true) List.forIn_nil ?_)
    rw [passing_true lt rfl, List.length_cons]
    simp only [if_true]
    have yo : ∀ y, yieldOut cenv y = yieldValue y := fun y => by simp only [yieldOut, hco, Bool.false_eq_true, if_false]
    simp only [yo]
    rw [Sem.bind_eq_wrap', Sem.bind_eq_wrap', Sem.wrap_wrap, Sem.wrap_wrap]
    refine seg_wrap (wpAny_mono (hq _ _ i u v x _ _ hA1 pt1 ns6 (by simp [nab, nac]) (by simp [nbc]) (by simp) kept6) (fun y z hy => ?_) fun _ _ e => e)
    obtain ⟨fy, h7, t7, rfl, k7⟩ := hy
    refine seg_at (seg_yield rfl rfl rfl ⟨⟨i, passing_here lt rfl, fy⟩, ?_, fun z hz => ?_⟩)
    · exact since.step fun b o n nw e => k7 b o (all6 b o n nw e)
    · refine seg_again rfl (ih (i + 1) z z _ (by omega) lt ?_ ((ns6.at' fun o e => k7 _ o e).at' fun o e => hz _ (List.mem_cons_self ..) o e) (GenSince.refl _ _ _) ?_)
      · exact (W A hA).frame _ _ _ st6 fun b hb o e => hz b (List.mem_cons_of_mem _ hb) o (k7 b o e)
      · exact fun b hb nw o e => hz b (List.mem_cons_of_mem _ hb) o (k7 b o (kept6 b hb nw o e))
theorem start3 {A : Around} {elt iter : Expr} {xa xb xc : Str} {pa pb pc pt : Pos} {kt : Nat} {scope : Scope} {pos : Pos} {I : Addr} {fp wr : List Addr} {N : Nat} {Pt : Nat → Array Value → Prop} {St : Nat → Heap → Prop} {Mid : Nat → Addr → Heap → Prop} {cenv : Env}
    (hA : A.handled = none) (W : ∀ A1 : Around, A1.handled = none → WalksU prog w A1 I fp wr N Pt St Mid) (three : ∀ i vs, Pt i vs → ∃ u v x, vs = #[u, v, x]) (nab : xa ≠ xb) (nac : xa ≠ xc) (nbc : xb ≠ xc) (F : Nat → Value → Prop) (href : Heap)
    (ka : cenv.kindOf xa = some .local) (kb : cenv.kindOf xb = some .local) (kc : cenv.kindOf xc = some .local) (hp : (cenv.scope.kind == .class || (cenv.scope.kind == .module && cenv.locals != cenv.globals)) = false)
    (hco : cenv.scope.isCoroutine = false) (out : cenv.locals ∉ fp) (hq : Quiet3 prog w cenv xa xb xc elt fp wr Pt F href)
    (s₀ s : Shared) (m : Str → Option Value) (st : St 0 s.heap) (ns : s.heap.Ns cenv.locals m) (since : GenSince cenv.locals wr s₀ s) (kept : ∀ b ∈ fp, b ∉ wr → ∀ o, href.get? b = some o → s.heap.get? b = some o) :
    Seg (model prog w) A (Ends3 cenv.locals wr) (genProto cenv.locals fp wr (fun _ => true) N F) (passing (fun _ => true) N 0).length s₀
      (.compStart (gx3 elt iter xa xb xc pa pb pc pt kt scope pos) 0 (.ref I) .none cenv) ((model prog w).den (.compStart (gx3 elt iter xa xb xc pa pb pc pt kt scope pos) 0 (.ref I) .none cenv)) [] s := by
  have hA1 : (A.over (.compStart (gx3 elt iter xa xb xc pa pb pc pt kt scope pos) 0 (.ref I) .none cenv) []).handled = none := hA
  have go := loop3 (iter := iter) (pa := pa) (pb := pb) (pc := pc) (pt := pt) (kt := kt) (scope := scope) (pos := pos) hA W three nab nac nbc F href ka kb kc hp hco out hq N 0 s₀ s m (Nat.sub_zero _) (Nat.zero_le _) st ns since kept
  show Seg _ A _ _ _ s₀ _ ((compStart (gx3 elt iter xa xb xc pa pb pc pt kt scope pos) 0 (.ref I) .none cenv).onRaise (leaving cenv)) [] s
  unfold compStart
  rw [Sem.onRaise_eq_wrap]
  show Seg _ A _ _ _ s₀ _ ((ask >>= _).wrap _ _ _ _) [] s
  refine seg_bind_wrap (wpAny_askSetting ?_)
  split
  · exact seg_again rfl go
  · first
      | exact seg_bind_wrap (wpAny_rule (seg_bind_wrap (wpAny_standAt (seg_bind_wrap ((W _ hA1).self 0 s _ _ st (seg_again rfl go))))))
      | (refine seg_bind_wrap (wpAny_rule ?_); show Seg _ A _ _ _ s₀ _ ((standAt iter.pos >>= _).wrap _ _ _ _) [] s; exact seg_bind_wrap (wpAny_standAt (seg_bind_wrap ((W _ hA1).self 0 s _ _ st (seg_again rfl go)))))
/-- what is asked once the iterator, the code and the built-ins are there -/
def Post3 (prog : Program) (w : World) (A : Around) (env : Env) (elt : Expr) (xa xb xc : Str) (scope : Scope) (cl : List (Str × Addr)) (Q : Value → Shared → Prop) (it code : Value) (bi : Addr) (z : Shared) : Prop :=
  ∃ (I : Addr) (fp wr : List Addr) (N : Nat) (Pt : Nat → Array Value → Prop) (St : Nat → Heap → Prop) (Mid : Nat → Addr → Heap → Prop) (F : Nat → Value → Prop), it = .ref I ∧ (∀ A1 : Around, A1.handled = none → WalksU prog w A1 I fp wr N Pt St Mid) ∧ (∀ i vs, Pt i vs → ∃ u v x, vs = #[u, v, x]) ∧ St 0 z.heap ∧ (∀ b ∈ fp, b < z.heap.objs.size) ∧ z.heap.NoLimit ∧ cStatics ∉ wr ∧
    (∀ href : Heap, (∀ b o, z.heap.get? b = some o → href.get? b = some o) → Quiet3 prog w (genEnv scope cl z.heap.objs.size code bi env) xa xb xc elt (List.range z.heap.objs.size) wr Pt F href) ∧
    (∀ g h5 tk gs, gs.bare = true → z.heap.objs.size < g → h5.objs.size = g + 1 → (∀ b o, z.heap.get? b = some o → h5.get? b = some o) →
      WalksS prog w A.in4 g (g :: z.heap.objs.size :: List.range z.heap.objs.size) (z.heap.objs.size :: wr) (GenOnlyQ z.gens.size) (passing (fun _ => true) N 0).length (fun j y => ∃ i, (passing (fun _ => true) N 0)[j]? = some i ∧ F i y) (GenAt prog w A.in4 g z.gens.size z.heap.objs.size (List.range z.heap.objs.size) wr (fun _ => true) N F) →
      GenAt prog w A.in4 g z.gens.size z.heap.objs.size (List.range z.heap.objs.size) wr (fun _ => true) N F 0 { z with gens := z.gens.push gs, toks := tk, heap := h5 } → Q (.ref g) { z with gens := z.gens.push gs, toks := tk, heap := h5 })
theorem walks3 {A : Around} {E : Value → Shared → Prop} {s : Shared} {env : Env} {elt iter : Expr} {xa xb xc : Str} {pa pb pc pt : Pos} {kt : Nat} {scope : Scope} {cl : List (Str × Addr)} {pos : Pos} {Q : Value → Shared → Prop}
    (hA : A.handled = none) (hco : scope.isCoroutine = false) (hcl : closureFor scope env = pure cl) (hcell : ∀ y ∈ scope.names, y.2 ≠ .cell) (hdot : scope.names.lookup (".0" : Str) = some NameKind.local)
    (ka : scope.names.lookup xa = some .local) (kb : scope.names.lookup xb = some .local) (kc : scope.names.lookup xc = some .local) (nab : xa ≠ xb) (nac : xa ≠ xc) (nbc : xb ≠ xc) (hkind : scope.kind = .function) (room : A.depth < recursionLimit)
    (h : wpAny (model prog w) A (eval iter env) (fun xv s1 => wpAny (model prog w) A (pyIter xv) (fun it s2 => s2.heap.NoLimit ∧ wpAny (model prog w) A (genexprCode env pos (env.qual ++ "<genexpr>") scope) (fun code s3 => wpAny (model prog w) A (builtinsFor env.globals env.builtins) (fun bi z => Post3 prog w A env elt xa xb xc scope cl Q it code bi z) E s3) E s2) E s1) E s)
    (hs : ∀ x, genFold iter env x = pure x) : wpAny (model prog w) A (eval (gx3 elt iter xa xb xc pa pb pc pt kt scope pos) env) Q E s := by
  refine wpAny_GeneratorExp_make hco hcl hcell hdot hkind room (wpAny_mono h (fun xv s1 q1 => wpAny_mono q1 (fun it s2 q2 => ⟨q2.1, wpAny_mono q2.2 (fun code s3 q3 => wpAny_mono q3 (fun bi z q4 => ?_) fun _ _ e => e) fun _ _ e => e⟩) fun _ _ e => e) fun _ _ e => e) hs
  obtain ⟨I, fp, wr, N, Pt, St, Mid, F, rfl, W, three, st, fps, lim, cw, hq, hQ⟩ := q4
  have cs : cStatics < z.heap.objs.size := by
    obtain ⟨_, hn, _⟩ := lim
    exact hn.lt
  intro h1 ns1 same1
  have size1 : h1.objs.size = z.heap.objs.size + 1 := by rw [same1.1, Heap.size_push]
  have keep1 : ∀ b o, z.heap.get? b = some o → h1.get? b = some o := fun b o e => Heap.SameBut.extBut same1 b o (Nat.ne_of_lt (Heap.lt_size e)) (Heap.get?_push_of_some _ e)
  have sub : ∀ b ∈ wr, b ∈ List.range z.heap.objs.size := fun b hb => List.mem_range.mpr (fps b ((W A hA).sub b hb))
  have ne1 : h1.objs.size ≠ z.heap.objs.size := by rw [size1]; exact Nat.succ_ne_self _
  have notin : h1.objs.size ∉ List.range z.heap.objs.size := fun hm => by
    have := List.mem_range.mp hm
    omega
  have keep2 : ∀ b o, z.heap.get? b = some o → (h1.push { cls := .type "generator", data := .fields #[.int z.gens.size 0, .str "<genexpr>" (z.toks + 1), .str (env.qual ++ "<genexpr>") (z.toks + 1 + 1)] }).get? b = some o := fun b o e => Heap.get?_push_of_some _ (keep1 b o e)
  have W2 : ∀ A1 : Around, A1.handled = none → WalksU prog w A1 I (List.range z.heap.objs.size) wr N Pt St Mid := fun A1 hA1 => (W A1 hA1).mono_fp fun b hb => List.mem_range.mpr (fps b hb)
  have st2 := (W A hA).frame _ _ _ st fun b _ o e => keep2 b o e
  refine hQ _ _ _ _ rfl (by omega) (by rw [Heap.size_push]) keep2 (WalksS.genexpQ (A := A.in4) hA _ _ _ _ wr (fun _ => true) N F ne1 notin sub room (List.mem_range.mpr cs) (Nat.ne_of_lt cs) cw) ?_
  refine ⟨⟨_, _, _, Heap.get?_push_size _ rfl, rfl, rfl, rfl⟩, lim.keeps keep2, _, Array.getElem?_push_size .., fun y hy => ⟨rfl, ?_⟩⟩
  refine start3 (A := A.in4.in1) (cenv := genEnv scope cl z.heap.objs.size code bi env) hA W2 three nab nac nbc F _ ka kb kc (by simp [genEnv, hkind]) hco (fun hm => Nat.lt_irrefl _ (List.mem_range.mp hm)) (hq _ keep2) y y (fun x => if x = (".0" : Str) then some (.ref I) else none) ?_ ?_ (GenSince.refl _ _ _) fun b hb _ o e => hy b (List.mem_cons_of_mem _ hb) o e
  · exact (W2 A hA).frame _ _ _ st2 fun b hb o e => hy b (List.mem_cons_of_mem _ hb) o e
  · exact Heap.Ns.at' (Heap.Ns.push ns1 _) fun o e => hy _ (List.mem_cons_self ..) o e
end

/-! ### all(test for a, b, c in list of tuples) -/
section
open GxR
theorem vals_refs : ∀ {rs : List Addr} {its : List Value}, Vals (rs.map V.ref) its → its = rs.map Value.ref
  | [], _, h => by cases h; rfl
  | a :: r, _, h => by
    cases h with
    | cons h1 h2 =>
      have e1 : _ = Value.ref a := h1
      rw [e1, vals_refs h2]
      rfl
theorem vals3 {a b c : V} {its : List Value} (h : Vals [a, b, c] its) : ∃ u v x, its = [u, v, x] ∧ RelV a u ∧ RelV b v ∧ RelV c x := by
  cases h with
  | cons h1 r =>
    cases r with
    | cons h2 r =>
      cases r with
      | cons h3 r =>
        cases r
        exact ⟨_, _, _, rfl, h1, h2, h3⟩
variable {X : Cx} {pins : List (Addr × Obj)} {σ : L2.St} {H : Hp} {s : Shared}
structure Sc3 (env : Env) (scope : Scope) (xa xb xc : Str) : Prop where
  kind : scope.kind = .function
  co : scope.isCoroutine = false
  cell : ∀ y ∈ scope.names, y.2 ≠ .cell
  dot : scope.names.lookup (".0" : Str) = some NameKind.local
  a : scope.names.lookup xa = some .local
  b : scope.names.lookup xb = some .local
  c : scope.names.lookup xc = some .local
  ab : xa ≠ xb
  ac : xa ≠ xc
  bc : xb ≠ xc
  free : ∀ y ∈ scope.names, y.2 = .free → ∃ c, env.cells.lookup y.1 = some c
/-- what the element gives for the items qs, in whatever state keeps what stood in s1 -/
def EltT (X : Cx) (s1 : Shared) (P : Addr) (scope : Scope) (xa xb xc : Str) (elt : Expr) (qs : List (V × V × V)) (pb : Nat → Bool) : Prop :=
  ∀ (cenv : Env) (A1 : Around) (E1 : Value → Shared → Prop) (i : Nat) (q : V × V × V) (u v x : Value) (z : Shared) (m : Str → Option Value), cenv.scope = scope → cenv.cells = cloFrom X.env.cells scope.names [] →
    (∀ b o, b ≠ P → s1.heap.get? b = some o → z.heap.get? b = some o) → z.heap.Ns cenv.locals m → m xa = some u → m xb = some v → m xc = some x → qs[i]? = some q → RelV q.1 u → RelV q.2.1 v → RelV q.2.2 x →
    wpAny (model X.prog X.w) A1 (eval elt cenv) (fun y z' => y = .bool (pb i) ∧ Keeps z z') E1 z
def ReadyT (X : Cx) (pins : List (Addr × Obj)) (σ : L2.St) (G : Hp) (P : Addr) (n : Nat) (pb : Nat → Bool) (g : Addr) (z : Shared) : Prop :=
  ∃ (fp wr : List Addr) (Gs : Array GenState → Array GenState → Prop) (F : Nat → Value → Prop) (St : Nat → Shared → Prop), WalksS X.prog X.w X.A.in1 g fp wr Gs n F St ∧ St 0 z ∧ TruthOf X.prog X.w X.A.in1 F pb ∧ ∀ z', Moved wr Gs z z' → ∃ G', Tabbed P G G' ∧ Inv X pins σ G' z'
/-- the tuples at ts hold the triples qs -/
def Trs (G : Hp) (l : Addr) (qs : List (V × V × V)) : Prop := ∃ ts : List Addr, G l = some (.lst (ts.map V.ref)) ∧ ts.length = qs.length ∧ ∀ (i : Nat) (t : Addr) (q : V × V × V), ts[i]? = some t → qs[i]? = some q → G t = some (.tup [q.1, q.2.1, q.2.2])
theorem walks_lt {prog : Program} {w : World} {A : Around} {I : Addr} {fp wr : List Addr} {n : Nat} {Pt : Nat → Array Value → Prop} {St : Nat → Heap → Prop} {Mid : Nat → Addr → Heap → Prop} (W : WalksU prog w A I fp wr n Pt St Mid) : WalksU prog w A I fp wr n (fun j v => j < n ∧ Pt j v) St Mid where
  sub := W.sub
  frame := W.frame
  item := fun i s Q E hi st hQ => W.item i s Q E hi st fun T vs h tk pt => hQ T vs h tk ⟨hi, pt⟩
  go := W.go
  apart := W.apart
  done := W.done
  self := W.self
theorem go3 {c P : Addr} {ps : Array Value} {elt : Expr} {xa xb xc : Str} {scope : Scope} {k : Nat} {Q' : Value → Shared → Prop} {n : Nat} {qs : List (V × V × V)} {pb : Nat → Bool} {fp : List Addr} {vals : Nat → Array Value} {St : Nat → Heap → Prop} {Mid : Nat → Addr → Heap → Prop} {o : Obj}
    (hr : Room k X.A) (TB : TabB X.base X.mg c P) (J : L2.Inv X pins σ H s) (hP : H P = some (.tbl ps)) (atP : s.heap.get? P = some { cls := .none, data := .fields ps }) (ltP : P < s.heap.objs.size) (hel : EltT X s P scope xa xb xc elt qs pb) (en : n = qs.length)
    (W : ∀ A1 : Around, A1.handled = none → WalksU X.prog X.w A1 s.heap.objs.size fp [s.heap.objs.size] n (fun j v => j < n ∧ v = vals j) St Mid) (three : ∀ i, ∃ u v x, vals i = #[u, v, x]) (rel : ∀ (i : Nat) (q : V × V × V) (u v x : Value), qs[i]? = some q → vals i = #[u, v, x] → RelV q.1 u ∧ RelV q.2.1 v ∧ RelV q.2.2 x)
    (st0 : ∀ h : Heap, (∀ b u, b ≠ P → (s.heap.push o).get? b = some u → h.get? b = some u) → St 0 h) (fps : ∀ b ∈ fp, b ≤ s.heap.objs.size) (code : Value) (h3 : Heap) (tk : Nat) (ps' more : Array Value) (em : ps' = ps ++ more)
    (hx : Heap.ExtBut P (s.heap.push o) h3) (hsz : (s.heap.push o).objs.size ≤ h3.objs.size) (h3P : h3.get? P = some { cls := .none, data := .fields ps' }) (ok' : TriplesOk ps'.toList) (lim : (s.heap.push o).NoLimit) (hQ : ∀ g z, ReadyT X pins σ H P n pb g z → Q' (.ref g) z) :
    wpAny (model X.prog X.w) X.A (builtinsFor X.env.globals X.env.builtins) (fun bi z => Post3 X.prog X.w X.A X.env elt xa xb xc scope (cloFrom X.env.cells scope.names []) Q' (.ref s.heap.objs.size) code bi z) X.xe { s with heap := h3, toks := tk } := by
  obtain ⟨bm, ob, q1, q2, q3, q4, q5, q6, q7, q8⟩ := TB.bm
  obtain ⟨cm, cns, cnn⟩ := J.nolimit
  have cP : cStatics ≠ P := fun z => by
    obtain ⟨o2, es, ep, g1, g2, _⟩ := cns
    rw [z, atP] at g1
    cases g1
    cases g2
  have cL : cStatics < s.heap.objs.size := cns.lt
  have big : (s.heap.push o).objs.size = s.heap.objs.size + 1 := Heap.size_push ..
  have kept : ∀ b u, b ≠ P → s.heap.get? b = some u → h3.get? b = some u := fun b u n e => hx b u n (Heap.get?_push_of_some _ e)
  have bases : ∀ b u, X.base.get? b = some u → h3.get? b = some u := fun b u e => kept b u (tbl_not hP (J.bs b u e).2) (J.bk b u e)
  refine wpAny_builtinsFor (m := X.mg) (by rw [J.ok.glob]; exact J.mod.glob.keeps bases) q1 q2 (bases _ _ q5) q6 q7 q8 ?_
  refine ⟨s.heap.objs.size, fp, [s.heap.objs.size], n, _, St, Mid, fun i y => y = .bool (pb i), rfl, W, fun i vs h => ?_, st0 _ hx, fun b hb => ?_, lim.extBut hx cP, ?_, ?_, ?_⟩
  · obtain ⟨u, v, x, e⟩ := three i
    exact ⟨u, v, x, by rw [h.2, e]⟩
  · exact Nat.lt_of_lt_of_le (Nat.lt_succ_of_le (fps b hb)) (by show s.heap.objs.size + 1 ≤ h3.objs.size; rw [← big]; exact hsz)
  · rw [List.mem_singleton]
    exact Nat.ne_of_lt cL
  · intro href hh A1 E1 i u v x z m _ pt ns hu hv hxx kp
    have hi := pt.1
    rw [en] at hi
    have eq := List.getElem?_eq_getElem hi
    obtain ⟨r1, r2, r3⟩ := rel i _ u v x eq pt.2.symm
    refine hel _ A1 E1 i _ u v x z m rfl rfl (fun b w nb e => ?_) ns hu hv hxx eq r1 r2 r3
    have lb := Heap.lt_size e
    exact kp b (List.mem_range.mpr (Nat.lt_of_lt_of_le (Nat.lt_of_lt_of_le lb (by rw [big]; exact Nat.le_succ _)) hsz)) (by rw [List.mem_singleton]; exact Nat.ne_of_lt lb) w (hh b w (kept b w nb e))
  · intro g h5 tk5 gs bare _ _ keep5 W5 at5
    have W6 := W5
    simp only [GxR.passing_true, List.length_range] at W6
    refine hQ g _ ⟨_, _, _, _, _, W6.in4_1, at5, fun j y sj Qj Ej hy hq => ?_, fun z mv => ?_⟩
    · obtain ⟨i, hi, e⟩ := hy
      have ey : y = .bool (pb i) := e
      subst ey
      obtain ⟨_, ei⟩ := List.getElem?_eq_some_iff.mp hi
      rw [List.getElem_range] at ei
      subst ei
      exact wpAny_truthy_bool hq
    · have off : ∀ b u, s.heap.get? b = some u → b ∉ h3.objs.size :: [s.heap.objs.size] := fun b u e hb => by
        have l1 := Heap.lt_size e
        have l2 : s.heap.objs.size < h3.objs.size := Nat.lt_of_lt_of_le (by rw [big]; exact Nat.lt_succ_self _) hsz
        rcases List.mem_cons.mp hb with r | r
        · rw [r] at l1; exact absurd (Nat.lt_trans l1 l2) (Nat.lt_irrefl _)
        · rw [List.mem_singleton.mp r] at l1; exact absurd l1 (Nat.lt_irrefl _)
      have L := inv_tab (more := more) (h' := z.heap) (g' := z.gens) (d' := z.drawn) (t' := z.toks) J hP (fun b u n e => mv.heap b u (off b u e) (keep5 b u (kept b u n e))) (by rw [← em]; exact mv.heap P _ (off P _ atP) (keep5 P _ h3P)) (PyProof.Rows.AllBare.movedS (J.bare.push bare) mv)
      rw [sh_eta s z mv.os] at L
      exact ⟨upd H P (.tbl (ps ++ more)), ⟨⟨ps ++ more, upd_same, by rw [← em]; exact ok'⟩, fun b n => upd_ne n⟩, L⟩
theorem gen3 {c P : Addr} {elt iter : Expr} {xa xb xc : Str} {pa pb' pc pt : Pos} {kt : Nat} {scope : Scope} {gpos : Pos} {te : TE} {k : Nat} {Q' : Value → Shared → Prop} {R : Nat → (Nat → Bool) → Hp → Prop}
    (hr : Room k X.A) (TB : TabB X.base X.mg c P) (hcode : X.env.code = .ref c) (sc : Sc3 X.env scope xa xb xc) (hi : PE X iter te) (hs : ∀ v, genFold iter X.env v = pure v) (I : L2.Inv X pins σ H s)
    (h : te σ H fun v G => ∃ (l : Addr) (qs : List (V × V × V)) (pb : Nat → Bool), v = .ref l ∧ Trs G l qs ∧ TabG G P ∧ (∀ pins1 s1, L2.Inv X pins1 σ G s1 → EltT X s1 P scope xa xb xc elt qs pb) ∧ R qs.length pb G)
    (hQ : ∀ n pb G g z, R n pb G → ReadyT X pins σ G P n pb g z → Q' (.ref g) z) :
    wpAny (model X.prog X.w) X.A (eval (gx3 elt iter xa xb xc pa pb' pc pt kt scope gpos) X.env) Q' X.xe s := by
  have room : X.A.depth < recursionLimit := by have := hr.dp; omega
  refine walks3 hr.hd sc.co (closure_ok sc.free) sc.cell sc.dot sc.a sc.b sc.c sc.ab sc.ac sc.bc sc.kind room (thn (hi.run pins s σ H _ I h) fun u s1 ⟨v, G, J, rv, l, qs, pb, ev, ⟨ts, hl, tz, ht⟩, ⟨ps, hP, ok⟩, hel, hR⟩ => ?_) hs
  subst ev
  cases rv
  obtain ⟨its, ri, pl, _⟩ := J.list (SqL.of hl)
  have eits := vals_refs ri
  subst eits
  refine wpAny_pyIter_list pl.isList ?_
  have key : ∀ i : Nat, ∃ arr : Array Value, (∃ u v x, arr = #[u, v, x]) ∧ ∀ (t : Addr) (q : V × V × V), ts[i]? = some t → qs[i]? = some q → ∃ u v x, arr = #[u, v, x] ∧ RelV q.1 u ∧ RelV q.2.1 v ∧ RelV q.2.2 x ∧ s1.heap.IsTuple t arr := fun i => by
    cases et : ts[i]? with
    | none => exact ⟨#[.none, .none, .none], ⟨_, _, _, rfl⟩, fun t q z _ => by cases z⟩
    | some t =>
      cases eq : qs[i]? with
      | none => exact ⟨#[.none, .none, .none], ⟨_, _, _, rfl⟩, fun t q _ z => by cases z⟩
      | some q =>
        obtain ⟨its, rq, tq, _⟩ := J.tuple (SqT.of (ht i t q et eq))
        obtain ⟨u, v, x, rfl, r1, r2, r3⟩ := vals3 rq
        exact ⟨#[u, v, x], ⟨_, _, _, rfl⟩, fun t' q' z1 z2 => by cases z1; cases z2; exact ⟨u, v, x, rfl, r1, r2, r3, tq⟩⟩
  have ⟨vals, hvals⟩ : ∃ vals : Nat → Array Value, ∀ i, (∃ u v x, vals i = #[u, v, x]) ∧ ∀ (t : Addr) (q : V × V × V), ts[i]? = some t → qs[i]? = some q → ∃ u v x, vals i = #[u, v, x] ∧ RelV q.1 u ∧ RelV q.2.1 v ∧ RelV q.2.2 x ∧ s1.heap.IsTuple t (vals i) := ⟨fun i => Classical.choose (key i), fun i => Classical.choose_spec (key i)⟩
  have isz : (ts.map Value.ref).toArray.size = qs.length := by simp [tz]
  have atT : ∀ j, j < (ts.map Value.ref).toArray.size → ts[j]? = some (ts.getD j 0) := fun j hj => by
    rw [List.getD_eq_getElem?_getD, List.getElem?_eq_getElem (by rw [isz, ← tz] at hj; exact hj)]
    rfl
  have atQ : ∀ j, j < (ts.map Value.ref).toArray.size → ∃ q, qs[j]? = some q := fun j hj => ⟨_, List.getElem?_eq_getElem (by rw [isz] at hj; exact hj)⟩
  have tups : ∀ j, j < (ts.map Value.ref).toArray.size → s1.heap.IsTuple (ts.getD j 0) (vals j) := fun j hj => by
    obtain ⟨q, hq⟩ := atQ j hj
    obtain ⟨_, _, _, _, _, _, _, r⟩ := (hvals j).2 _ q (atT j hj) hq
    exact r
  have lts : ∀ j, j < (ts.map Value.ref).toArray.size → ts.getD j 0 < s1.heap.objs.size := fun j hj => by
    obtain ⟨o, e, _⟩ := tups j hj
    exact Heap.lt_size e
  have ltl : l < s1.heap.objs.size := by
    obtain ⟨o, n, e, _⟩ := pl
    exact Heap.lt_size e
  have atP : s1.heap.get? P = some { cls := .none, data := .fields ps } := J.hok P _ hP
  have ltP : P < s1.heap.objs.size := Heap.lt_size atP
  have big : (s1.heap.push { cls := .type "list_iterator", data := .fields #[.ref l, .int 0 0] }).objs.size = s1.heap.objs.size + 1 := Heap.size_push ..
  have lenT : (ts.map Value.ref).toArray.size = ts.length := by simp
  have W : ∀ A1 : Around, A1.handled = none → WalksU X.prog X.w A1 s1.heap.objs.size (s1.heap.objs.size :: l :: (List.range (ts.map Value.ref).toArray.size).map fun j => ts.getD j 0) [s1.heap.objs.size] (ts.map Value.ref).toArray.size (fun j v => v = vals j) _ _ := fun A1 h1 => WalksU.listOfTuples h1 s1.heap.objs.size l (Nat.ne_of_lt ltl) (ts.map Value.ref).toArray (fun j => ts.getD j 0) vals (fun j hj => by
    have e := atT j hj
    rw [List.getElem?_toArray, List.getElem?_map, e]
    rfl) (fun j hj => Nat.ne_of_lt (lts j hj))
  have W2 := fun A1 h1 => walks_lt (W A1 h1)
  have rel : ∀ (i : Nat) (q : V × V × V) (u v x : Value), qs[i]? = some q → vals i = #[u, v, x] → RelV q.1 u ∧ RelV q.2.1 v ∧ RelV q.2.2 x := fun i q u v x hq e => by
    have hi : i < (ts.map Value.ref).toArray.size := by rw [isz]; exact (List.getElem?_eq_some_iff.mp hq).1
    obtain ⟨u', v', x', e', r1, r2, r3, _⟩ := (hvals i).2 _ q (atT i hi) hq
    rw [e] at e'
    have l3 := congrArg Array.toList e'
    simp only [List.cons.injEq, and_true] at l3
    obtain ⟨rfl, rfl, rfl⟩ := l3
    exact ⟨r1, r2, r3⟩
  have neT : ∀ j, j < (ts.map Value.ref).toArray.size → ts.getD j 0 ≠ P := fun j hj => by
    obtain ⟨q, hq⟩ := atQ j hj
    exact ne_of (ht j _ q (atT j hj) hq) hP (by intro z; cases z)
  have nl : l ≠ P := ne_of hl hP (by intro z; cases z)
  have atP' : (s1.heap.push { cls := .type "list_iterator", data := .fields #[.ref l, .int 0 0] }).get? P = some { cls := .none, data := .fields ps } := Heap.get?_push_of_some _ atP
  have cd : PySem.W.CodeHd (s1.heap.push { cls := .type "list_iterator", data := .fields #[.ref l, .int 0 0] }) c P := TB.code.keeps fun b w e => Heap.get?_push_of_some _ (J.bk b w e)
  have lim : (s1.heap.push { cls := .type "list_iterator", data := .fields #[.ref l, .int 0 0] }).NoLimit := J.nolimit.push _
  have next : ∀ (code : Value) (h3 : Heap) (tk : Nat) (ps' more : Array Value), ps' = ps ++ more → Heap.ExtBut P (s1.heap.push { cls := .type "list_iterator", data := .fields #[.ref l, .int 0 0] }) h3 → (s1.heap.push { cls := .type "list_iterator", data := .fields #[.ref l, .int 0 0] }).objs.size ≤ h3.objs.size → h3.get? P = some { cls := .none, data := .fields ps' } → TriplesOk ps'.toList → _ :=
    fun code h3 tk ps' more em hx hsz h3P ok' => go3 hr TB J hP atP ltP (hel pins s1 J) (isz) W2 (fun i => (hvals i).1) rel
      (fun h kh => ⟨⟨_, kh _ _ (Nat.ne_of_gt ltP) (Heap.get?_push_size _ rfl), rfl, rfl⟩, (by obtain ⟨u, e, r⟩ := pl.isList; exact ⟨u, kh _ _ nl (Heap.get?_push_of_some _ e), r⟩), fun j hj => by
        obtain ⟨u, e, r⟩ := tups j hj
        exact ⟨u, kh _ _ (neT j hj) (Heap.get?_push_of_some _ e), r⟩⟩)
      (fun b hb => by
        rcases List.mem_cons.mp hb with rfl | hb
        · exact Nat.le_refl _
        · rcases List.mem_cons.mp hb with rfl | hb
          · exact Nat.le_of_lt ltl
          · obtain ⟨j, hj, rfl⟩ := List.mem_map.mp hb
            exact Nat.le_of_lt (lts j (List.mem_range.mp hj))) code h3 tk ps' more em hx hsz h3P ok' lim fun g z rd => hQ _ _ G g z hR (by rw [← isz]; exact rd)
  refine ⟨lim, ?_⟩
  cases hf : codeAmong gpos ps.toList with
  | some cv => exact wpAny_genexprCode_hit hcode (cd.code atP' ok) hf (next cv _ s1.toks ps #[] (by simp) (Heap.ExtBut.refl _ _) (Nat.le_refl _) atP' ok)
  | none =>
    refine wpAny_genexprCodeX hcode (cd.code atP' ok) (cd.tab atP') hf fun c' h' tk hx hge hlt hco' _ htab' _ => ?_
    obtain ⟨o1, vs, f1, tf, fl, tg, inF, tx, tt, op, _, _, _, _, _, _, _, _, _, htr, _⟩ := hco'
    exact next _ h' tk _ _ rfl hx (Nat.le_trans hge (Nat.le_of_lt hlt)) htab'.2 htr
/-- the reading of all(elt for a, b, c in iter) -/
def tAll3 (X : Cx) (P : Addr) (scope : Scope) (xa xb xc : Str) (elt : Expr) (te : TE) : TE := fun σ H Q => te σ H fun v G => ∃ (l : Addr) (qs : List (V × V × V)) (pb : Nat → Bool), v = .ref l ∧ Trs G l qs ∧ TabG G P ∧ (∀ pins1 s1, L2.Inv X pins1 σ G s1 → EltT X s1 P scope xa xb xc elt qs pb) ∧ ∀ G', Tabbed P G G' → Q (.bl ((List.range qs.length).all pb)) G'
theorem pe_all3 {c P : Addr} {elt iter : Expr} {xa xb xc : Str} {pa pb' pc pt p pos gpos : Pos} {kt : Nat} {scope : Scope} {te : TE} {k : Nat} (hr : Room k X.A) (hg : Gl X "all") (hm : X.mg "all" = none) (TB : TabB X.base X.mg c P) (hcode : X.env.code = .ref c) (sc : Sc3 X.env scope xa xb xc) (hi : PE X iter te) (hs : ∀ v, genFold iter X.env v = pure v)
    (he : starEach [gx3 elt iter xa xb xc pa pb' pc pt kt scope gpos] X.env = (false, eval (gx3 elt iter xa xb xc pa pb' pc pt kt scope gpos) X.env) :: starEach [] X.env := by rfl) :
    PE X (.Call (.Name "all" p) [gx3 elt iter xa xb xc pa pb' pc pt kt scope gpos] [] pos) (tAll3 X P scope xa xb xc elt te) := by
  constructor
  intro pins s σ H Q I hyp
  have hb : bootBuiltins "all" = some (.builtin "all") := by decide +kernel
  refine wpAny_Call_Name_kw (ld_blt I hg hm hb (PyProof.Rows.callWith_builtin1 ?_ he (by rfl)))
  rw [he]
  show wpAny _ _ (spliced ((false, eval (gx3 elt iter xa xb xc pa pb' pc pt kt scope gpos) X.env) :: backTo pos (starEach [] X.env))) _ _ s
  refine Calls.spliced_cons (gen3 (R := fun n pb G => ∀ G', Tabbed P G G' → Q (.bl ((List.range n).all pb)) G') hr TB hcode sc hi hs I hyp fun n pb G g z hR rd => Calls.spliced_nil ?_)
  obtain ⟨fp, wr, Gs, F, St, W, st, tr, done⟩ := rd
  refine call_all_walkS (W.self 0 _ _ _ st ⟨g, fp, wr, Gs, _, F, St, _, rfl, W, st, tr, fun z' mv => ?_⟩)
  obtain ⟨G', tb, L⟩ := done z' mv
  exact ⟨.bl _, G', L, rfl, hR G' tb⟩
/-! ### the element colours[before] + colours[behind] == 2 * colours[over] -/
theorem lookup_of_mem {c : Addr} {n : Str} : ∀ {L : List (Str × Addr)}, (n, c) ∈ L → ∃ d, L.lookup n = some d ∧ (n, d) ∈ L
  | [], h => by cases h
  | (m, e) :: r, h => by
    by_cases hm : n = m
    · subst hm
      exact ⟨e, by simp, List.mem_cons_self⟩
    · rcases List.mem_cons.mp h with h | h
      · cases h; exact absurd rfl hm
      · obtain ⟨d, h1, h2⟩ := lookup_of_mem h
        refine ⟨d, ?_, List.mem_cons_of_mem _ h2⟩
        rw [List.lookup_cons, show (n == m) = false from beq_eq_false_iff_ne.mpr hm]
        exact h1
theorem clo_lookup {cells : List (Str × Addr)} {names : List (Str × NameKind)} {n : Str} {c : Addr} (h : (n, NameKind.free) ∈ names) (hc : cells.lookup n = some c) : (cloFrom cells names []).lookup n = some c := by
  obtain ⟨d, h1, h2⟩ := lookup_of_mem (cloFrom_has (cells := cells) (acc := []) h)
  rcases cloFrom_mem h2 with h2 | ⟨_, h2⟩
  · cases h2
  · rw [h1, h2, hc]
    rfl
def crossV (c : Nat × Nat × Nat) : V × V × V := (.int (c.1 : Int), .int (c.2.1 : Int), .int (c.2.2 : Int))
def keepB (A : List Int) (c : Nat × Nat × Nat) : Bool := A.getD c.2.1 0 + A.getD c.2.2 0 == 2 * A.getD c.1 0
def keepAt (cs : List (Nat × Nat × Nat)) (A : List Int) (i : Nat) : Bool := match cs[i]? with
  | some c => keepB A c
  | none => false
theorem all_keep (cs : List (Nat × Nat × Nat)) (A : List Int) : (List.range cs.length).all (keepAt cs A) = cs.all (keepB A) := by
  rw [Bool.eq_iff_iff, List.all_eq_true, List.all_eq_true]
  constructor
  · intro h c hc
    obtain ⟨i, hi, e⟩ := List.getElem_of_mem hc
    have := h i (List.mem_range.mpr hi)
    unfold keepAt at this
    rw [List.getElem?_eq_getElem hi, e] at this
    exact this
  · intro h i hi
    have hi' := List.mem_range.mp hi
    unfold keepAt
    rw [List.getElem?_eq_getElem hi']
    exact h _ (List.getElem_mem hi')
theorem vals_ints : ∀ {A : List Int} {its : List Value}, Vals (A.map V.int) its → ∀ i, i < A.length → ∃ t, its[i]? = some (.int (A.getD i 0) t)
  | [], _, _, i, hi => by cases hi
  | a :: r, _, h, i, hi => by
    cases h with
    | cons h1 h2 =>
      obtain ⟨t, rfl⟩ := h1
      cases i with
      | zero => exact ⟨t, rfl⟩
      | succ i => exact vals_ints h2 i (Nat.lt_of_succ_lt_succ hi)
theorem elt_cross {P cp : Addr} {G : Hp} {s1 : Shared} {scope : Scope} {xa xb xc y : Str} {ic : Nat} {A : List Int} {cs : List (Nat × Nat × Nat)} {ps : Array Value} {p1 p2 p3 p4 p5 p6 p7 p8 p9 p10 p11 p12 p13 : Pos} {kk : Nat}
    (J : L2.Inv X pins σ G s1) (hk : scope.kind = .function) (ka : scope.names.lookup xa = some .local) (kb : scope.names.lookup xb = some .local) (kc : scope.names.lookup xc = some .local) (ky : scope.names.lookup y = some .free) (my : (y, NameKind.free) ∈ scope.names)
    (hN : X.N[ic]? = some y) (hy : X.env.kindOf y = some .cell) (hv : X.env.scope.names.lookup y = some .cell) (hσ : σ[ic]? = some (some (.ref cp))) (hG : G cp = some (.lst (A.map V.int))) (hP : G P = some (.tbl ps)) (hz : A.length ≤ 1000000)
    (hin : ∀ (i : Nat) (c : Nat × Nat × Nat), cs[i]? = some c → c.1 < A.length ∧ c.2.1 < A.length ∧ c.2.2 < A.length)
    (da : (xa == ("__debug__" : Str)) = false := by decide) (db : (xb == ("__debug__" : Str)) = false := by decide) (dc : (xc == ("__debug__" : Str)) = false := by decide) (dy : (y == ("__debug__" : Str)) = false := by decide) (cy : (y == ("__classdict__" : Str)) = false := by decide) :
    EltT X s1 P scope xa xb xc (.Compare (.BinOp (.Subscript (.Name y p1) (.Name xb p2) p3) .Add (.Subscript (.Name y p4) (.Name xc p5) p6) p7) [.Eq] [.BinOp (.Constant (.int 2) kk p8) .Mult (.Subscript (.Name y p9) (.Name xa p10) p11) p12] p13) (cs.map crossV) (keepAt cs A) := by
  intro cenv A1 E1 i q u v x z m es ec kept ns hu hv' hx hq r1 r2 r3
  rw [List.getElem?_map] at hq
  cases hc : cs[i]? with
  | none => rw [hc] at hq; cases hq
  | some c =>
    rw [hc] at hq
    cases hq
    obtain ⟨t1, rfl⟩ := r1
    obtain ⟨t2, rfl⟩ := r2
    obtain ⟨t3, rfl⟩ := r3
    obtain ⟨b1, b2, b3⟩ := hin i c hc
    -- the list in its cell
    obtain ⟨m0, _, hl⟩ := J.loc
    obtain ⟨w, rw_, look⟩ := hl ic y (.ref cp) hN hσ (.inr (.inl hv))
    have ew : w = .ref cp := rw_
    subst ew
    obtain ⟨cc, hcc, cell⟩ : ∃ c, X.env.cells.lookup y = some c ∧ s1.heap.IsCell c (some (.ref cp)) := by
      rcases look with ⟨h1, _⟩ | ⟨_, h2⟩
      · rw [hy] at h1; cases h1
      · exact h2
    have ncP : cc ≠ P := fun e => by
      have := J.freeC y cc hcc
      rw [e, hP] at this
      cases this
    have ncp : cp ≠ P := ne_of hG hP (by intro z; cases z)
    obtain ⟨its, ri, pl, _⟩ := J.list (SqL.of hG)
    have get := vals_ints ri
    have cl : cenv.cells.lookup y = some cc := by rw [ec]; exact clo_lookup my hcc
    have kind : cenv.scope.kind = .function := by rw [es]; exact hk
    have cellZ : ∀ z2 : Shared, (∀ b o, z.heap.get? b = some o → z2.heap.get? b = some o) → z2.heap.IsCell cc (some (.ref cp)) := fun z2 k2 => by
      obtain ⟨o, e, r⟩ := cell
      exact ⟨o, k2 _ _ (kept _ _ ncP e), r⟩
    have listZ : ∀ z2 : Shared, (∀ b o, z.heap.get? b = some o → z2.heap.get? b = some o) → z2.heap.IsList cp its.toArray := fun z2 k2 => by
      obtain ⟨o, e, r⟩ := pl.isList
      exact ⟨o, k2 _ _ (kept _ _ ncp e), r⟩
    have item : ∀ (n : Str) (j : Nat) (tj : Tok) (q1 q2 q3 : Pos) (tk : Nat) (Q : Value → Shared → Prop), cenv.kindOf n = some .local → (n == ("__debug__" : Str)) = false → m n = some (.int (j : Int) tj) → j < A.length → (∀ t, Q (.int (A.getD j 0) t) { z with toks := tk }) →
        wpAny (model X.prog X.w) A1 (eval (.Subscript (.Name y q1) (.Name n q2) q3) cenv) Q E1 { z with toks := tk } := fun n j tj q1 q2 q3 tk Q hn hd hm hj hQ => by
      obtain ⟨t, ht⟩ := get j hj
      refine PyProof.Rows.Subscript_ (wpAny_Name (wpAny_loadName_free kind (show cenv.scope.names.lookup y = some .free by rw [es]; exact ky) cl (cellZ _ fun _ _ e => e) ?_ cy) dy)
      refine wpAny_Name (wpAny_loadName_local kind hn ns hm ?_) hd
      exact PyProof.Rows.item_listR (listZ { z with toks := tk } fun _ _ e => e) (by omega) (by omega) (by rw [Int.toNat_natCast]; simpa using ht) (hQ t) rfl
    have kA : cenv.kindOf xa = some .local := by show cenv.scope.names.lookup xa = _; rw [es]; exact ka
    have kB : cenv.kindOf xb = some .local := by show cenv.scope.names.lookup xb = _; rw [es]; exact kb
    have kC : cenv.kindOf xc = some .local := by show cenv.scope.names.lookup xc = _; rw [es]; exact kc
    refine wpAny_Compare1 (wpAny_BinOp (item xb _ _ _ _ _ z.toks _ kB db hv' b2 fun t => item xc _ _ _ _ _ z.toks _ kC dc hx b3 fun t' => PyProof.Rows.add_int ?_))
    refine wpAny_BinOp (wpAny_Constant_int (item xa _ _ _ _ _ _ _ kA da hu b1 fun t'' => PyProof.Rows.mul_int ?_ (IntMulOk.of_left (by decide))))
    refine PyProof.Rows.eq_int ⟨?_, z.heap, _, rfl, fun _ _ e => e⟩
    unfold keepAt
    rw [hc]
    rfl
end

open PySem L2 PySem.Spec PyProof.Rows
section
variable {X : Cx} {pos p2 : Pos}
/-- xs[a:c] = a list of its own, a and c told -/
def gSlc (to : TE) (tl th : TO) : TG := fun v σ H Q => to σ H fun o H1 => tl σ H1 fun l H2 => th σ H2 fun u H3 => ∃ (p b : Addr) (xs ys : List V) (a c : Int), o = .ref p ∧ v = .ref b ∧ l = some a ∧ u = some c ∧ H3 p = some (.lst xs) ∧ H3 b = some (.lst ys) ∧ p ≠ b ∧ 0 ≤ a ∧ a ≤ c ∧ c ≤ xs.length ∧ xs.length + ys.length ≤ sizeLine ∧ Q σ (upd H3 p (.lst (xs.take a.toNat ++ ys ++ xs.drop c.toNat)))
theorem pg_slc {o : Expr} {lo hi : Option Expr} {to : TE} {tl th : TO} (ho : PE X o to) (hl : PO X lo tl) (hu : PO X hi th)
    : PG X (.Subscript o (.Slice lo hi none p2) pos) (gSlc to tl th) := by
  refine ⟨fun pins sh σ H v u Q I r h => ?_⟩
  rw [show assign (.Subscript o (.Slice lo hi none p2) pos) X.env u = (do
      let ov ← holding [u] (eval o X.env)
      let iv ← holding [u, ov] (eval (.Slice lo hi none p2) X.env)
      standAt pos
      holding [u, ov, iv] (setItem ov iv u)
      release [iv, u, ov] []) from rfl]
  refine wpAny_bind (wpAny_holding (thn (ho.run pins sh σ H _ I h) fun ob s1 ⟨x, H1, I1, r1, q1⟩ => ?_))
  refine wpAny_bind (wpAny_holding (wpAny_Slice (thn (hl.run pins s1 σ H1 _ I1 q1) fun vl s2 ⟨l, H2, I2, pl, q2⟩ => thn (hu.run pins s2 σ H2 _ I2 q2) fun vu s3 ⟨u', H3, I3, pu, q3⟩ => ?_)))
  rw [evalPart_none]
  refine wpAny_pure ?_
  have I4 := I3.kept (h' := s3.heap.push { cls := .type "slice", data := .fields #[vl, vu, .none] }) (t' := s3.toks) fun b ob hb => Heap.get?_push_of_some _ hb
  obtain ⟨p, b, xs, ys, a, c, rfl, rfl, rfl, rfl, e1, e2, ne, a0, ac, cx, sz, q⟩ := q3
  cases r1
  cases r
  have ra : RelV (.int a) vl := by cases pl; exact ⟨_, rfl⟩
  have rc : RelV (.int c) vu := by cases pu; exact ⟨_, rfl⟩
  refine wpAny_bind (wpAny_standAt (wpAny_bind (wpAny_holding (set_slice I4 e1 e2 ne (Heap.IsSliceOf.new ..) ra rc a0 ac cx sz fun s' I' => ?_))))
  exact wpAny_release ⟨σ, _, I', q⟩
/-- list(text): its letters -/
theorem call_list_text (hc : X.calm = true) : CallR X (.type "list") (fun xs H Q => ∃ l : List Nat, xs = [.str (S l)] ∧ l.length ≤ sizeLine ∧ ∀ p, H p = none → Q (.ref p) (upd H p (.lst (l.map fun c => V.str (S [c]))))) := by
  intro pins s σ H xs us Q I r h
  obtain ⟨l, rfl, hz, q⟩ := h
  obtain ⟨u, rfl, t, rfl⟩ := vals1 r
  have el : (S l).cps.size = l.length := by
    have := congrArg List.length (S_list l)
    simpa using this
  refine call_list_str (I.ok.hd hc) (S l) t (fun h' tk acc c' hk e' hi => ?_) (by rw [el]; exact hz)
  have vs : Vals (l.map fun c => V.str (S [c])) acc.toList := by
    refine vals_of_at (by rw [List.length_map]; exact (el.symm.trans hi.1.symm).trans (Array.length_toList (xs := acc)).symm) fun j x v hx hv => ?_
    rw [Array.getElem?_toList] at hv
    obtain ⟨c, w, h1, rfl⟩ := hi.2 j v hv
    rw [List.getElem?_map] at hx
    have h2 : l[j]? = some c := by
      have := S_list l
      rw [← this, Array.getElem?_toList]
      exact h1
    rw [h2] at hx
    cases hx
    exact ⟨w, rfl⟩
  refine ⟨.ref s.heap.objs.size, _, I.laid hk (Nat.le_refl _) (show ObjOk X.prog X.w _ _ _ (.lst (l.map fun c => V.str (S [c]))) from ⟨?_, acc.toList, c', vs, ?_⟩), rfl, q _ (I.hok.fresh (Nat.le_refl _))⟩
  · rw [List.length_map]; exact hz
  · rw [Array.toArray_toList]; exact e'
end
def top (i : Nat) : Stmt := PySem.Challenge.pw_ropedance_k15_papers.main.body.getD i (.Pass ⟨0, 0, 0, 0⟩)
abbrev s_fraction : Stmt := top 6
theorem sc_fraction : FnScope ["p", "q", "divisor"] ["p", "q"] (defScope s_fraction) := ⟨rfl, rfl, rfl, by decide +kernel, rfl, by decide +kernel, by decide +kernel⟩
abbrev s_diagram : Stmt := top 8
theorem sc_diagram : FnScope ["dance", "arc_count", "crossings", "nw", "ne", "sw", "se", "letter"] ["dance"] (defScope s_diagram) := ⟨rfl, rfl, rfl, by decide +kernel, rfl, by decide +kernel, by decide +kernel⟩
abbrev s_is_colouring : Stmt := top 9
theorem sc_is_colouring : FnScope ["dance", "colours", "arc_count", "crossings", "_"] ["dance", "colours"] (defScope s_is_colouring) := ⟨rfl, rfl, rfl, by decide +kernel, rfl, by decide +kernel, by decide +kernel⟩
abbrev s_is_plain : Stmt := top 10
theorem sc_is_plain : FnScope ["colours"] ["colours"] (defScope s_is_plain) := ⟨rfl, rfl, rfl, by decide +kernel, rfl, by decide +kernel, by decide +kernel⟩
abbrev s_reading : Stmt := top 11
theorem sc_reading : FnScope ["dance", "colours", "nw", "ne", "_", "se"] ["dance", "colours"] (defScope s_reading) := ⟨rfl, rfl, rfl, by decide +kernel, rfl, by decide +kernel, by decide +kernel⟩
abbrev s_is_move : Stmt := top 15
theorem sc_is_move : FnScope ["move", "place", "old", "new", "word"] ["move"] (defScope s_is_move) := ⟨rfl, rfl, rfl, by decide +kernel, rfl, by decide +kernel, by decide +kernel⟩
abbrev s_made : Stmt := top 16
theorem sc_made : FnScope ["dance", "move", "place", "old", "new", "behind"] ["dance", "move"] (defScope s_made) := ⟨rfl, rfl, rfl, by decide +kernel, rfl, by decide +kernel, by decide +kernel⟩
abbrev s_leads : Stmt := top 17
theorem sc_leads : FnScope ["one", "moves", "other", "dance", "move"] ["one", "moves", "other"] (defScope s_leads) := ⟨rfl, rfl, rfl, by decide +kernel, rfl, by decide +kernel, by decide +kernel⟩
abbrev s_accepts : Stmt := top 19
theorem sc_accepts : FnScope ["one", "other", "paper", "first", "second"] ["one", "other", "paper"] (defScope s_accepts) := ⟨rfl, rfl, rfl, by decide +kernel, rfl, by decide +kernel, by decide +kernel⟩
abbrev s_law_tape : Stmt := top 21
theorem sc_law_tape : FnScope ["script", "k", "cell"] ["script", "k"] (defScope s_law_tape) := ⟨rfl, rfl, rfl, by decide +kernel, rfl, by decide +kernel, by decide +kernel⟩
abbrev s_law_take : Stmt := top 22
theorem sc_law_take : FnScope ["tape", "many", "got", "mixed"] ["tape", "many"] (defScope s_law_take) := ⟨rfl, rfl, rfl, by decide +kernel, rfl, by decide +kernel, by decide +kernel⟩
abbrev s_law_dance : Stmt := top 23
theorem sc_law_dance : FnScope ["tape", "most", "dance", "size", "k"] ["tape", "most"] (defScope s_law_dance) := ⟨rfl, rfl, rfl, by decide +kernel, rfl, by decide +kernel, by decide +kernel⟩
abbrev s_law_called : Stmt := top 24
theorem sc_law_called : FnScope ["value", "letter", "p", "q"] ["value", "letter"] (defScope s_law_called) := ⟨rfl, rfl, rfl, by decide +kernel, rfl, by decide +kernel, by decide +kernel⟩
abbrev s_law_number : Stmt := top 25
theorem sc_law_number : FnScope ["dance", "value", "letter"] ["dance"] (defScope s_law_number) := ⟨rfl, rfl, rfl, by decide +kernel, rfl, by decide +kernel, by decide +kernel⟩
abbrev s_law_same : Stmt := top 26
theorem sc_law_same : FnScope ["told", "due", "k"] ["told", "due"] (defScope s_law_same) := ⟨rfl, rfl, rfl, by decide +kernel, rfl, by decide +kernel, by decide +kernel⟩
abbrev s_law_says : Stmt := top 27
theorem sc_law_says : FnScope ["told", "due"] ["told", "due"] (defScope s_law_says) := ⟨rfl, rfl, rfl, by decide +kernel, rfl, by decide +kernel, by decide +kernel⟩
abbrev s_law_divisor : Stmt := top 28
theorem sc_law_divisor : FnScope ["one", "other"] ["one", "other"] (defScope s_law_divisor) := ⟨rfl, rfl, rfl, by decide +kernel, rfl, by decide +kernel, by decide +kernel⟩
abbrev s_law_is_move : Stmt := top 29
theorem sc_law_is_move : FnScope ["move", "place", "old", "new"] ["move"] (defScope s_law_is_move) := ⟨rfl, rfl, rfl, by decide +kernel, rfl, by decide +kernel, by decide +kernel⟩
abbrev s_law_made : Stmt := top 30
theorem sc_law_made : FnScope ["dance", "move", "place", "old", "new"] ["dance", "move"] (defScope s_law_made) := ⟨rfl, rfl, rfl, by decide +kernel, rfl, by decide +kernel, by decide +kernel⟩
abbrev s_law_put : Stmt := top 31
theorem sc_law_put : FnScope ["tape", "dance", "word", "spot"] ["tape", "dance"] (defScope s_law_put) := ⟨rfl, rfl, rfl, by decide +kernel, rfl, by decide +kernel, by decide +kernel⟩
abbrev s_law_taken : Stmt := top 32
theorem sc_law_taken : FnScope ["tape", "dance", "found", "spot", "word"] ["tape", "dance"] (defScope s_law_taken) := ⟨rfl, rfl, rfl, by decide +kernel, rfl, by decide +kernel, by decide +kernel⟩
abbrev s_law_moves : Stmt := top 33
theorem sc_law_moves : FnScope ["tape", "dance", "most", "moves", "k", "move"] ["tape", "dance", "most"] (defScope s_law_moves) := ⟨rfl, rfl, rfl, by decide +kernel, rfl, by decide +kernel, by decide +kernel⟩
abbrev s_law_near_word : Stmt := top 34
theorem sc_law_near_word : FnScope ["tape", "word", "spot", "letter", "choice", "k"] ["tape"] (defScope s_law_near_word) := ⟨rfl, rfl, rfl, by decide +kernel, rfl, by decide +kernel, by decide +kernel⟩
abbrev s_law_odd_move : Stmt := top 35
theorem sc_law_odd_move : FnScope ["tape", "move", "words", "choice", "place", "old", "new", "word", "spot"] ["tape", "move"] (defScope s_law_odd_move) := ⟨rfl, rfl, rfl, by decide +kernel, rfl, by decide +kernel, by decide +kernel⟩
abbrev s_law_run : Stmt := top 36
theorem sc_law_run : FnScope ["count"] ["count"] (defScope s_law_run) := ⟨rfl, rfl, rfl, by decide +kernel, rfl, by decide +kernel, by decide +kernel⟩
abbrev s_law_standard : Stmt := top 37
theorem sc_law_standard : FnScope ["value", "p", "q", "dance", "above"] ["value"] (defScope s_law_standard) := ⟨rfl, rfl, rfl, by decide +kernel, rfl, by decide +kernel, by decide +kernel⟩
abbrev s_law_diagram : Stmt := top 38
theorem sc_law_diagram : FnScope ["dance", "count", "crossings", "ends", "letter", "a", "b", "c", "d"] ["dance"] (defScope s_law_diagram) := ⟨rfl, rfl, rfl, by decide +kernel, rfl, by decide +kernel, by decide +kernel⟩
abbrev s_law_colouring : Stmt := top 39
theorem sc_law_colouring : FnScope ["dance", "first", "second", "colours", "over", "before", "behind"] ["dance", "first", "second"] (defScope s_law_colouring) := ⟨rfl, rfl, rfl, by decide +kernel, rfl, by decide +kernel, by decide +kernel⟩
abbrev s_law_is_colouring : Stmt := top 40
theorem sc_law_is_colouring : FnScope ["dance", "colours", "count", "crossings", "ends", "wrong", "one"] ["dance", "colours"] (defScope s_law_is_colouring) := ⟨rfl, rfl, rfl, by decide +kernel, rfl, by decide +kernel, by decide +kernel⟩
abbrev s_law_spoilt : Stmt := top 41
theorem sc_law_spoilt : FnScope ["tape", "colours", "choice", "spot", "other", "changed"] ["tape", "colours"] (defScope s_law_spoilt) := ⟨rfl, rfl, rfl, by decide +kernel, rfl, by decide +kernel, by decide +kernel⟩
abbrev s_law_reading : Stmt := top 42
theorem sc_law_reading : FnScope ["dance", "colours", "nw", "ne", "sw", "se", "p", "q", "divisor", "one"] ["dance", "colours"] (defScope s_law_reading) := ⟨rfl, rfl, rfl, by decide +kernel, rfl, by decide +kernel, by decide +kernel⟩
abbrev s_law_leads : Stmt := top 43
theorem sc_law_leads : FnScope ["one", "moves", "other", "dance", "move"] ["one", "moves", "other"] (defScope s_law_leads) := ⟨rfl, rfl, rfl, by decide +kernel, rfl, by decide +kernel, by decide +kernel⟩
abbrev s_law_accepted : Stmt := top 44
theorem sc_law_accepted : FnScope ["one", "other", "paper", "readings"] ["one", "other", "paper"] (defScope s_law_accepted) := ⟨rfl, rfl, rfl, by decide +kernel, rfl, by decide +kernel, by decide +kernel⟩
abbrev s_law_other : Stmt := top 45
theorem sc_law_other : FnScope ["tape", "dance", "choice", "other", "spot"] ["tape", "dance"] (defScope s_law_other) := ⟨rfl, rfl, rfl, by decide +kernel, rfl, by decide +kernel, by decide +kernel⟩
abbrev s_law_papers : Stmt := top 46
theorem sc_law_papers : FnScope ["tape", "one", "other", "moves", "papers", "third", "lists", "dance", "first", "place", "old", "new"] ["tape", "one", "other", "moves"] (defScope s_law_papers) := ⟨rfl, rfl, rfl, by decide +kernel, rfl, by decide +kernel, by decide +kernel⟩
abbrev s_law_changed : Stmt := top 47
theorem sc_law_changed : FnScope ["tape", "paper", "choice", "moves", "spot"] ["tape", "paper"] (defScope s_law_changed) := ⟨rfl, rfl, rfl, by decide +kernel, rfl, by decide +kernel, by decide +kernel⟩
abbrev s_law_holds : Stmt := top 48
theorem sc_law_holds : FnScope ["one", "other", "paper", "passed", "told", "part"] ["one", "other", "paper"] (defScope s_law_holds) := ⟨rfl, rfl, rfl, by decide +kernel, rfl, by decide +kernel, by decide +kernel⟩
abbrev s_law_single : Stmt := top 49
theorem sc_law_single : FnScope ["tape", "one", "move", "place", "old", "new", "other", "letter"] ["tape", "one"] (defScope s_law_single) := ⟨rfl, rfl, rfl, by decide +kernel, rfl, by decide +kernel, by decide +kernel⟩
abbrev s_law : Stmt := top 50
theorem sc_law : FnScope ["script", "k", "tape", "one", "moves", "other", "j", "paper"] ["script"] (defScope s_law) := ⟨rfl, rfl, rfl, by decide +kernel, rfl, by decide +kernel, by decide +kernel⟩
/-! ### heaps, tapes, pairs -/
/-- all that was tracked is as it was, but what stands at a -/
def But (a : Addr) (H H' : Hp) : Prop := ∀ b o, b ≠ a → H b = some o → H' b = some o
theorem But.refl (a : Addr) (H : Hp) : But a H H := fun _ _ _ h => h
theorem But.trans {a : Addr} {H H1 H2 : Hp} (x : But a H H1) (y : But a H1 H2) : But a H H2 := fun b o n h => y b o n (x b o n h)
theorem But.of {a : Addr} {H H' : Hp} (x : Same H H') : But a H H' := fun b o _ h => x b o h
theorem But.upd {a : Addr} {H : Hp} {o : HO} : But a H (upd H a o) := fun b u n h => by rw [upd_ne n]; exact h
theorem But.same {a : Addr} {H0 H H' : Hp} (x : But a H H') (s : Same H0 H) (n : H0 a = none) : Same H0 H' := fun b o h => x b o (ne_of_none h n) (s b o h)
theorem same_new {H : Hp} {p : Addr} (h : H p = none) (o : HO) : Same H (L2.upd H p o) := fun b u q => by rw [upd_ne (ne_of_none q h)]; exact q
theorem Same.tup {K : PySem.W.Frag} {H H' : Hp} {a : Addr} {xs : List V} (e : Same H H') (h : SqT K H a xs) : SqT K H' a xs := by
  rcases h with (h | ⟨o, h⟩) | h
  · exact .inl (.inl (e _ _ h))
  · exact .inl (.inr ⟨o, e _ _ h⟩)
  · exact .inr h
def Tape (H : Hp) (a : Addr) : Prop := ∃ (t c s : Int) (b : Bool), H a = some (.lst [.int t, .bl b, .int c, .int s])
theorem Tape.same {H H' : Hp} {a : Addr} (t : Tape H a) (s : Same H H') : Tape H' a := by
  obtain ⟨x, c, y, b, h⟩ := t
  exact ⟨x, c, y, b, s _ _ h⟩
theorem Tape.ne {H : Hp} {a p : Addr} (t : Tape H a) (h : H p = none) : p ≠ a := by
  obtain ⟨x, c, y, b, e⟩ := t
  exact fun z => by rw [z, e] at h; cases h
theorem But.tup {K : PySem.W.Frag} {a : Addr} {H H' : Hp} {p : Addr} {xs : List V} (x : But a H H') (t : Tape H a) (h : SqT K H p xs) : SqT K H' p xs := by
  obtain ⟨y, c, z, b, e⟩ := t
  rcases h with (h | ⟨o, h⟩) | h
  · exact .inl (.inl (x _ _ (ne_of h e (by intro q; cases q)) h))
  · exact .inl (.inr ⟨o, x _ _ (ne_of h e (by intro q; cases q)) h⟩)
  · exact .inr h
/-- a dance: the letters T, U, R -/
def Lets (l : List Nat) : Prop := ∀ c ∈ l, c = 84 ∨ c = 85 ∨ c = 82
theorem atI_mk {α : Type} {xs : List α} {k : Int} (h0 : 0 ≤ k) (h1 : k < (xs.length : Int)) : ∃ v, atI xs k = some v ∧ v ∈ xs := by
  obtain ⟨n, rfl⟩ := Int.eq_ofNat_of_zero_le h0
  have h : n < xs.length := by omega
  exact ⟨xs[n], atI_nat (List.getElem?_eq_getElem h), List.getElem_mem h⟩
theorem atI_ints {ns : List Int} {k : Int} (h0 : 0 ≤ k) (h1 : k < (ns.length : Int)) : ∃ v : Int, atI (ns.map V.int) k = some (.int v) := by
  obtain ⟨v, e, m⟩ := atI_mk (xs := ns.map V.int) h0 (by rw [List.length_map]; exact h1)
  obtain ⟨i, _, rfl⟩ := List.mem_map.mp m
  exact ⟨i, e⟩
/-! ### a def of the text with its promise, ready to be called -/
structure Dfn (P : Program) (w : World) (K : PySem.W.Frag) (mg : Str → Option Value) (base : Heap) (x : Str) (k : Nat) (ps : List Str) (sp : Sp) : Prop where
  ex : ∃ (f : Addr) (fd : FuncData), FnOk P w K mg base CX0 k f fd ps sp ∧ mg x = some (.ref f) ∧ PySem.W.keepIn K (.ref f) = true ∧ Binds K fd ps []
theorem pe_do {X : Cx} {x : Str} {j : Nat} {ps : List Str} {sp : Sp} {e : Expr} {es : List Expr} {t : TA} {p pos : Pos} (D : Dfn X.prog X.w X.K X.mg X.base x j ps sp) (hr : Room j X.A)
    (ha : PA X (e :: es) t) (hg : Gl X x := by rfl) (hdb : (x == ("__debug__" : Str)) = false := by decide) (he : starEach (e :: es) X.env = (false, eval e X.env) :: starEach es X.env := by rfl) (hpl : (backTo pos (starEach es X.env)).any (·.1) = false := by rfl) :
    PE X (.Call (.Name x p) (e :: es) [] pos) (tCall sp [] E0 t) := by
  obtain ⟨f, fd, ok, mg, kp, bd⟩ := D.ex
  exact pe_call ok hr hg mg kp bd .nil pass0 ha hdb he hpl
theorem Dfn.mono {P : Program} {w : World} {K : PySem.W.Frag} {mg : Str → Option Value} {base : Heap} {x : Str} {j k : Nat} {ps : List Str} {sp : Sp} (D : Dfn P w K mg base x j ps sp) (h : j ≤ k) : Dfn P w K mg base x k ps sp := by
  obtain ⟨f, fd, ok, mg, kp, bd⟩ := D.ex
  exact ⟨f, fd, ok.mono h, mg, kp, bd⟩
section
variable {P : Program} {w : World} {K : PySem.W.Frag} {mg : Str → Option Value} {base : Heap} {f : Addr} {fd : FuncData}
/-! ### the tape of a law -/
def spTape (K : PySem.W.Frag) : Sp := fun vs H Q _ => ∃ (a : Addr) (ns : List Int) (k : Int), vs = [.ref a, .int k] ∧ SqL K H a (ns.map V.int) ∧ 0 ≤ k ∧ ∀ p H', Same H H' → H p = none → Tape H' p → Q (.ref p) H'
theorem ok_tape (F : Fun K "_law_tape" "_law_tape" s_law_tape f fd) (ml : mg "len" = none) (ma : mg "abs" = none) (mi : mg "int" = none) : FnOk P w K mg base CX0 1 f fd ["script", "k"] (spTape K) := by
  refine F.ok sc_law_tape (fun vs H Q E h => ?_) (fun cdv A outer s H vs Q E hr h => ?_)
  · obtain ⟨a, ns, k, rfl, _⟩ := h
    rfl
  obtain ⟨a, ns, k, rfl, hS, hk, q⟩ := h
  refine ⟨_, pss_cons (ps_set (i := 2) sc_law_tape.nd rfl (.inl rfl) pe_int)
    (pss_cons (ps_if (pt_cmpR op_lt (pv 1) (pe_callB call_len_seq rfl ml PySem.boot_len (pa_cons (pv 0) pa_nil)) (nomark _))
        (pss_one (ps_set (i := 2) sc_law_tape.nd rfl (.inl rfl) (pe_callB call_abs rfl ma (by decide +kernel) (pa_cons (pe_ix ix_list (pv 0) (pv 1) (fun _ _ => rfl)) pa_nil)))) pss_nil)
    (pss_one (ps_ret (pe_lst (pa_cons (pv 2) (pa_cons (pe_cmpR op_ge (pv 2) (pe_op op_pow pe_int pe_int) (nomark _)) (pa_cons pe_int
      (pa_cons (pe_op op_modN (pe_callTy call_int1 rfl mi (by decide +kernel) (pa_cons (pe_op op_add (pe_op op_mul (pv 2) pe_int) (pv 1)) pa_nil)) pe_int) pa_nil)))))))), ?_⟩
  refine ⟨_, rfl, _, rfl, a, _, rfl, .inl hS, _, _, rfl, rfl, _, rfl, ?_⟩
  refine ite2 (fun c => ?_) (fun c => ?_)
  · have c' : k < (((ns.map V.int).length : Nat) : Int) := of_decide_eq_true c
    rw [List.length_map] at c'
    obtain ⟨v, hv⟩ := atI_ints hk c'
    refine ⟨_, rfl, _, rfl, a, _, _, _, rfl, rfl, hS, hv, _, rfl, ?_⟩
    refine ⟨_, rfl, _, rfl, _, _, rfl, rfl, ⟨by decide, by decide, by decide⟩, _, _, rfl, rfl, _, rfl, _, _, rfl, rfl, .inr ⟨by decide, by decide⟩, _, rfl, _, _, rfl, rfl, .inl ⟨_, rfl, _, _, rfl, rfl, (show (2147483647 : Int) ≠ 0 by decide), ?_⟩⟩
    exact ⟨(by show 4 ≤ sizeLine; decide), fun p hp => q p _ (same_new hp _) hp ⟨_, _, _, _, upd_same⟩⟩
  · refine ⟨_, rfl, _, rfl, _, _, rfl, rfl, ⟨by decide, by decide, by decide⟩, _, _, rfl, rfl, _, rfl, _, _, rfl, rfl, .inr ⟨by decide, by decide⟩, _, rfl, _, _, rfl, rfl, .inl ⟨_, rfl, _, _, rfl, rfl, (show (2147483647 : Int) ≠ 0 by decide), ?_⟩⟩
    exact ⟨(by show 4 ≤ sizeLine; decide), fun p hp => q p _ (same_new hp _) hp ⟨_, _, _, _, upd_same⟩⟩
def spTake : Sp := fun vs H Q _ => ∃ (a : Addr) (m : Int), vs = [.ref a, .int m] ∧ Tape H a ∧ 0 < m ∧ m < 1073741824 ∧ ∀ r H', 0 ≤ r → r < m → But a H H' → Tape H' a → Q (.int r) H'
theorem ok_take (F : Fun K "_law_take" "_law_take" s_law_take f fd) (mi : mg "int" = none) : FnOk P w K mg base CX0 1 f fd ["tape", "many"] spTake := by
  refine F.ok sc_law_take (fun vs H Q E h => ?_) (fun cdv A outer s H vs Q E hr h => ?_)
  · obtain ⟨a, m, rfl, _⟩ := h
    rfl
  obtain ⟨a, m, rfl, ⟨t, c, sd, b, hT⟩, h0, h1, q⟩ := h
  refine ⟨_, pss_cons (ps_if (PW.pt (pw_and (pt_val (pe_ix ix_list (pv 0) pe_int (fun _ _ => rfl))) (pw_and1 (pt_cmpR op_gt (pe_ix ix_list (pv 0) pe_int (fun _ _ => rfl)) pe_int (nomark _)))))
      (pss_cons (ps_set (i := 2) sc_law_take.nd rfl (.inl rfl) (pe_op op_modN (pe_callTy call_int1 rfl mi (by decide +kernel) (pa_cons (pe_ix ix_list (pv 0) pe_int (fun _ _ => rfl)) pa_nil)) (pv 1)))
      (pss_cons (ps_asg (pe_op op_fdivN (pe_ix ix_list (pv 0) pe_int (fun _ _ => rfl)) (pv 1)) (pg_sub (pv 0) pe_int set_list))
      (pss_one (ps_ret (pv 2))))) pss_nil)
    (pss_cons (ps_asg (pe_op op_add (pe_ix ix_list (pv 0) pe_int (fun _ _ => rfl)) pe_int) (pg_sub (pv 0) pe_int set_list))
    (pss_cons (ps_set (i := 3) sc_law_take.nd rfl (.inl rfl) (pe_op op_modN (pe_callTy call_int1 rfl mi (by decide +kernel) (pa_cons (pe_op op_add (pe_op op_add (pe_op op_mul (pe_ix ix_list (pv 0) pe_int (fun _ _ => rfl)) pe_int) (pe_op op_mul (pe_ix ix_list (pv 0) pe_int (fun _ _ => rfl)) pe_int)) pe_int) pa_nil)) pe_int))
    (pss_cons (ps_set (i := 3) sc_law_take.nd rfl (.inl rfl) (pe_op op_modN (pe_callTy call_int1 rfl mi (by decide +kernel) (pa_cons (pe_op op_add (pe_op op_add (pe_op op_mul (pv 3) pe_int) (pe_op op_mul (pe_op op_fdivN (pv 3) pe_int) pe_int)) (pe_ix ix_list (pv 0) pe_int (fun _ _ => rfl))) pa_nil)) pe_int))
    (pss_one (ps_ret (pe_op op_modN (pe_callTy call_int1 rfl mi (by decide +kernel) (pa_cons (pe_op op_fdivN (pv 3) pe_int) pa_nil)) (pv 1))))))), ?_⟩
  have rest : ∀ x : Int, 0 ≤ x.fmod m ∧ x.fmod m < m := fun x => by
    rw [Int.fmod_eq_emod_of_nonneg x (Int.le_of_lt h0)]
    exact ⟨Int.emod_nonneg x (by omega), Int.emod_lt_of_pos x h0⟩
  refine ⟨_, rfl, a, _, _, _, rfl, rfl, SqL.of hT, rfl, b, rfl, ?_⟩
  refine ite2 (fun hb => ?_) (fun hb => ?_)
  · refine ⟨_, rfl, a, _, _, _, rfl, rfl, SqL.of hT, rfl, _, _, rfl, rfl, _, rfl, ?_⟩
    refine ite2 (fun hc => ?_) (fun hc => ?_)
    · refine ⟨_, rfl, a, _, _, _, rfl, rfl, SqL.of hT, rfl, .inl ⟨_, rfl, _, rfl, _, _, rfl, rfl, (show m ≠ 0 by omega), ?_⟩⟩
      refine ⟨_, rfl, a, _, _, _, rfl, rfl, SqL.of hT, rfl, _, rfl, _, _, rfl, rfl, (show m ≠ 0 ∧ m.natAbs < 1073741824 by omega), _, rfl, a, _, _, _, rfl, rfl, hT, rfl, ?_⟩
      exact ⟨_, rfl, q _ _ (rest _).1 (rest _).2 But.upd ⟨_, _, _, _, upd_same⟩⟩
    · refine ⟨_, rfl, a, _, _, _, rfl, rfl, SqL.of hT, rfl, _, _, rfl, rfl, _, rfl, a, _, _, _, rfl, rfl, hT, rfl, ?_⟩
      refine ⟨_, rfl, a, _, _, _, rfl, rfl, SqL.of upd_same, rfl, _, _, rfl, rfl, .inr ⟨by decide, by decide⟩, _, rfl, a, _, _, _, rfl, rfl, SqL.of upd_same, rfl, _, _, rfl, rfl, .inr ⟨by decide, by decide⟩, _, _, rfl, rfl, _, _, rfl, rfl, .inl ⟨_, rfl, _, _, rfl, rfl, (show (2147483647 : Int) ≠ 0 by decide), ?_⟩⟩
      refine ⟨_, rfl, _, _, rfl, rfl, .inr ⟨by decide, by decide⟩, _, rfl, _, _, rfl, rfl, ⟨by decide, by decide⟩, _, _, rfl, rfl, .inr ⟨by decide, by decide⟩, _, _, rfl, rfl, _, rfl, a, _, _, _, rfl, rfl, SqL.of upd_same, rfl, _, _, rfl, rfl, .inl ⟨_, rfl, _, _, rfl, rfl, (show (2147483399 : Int) ≠ 0 by decide), ?_⟩⟩
      exact ⟨_, rfl, _, _, rfl, rfl, ⟨by decide, by decide⟩, .inl ⟨_, rfl, _, rfl, _, _, rfl, rfl, (show m ≠ 0 by omega), q _ _ (rest _).1 (rest _).2 But.upd ⟨_, _, _, _, upd_same⟩⟩⟩
  · refine ⟨_, rfl, a, _, _, _, rfl, rfl, SqL.of hT, rfl, _, _, rfl, rfl, _, rfl, a, _, _, _, rfl, rfl, hT, rfl, ?_⟩
    refine ⟨_, rfl, a, _, _, _, rfl, rfl, SqL.of upd_same, rfl, _, _, rfl, rfl, .inr ⟨by decide, by decide⟩, _, rfl, a, _, _, _, rfl, rfl, SqL.of upd_same, rfl, _, _, rfl, rfl, .inr ⟨by decide, by decide⟩, _, _, rfl, rfl, _, _, rfl, rfl, .inl ⟨_, rfl, _, _, rfl, rfl, (show (2147483647 : Int) ≠ 0 by decide), ?_⟩⟩
    refine ⟨_, rfl, _, _, rfl, rfl, .inr ⟨by decide, by decide⟩, _, rfl, _, _, rfl, rfl, ⟨by decide, by decide⟩, _, _, rfl, rfl, .inr ⟨by decide, by decide⟩, _, _, rfl, rfl, _, rfl, a, _, _, _, rfl, rfl, SqL.of upd_same, rfl, _, _, rfl, rfl, .inl ⟨_, rfl, _, _, rfl, rfl, (show (2147483399 : Int) ≠ 0 by decide), ?_⟩⟩
    exact ⟨_, rfl, _, _, rfl, rfl, ⟨by decide, by decide⟩, .inl ⟨_, rfl, _, rfl, _, _, rfl, rfl, (show m ≠ 0 by omega), q _ _ (rest _).1 (rest _).2 But.upd ⟨_, _, _, _, upd_same⟩⟩⟩
/-! ### dances, fractions -/
theorem six_letters {r : Int} (h0 : 0 ≤ r) (h1 : r < 6) : ∃ c, atI (("TTUURR" : Str)).cps.toList r = some c ∧ (c = 84 ∨ c = 85 ∨ c = 82) := by
  have e : (("TTUURR" : Str)).cps.toList = [84, 84, 85, 85, 82, 82] := by decide +kernel
  rw [e]
  obtain ⟨c, hc, m⟩ := atI_mk (xs := [84, 84, 85, 85, 82, 82]) h0 h1
  refine ⟨c, hc, ?_⟩
  simp at m
  omega
theorem four_sizes {r : Int} (h0 : 0 ≤ r) (h1 : r < 4) : ∃ z : Int, atI [V.int 1, .int 1, .int 3, .int 9] r = some (.int z) ∧ 1 ≤ z ∧ z ≤ 9 := by
  obtain ⟨c, hc, m⟩ := atI_mk (xs := [V.int 1, .int 1, .int 3, .int 9]) h0 h1
  simp at m
  rcases m with rfl | rfl | rfl
  · exact ⟨1, hc, by decide, by decide⟩
  · exact ⟨3, hc, by decide, by decide⟩
  · exact ⟨9, hc, by decide, by decide⟩
theorem e_empty : (("" : Str)) = S [] := by decide +kernel
theorem sizeLine_big : 16777216 ≤ sizeLine := by rw [sizeLine_eq]; decide
theorem fits {n : Nat} (h : n ≤ 16777216) : n ≤ sizeLine := Nat.le_trans h sizeLine_big
def spDance : Sp := fun vs H Q _ => ∃ (a : Addr) (m : Int), vs = [.ref a, .int m] ∧ Tape H a ∧ 0 ≤ m ∧ m ≤ 1000 ∧ ∀ l H', Lets l → (l.length : Int) ≤ m → But a H H' → Tape H' a → Q (.str (S l)) H'
theorem ok_dance (F : Fun K "_law_dance" "_law_dance" s_law_dance f fd) (DT : Dfn P w K mg base "_law_take" 1 ["tape", "many"] spTake) (mr : mg "range" = none) : FnOk P w K mg base CX0 2 f fd ["tape", "most"] spDance := by
  refine F.ok sc_law_dance (fun vs H Q E h => ?_) (fun cdv A outer s H vs Q E hr h => ?_)
  · obtain ⟨a, m, rfl, _⟩ := h
    rfl
  obtain ⟨a, m, rfl, hT, h0, h1, q⟩ := h
  refine ⟨_, pss_cons (ps_set (i := 2) sc_law_dance.nd rfl (.inl rfl) pe_str)
    (pss_cons (ps_set (i := 3) sc_law_dance.nd rfl (.inl rfl) (pe_ix ix_list (pe_lst (pa_cons pe_int (pa_cons pe_int (pa_cons pe_int (pa_cons pe_int pa_nil))))) (pe_do DT hr (pa_cons (pv 0) (pa_cons pe_int pa_nil))) (fun _ _ => rfl)))
    (pss_cons (ps_for PassesOwn.never rfl (pi_range1 rfl mr (pa_cons (pe_do DT hr (pa_cons (pv 0) (pa_cons (pe_op op_add (pv 1) pe_int) pa_nil))) pa_nil)) (pg_name (i := 4) sc_law_dance.nd rfl (.inl rfl))
      (pss_one (ps_set (i := 2) sc_law_dance.nd rfl (.inl rfl) (pe_op op_add_str (pv 2) (pe_op op_mul_str (pe_ix ix_str pe_str (pe_do DT hr (pa_cons (pv 0) (pa_cons pe_int pa_nil))) (fun _ _ => rfl))
        (pe_op op_add pe_int (pe_do DT hr (pa_cons (pv 0) (pa_cons (pv 3) pa_nil)))))))))
    (pss_one (ps_ret (pe_slice sl_str (pv 2) po_none (po_some (pv 1))))))), ?_⟩
  refine ⟨(by show 4 ≤ sizeLine; exact fits (by decide)), fun p hp => ?_⟩
  have np := hT.ne hp
  refine ⟨_, rfl, a, 4, rfl, hT.same (same_new hp _), by decide, by decide, fun r H1 r0 r1 b1 t1 => ?_⟩
  obtain ⟨z, hz, z1, z9⟩ := four_sizes r0 r1
  refine ⟨p, _, _, _, rfl, rfl, SqL.of (b1 _ _ np upd_same), hz, ?_⟩
  have B1 : But a H H1 := (But.of (same_new hp _)).trans b1
  refine ⟨_, rfl, _, rfl, _, _, rfl, rfl, a, _, rfl, t1, (show 0 < m + 1 by omega), (show m + 1 < 1073741824 by omega), fun r2 H2 r20 r21 b2 t2 => ?_⟩
  refine ⟨r2, rfl, by omega, by omega, for_range (lo := 0) (n := r2.toNat) (fun i σ H' => ∃ (l : List Nat) (v : Option V), σ = [some (.ref a), some (.int m), some (.str (S l)), some (.int z), v] ∧ Lets l ∧ l.length ≤ 9 * i ∧ But a H H' ∧ Tape H' a) ?_ ?_ ?_⟩
  · exact ⟨[], none, by rw [← e_empty]; rfl, fun _ h => (by cases h), Nat.zero_le _, B1.trans b2, t2⟩
  · rintro i σ H' hi ⟨l, v, rfl, hl, hz2, bt, tp⟩
    refine ⟨_, rfl, _, rfl, a, 6, rfl, tp, by decide, by decide, fun r3 H3 r30 r31 b3 t3 => ?_⟩
    obtain ⟨c, hc, hcl⟩ := six_letters r30 r31
    refine ⟨_, _, c, rfl, rfl, (fits (by decide +kernel)), hc, _, rfl, _, rfl, a, z, rfl, t3, by omega, by omega, fun r4 H4 r40 r41 b4 t4 => ?_⟩
    have hn : (1 + r4).toNat ≤ 9 := by omega
    refine ⟨_, _, rfl, rfl, [c], 1 + r4, rfl, rfl, by omega, by omega, by simp only [List.length_singleton]; omega, _, _, rfl, rfl, ?_, ?_⟩
    · rw [S_len, S_len]
      refine fits ?_
      rw [List.length_flatten, List.map_replicate, List.sum_replicate_nat]
      simp only [List.length_singleton]
      omega
    · refine ⟨l ++ (List.replicate (1 + r4).toNat [c]).flatten, _, by rw [S_app]; rfl, fun x hx => ?_, ?_, (bt.trans b3).trans b4, t4⟩
      · rcases List.mem_append.mp hx with hx | hx
        · exact hl x hx
        · obtain ⟨y, hy, hxy⟩ := List.mem_flatten.mp hx
          rw [(List.mem_replicate.mp hy).2] at hxy
          rw [List.mem_singleton.mp hxy]
          exact hcl
      · rw [List.length_append, List.length_flatten, List.map_replicate, List.sum_replicate_nat]
        simp only [List.length_singleton]
        omega
  · rintro σ H' ⟨l, v, rfl, hl, hz2, bt, tp⟩
    refine ⟨_, rfl, _, rfl, _, rfl, _, rfl, (by rw [S_len]; exact fits (by omega)), ?_⟩
    rw [S_take l h0]
    refine q _ _ (fun x hx => hl x (List.mem_of_mem_take hx)) ?_ bt tp
    rw [List.length_take]
    omega
end
section
variable {P : Program} {w : World} {K : PySem.W.Frag} {mg : Str → Option Value} {base : Heap} {f : Addr} {fd : FuncData}
/-! ### the same data -/
inductive Dt where
  | int (i : Int) | str (z : Str) | non | tup (xs : List Dt) | lst (xs : List Dt)
/-- v stands for d, in at most n levels -/
def Is (H : Hp) : Nat → V → Dt → Prop
  | _, v, .int i => v = .int i
  | _, v, .str z => v = .str z
  | _, v, .non => v = .non
  | 0, _, .tup _ => False
  | 0, _, .lst _ => False
  | n + 1, v, .tup ds => ∃ (a : Addr) (xs : List V), v = .ref a ∧ H a = some (.tup xs) ∧ xs.length = ds.length ∧ ds.length ≤ 1000000 ∧ ∀ (i : Nat) (x : V) (d : Dt), xs[i]? = some x → ds[i]? = some d → Is H n x d
  | n + 1, v, .lst ds => ∃ (a : Addr) (xs : List V), v = .ref a ∧ H a = some (.lst xs) ∧ xs.length = ds.length ∧ ds.length ≤ 1000000 ∧ ∀ (i : Nat) (x : V) (d : Dt), xs[i]? = some x → ds[i]? = some d → Is H n x d
def spSame : Nat → Sp
  | 0 => fun _ _ _ _ => False
  | n + 1 => fun vs H Q _ => ∃ (x y : V) (d : Dt), vs = [x, y] ∧ Is H n x d ∧ Is H n y d ∧ Q (.bl true) H
theorem ok_same {n : Nat} (F : Fun K "_law_same" "_law_same" s_law_same f fd) (DS : Dfn P w K mg base "_law_same" n ["told", "due"] (spSame n)) (mI : mg "isinstance" = none) (mT : mg "tuple" = none) (mL : mg "list" = none) (ml : mg "len" = none) (mr : mg "range" = none)
    (ms : mg "str" = none) (mi : mg "int" = none) (mb : mg "bool" = none) : FnOk P w K mg base CX0 (n + 1) f fd ["told", "due"] (spSame (n + 1)) := by
  refine F.ok sc_law_same (fun vs H Q E h => ?_) (fun cdv A outer s H vs Q E hr h => ?_)
  · obtain ⟨x, y, d, rfl, _⟩ := h
    rfl
  obtain ⟨x, y, d, rfl, hx, hy, q⟩ := h
  have bT : bootBuiltins "tuple" = some (.type "tuple") := by decide +kernel
  have bL : bootBuiltins "list" = some (.type "list") := by decide +kernel
  have bS : bootBuiltins "str" = some (.type "str") := by decide +kernel
  have bI : bootBuiltins "int" = some (.type "int") := by decide +kernel
  have bB : bootBuiltins "bool" = some (.type "bool") := by decide +kernel
  have bi : bootBuiltins "isinstance" = some (.builtin "isinstance") := by decide +kernel
  refine ⟨_, pss_cons (ps_if (PW.pt (pw_or (pt_val (pe_callB call_isi rfl mI bi (pa_cons (pv 1) (pa_cons (pe_bltn (v := .ty "tuple") rfl mT bT rfl) pa_nil)))) (pw_or1 (pt_val (pe_callB call_isi rfl mI bi (pa_cons (pv 1) (pa_cons (pe_bltn (v := .ty "list") rfl mL bL rfl) pa_nil)))))))
      (pss_cons (ps_if (PW.pt (pw_or (pt_cmpR op_ne (pe_callB call_isi rfl mI bi (pa_cons (pv 1) (pa_cons (pe_bltn (v := .ty "tuple") rfl mT bT rfl) pa_nil))) (pe_callB call_isi rfl mI bi (pa_cons (pv 0) (pa_cons (pe_bltn (v := .ty "tuple") rfl mT bT rfl) pa_nil))) (nomark _))
          (pw_or1 (pt_cmpR op_ne (pe_callB call_isi rfl mI bi (pa_cons (pv 1) (pa_cons (pe_bltn (v := .ty "list") rfl mL bL rfl) pa_nil))) (pe_callB call_isi rfl mI bi (pa_cons (pv 0) (pa_cons (pe_bltn (v := .ty "list") rfl mL bL rfl) pa_nil))) (nomark _)))))
        (pss_one (ps_ret pe_bl)) pss_nil)
      (pss_cons (ps_if (pt_cmpR op_ne (pe_callB call_len_seq rfl ml PySem.boot_len (pa_cons (pv 0) pa_nil)) (pe_callB call_len_seq rfl ml PySem.boot_len (pa_cons (pv 1) pa_nil)) (nomark _)) (pss_one (ps_ret pe_bl)) pss_nil)
      (pss_cons (ps_for PassesOwn.never rfl (pi_range1 rfl mr (pa_cons (pe_callB call_len_seq rfl ml PySem.boot_len (pa_cons (pv 1) pa_nil)) pa_nil)) (pg_name (i := 2) sc_law_same.nd rfl (.inl rfl))
        (pss_one (ps_if (pt_not (pt_val (pe_do DS hr (pa_cons (pe_ix ix_seq (pv 0) (pv 2) (fun _ _ => rfl)) (pa_cons (pe_ix ix_seq (pv 1) (pv 2) (fun _ _ => rfl)) pa_nil))))) (pss_one (ps_ret pe_bl)) pss_nil)))
      (pss_one (ps_ret pe_bl))))) pss_nil)
    (pss_cons (ps_if (pt_cmpR op_isN (pv 1) pe_non (nomark _)) (pss_one (ps_ret (pe_cmpR op_isN (pv 0) pe_non (nomark _)))) pss_nil)
    (pss_cons (ps_if (pt_val (pe_callB call_isi rfl mI bi (pa_cons (pv 1) (pa_cons (pe_bltn (v := .ty "str") rfl ms bS rfl) pa_nil))))
      (pss_one (ps_ret (pe_and (pe_callB call_isi rfl mI bi (pa_cons (pv 0) (pa_cons (pe_bltn (v := .ty "str") rfl ms bS rfl) pa_nil))) (pe_one (pe_cmpR op_eq (pv 0) (pv 1) (nomark _)))))) pss_nil)
    (pss_one (ps_ret (pe_and (pe_callB call_isi rfl mI bi (pa_cons (pv 0) (pa_cons (pe_bltn (v := .ty "int") rfl mi bI rfl) pa_nil)))
      (pe_and (pe_not (pe_callB call_isi rfl mI bi (pa_cons (pv 0) (pa_cons (pe_bltn (v := .ty "bool") rfl mb bB rfl) pa_nil)))) (pe_one (pe_cmpR op_eq (pv 0) (pv 1) (nomark _))))))))), ?_⟩
  have isn : ∀ (a b : String) (r : Bool), kitB a b = some r → PySem.W.kitOne K (.type a) (.type b) = some r := fun a b r h => kit_ty h
  cases d with
  | int i =>
    cases (show x = .int i by cases n <;> exact hx)
    cases (show y = .int i by cases n <;> exact hy)
    refine ⟨_, rfl, _, _, _, _, false, rfl, .ty _, .base (.int _), kit_ty (by decide +kernel), _, rfl, iteF ?_⟩
    refine ⟨_, rfl, _, _, _, _, false, rfl, .ty _, .base (.int _), kit_ty (by decide +kernel), _, rfl, iteF ?_⟩
    refine ⟨_, rfl, rfl, _, rfl, iteF ?_⟩
    refine ⟨_, rfl, _, _, _, _, false, rfl, .ty _, .base (.int _), kit_ty (by decide +kernel), _, rfl, iteF ?_⟩
    refine ⟨_, rfl, _, _, _, _, true, rfl, .ty _, .base (.int _), kit_ty (by decide +kernel), _, rfl, iteT ?_⟩
    refine ⟨_, rfl, _, _, _, _, false, rfl, .ty _, .base (.int _), kit_ty (by decide +kernel), _, rfl, _, rfl, iteT ?_⟩
    refine ⟨_, rfl, _, rfl, rfl, ?_⟩
    rw [decide_eq_true rfl]
    exact q
  | str z =>
    cases (show x = .str z by cases n <;> exact hx)
    cases (show y = .str z by cases n <;> exact hy)
    refine ⟨_, rfl, _, _, _, _, false, rfl, .ty _, .base (.str _), kit_ty (by decide +kernel), _, rfl, iteF ?_⟩
    refine ⟨_, rfl, _, _, _, _, false, rfl, .ty _, .base (.str _), kit_ty (by decide +kernel), _, rfl, iteF ?_⟩
    refine ⟨_, rfl, rfl, _, rfl, iteF ?_⟩
    refine ⟨_, rfl, _, _, _, _, true, rfl, .ty _, .base (.str _), kit_ty (by decide +kernel), _, rfl, iteT ?_⟩
    refine ⟨_, rfl, _, _, _, _, true, rfl, .ty _, .base (.str _), kit_ty (by decide +kernel), _, rfl, iteT ?_⟩
    refine ⟨_, rfl, _, rfl, rfl, ?_⟩
    rw [decide_eq_true rfl]
    exact q
  | non =>
    cases (show x = .non by cases n <;> exact hx)
    cases (show y = .non by cases n <;> exact hy)
    refine ⟨_, rfl, _, _, _, _, false, rfl, .ty _, .base .non, kit_ty (by decide +kernel), _, rfl, iteF ?_⟩
    refine ⟨_, rfl, _, _, _, _, false, rfl, .ty _, .base .non, kit_ty (by decide +kernel), _, rfl, iteF ?_⟩
    exact ⟨_, rfl, rfl, _, rfl, iteT ⟨_, rfl, rfl, q⟩⟩
  | tup ds =>
    cases n with
    | zero => exact hx.elim
    | succ n =>
      obtain ⟨a, xs, rfl, ha, la, ln, ka⟩ := hx
      obtain ⟨b, ys, rfl, hb, lb, _, kb⟩ := hy
      refine ⟨_, rfl, _, _, _, _, true, rfl, .ty _, .base (.tup hb), kit_ty (by decide +kernel), _, rfl, iteT ?_⟩
      refine ⟨_, rfl, _, _, _, _, true, rfl, .ty _, .base (.tup hb), kit_ty (by decide +kernel), _, rfl, _, _, _, _, true, rfl, .ty _, .base (.tup ha), kit_ty (by decide +kernel), rfl, _, rfl, iteF ?_⟩
      refine ⟨_, rfl, _, _, _, _, false, rfl, .ty _, .base (.tup hb), kit_ty (by decide +kernel), _, rfl, _, _, _, _, false, rfl, .ty _, .base (.tup ha), kit_ty (by decide +kernel), rfl, _, rfl, iteF ?_⟩
      refine ⟨_, rfl, a, xs, rfl, .inr (SqT.of ha), _, rfl, b, ys, rfl, .inr (SqT.of hb), rfl, _, rfl, ?_⟩
      rw [show (decide (V.int (xs.length : Int) = V.int (ys.length : Int))) = true from decide_eq_true (by rw [la, lb])]
      refine iteF ?_
      refine ⟨_, rfl, b, ys, rfl, .inr (SqT.of hb), (ys.length : Int), rfl, by omega, by omega, for_range (lo := 0) (n := (ys.length : Int).toNat) (fun i σ H' => H' = H ∧ ∃ v, σ = [some (.ref a), some (.ref b), v]) ⟨rfl, none, rfl⟩ ?_ ?_⟩
      · rintro i σ _ hi ⟨rfl, v, rfl⟩
        have hi1 : i < ys.length := by omega
        have hi2 : i < xs.length := by omega
        have hi3 : i < ds.length := by omega
        refine ⟨_, rfl, _, rfl, .inr (.inl ⟨a, xs, _, _, rfl, rfl, SqT.of ha, at_of (j := i) (by omega) (List.getElem?_eq_getElem hi2), ?_⟩)⟩
        refine ⟨_, rfl, _, rfl, .inr (.inl ⟨b, ys, _, _, rfl, rfl, SqT.of hb, at_of (j := i) (by omega) (List.getElem?_eq_getElem hi1), ?_⟩)⟩
        refine ⟨_, _, ds[i], rfl, ka i _ _ (List.getElem?_eq_getElem hi2) (List.getElem?_eq_getElem hi3), kb i _ _ (List.getElem?_eq_getElem hi1) (List.getElem?_eq_getElem hi3), _, rfl, iteF ⟨rfl, _, rfl⟩⟩
      · rintro σ _ ⟨rfl, v, rfl⟩
        exact q
  | lst ds =>
    cases n with
    | zero => exact hx.elim
    | succ n =>
      obtain ⟨a, xs, rfl, ha, la, ln, ka⟩ := hx
      obtain ⟨b, ys, rfl, hb, lb, _, kb⟩ := hy
      refine ⟨_, rfl, _, _, _, _, false, rfl, .ty _, .base (.lst hb), kit_ty (by decide +kernel), _, rfl, iteF ?_⟩
      refine ⟨_, rfl, _, _, _, _, true, rfl, .ty _, .base (.lst hb), kit_ty (by decide +kernel), _, rfl, iteT ?_⟩
      refine ⟨_, rfl, _, _, _, _, false, rfl, .ty _, .base (.lst hb), kit_ty (by decide +kernel), _, rfl, _, _, _, _, false, rfl, .ty _, .base (.lst ha), kit_ty (by decide +kernel), rfl, _, rfl, iteF ?_⟩
      refine ⟨_, rfl, _, _, _, _, true, rfl, .ty _, .base (.lst hb), kit_ty (by decide +kernel), _, rfl, _, _, _, _, true, rfl, .ty _, .base (.lst ha), kit_ty (by decide +kernel), rfl, _, rfl, iteF ?_⟩
      refine ⟨_, rfl, a, xs, rfl, .inl (SqL.of ha), _, rfl, b, ys, rfl, .inl (SqL.of hb), rfl, _, rfl, ?_⟩
      rw [show (decide (V.int (xs.length : Int) = V.int (ys.length : Int))) = true from decide_eq_true (by rw [la, lb])]
      refine iteF ?_
      refine ⟨_, rfl, b, ys, rfl, .inl (SqL.of hb), (ys.length : Int), rfl, by omega, by omega, for_range (lo := 0) (n := (ys.length : Int).toNat) (fun i σ H' => H' = H ∧ ∃ v, σ = [some (.ref a), some (.ref b), v]) ⟨rfl, none, rfl⟩ ?_ ?_⟩
      · rintro i σ _ hi ⟨rfl, v, rfl⟩
        have hi1 : i < ys.length := by omega
        have hi2 : i < xs.length := by omega
        have hi3 : i < ds.length := by omega
        refine ⟨_, rfl, _, rfl, .inl ⟨a, xs, _, _, rfl, rfl, SqL.of ha, at_of (j := i) (by omega) (List.getElem?_eq_getElem hi2), ?_⟩⟩
        refine ⟨_, rfl, _, rfl, .inl ⟨b, ys, _, _, rfl, rfl, SqL.of hb, at_of (j := i) (by omega) (List.getElem?_eq_getElem hi1), ?_⟩⟩
        refine ⟨_, _, ds[i], rfl, ka i _ _ (List.getElem?_eq_getElem hi2) (List.getElem?_eq_getElem hi3), kb i _ _ (List.getElem?_eq_getElem hi1) (List.getElem?_eq_getElem hi3), _, rfl, iteF ⟨rfl, _, rfl⟩⟩
      · rintro σ _ ⟨rfl, v, rfl⟩
        exact q
theorem none_same : FnOk P w K mg base CX0 0 f fd ["told", "due"] (spSame 0) := by
  have no : ∀ vs H Q E, ¬ spSame 0 vs H Q E := fun vs H Q E h => h
  exact ⟨fun vs H Q E h => absurd h (no vs H Q E), fun A outer s H args us vs Q E _ _ _ _ h => absurd h (no vs H Q E)⟩
end
section
variable {P : Program} {w : World} {K : PySem.W.Frag} {mg : Str → Option Value} {base : Heap} {f : Addr} {fd : FuncData}
def spDivisor : Sp := fun vs H Q _ => ∃ x y : Int, vs = [.int x, .int y] ∧ Q (.int ((Nat.gcd x.natAbs y.natAbs : Nat) : Int)) H
theorem ok_divisor (F : Fun K "_law_divisor" "_law_divisor" s_law_divisor f fd) (ma : mg "abs" = none) (mi : mg "int" = none) : FnOk P w K mg base CX0 1 f fd ["one", "other"] spDivisor := by
  refine F.ok sc_law_divisor (fun vs H Q E h => ?_) (fun cdv A outer s H vs Q E hr h => ?_)
  · obtain ⟨x, y, rfl, _⟩ := h
    rfl
  obtain ⟨x, y, rfl, q⟩ := h
  refine ⟨_, pss_cons (ps_while PassesOwn.never (pt_cmpR op_ne (pv 1) pe_int (nomark _))
      (pss_one (ps_par (i := 0) (j := 1) (by rfl) sc_law_divisor.nd rfl rfl (by decide) rfl rfl (pa_cons (pv 1) (pa_cons (pe_op op_modN (pe_callTy call_int1 rfl mi (by decide +kernel) (pa_cons (pv 0) pa_nil)) (pv 1)) pa_nil)) (by rfl))))
    (pss_one (ps_ret (pe_callB call_abs rfl ma (by decide +kernel) (pa_cons (pv 0) pa_nil)))), ?_⟩
  refine while_by (fun σ H' => H' = H ∧ ∃ a b : Int, σ = [some (.int a), some (.int b)] ∧ Nat.gcd a.natAbs b.natAbs = Nat.gcd x.natAbs y.natAbs) (fun σ _ => match σ with | [_, some (.int b)] => b.natAbs | _ => 0) ⟨rfl, x, y, rfl, rfl⟩ ?_ ?_
  · rintro σ _ ⟨rfl, a, b, rfl, e⟩
    refine ⟨_, rfl, rfl, _, rfl, ite2 (fun c => ?_) (fun c => ?_)⟩
    · have hb : b ≠ 0 := fun z => by subst z; simp at c
      refine ⟨_, rfl, _, rfl, .inl ⟨_, rfl, _, rfl, _, _, rfl, rfl, hb, _, _, rfl, ⟨rfl, _, _, rfl, ?_⟩, ?_⟩⟩
      · rw [gcd_step]; exact e
      · exact fmod_less hb
    · have hb : b = 0 := Decidable.byContradiction fun z => c (by simp [z])
      subst hb
      refine ⟨_, rfl, _, rfl, ?_⟩
      rw [Int.natAbs_zero, Nat.gcd_zero_right] at e
      have e2 : (if a < 0 then -a else a) = ((Nat.gcd x.natAbs y.natAbs : Nat) : Int) := by
        rw [← e]
        split <;> omega
      rw [e2]
      exact q
  · rintro σ H' Q1 Q2 hm ⟨v, e, s, k, ek, q⟩
    exact ⟨v, e, s, k, ek, hm _ _ q⟩
end
section
variable {P : Program} {w : World} {K : PySem.W.Frag} {mg : Str → Option Value} {base : Heap} {f : Addr} {fd : FuncData}
theorem sign_eq {c n : Nat} {z : Str} (e : z = S [n]) : (V.str (S [c]) = V.str z) ↔ c = n := by
  subst e
  constructor
  · intro h
    have := S_inj (V.str.inj h)
    simpa using this
  · rintro rfl; rfl
theorem e_T : (("T" : Str)) = S [84] := by decide +kernel
theorem e_U : (("U" : Str)) = S [85] := by decide +kernel
theorem e_R : (("R" : Str)) = S [82] := by decide +kernel
def Tup2 (H : Hp) (t : Addr) (v : Int × Int) : Prop := H t = some (.tup [.int v.1, .int v.2])
def spCalled (K : PySem.W.Frag) : Sp := fun vs H Q _ => ∃ (t : Addr) (v : Int × Int) (c : Nat), vs = [.ref t, .str (S [c])] ∧ Tup2 H t v ∧ ∀ t' H', Same H H' → Tup2 H' t' (called v c) → Q (.ref t') H'
theorem ok_called (F : Fun K "_law_called" "_law_called" s_law_called f fd) : FnOk P w K mg base CX0 1 f fd ["value", "letter"] (spCalled K) := by
  refine F.ok sc_law_called (fun vs H Q E h => ?_) (fun cdv A outer s H vs Q E hr h => ?_)
  · obtain ⟨a, m, c, rfl, _⟩ := h
    rfl
  obtain ⟨t, ⟨p, q'⟩, c, rfl, hT, q⟩ := h
  refine ⟨_, pss_cons (ps_asg (pv 0) (pg_tup (by rfl) (pgs_cons (pg_name (i := 2) sc_law_called.nd rfl (.inl rfl)) (pgs_cons (pg_name (i := 3) sc_law_called.nd rfl (.inl rfl)) pgs_nil))))
    (pss_cons (ps_if (pt_cmpR op_eq (pv 1) pe_str (nomark _)) (pss_one (ps_ret (pe_tup (pa_cons (pe_op op_add (pv 2) (pv 3)) (pa_cons (pv 3) pa_nil))))) pss_nil)
    (pss_cons (ps_if (pt_cmpR op_eq (pv 1) pe_str (nomark _)) (pss_one (ps_ret (pe_tup (pa_cons (pe_op op_sub (pv 2) (pv 3)) (pa_cons (pv 3) pa_nil))))) pss_nil)
    (pss_cons (ps_if (pt_cmpR op_gt (pv 2) pe_int (nomark _)) (pss_one (ps_ret (pe_tup (pa_cons (pe_op op_sub pe_int (pv 3)) (pa_cons (pv 2) pa_nil))))) pss_nil)
    (pss_cons (ps_if (pt_cmpR op_lt (pv 2) pe_int (nomark _)) (pss_one (ps_ret (pe_tup (pa_cons (pv 3) (pa_cons (pe_op op_sub pe_int (pv 2)) pa_nil))))) pss_nil)
    (pss_one (ps_ret (pe_tup (pa_cons pe_int (pa_cons pe_int pa_nil))))))))), ?_⟩
  have two : 2 ≤ sizeLine := fits (by decide)
  refine ⟨_, rfl, t, _, rfl, SqT.of hT, rfl, _, _, rfl, _, _, rfl, rfl, ?_⟩
  refine ⟨_, rfl, rfl, _, rfl, ite2 (fun c1 => ?_) (fun c1 => ?_)⟩
  · have k1 : c = 84 := (sign_eq e_T).mp (of_decide_eq_true c1)
    refine ⟨_, rfl, _, rfl, _, _, rfl, rfl, _, rfl, two, fun n hn => q n _ (same_new hn _) ?_⟩
    unfold Tup2 called
    rw [upd_same, if_pos k1]
  have k1 : ¬ c = 84 := fun z => c1 (decide_eq_true ((sign_eq e_T).mpr z))
  refine ⟨_, rfl, rfl, _, rfl, ite2 (fun c2 => ?_) (fun c2 => ?_)⟩
  · have k2 : c = 85 := (sign_eq e_U).mp (of_decide_eq_true c2)
    refine ⟨_, rfl, _, rfl, _, _, rfl, rfl, _, rfl, two, fun n hn => q n _ (same_new hn _) ?_⟩
    unfold Tup2 called
    rw [upd_same, if_neg k1, if_pos k2]
  have k2 : ¬ c = 85 := fun z => c2 (decide_eq_true ((sign_eq e_U).mpr z))
  refine ⟨_, rfl, _, _, rfl, rfl, _, rfl, ite2 (fun c3 => ?_) (fun c3 => ?_)⟩
  · have k3 : 0 < p := of_decide_eq_true c3
    refine ⟨_, rfl, _, _, rfl, rfl, _, rfl, two, fun n hn => q n _ (same_new hn _) ?_⟩
    unfold Tup2 called
    rw [upd_same, if_neg k1, if_neg k2, if_pos k3]
  have k3 : ¬ 0 < p := fun z => c3 (decide_eq_true z)
  refine ⟨_, rfl, _, _, rfl, rfl, _, rfl, ite2 (fun c4 => ?_) (fun c4 => ?_)⟩
  · have k4 : p < 0 := of_decide_eq_true c4
    refine ⟨_, rfl, _, rfl, _, _, rfl, rfl, two, fun n hn => q n _ (same_new hn _) ?_⟩
    unfold Tup2 called
    rw [upd_same, if_neg k1, if_neg k2, if_neg k3, if_pos k4]
  have k4 : ¬ p < 0 := fun z => c4 (decide_eq_true z)
  refine ⟨two, fun n hn => q n _ (same_new hn _) ?_⟩
  unfold Tup2 called
  rw [upd_same, if_neg k1, if_neg k2, if_neg k3, if_neg k4]
theorem Tup2.same {H H' : Hp} {t : Addr} {v : Int × Int} (h : Tup2 H t v) (s : Same H H') : Tup2 H' t v := s _ _ h
theorem Tup2.but {H H' : Hp} {a t : Addr} {v : Int × Int} (h : Tup2 H t v) (s : But a H H') (tp : Tape H a) : Tup2 H' t v := by
  obtain ⟨y, c, z, b, e⟩ := tp
  exact s _ _ (ne_of h e (by intro q; cases q)) h
def spNumber (K : PySem.W.Frag) : Sp := fun vs H Q _ => ∃ l : List Nat, vs = [.str (S l)] ∧ ∀ t' H', Same H H' → Tup2 H' t' (run (0, 1) l) → Q (.ref t') H'
theorem ok_number (F : Fun K "_law_number" "_law_number" s_law_number f fd) (DC : Dfn P w K mg base "_law_called" 1 ["value", "letter"] (spCalled K)) : FnOk P w K mg base CX0 2 f fd ["dance"] (spNumber K) := by
  refine F.ok sc_law_number (fun vs H Q E h => ?_) (fun cdv A outer s H vs Q E hr h => ?_)
  · obtain ⟨l, rfl, _⟩ := h
    rfl
  obtain ⟨l, rfl, q⟩ := h
  refine ⟨_, pss_cons (ps_set (i := 1) sc_law_number.nd rfl (.inl rfl) (pe_tup (pa_cons pe_int (pa_cons pe_int pa_nil))))
    (pss_cons (ps_for PassesOwn.never rfl (pi_str (pv 0)) (pg_name (i := 2) sc_law_number.nd rfl (.inl rfl))
      (pss_one (ps_set (i := 1) sc_law_number.nd rfl (.inl rfl) (pe_do DC hr (pa_cons (pv 1) (pa_cons (pv 2) pa_nil))))))
    (pss_one (ps_ret (pv 1)))), ?_⟩
  refine ⟨fits (by decide), fun p hp => ?_⟩
  refine ⟨_, rfl, _, rfl, for_str (l := l) (fun i σ H' => ∃ (t : Addr) (v : Option V), σ = [some (.str (S l)), some (.ref t), v] ∧ Same H H' ∧ Tup2 H' t (run (0, 1) (l.take i))) ?_ ?_ ?_⟩
  · exact ⟨p, _, rfl, same_new hp _, upd_same⟩
  · rintro i c σ H' hc ⟨t, v, rfl, sm, tt⟩
    refine ⟨_, rfl, _, rfl, t, _, c, rfl, tt, fun t' H2 s2 tt2 => ?_⟩
    exact ⟨t', _, rfl, sm.trans s2, by rw [run_take _ hc]; exact tt2⟩
  · rintro σ H' ⟨t, v, rfl, sm, tt⟩
    rw [List.take_of_length_le (Nat.le_refl _)] at tt
    exact ⟨_, rfl, q t H' sm tt⟩
end
section
variable {P : Program} {w : World} {K : PySem.W.Frag} {mg : Str → Option Value} {base : Heap} {f : Addr} {fd : FuncData}
def spSays : Sp := fun vs H Q _ => ∃ b : Bool, vs = [.bl b, .bl b] ∧ Q (.bl true) H
theorem ok_says (F : Fun K "_law_says" "_law_says" s_law_says f fd) (mI : mg "isinstance" = none) (mb : mg "bool" = none) : FnOk P w K mg base CX0 1 f fd ["told", "due"] spSays := by
  refine F.ok sc_law_says (fun vs H Q E h => ?_) (fun cdv A outer s H vs Q E hr h => ?_)
  · obtain ⟨b, rfl, _⟩ := h
    rfl
  obtain ⟨b, rfl, q⟩ := h
  have bB : bootBuiltins "bool" = some (.type "bool") := by decide +kernel
  have bi : bootBuiltins "isinstance" = some (.builtin "isinstance") := by decide +kernel
  refine ⟨_, pss_one (ps_ret (pe_and (pe_callB call_isi rfl mI bi (pa_cons (pv 0) (pa_cons (pe_bltn (v := .ty "bool") rfl mb bB rfl) pa_nil))) (pe_one (pe_cmpR op_eq (pv 0) (pv 1) (nomark _))))), ?_⟩
  refine ⟨_, rfl, _, _, _, _, true, rfl, .ty _, .base (.bl _), kit_ty (by decide +kernel), _, rfl, iteT ?_⟩
  refine ⟨_, rfl, _, rfl, rfl, ?_⟩
  rw [decide_eq_true rfl]
  exact q
end
section
theorem int_is {H : Hp} {n : Nat} {i : Int} : Is H n (.int i) (.int i) := by cases n <;> rfl
theorem str_is {H : Hp} {n : Nat} {z : Str} : Is H n (.str z) (.str z) := by cases n <;> rfl
theorem is_tup {H : Hp} {n : Nat} {a : Addr} {xs : List V} {ds : List Dt} (h : H a = some (.tup xs)) (z : xs.length = ds.length) (m : ds.length ≤ 1000000) (k : ∀ (i : Nat) (x : V) (d : Dt), xs[i]? = some x → ds[i]? = some d → Is H n x d) : Is H (n + 1) (.ref a) (.tup ds) := ⟨a, xs, rfl, h, z, m, k⟩
theorem is_lst {H : Hp} {n : Nat} {a : Addr} {xs : List V} {ds : List Dt} (h : H a = some (.lst xs)) (z : xs.length = ds.length) (m : ds.length ≤ 1000000) (k : ∀ (i : Nat) (x : V) (d : Dt), xs[i]? = some x → ds[i]? = some d → Is H n x d) : Is H (n + 1) (.ref a) (.lst ds) := ⟨a, xs, rfl, h, z, m, k⟩
end
section
/-! ### lists of tuples, each by its items -/
def Tl (H : Hp) (p : Addr) (ds : List (List V)) : Prop := ∃ rs : List Addr, H p = some (.lst (rs.map V.ref)) ∧ rs.length = ds.length ∧ ∀ (i : Nat) (r : Addr) (d : List V), rs[i]? = some r → ds[i]? = some d → H r = some (.tup d)
theorem Tl.same {H H' : Hp} {p : Addr} {ds : List (List V)} (h : Tl H p ds) (s : Same H H') : Tl H' p ds := by
  obtain ⟨rs, e, z, k⟩ := h
  exact ⟨rs, s _ _ e, z, fun i r d a b => s _ _ (k i r d a b)⟩
theorem Tl.but {H H' : Hp} {a p : Addr} {ds : List (List V)} {zs : List V} (h : Tl H p ds) (s : But a H H') (ne : p ≠ a) (ha : H a = some (.lst zs)) : Tl H' p ds := by
  obtain ⟨rs, e, z, k⟩ := h
  exact ⟨rs, s _ _ ne e, z, fun i r d x y => s _ _ (ne_of (k i r d x y) ha (by intro q; cases q)) (k i r d x y)⟩
theorem Tl.tape {H H' : Hp} {a p : Addr} {ds : List (List V)} (h : Tl H p ds) (s : But a H H') (ne : p ≠ a) (tp : Tape H a) : Tl H' p ds := by
  obtain ⟨y, c, z, b, e⟩ := tp
  exact h.but s ne e
theorem Tl.nil {H : Hp} {p : Addr} (h : H p = some (.lst [])) : Tl H p [] := ⟨[], h, rfl, fun i r d a _ => by cases a⟩
theorem Tl.lst {H : Hp} {p : Addr} {ds : List (List V)} (h : Tl H p ds) : ∃ xs, H p = some (.lst xs) ∧ xs.length = ds.length := by
  obtain ⟨rs, e, z, k⟩ := h
  exact ⟨_, e, by rw [List.length_map]; exact z⟩
theorem Tl.at {H : Hp} {p : Addr} {ds : List (List V)} (h : Tl H p ds) {i : Nat} {d : List V} (hd : ds[i]? = some d) : ∃ xs r, H p = some (.lst xs) ∧ xs.length = ds.length ∧ xs[i]? = some (.ref r) ∧ H r = some (.tup d) := by
  obtain ⟨rs, e, z, k⟩ := h
  have hi : i < rs.length := by rw [z]; exact (List.getElem?_eq_some_iff.mp hd).1
  refine ⟨_, rs[i], e, by rw [List.length_map]; exact z, by rw [List.getElem?_map, List.getElem?_eq_getElem hi]; rfl, k i _ _ (List.getElem?_eq_getElem hi) hd⟩
/-- a tuple that stands at t is appended -/
theorem Tl.push {H : Hp} {p t : Addr} {ds : List (List V)} {d : List V} (h : Tl H p ds) (ht : H t = some (.tup d)) :
    ∃ xs, H p = some (.lst xs) ∧ xs.length = ds.length ∧ Tl (upd H p (.lst (xs ++ [.ref t]))) p (ds ++ [d]) := by
  obtain ⟨rs, e, z, k⟩ := h
  refine ⟨rs.map V.ref, e, by rw [List.length_map]; exact z, rs ++ [t], by rw [upd_same, List.map_append]; rfl, by rw [List.length_append, List.length_append, z]; rfl, fun i r c' hr hc => ?_⟩
  by_cases hi : i < rs.length
  · rw [List.getElem?_append_left hi] at hr
    rw [List.getElem?_append_left (by omega)] at hc
    have hk := k i r c' hr hc
    rw [upd_ne (ne_of hk e (by intro q; cases q))]
    exact hk
  · rw [List.getElem?_append_right (by omega)] at hr hc
    rw [z] at hr
    by_cases h0 : i - ds.length = 0
    · rw [h0] at hr hc
      cases hr; cases hc
      rw [upd_ne (ne_of ht e (by intro q; cases q))]
      exact ht
    · obtain ⟨m, hm⟩ := Nat.exists_eq_succ_of_ne_zero h0
      rw [hm] at hr
      cases hr
/-- a new list of the same objects: another list at q, its items picked from those at p -/
theorem Tl.pick {H H' : Hp} {p q : Addr} {ds : List (List V)} (h : Tl H p ds) (s : Same H H') (js : List Nat) (hj : ∀ j ∈ js, j < ds.length) {xs : List V} (hp : H p = some (.lst xs)) (hq : H' q = some (.lst (js.filterMap fun j => xs[j]?))) : Tl H' q (js.filterMap fun j => ds[j]?) := by
  obtain ⟨rs, e, z, k⟩ := h
  rw [e] at hp
  cases hp
  refine ⟨js.filterMap fun j => rs[j]?, ?_, ?_, ?_⟩
  · rw [hq, List.map_filterMap]
    congr 3
    funext j
    rw [List.getElem?_map]
  · have : ∀ (js : List Nat), (∀ j ∈ js, j < ds.length) → (js.filterMap fun j => rs[j]?).length = (js.filterMap fun j => ds[j]?).length := by
      intro js
      induction js with
      | nil => intro _; rfl
      | cons j r ih =>
        intro hj
        have h1 := hj j List.mem_cons_self
        rw [List.filterMap_cons, List.filterMap_cons, List.getElem?_eq_getElem h1, List.getElem?_eq_getElem (by omega : j < rs.length)]
        simp only [List.length_cons]
        rw [ih fun x hx => hj x (List.mem_cons_of_mem _ hx)]
    exact this js hj
  · have : ∀ (js : List Nat), (∀ j ∈ js, j < ds.length) → ∀ (i : Nat) (r : Addr) (d : List V), (js.filterMap fun j => rs[j]?)[i]? = some r → (js.filterMap fun j => ds[j]?)[i]? = some d → H' r = some (.tup d) := by
      intro js
      induction js with
      | nil => intro _ i r d hr _; cases hr
      | cons j r ih =>
        intro hj i r d hr hd
        have h1 := hj j List.mem_cons_self
        rw [List.filterMap_cons, List.getElem?_eq_getElem (by omega : j < rs.length)] at hr
        rw [List.filterMap_cons, List.getElem?_eq_getElem h1] at hd
        cases i with
        | zero =>
          cases hr; cases hd
          exact s _ _ (k j _ _ (List.getElem?_eq_getElem (by omega)) (List.getElem?_eq_getElem h1))
        | succ i => exact ih (fun x hx => hj x (List.mem_cons_of_mem _ hx)) i r d hr hd
    exact this js hj
end
section
/-! ### moves -/
structure Mv where
  pl : Int
  o : List Nat
  n : List Nat
def wds : List (List Nat) := [[84, 85], [85, 84], [82, 82], [84, 82, 84, 82, 84, 82]]
def wF : List Nat := [82, 84, 82]
def isMv (m : Mv) : Bool := (decide (m.o = []) != decide (m.n = [])) && (decide (m.o ++ m.n ∈ wds) || (decide (m.pl = 0) && decide (m.o ++ m.n = wF)))
def canMv (d : List Nat) (m : Mv) : Bool := decide (0 ≤ m.pl) && (decide (m.pl ≤ d.length) && decide ((d.drop m.pl.toNat).take m.o.length = m.o))
def doMv (d : List Nat) (m : Mv) : List Nat := d.take m.pl.toNat ++ m.n ++ d.drop (m.pl.toNat + m.o.length)
def mkMv (d : List Nat) (m : Mv) : Option (List Nat) := if isMv m = true ∧ canMv d m = true then some (doMv d m) else none
theorem mkMv_some {d : List Nat} {m : Mv} (h1 : isMv m = true) (h2 : canMv d m = true) : mkMv d m = some (doMv d m) := if_pos ⟨h1, h2⟩
theorem mkMv_not {d : List Nat} {m : Mv} (h1 : isMv m = false) : mkMv d m = none := if_neg fun z => by rw [h1] at z; cases z.1
theorem mkMv_cannot {d : List Nat} {m : Mv} (h1 : canMv d m = false) : mkMv d m = none := if_neg fun z => by rw [h1] at z; cases z.2
def Mv.vs (m : Mv) : List V := [.int m.pl, .str (S m.o), .str (S m.n)]
def Tm (H : Hp) (t : Addr) (m : Mv) : Prop := H t = some (.tup m.vs)
theorem Tm.same {H H' : Hp} {t : Addr} {m : Mv} (h : Tm H t m) (s : Same H H') : Tm H' t m := s _ _ h
theorem Tm.but {H H' : Hp} {a t : Addr} {m : Mv} (h : Tm H t m) (s : But a H H') (tp : Tape H a) : Tm H' t m := by
  obtain ⟨y, c, z, b, e⟩ := tp
  exact s _ _ (ne_of h e (by intro q; cases q)) h
theorem e_TU : (("TU" : Str)) = S [84, 85] := by decide +kernel
theorem e_UT : (("UT" : Str)) = S [85, 84] := by decide +kernel
theorem e_RR : (("RR" : Str)) = S [82, 82] := by decide +kernel
theorem e_RTR : (("RTR" : Str)) = S wF := by decide +kernel
theorem e_six : (("TRTRTR" : Str)) = S [84, 82, 84, 82, 84, 82] := by decide +kernel
theorem e_near : (("TURS_t" : Str)) = S [84, 85, 82, 83, 95, 116] := by decide +kernel
theorem e_TUR : (("TUR" : Str)) = S [84, 85, 82] := by decide +kernel
def tx (l : List Nat) : V := .str (S l)
theorem tx_inj {a b : List Nat} (h : tx a = tx b) : a = b := S_inj (V.str.inj h)
theorem tx_iff {a b : List Nat} : V.str (S a) = V.str (S b) ↔ a = b := ⟨fun h => tx_inj h, fun h => by rw [h]⟩
theorem four_words : [V.str "TU", .str "UT", .str "RR", .str "TRTRTR"] = wds.map tx := by
  rw [e_TU, e_UT, e_RR, e_six]
  rfl
theorem eqV_str (a b : List Nat) : eqV (.str (S a)) (.str (S b)) = decide (a = b) := by
  show (S a == S b) = _
  by_cases h : a = b
  · subst h
    rw [decide_eq_true rfl]
    exact beq_self_eq_true _
  · rw [decide_eq_false h]
    exact beq_eq_false_iff_ne.mpr fun z => h (S_inj z)
theorem inV_strs (w : List Nat) (ws : List (List Nat)) : inV (.str (S w)) (ws.map tx) = decide (w ∈ ws) := by
  unfold inV
  induction ws with
  | nil => simp
  | cons a r ih =>
    rw [List.map_cons, List.any_cons, ih]
    show (eqV (.str (S a)) (.str (S w)) || _) = _
    rw [eqV_str, Bool.eq_iff_iff]
    simp only [Bool.or_eq_true, decide_eq_true_eq, List.mem_cons]
    constructor
    · rintro (h | h)
      · exact .inl h.symm
      · exact .inr h
    · rintro (h | h)
      · exact .inl h.symm
      · exact .inr h
theorem flat_strs (ws : List (List Nat)) : (ws.map tx).all flatV = true := by
  rw [List.all_eq_true]
  intro x hx
  obtain ⟨w, _, rfl⟩ := List.mem_map.mp hx
  rfl
theorem S_mid (l : List Nat) {p : Int} (h : 0 ≤ p) (k : Nat) : cutS (S l) (some p) (some (p + (k : Int))) = S ((l.drop p.toNat).take k) := by
  obtain ⟨n, rfl⟩ := Int.eq_ofNat_of_zero_le h
  have e : ((n : Int) + (k : Int)) = ((n + k : Nat) : Int) := rfl
  rw [S_cut, e, HT.sIx_nat, HT.sIx_nat, Int.toNat_natCast]
  congr 1
  by_cases h2 : n ≤ l.length
  · rw [Nat.min_eq_left h2]
    by_cases h3 : n + k ≤ l.length
    · rw [Nat.min_eq_left h3]
      congr 1
      omega
    · rw [Nat.min_eq_right (by omega), List.take_of_length_le (by rw [List.length_drop]; omega), List.take_of_length_le (by rw [List.length_drop]; omega)]
  · rw [List.drop_eq_nil_of_le (show l.length ≤ min n l.length by omega), List.drop_eq_nil_of_le (show l.length ≤ n by omega), List.take_nil, List.take_nil]
theorem pick_strs {ws : List (List Nat)} {r : Int} (h0 : 0 ≤ r) (h1 : r < (ws.length : Int)) : ∃ u, atI (ws.map tx) r = some (.str (S u)) ∧ u ∈ ws := by
  obtain ⟨c, hc, m⟩ := atI_mk (xs := ws.map tx) h0 (by rw [List.length_map]; exact h1)
  obtain ⟨u, hu, rfl⟩ := List.mem_map.mp m
  exact ⟨u, hc, hu⟩
theorem pick_ints {ns : List Int} {r : Int} (h0 : 0 ≤ r) (h1 : r < (ns.length : Int)) : ∃ u, atI (ns.map V.int) r = some (.int u) ∧ u ∈ ns := by
  obtain ⟨c, hc, m⟩ := atI_mk (xs := ns.map V.int) h0 (by rw [List.length_map]; exact h1)
  obtain ⟨u, hu, rfl⟩ := List.mem_map.mp m
  exact ⟨u, hc, hu⟩
theorem pick_sign {z : Str} {l : List Nat} (e : z = S l) {r : Int} (h0 : 0 ≤ r) (h1 : r < (l.length : Int)) : ∃ c, atI z.cps.toList r = some c ∧ c ∈ l := by
  subst e
  rw [S_list]
  exact atI_mk h0 h1
theorem isMv_empty {m : Mv} : isMv m = true → m.o = [] ∨ m.n = [] := by
  intro h
  unfold isMv at h
  by_cases h1 : m.o = []
  · exact .inl h1
  · by_cases h2 : m.n = []
    · exact .inr h2
    · rw [decide_eq_false h1, decide_eq_false h2] at h
      cases h
/-- short enough to be handled -/
structure Mv.Fit (m : Mv) (k : Nat) : Prop where
  o : m.o.length ≤ k
  n : m.n.length ≤ k
theorem Mv.Fit.mono {m : Mv} {j k : Nat} (h : m.Fit j) (l : j ≤ k) : m.Fit k := ⟨Nat.le_trans h.o l, Nat.le_trans h.n l⟩
theorem doMv_len {d : List Nat} {m : Mv} {k : Nat} (h : m.Fit k) : (doMv d m).length ≤ d.length + k := by
  unfold doMv
  have := h.n
  simp only [List.length_append, List.length_take, List.length_drop]
  omega
def tMade : Option (List Nat) → V
  | some d => .str (S d)
  | none => .non
def spIsMove : Sp := fun vs H Q _ => ∃ (t : Addr) (m : Mv), vs = [.ref t] ∧ Tm H t m ∧ m.Fit 100000 ∧ ∀ H', Same H H' → Q (.bl (isMv m)) H'
def spLawMade : Sp := fun vs H Q _ => ∃ (d : List Nat) (t : Addr) (m : Mv), vs = [.str (S d), .ref t] ∧ Tm H t m ∧ m.Fit 100000 ∧ d.length ≤ 1000000 ∧ ∀ H', Same H H' → Q (tMade (mkMv d m)) H'
/-- made, where the move can be made -/
def spMade : Sp := fun vs H Q _ => ∃ (d : List Nat) (t : Addr) (m : Mv) (x : List Nat), vs = [.str (S d), .ref t] ∧ Tm H t m ∧ m.Fit 100000 ∧ d.length ≤ 1000000 ∧ mkMv d m = some x ∧ ∀ H', Same H H' → Q (.str (S x)) H'
/-- made, both ways -/
def spMadeX (C : Addr) : Sp := fun vs H Q E => ∃ (d : List Nat) (t : Addr) (m : Mv), vs = [.str (S d), .ref t] ∧ Tm H t m ∧ m.Fit 100000 ∧ d.length ≤ 1000000 ∧ (∀ x, mkMv d m = some x → ∀ H', Same H H' → Q (.str (S x)) H') ∧ (mkMv d m = none → ∀ H', Same H H' → E (.ref C) none H')
/-- what the drawn moves keep -/
def Cn (d : List Nat) (m : Mv) : Prop := isMv m = true ∧ canMv d m = true ∧ m.Fit 6
def spPut : Sp := fun vs H Q _ => ∃ (a : Addr) (d : List Nat), vs = [.ref a, .str (S d)] ∧ Tape H a ∧ d.length ≤ 1000000 ∧ ∀ (t : Addr) (m : Mv) H', Cn d m → m.o = [] → But a H H' → Tape H' a → Tm H' t m → Q (.ref t) H'
def spTaken : Sp := fun vs H Q _ => ∃ (a : Addr) (d : List Nat), vs = [.ref a, .str (S d)] ∧ Tape H a ∧ d.length ≤ 1000000 ∧ ∀ (t : Addr) (m : Mv) H', Cn d m → But a H H' → Tape H' a → Tm H' t m → Q (.ref t) H'
def spNear : Sp := fun vs H Q _ => ∃ (a : Addr), vs = [.ref a] ∧ Tape H a ∧ ∀ (u : List Nat) H', u.length ≤ 20 → But a H H' → Tape H' a → Q (.str (S u)) H'
def spOdd : Sp := fun vs H Q _ => ∃ (a t0 : Addr) (m0 : Mv) (k : Nat), vs = [.ref a, .ref t0] ∧ Tape H a ∧ Tm H t0 m0 ∧ m0.Fit k ∧ 20 ≤ k ∧ k ≤ 10000 ∧ ∀ (t : Addr) (m : Mv) H', m.Fit (2 * k) → But a H H' → Tape H' a → Tm H' t m → Q (.ref t) H'
theorem wds_len {u : List Nat} (h : u ∈ wds) : u.length ≤ 6 ∧ 2 ≤ u.length := by
  simp only [wds, List.mem_cons, List.not_mem_nil, or_false] at h
  rcases h with rfl | rfl | rfl | rfl <;> decide
theorem Cn.put {d u : List Nat} {p : Int} (h : u ∈ wds) (h0 : 0 ≤ p) (h1 : p ≤ d.length) : Cn d ⟨p, [], u⟩ := by
  have hl := wds_len h
  have hu : u ≠ [] := fun z => by subst z; simp at hl
  refine ⟨?_, ?_, ⟨Nat.zero_le _, hl.1⟩⟩
  · unfold isMv
    simp only [decide_true, decide_eq_false hu, List.nil_append, decide_eq_true h]
    rfl
  · unfold canMv
    simp only [decide_eq_true h0, decide_eq_true h1, List.length_nil, List.take_zero, decide_true, Bool.and_true]
theorem Cn.putF (d : List Nat) : Cn d ⟨0, [], wF⟩ := by
  refine ⟨by decide, ?_, ⟨Nat.zero_le _, by decide⟩⟩
  unfold canMv
  simp only [List.length_nil, List.take_zero, decide_true, Bool.and_true, Int.le_refl, Bool.true_and]
  exact decide_eq_true (Int.natCast_nonneg _)
theorem Cn.take {d u : List Nat} {p : Int} (h : u ∈ wds) (h0 : 0 ≤ p) (h1 : p ≤ d.length) (e : (d.drop p.toNat).take u.length = u) : Cn d ⟨p, u, []⟩ := by
  have hl := wds_len h
  have hu : u ≠ [] := fun z => by subst z; simp at hl
  refine ⟨?_, ?_, ⟨hl.1, Nat.zero_le _⟩⟩
  · unfold isMv
    simp only [decide_true, decide_eq_false hu, List.append_nil, decide_eq_true h]
    rfl
  · unfold canMv
    simp only [decide_eq_true h0, decide_eq_true h1, decide_eq_true e, Bool.and_true]
theorem Cn.takeF {d : List Nat} (e : d.take 3 = wF) : Cn d ⟨0, wF, []⟩ := by
  refine ⟨by decide, ?_, ⟨by decide, Nat.zero_le _⟩⟩
  unfold canMv
  have : (List.drop (Int.toNat 0) d).take wF.length = wF := e
  simp only [decide_eq_true this, decide_true, Bool.and_true, Int.le_refl, Bool.true_and]
  exact decide_eq_true (Int.natCast_nonneg _)
theorem S_eta (z : Str) : S z.cps.toList = z := by
  cases z
  simp [S]
theorem pick_zs {zs : List Str} {n : Nat} (hz : ∀ z ∈ zs, z.length ≤ n) {r : Int} (h0 : 0 ≤ r) (h1 : r < (zs.length : Int)) : ∃ u : List Nat, atI (zs.map V.str) r = some (.str (S u)) ∧ u.length ≤ n := by
  obtain ⟨c, hc, m⟩ := atI_mk (xs := zs.map V.str) h0 (by rw [List.length_map]; exact h1)
  obtain ⟨z, hm, rfl⟩ := List.mem_map.mp m
  refine ⟨z.cps.toList, by rw [S_eta]; exact hc, ?_⟩
  have := hz z hm
  rw [← S_eta z, S_len] at this
  exact this
theorem mkMv_inv {d x : List Nat} {m : Mv} (h : mkMv d m = some x) : isMv m = true ∧ canMv d m = true ∧ x = doMv d m := by
  unfold mkMv at h
  by_cases c : isMv m = true ∧ canMv d m = true
  · rw [if_pos c] at h
    exact ⟨c.1, c.2, (Option.some.inj h).symm⟩
  · rw [if_neg c] at h
    cases h
theorem canMv_inv {d : List Nat} {m : Mv} (h : canMv d m = true) : 0 ≤ m.pl ∧ m.pl ≤ d.length ∧ (d.drop m.pl.toNat).take m.o.length = m.o := by
  unfold canMv at h
  simp only [Bool.and_eq_true, decide_eq_true_eq] at h
  exact h
def spHolds : Sp := fun vs H Q _ => ∃ (d : List Nat) (t : Addr) (m : Mv), vs = [.str (S d), .ref t] ∧ Tm H t m ∧ m.Fit 100000 ∧ d.length ≤ 1000000 ∧ ∀ H', Same H H' → Q (.bl true) H'
theorem pick_two {t1 t2 : Addr} {m1 m2 : Mv} {H : Hp} {d : List Nat} (h1 : Tm H t1 m1) (h2 : Tm H t2 m2) (c1 : Cn d m1) (c2 : Cn d m2) {r : Int} (r0 : 0 ≤ r) (r1 : r < 2) : ∃ (t : Addr) (m : Mv), atI [V.ref t1, .ref t2] r = some (.ref t) ∧ Tm H t m ∧ Cn d m := by
  have : r = 0 ∨ r = 1 := by omega
  rcases this with rfl | rfl
  · exact ⟨t1, m1, rfl, h1, c1⟩
  · exact ⟨t2, m2, rfl, h2, c2⟩
end
section
variable {P : Program} {w : World} {K : PySem.W.Frag} {mg : Str → Option Value} {base : Heap} {f : Addr} {fd : FuncData}
/-! ### diagrams -/
structure Dg where
  n : Nat
  cs : List (Nat × Nat × Nat)
  a : Nat
  b : Nat
  c : Nat
  d : Nat
def dg1 (g : Dg) (c : Nat) : Dg :=
  if c = 82 then ⟨g.n, g.cs, g.c, g.a, g.d, g.b⟩ else if c = 84 then ⟨g.n + 1, g.cs ++ [(g.b, g.d, g.n)], g.a, g.n, g.c, g.b⟩ else ⟨g.n + 1, g.cs ++ [(g.d, g.b, g.n)], g.a, g.d, g.c, g.n⟩
def dg0 : Dg := ⟨2, [], 0, 0, 1, 1⟩
def dg (l : List Nat) : Dg := l.foldl dg1 dg0
theorem dg_take {l : List Nat} {i c : Nat} (h : l[i]? = some c) : dg (l.take (i + 1)) = dg1 (dg (l.take i)) c := by
  unfold dg
  rw [List.take_add_one, h, List.foldl_append]
  rfl
theorem dg_len (l : List Nat) : (dg l).cs.length ≤ l.length := by
  suffices h : ∀ (l : List Nat) (g : Dg), (l.foldl dg1 g).cs.length ≤ g.cs.length + l.length by
    have := h l dg0
    simpa [dg, dg0] using this
  intro l
  induction l with
  | nil => intro g; simp
  | cons c r ih =>
    intro g
    have h1 := ih (dg1 g c)
    have h2 : (dg1 g c).cs.length ≤ g.cs.length + 1 := by
      unfold dg1
      repeat' split
      all_goals simp
    simp only [List.foldl_cons, List.length_cons]
    omega
def t3 (c : Nat × Nat × Nat) : HO := .tup [.int (c.1 : Int), .int (c.2.1 : Int), .int (c.2.2 : Int)]
/-- at p a list of the crossings cs, a tuple each -/
def Crs (H : Hp) (p : Addr) (cs : List (Nat × Nat × Nat)) : Prop := ∃ rs : List Addr, H p = some (.lst (rs.map V.ref)) ∧ rs.length = cs.length ∧ ∀ (i : Nat) (r : Addr) (c : Nat × Nat × Nat), rs[i]? = some r → cs[i]? = some c → H r = some (t3 c)
theorem Crs.same {H H' : Hp} {p : Addr} {cs : List (Nat × Nat × Nat)} (h : Crs H p cs) (s : Same H H') : Crs H' p cs := by
  obtain ⟨rs, e, z, k⟩ := h
  exact ⟨rs, s _ _ e, z, fun i r c a b => s _ _ (k i r c a b)⟩
theorem Crs.but {H H' : Hp} {a p : Addr} {cs : List (Nat × Nat × Nat)} {zs : List V} (h : Crs H p cs) (s : But a H H') (ne : p ≠ a) (ha : H a = some (.lst zs)) : Crs H' p cs := by
  obtain ⟨rs, e, z, k⟩ := h
  exact ⟨rs, s _ _ ne e, z, fun i r c x y => s _ _ (ne_of (k i r c x y) ha (by intro q; cases q)) (k i r c x y)⟩
/-- one more crossing: a new tuple at t, appended -/
theorem Crs.push {H : Hp} {p t : Addr} {cs : List (Nat × Nat × Nat)} (h : Crs H p cs) (ht : H t = none) (c : Nat × Nat × Nat) :
    ∃ xs, upd H t (t3 c) p = some (.lst xs) ∧ xs.length = cs.length ∧ Crs (upd (upd H t (t3 c)) p (.lst (xs ++ [.ref t]))) p (cs ++ [c]) := by
  obtain ⟨rs, e, z, k⟩ := h
  have hpt : p ≠ t := ne_of_none e ht
  refine ⟨rs.map V.ref, by rw [upd_ne hpt]; exact e, by rw [List.length_map]; exact z, rs ++ [t], by rw [upd_same, List.map_append]; rfl, by rw [List.length_append, List.length_append, z]; rfl, fun i r c' hr hc => ?_⟩
  by_cases hi : i < rs.length
  · rw [List.getElem?_append_left hi] at hr
    rw [List.getElem?_append_left (by omega)] at hc
    have hk := k i r c' hr hc
    rw [upd_ne (ne_of hk e (by intro q; cases q)), upd_ne (ne_of_none hk ht)]
    exact hk
  · rw [List.getElem?_append_right (by omega)] at hr hc
    rw [z] at hr
    by_cases h0 : i - cs.length = 0
    · rw [h0] at hr hc
      cases hr; cases hc
      rw [upd_ne (Ne.symm hpt), upd_same]
    · obtain ⟨m, hm⟩ := Nat.exists_eq_succ_of_ne_zero h0
      rw [hm] at hr
      cases hr
def e4 (g : Dg) : HO := .tup [.int (g.a : Int), .int (g.b : Int), .int (g.c : Int), .int (g.d : Int)]
/-- at t a diagram, its list of crossings at p -/
def Diag (H : Hp) (t p : Addr) (g : Dg) : Prop := ∃ e, H t = some (.tup [.int (g.n : Int), .ref p, .ref e]) ∧ H e = some (e4 g) ∧ Crs H p g.cs
theorem Diag.same {H H' : Hp} {t p : Addr} {g : Dg} (h : Diag H t p g) (s : Same H H') : Diag H' t p g := by
  obtain ⟨e, a, b, c⟩ := h
  exact ⟨e, s _ _ a, s _ _ b, c.same s⟩
theorem Diag.but {H H' : Hp} {a t p : Addr} {g : Dg} {zs : List V} (h : Diag H t p g) (s : But a H H') (ne : p ≠ a) (ha : H a = some (.lst zs)) : Diag H' t p g := by
  obtain ⟨e, x, y, c⟩ := h
  exact ⟨e, s _ _ (ne_of x ha (by intro q; cases q)) x, s _ _ (ne_of y ha (by intro q; cases q)) y, c.but s ne ha⟩
def spDiag : Sp := fun vs H Q _ => ∃ l : List Nat, vs = [.str (S l)] ∧ l.length ≤ 1000000 ∧ ∀ (t p : Addr) H', Same H H' → H p = none → Diag H' t p (dg l) → Q (.ref t) H'
end
section
/-! ### colourings -/
def cstep (A : List Int) (c : Nat × Nat × Nat) : List Int := A ++ [2 * A.getD c.1 0 - A.getD c.2.1 0]
def col (cs : List (Nat × Nat × Nat)) (x y : Int) : List Int := cs.foldl cstep [x, y]
theorem col_snoc (cs : List (Nat × Nat × Nat)) (c : Nat × Nat × Nat) (x y : Int) : col (cs ++ [c]) x y = cstep (col cs x y) c := by
  unfold col
  rw [List.foldl_append]
  rfl
theorem col_len (x y : Int) (cs : List (Nat × Nat × Nat)) : (col cs x y).length = cs.length + 2 := by
  suffices h : ∀ (cs : List (Nat × Nat × Nat)) (A : List Int), (cs.foldl cstep A).length = A.length + cs.length by
    have := h cs [x, y]
    unfold col
    rw [this]
    show 2 + _ = _
    omega
  intro cs
  induction cs with
  | nil => intro A; simp
  | cons c r ih =>
    intro A
    rw [List.foldl_cons, ih]
    unfold cstep
    simp only [List.length_append, List.length_cons, List.length_nil]
    omega
theorem getD_left {A B : List Int} {i : Nat} (h : i < A.length) : (A ++ B).getD i 0 = A.getD i 0 := by
  rw [List.getD_eq_getElem?_getD, List.getD_eq_getElem?_getD, List.getElem?_append_left h]
theorem getD_last (A : List Int) (z : Int) : (A ++ [z]).getD A.length 0 = z := by
  rw [List.getD_eq_getElem?_getD, List.getElem?_append_right (Nat.le_refl _), Nat.sub_self]
  rfl
/-- a diagram as the document makes it -/
structure Wf (g : Dg) : Prop where
  n : g.n = g.cs.length + 2
  a : g.a < g.n
  b : g.b < g.n
  c : g.c < g.n
  d : g.d < g.n
  at_ : ∀ (i : Nat) (c : Nat × Nat × Nat), g.cs[i]? = some c → c.2.2 = i + 2 ∧ c.1 < i + 2 ∧ c.2.1 < i + 2
theorem Wf.zero : Wf dg0 := ⟨rfl, by decide, by decide, by decide, by decide, fun i c h => by cases h⟩
theorem wf_push {n : Nat} {cs : List (Nat × Nat × Nat)} {o b : Nat} (hn : n = cs.length + 2) (h : ∀ (i : Nat) (c : Nat × Nat × Nat), cs[i]? = some c → c.2.2 = i + 2 ∧ c.1 < i + 2 ∧ c.2.1 < i + 2) (ho : o < n) (hb : b < n) :
    ∀ (i : Nat) (c : Nat × Nat × Nat), (cs ++ [(o, b, n)])[i]? = some c → c.2.2 = i + 2 ∧ c.1 < i + 2 ∧ c.2.1 < i + 2 := by
  intro i c hc
  by_cases hi : i < cs.length
  · rw [List.getElem?_append_left hi] at hc
    exact h i c hc
  · rw [List.getElem?_append_right (by omega)] at hc
    by_cases h0 : i - cs.length = 0
    · rw [h0] at hc
      cases hc
      exact ⟨by show n = _; omega, by show o < _; omega, by show b < _; omega⟩
    · obtain ⟨m, hm⟩ := Nat.exists_eq_succ_of_ne_zero h0
      rw [hm] at hc
      cases hc
theorem Wf.step {g : Dg} (w : Wf g) (c : Nat) : Wf (dg1 g c) := by
  obtain ⟨n, a, b, cc, d, h⟩ := w
  unfold dg1
  by_cases c1 : c = 82
  · rw [if_pos c1]
    exact ⟨n, cc, a, d, b, h⟩
  rw [if_neg c1]
  by_cases c2 : c = 84
  · rw [if_pos c2]
    exact ⟨by show g.n + 1 = (g.cs ++ [_]).length + 2; rw [List.length_append]; show _ = g.cs.length + 1 + 2; omega, by show g.a < g.n + 1; omega, by show g.n < g.n + 1; omega, by show g.c < g.n + 1; omega, by show g.b < g.n + 1; omega, wf_push n h b d⟩
  · rw [if_neg c2]
    exact ⟨by show g.n + 1 = (g.cs ++ [_]).length + 2; rw [List.length_append]; show _ = g.cs.length + 1 + 2; omega, by show g.a < g.n + 1; omega, by show g.d < g.n + 1; omega, by show g.c < g.n + 1; omega, by show g.n < g.n + 1; omega, wf_push n h d b⟩
theorem wf_run : ∀ (l : List Nat) {g : Dg}, Wf g → Wf (l.foldl dg1 g)
  | [], _, w => w
  | c :: r, _, w => wf_run r (w.step c)
theorem wf_dg (l : List Nat) : Wf (dg l) := wf_run l Wf.zero
/-- the colours at the ends, against the number -/
def EndsAre (g : Dg) (v : Int × Int) (x y : Int) : Prop := ∃ e : Int, (e = 1 ∨ e = -1) ∧
  (col g.cs x y).getD g.b 0 - (col g.cs x y).getD g.a 0 = e * v.1 * (y - x) ∧ (col g.cs x y).getD g.b 0 - (col g.cs x y).getD g.d 0 = e * v.2 * (y - x) ∧
  (col g.cs x y).getD g.a 0 + (col g.cs x y).getD g.d 0 = (col g.cs x y).getD g.b 0 + (col g.cs x y).getD g.c 0
theorem ends_zero (x y : Int) : EndsAre dg0 (0, 1) x y := by
  refine ⟨-1, .inr rfl, ?_, ?_, ?_⟩
  · show x - x = -1 * 0 * (y - x)
    omega
  · show x - y = -1 * 1 * (y - x)
    omega
  · show x + y = x + y
    rfl
theorem ends_step {g : Dg} {v : Int × Int} {x y : Int} (w : Wf g) (gv : Good v) {c : Nat} (hc : c = 84 ∨ c = 85 ∨ c = 82) (h : EndsAre g v x y) : EndsAre (dg1 g c) (called v c) x y := by
  obtain ⟨e, he, h1, h2, h3⟩ := h
  have lA := col_len x y g.cs
  have wn := w.n
  have wa := w.a
  have wb := w.b
  have wc := w.c
  have wd := w.d
  rcases hc with rfl | rfl | rfl
  · have e1 : dg1 g 84 = ⟨g.n + 1, g.cs ++ [(g.b, g.d, g.n)], g.a, g.n, g.c, g.b⟩ := rfl
    have e2 : called v 84 = (v.1 + v.2, v.2) := rfl
    rw [e1, e2]
    refine ⟨e, he, ?_⟩
    show (col (g.cs ++ [(g.b, g.d, g.n)]) x y).getD g.n 0 - (col (g.cs ++ [(g.b, g.d, g.n)]) x y).getD g.a 0 = _ ∧ (col (g.cs ++ [(g.b, g.d, g.n)]) x y).getD g.n 0 - (col (g.cs ++ [(g.b, g.d, g.n)]) x y).getD g.b 0 = _ ∧ (col (g.cs ++ [(g.b, g.d, g.n)]) x y).getD g.a 0 + (col (g.cs ++ [(g.b, g.d, g.n)]) x y).getD g.b 0 = (col (g.cs ++ [(g.b, g.d, g.n)]) x y).getD g.n 0 + (col (g.cs ++ [(g.b, g.d, g.n)]) x y).getD g.c 0
    rw [col_snoc]
    generalize col g.cs x y = A at *
    unfold cstep
    have l1 := getD_last A (2 * A.getD g.b 0 - A.getD g.d 0)
    rw [show A.length = g.n by omega] at l1
    rw [l1, getD_left (show g.a < A.length by omega), getD_left (show g.b < A.length by omega), getD_left (show g.c < A.length by omega)]
    have s : e * (v.1 + v.2) * (y - x) = e * v.1 * (y - x) + e * v.2 * (y - x) := by rw [Int.mul_add, Int.add_mul]
    refine ⟨?_, ?_, ?_⟩
    · show _ = e * (v.1 + v.2) * (y - x)
      rw [s]
      omega
    · show _ = e * v.2 * (y - x)
      omega
    · omega
  · have e1 : dg1 g 85 = ⟨g.n + 1, g.cs ++ [(g.d, g.b, g.n)], g.a, g.d, g.c, g.n⟩ := rfl
    have e2 : called v 85 = (v.1 - v.2, v.2) := rfl
    rw [e1, e2]
    refine ⟨e, he, ?_⟩
    show (col (g.cs ++ [(g.d, g.b, g.n)]) x y).getD g.d 0 - (col (g.cs ++ [(g.d, g.b, g.n)]) x y).getD g.a 0 = _ ∧ (col (g.cs ++ [(g.d, g.b, g.n)]) x y).getD g.d 0 - (col (g.cs ++ [(g.d, g.b, g.n)]) x y).getD g.n 0 = _ ∧ (col (g.cs ++ [(g.d, g.b, g.n)]) x y).getD g.a 0 + (col (g.cs ++ [(g.d, g.b, g.n)]) x y).getD g.n 0 = (col (g.cs ++ [(g.d, g.b, g.n)]) x y).getD g.d 0 + (col (g.cs ++ [(g.d, g.b, g.n)]) x y).getD g.c 0
    rw [col_snoc]
    generalize col g.cs x y = A at *
    unfold cstep
    have l1 := getD_last A (2 * A.getD g.d 0 - A.getD g.b 0)
    rw [show A.length = g.n by omega] at l1
    rw [l1, getD_left (show g.a < A.length by omega), getD_left (show g.d < A.length by omega), getD_left (show g.c < A.length by omega)]
    have s : e * (v.1 - v.2) * (y - x) = e * v.1 * (y - x) - e * v.2 * (y - x) := by rw [Int.mul_sub e v.1 v.2, Int.sub_mul]
    refine ⟨?_, ?_, ?_⟩
    · show _ = e * (v.1 - v.2) * (y - x)
      rw [s]
      omega
    · show _ = e * v.2 * (y - x)
      omega
    · omega
  · have e1 : dg1 g 82 = ⟨g.n, g.cs, g.c, g.a, g.d, g.b⟩ := rfl
    rw [e1]
    unfold called
    rw [if_neg (by decide), if_neg (by decide)]
    by_cases c3 : 0 < v.1
    · rw [if_pos c3]
      refine ⟨-e, by omega, ?_⟩
      show (col g.cs x y).getD g.a 0 - (col g.cs x y).getD g.c 0 = -e * (0 - v.2) * (y - x) ∧ (col g.cs x y).getD g.a 0 - (col g.cs x y).getD g.b 0 = -e * v.1 * (y - x) ∧ (col g.cs x y).getD g.c 0 + (col g.cs x y).getD g.b 0 = (col g.cs x y).getD g.a 0 + (col g.cs x y).getD g.d 0
      have s1 : -e * (0 - v.2) * (y - x) = e * v.2 * (y - x) := by rw [Int.zero_sub, Int.neg_mul_neg]
      have s2 : -e * v.1 * (y - x) = -(e * v.1 * (y - x)) := by rw [Int.neg_mul, Int.neg_mul]
      rw [s1, s2]
      exact ⟨by omega, by omega, by omega⟩
    rw [if_neg c3]
    by_cases c4 : v.1 < 0
    · rw [if_pos c4]
      refine ⟨e, he, ?_⟩
      show (col g.cs x y).getD g.a 0 - (col g.cs x y).getD g.c 0 = e * v.2 * (y - x) ∧ (col g.cs x y).getD g.a 0 - (col g.cs x y).getD g.b 0 = e * (0 - v.1) * (y - x) ∧ (col g.cs x y).getD g.c 0 + (col g.cs x y).getD g.b 0 = (col g.cs x y).getD g.a 0 + (col g.cs x y).getD g.d 0
      have s2 : e * (0 - v.1) * (y - x) = -(e * v.1 * (y - x)) := by rw [Int.zero_sub, Int.mul_neg, Int.neg_mul]
      rw [s2]
      exact ⟨by omega, by omega, by omega⟩
    rw [if_neg c4]
    have z : v.1 = 0 := by omega
    have q1 : v.2 = 1 := by
      have g2 := gv.2
      rw [z, Int.gcd_zero_left] at g2
      rcases gv.1 with h | h
      · omega
      · rw [h] at z; cases z
    refine ⟨e, he, ?_⟩
    show (col g.cs x y).getD g.a 0 - (col g.cs x y).getD g.c 0 = e * 1 * (y - x) ∧ (col g.cs x y).getD g.a 0 - (col g.cs x y).getD g.b 0 = e * 0 * (y - x) ∧ (col g.cs x y).getD g.c 0 + (col g.cs x y).getD g.b 0 = (col g.cs x y).getD g.a 0 + (col g.cs x y).getD g.d 0
    rw [z] at h1
    rw [q1] at h2
    have s3 : e * 0 * (y - x) = 0 := by rw [Int.mul_zero, Int.zero_mul]
    rw [s3] at h1 ⊢
    exact ⟨by omega, by omega, by omega⟩
theorem ends_run : ∀ (l : List Nat) {g : Dg} {v : Int × Int} {x y : Int}, Lets l → Wf g → Good v → EndsAre g v x y → EndsAre (l.foldl dg1 g) (run v l) x y
  | [], _, _, _, _, _, _, _, h => h
  | c :: r, _, _, _, _, hl, w, gv, h => ends_run r (fun x hx => hl x (List.mem_cons_of_mem _ hx)) (w.step c) (gv.called c) (ends_step w gv (hl c List.mem_cons_self) h)
theorem ends_dg {l : List Nat} (hl : Lets l) (x y : Int) : EndsAre (dg l) (run (0, 1) l) x y := ends_run l hl Wf.zero Good.zero (ends_zero x y)
/-- the crossings are kept -/
def Keep (cs : List (Nat × Nat × Nat)) (A : List Int) : Prop := ∀ c ∈ cs, A.getD c.2.1 0 + A.getD c.2.2 0 = 2 * A.getD c.1 0
theorem keep_col {g : Dg} (w : Wf g) (x y : Int) : Keep g.cs (col g.cs x y) := by
  suffices h : ∀ (cs : List (Nat × Nat × Nat)), (∀ (i : Nat) (c : Nat × Nat × Nat), cs[i]? = some c → c.2.2 = i + 2 ∧ c.1 < i + 2 ∧ c.2.1 < i + 2) → Keep cs (col cs x y) from h g.cs w.at_
  intro cs
  suffices h : ∀ (k : Nat) (cs : List (Nat × Nat × Nat)), cs.length = k → (∀ (i : Nat) (c : Nat × Nat × Nat), cs[i]? = some c → c.2.2 = i + 2 ∧ c.1 < i + 2 ∧ c.2.1 < i + 2) → Keep cs (col cs x y) from h _ cs rfl
  intro k
  induction k with
  | zero =>
    intro cs hk _ c hc
    rw [List.eq_nil_of_length_eq_zero hk] at hc
    cases hc
  | succ k ih =>
    intro cs hk hat
    have hne : cs ≠ [] := fun z => by rw [z] at hk; cases hk
    obtain ⟨r, c, rfl⟩ : ∃ r c, cs = r ++ [c] := ⟨cs.dropLast, cs.getLast hne, (List.dropLast_concat_getLast hne).symm⟩
    have hr : r.length = k := by
      rw [List.length_append] at hk
      have : ([c] : List (Nat × Nat × Nat)).length = 1 := rfl
      omega
    have ihr := ih r hr fun i d hd => hat i d (by rw [List.getElem?_append_left (List.getElem?_eq_some_iff.mp hd).1]; exact hd)
    have lr := col_len x y r
    rw [col_snoc]
    intro d hd
    rcases List.mem_append.mp hd with hd | hd
    · obtain ⟨i, hi, e⟩ := List.getElem_of_mem hd
      have := hat i d (by rw [List.getElem?_append_left hi, List.getElem?_eq_getElem hi, e])
      unfold cstep
      rw [getD_left (by omega), getD_left (by omega), getD_left (by omega)]
      exact ihr d hd
    · rw [List.mem_singleton.mp hd]
      have := hat r.length c (by rw [List.getElem?_append_right (Nat.le_refl _), Nat.sub_self]; rfl)
      unfold cstep
      have l1 := getD_last (col r x y) (2 * (col r x y).getD c.1 0 - (col r x y).getD c.2.1 0)
      rw [show (col r x y).length = c.2.2 by omega] at l1
      rw [l1, getD_left (by omega), getD_left (by omega)]
      omega
theorem at_getD {A : List Int} {i : Nat} (h : i < A.length) : atI (A.map V.int) (i : Int) = some (.int (A.getD i 0)) := by
  refine atI_nat (j := i) ?_
  rw [List.getElem?_map, List.getD_eq_getElem?_getD, List.getElem?_eq_getElem h]
  rfl
def spCol : Sp := fun vs H Q _ => ∃ (l : List Nat) (x y : Int), vs = [.str (S l), .int x, .int y] ∧ l.length ≤ 1000000 ∧ ∀ (p : Addr) H', Same H H' → H p = none → H' p = some (.lst ((col (dg l).cs x y).map V.int)) → Q (.ref p) H'
end
section
def due (p q : Int) : Int × Int := if q = 0 then (1, 0) else
  if q < 0 then (p.fdiv (0 - (Int.gcd p q : Int)), q.fdiv (0 - (Int.gcd p q : Int))) else (p.fdiv (Int.gcd p q : Int), q.fdiv (Int.gcd p q : Int))
theorem gcd_size {p q : Int} (h : p ≠ 0 ∨ q ≠ 0) (hp : p.natAbs < 2 ^ 201) (hq : q.natAbs < 2 ^ 201) : 0 < Int.gcd p q ∧ Int.gcd p q < 2 ^ 201 := by
  rcases h with h | h
  · have h1 : 0 < Int.gcd p q := Int.gcd_pos_of_ne_zero_left q h
    have h2 : Int.gcd p q ∣ p.natAbs := Nat.gcd_dvd_left _ _
    have h3 := Nat.le_of_dvd (by omega) h2
    exact ⟨h1, by omega⟩
  · have h1 : 0 < Int.gcd p q := Int.gcd_pos_of_ne_zero_right p h
    have h2 : Int.gcd p q ∣ q.natAbs := Nat.gcd_dvd_right _ _
    have h3 := Nat.le_of_dvd (by omega) h2
    exact ⟨h1, by omega⟩
theorem log_ok {j : Int} (h : j.natAbs < 2 ^ 201) : j.natAbs.log2 < 9000 := Nat.lt_of_lt_of_le (PySem.Flt.log2_lt_of (by decide) h) (by decide)
theorem fdiv_neg_exact {p g : Int} (g0 : g ≠ 0) (h : g ∣ p) : p.fdiv (0 - g) = -(p / g) := by
  obtain ⟨k, rfl⟩ := h
  rw [Int.mul_ediv_cancel_left k g0, Int.zero_sub]
  have e : g * k = (-g) * (-k) := by rw [Int.neg_mul_neg]
  rw [e, Int.mul_fdiv_cancel_left _ (by omega)]
theorem due_good {p q : Int} (h : p ≠ 0 ∨ q ≠ 0) : Good (due p q) := by
  unfold due
  by_cases h0 : q = 0
  · rw [if_pos h0]
    exact ⟨.inr rfl, by decide⟩
  rw [if_neg h0]
  have g0 : 0 < Int.gcd p q := Int.gcd_pos_of_ne_zero_right p h0
  have dp : ((Int.gcd p q : Nat) : Int) ∣ p := Int.gcd_dvd_left p q
  have dq : ((Int.gcd p q : Nat) : Int) ∣ q := Int.gcd_dvd_right p q
  by_cases h1 : q < 0
  · rw [if_pos h1, fdiv_neg_exact (by omega) dp, fdiv_neg_exact (by omega) dq]
    refine ⟨.inl ?_, ?_⟩
    · show 0 < -(q / ((Int.gcd p q : Nat) : Int))
      have : 0 < (-q) / ((Int.gcd p q : Nat) : Int) := Int.ediv_pos_of_pos_of_dvd (by omega) (by omega) (Int.dvd_neg.mpr dq)
      rw [Int.neg_ediv_of_dvd dq] at this
      exact this
    · show Int.gcd (-(p / _)) (-(q / _)) = 1
      rw [Int.neg_gcd, Int.gcd_neg]
      exact Int.gcd_ediv_gcd_ediv_gcd g0
  · rw [if_neg h1, Int.fdiv_eq_ediv_of_nonneg p (by omega), Int.fdiv_eq_ediv_of_nonneg q (by omega)]
    refine ⟨.inl ?_, ?_⟩
    · exact Int.ediv_pos_of_pos_of_dvd (by omega) (by omega) dq
    · exact Int.gcd_ediv_gcd_ediv_gcd g0
theorem due_size {p q : Int} (hp : p.natAbs < 2 ^ 201) (hq : q.natAbs < 2 ^ 201) : (due p q).1.natAbs < 2 ^ 201 ∧ (due p q).2.natAbs < 2 ^ 201 := by
  unfold due
  by_cases h0 : q = 0
  · rw [if_pos h0]
    exact ⟨by decide, by decide⟩
  rw [if_neg h0]
  have g0 : 0 < Int.gcd p q := Int.gcd_pos_of_ne_zero_right p h0
  have dp : ((Int.gcd p q : Nat) : Int) ∣ p := Int.gcd_dvd_left p q
  have dq : ((Int.gcd p q : Nat) : Int) ∣ q := Int.gcd_dvd_right p q
  have a := Int.natAbs_ediv_le_natAbs p (Int.gcd p q)
  have b := Int.natAbs_ediv_le_natAbs q (Int.gcd p q)
  by_cases h1 : q < 0
  · rw [if_pos h1, fdiv_neg_exact (by omega) dp, fdiv_neg_exact (by omega) dq]
    simp only [Int.natAbs_neg]
    exact ⟨by omega, by omega⟩
  · rw [if_neg h1, Int.fdiv_eq_ediv_of_nonneg p (by omega), Int.fdiv_eq_ediv_of_nonneg q (by omega)]
    exact ⟨by omega, by omega⟩
end
section
variable {P : Program} {w : World} {K : PySem.W.Frag} {mg : Str → Option Value} {base : Heap} {f : Addr} {fd : FuncData}
def spFrac : Sp := fun vs H Q _ => ∃ p q' : Int, vs = [.int p, .int q'] ∧ (p ≠ 0 ∨ q' ≠ 0) ∧ p.natAbs < 2 ^ 201 ∧ q'.natAbs < 2 ^ 201 ∧ ∀ t H', Same H H' → Tup2 H' t (due p q') → Q (.ref t) H'
theorem ok_frac (F : Fun K "fraction" "fraction" s_fraction f fd) (mgcd : mg "gcd" = some (.builtin "math.gcd")) : FnOk P w K mg base CX0 1 f fd ["p", "q"] spFrac := by
  refine F.ok sc_fraction (fun vs H Q E h => ?_) (fun cdv A outer s H vs Q E hr h => ?_)
  · obtain ⟨p, q', rfl, _⟩ := h
    rfl
  obtain ⟨p, q', rfl, hn, hp, hq, q⟩ := h
  refine ⟨_, pss_cons (ps_if (PW.pt (pw_and (pt_cmpR op_eq (pv 0) pe_int (nomark _)) (pw_and1 (pt_cmpR op_eq (pv 1) pe_int (nomark _))))) pss_never pss_nil)
    (pss_cons (ps_set (i := 2) sc_fraction.nd rfl (.inl rfl) (pe_callBfun cr_gcd rfl mgcd (pa_cons (pv 0) (pa_cons (pv 1) pa_nil))))
    (pss_cons (ps_if (PW.pt (pw_or (pt_cmpR op_lt (pv 1) pe_int (nomark _)) (pw_or1 (PW.pt (pw_and (pt_cmpR op_eq (pv 1) pe_int (nomark _)) (pw_and1 (pt_cmpR op_lt (pv 0) pe_int (nomark _))))))))
      (pss_one (ps_set (i := 2) sc_fraction.nd rfl (.inl rfl) (pe_un un_neg (pv 2)))) pss_nil)
    (pss_one (ps_ret (pe_tup (pa_cons (pe_op op_fdivWN (pv 0) (pv 2)) (pa_cons (pe_op op_fdivWN (pv 1) (pv 2)) pa_nil))))))), ?_⟩
  have gs := gcd_size hn hp hq
  have two : 2 ≤ sizeLine := fits (by decide)
  have rest : ∀ d : Int, d ≠ 0 → d.natAbs < 2 ^ 201 → (p.fdiv d, q'.fdiv d) = due p q' →
      tRet (tTup (tCons (tOp (rI (fun _ j => j ≠ 0 ∧ j.natAbs.log2 < 9000) fun i j => .int (i.fdiv j)) (tVar 0) (tVar 2)) (tCons (tOp (rI (fun _ j => j ≠ 0 ∧ j.natAbs.log2 < 9000) fun i j => .int (i.fdiv j)) (tVar 1) (tVar 2)) tNil)))
        { nx := fun _ H' => Q .non H', rt := Q } [some (.int p), some (.int q'), some (.int d)] H := fun d d0 ds e => by
    refine ⟨_, rfl, _, rfl, _, _, rfl, rfl, ⟨d0, log_ok ds⟩, _, rfl, _, rfl, _, _, rfl, rfl, ⟨d0, log_ok ds⟩, two, fun n hn => q n _ (same_new hn _) ?_⟩
    rw [← e]
    exact upd_same
  have tail : ∀ (σ : L2.St), σ = [some (V.int p), some (.int q'), none] → tSeq (tAsg (tCB rGcd (tCons (tVar 0) (tCons (tVar 1) tNil))) (gName 2)) (tSeq (tIfS (tOr (tTest (tOp (rI0 fun i j => .bl (decide (i < j))) (tVar 1) (tC (.int 0)))) (tAnd (tTest (tOp rEq (tVar 1) (tC (.int 0)))) (tTest (tOp (rI0 fun i j => .bl (decide (i < j))) (tVar 0) (tC (.int 0))))))
      (tAsg (tUn (rU fun i => .int (-i)) (tVar 2)) (gName 2)) tNext) (tRet (tTup (tCons (tOp (rI (fun _ j => j ≠ 0 ∧ j.natAbs.log2 < 9000) fun i j => .int (i.fdiv j)) (tVar 0) (tVar 2)) (tCons (tOp (rI (fun _ j => j ≠ 0 ∧ j.natAbs.log2 < 9000) fun i j => .int (i.fdiv j)) (tVar 1) (tVar 2)) tNil)))))
        { nx := fun _ H' => Q .non H', rt := Q } σ H := by
    rintro _ rfl
    refine ⟨_, rfl, _, rfl, p, q', rfl, ?_⟩
    have neg : ∀ _ : q' < 0 ∨ (q' = 0 ∧ p < 0), ((p.fdiv (-((Int.gcd p q' : Nat) : Int)), q'.fdiv (-((Int.gcd p q' : Nat) : Int))) : Int × Int) = due p q' := fun hc => by
      unfold due
      rcases hc with hc | ⟨hc, hc2⟩
      · rw [if_neg (by omega), if_pos hc, Int.zero_sub]
      · subst hc
        rw [if_pos rfl]
        have e : -((Int.gcd p 0 : Nat) : Int) = p := by rw [Int.gcd_zero_right]; omega
        rw [e, Int.fdiv_self (by omega), Int.zero_fdiv]
    have pos : ∀ _ : ¬ (q' < 0 ∨ (q' = 0 ∧ p < 0)), ((p.fdiv ((Int.gcd p q' : Nat) : Int), q'.fdiv ((Int.gcd p q' : Nat) : Int)) : Int × Int) = due p q' := fun hc => by
      unfold due
      by_cases h0 : q' = 0
      · subst h0
        rw [if_pos rfl]
        have e : ((Int.gcd p 0 : Nat) : Int) = p := by rw [Int.gcd_zero_right]; omega
        rw [e, Int.fdiv_self (by omega), Int.zero_fdiv]
      · rw [if_neg h0, if_neg (by omega)]
    refine ⟨_, rfl, _, _, rfl, rfl, _, rfl, ite2 (fun c1 => iteT ?_) (fun c1 => ?_)⟩
    · have c1' : q' < 0 := of_decide_eq_true c1
      exact ⟨_, rfl, _, rfl, rest _ (by have := gs.1; show -((Int.gcd p q' : Nat) : Int) ≠ 0; omega) (by have := gs.2; show (-((Int.gcd p q' : Nat) : Int)).natAbs < _; omega) (neg (.inl c1'))⟩
    have c1' : ¬ q' < 0 := fun z => c1 (decide_eq_true z)
    refine ⟨_, rfl, rfl, _, rfl, ite2 (fun c2 => ?_) (fun c2 => iteF ?_)⟩
    · have c2' : q' = 0 := V.int.inj (of_decide_eq_true c2)
      refine ⟨_, rfl, _, _, rfl, rfl, _, rfl, ite2 (fun c3 => ?_) (fun c3 => ?_)⟩
      · have c3' : p < 0 := of_decide_eq_true c3
        exact ⟨_, rfl, _, rfl, rest _ (by have := gs.1; show -((Int.gcd p q' : Nat) : Int) ≠ 0; omega) (by have := gs.2; show (-((Int.gcd p q' : Nat) : Int)).natAbs < _; omega) (neg (.inr ⟨c2', c3'⟩))⟩
      · have c3' : ¬ p < 0 := fun z => c3 (decide_eq_true z)
        exact rest _ (by have := gs.1; show ((Int.gcd p q' : Nat) : Int) ≠ 0; omega) (by have := gs.2; show (((Int.gcd p q' : Nat) : Int)).natAbs < _; omega) (pos (by omega))
    · have c2' : ¬ q' = 0 := fun z => c2 (decide_eq_true (by rw [z]))
      exact rest _ (by have := gs.1; show ((Int.gcd p q' : Nat) : Int) ≠ 0; omega) (by have := gs.2; show (((Int.gcd p q' : Nat) : Int)).natAbs < _; omega) (pos (by omega))
  refine ⟨_, rfl, rfl, _, rfl, ite2 (fun c1 => ?_) (fun c1 => iteF (tail _ rfl))⟩
  have c1' : p = 0 := V.int.inj (of_decide_eq_true c1)
  refine ⟨_, rfl, rfl, _, rfl, ite2 (fun c2 => ?_) (fun c2 => tail _ rfl)⟩
  have c2' : q' = 0 := V.int.inj (of_decide_eq_true c2)
  omega
end
section
/-! ### all is kept but a table of code objects -/
def Bt (P : Addr) (H H' : Hp) : Prop := But P H H' ∧ GxR.TabG H' P
theorem TabG.same {P : Addr} {H H' : Hp} (t : GxR.TabG H P) (s : Same H H') : GxR.TabG H' P := by
  obtain ⟨ps, e, ok⟩ := t
  exact ⟨ps, s _ _ e, ok⟩
theorem Bt.refl {P : Addr} {H : Hp} (t : GxR.TabG H P) : Bt P H H := ⟨But.refl _ _, t⟩
theorem Bt.trans {P : Addr} {H H1 H2 : Hp} (x : Bt P H H1) (y : Bt P H1 H2) : Bt P H H2 := ⟨x.1.trans y.1, y.2⟩
theorem Bt.of {P : Addr} {H H' : Hp} (s : Same H H') (t : GxR.TabG H P) : Bt P H H' := ⟨But.of s, TabG.same t s⟩
theorem Bt.same {P : Addr} {H H1 H2 : Hp} (x : Bt P H H1) (s : Same H1 H2) : Bt P H H2 := x.trans (Bt.of s x.2)
theorem Bt.tabbed {P : Addr} {H H' : Hp} (x : GxR.Tabbed P H H') : Bt P H H' := ⟨fun b o n e => by rw [x.2 b n]; exact e, x.1⟩
theorem Bt.keep {P a : Addr} {H H' : Hp} {o : HO} (x : Bt P H H') (t : GxR.TabG H P) (h : H a = some o) (n : ∀ q, o ≠ .tbl q) : H' a = some o := by
  obtain ⟨ps, e, _⟩ := t
  exact x.1 _ _ (ne_of h e (n ps)) h
theorem Bt.lst {P a : Addr} {H H' : Hp} {xs : List V} (x : Bt P H H') (t : GxR.TabG H P) (h : H a = some (.lst xs)) : H' a = some (.lst xs) := x.keep t h fun q z => by cases z
theorem Bt.tup {P a : Addr} {H H' : Hp} {xs : List V} (x : Bt P H H') (t : GxR.TabG H P) (h : H a = some (.tup xs)) : H' a = some (.tup xs) := x.keep t h fun q z => by cases z
theorem Bt.tape {P a : Addr} {H H' : Hp} (x : Bt P H H') (t : GxR.TabG H P) (h : Tape H a) : Tape H' a := by
  obtain ⟨y, c, z, b, e⟩ := h
  exact ⟨y, c, z, b, x.lst t e⟩
theorem Bt.seq {K : PySem.W.Frag} {P a : Addr} {H H' : Hp} {xs : List V} (x : Bt P H H') (t : GxR.TabG H P) (h : SqL K H a xs) : SqL K H' a xs := by
  rcases h with (h | ⟨o, h⟩) | h
  · exact .inl (.inl (x.lst t h))
  · exact .inl (.inr ⟨o, x.keep t h fun q z => by cases z⟩)
  · exact .inr h
theorem tape_tab {P a : Addr} {H H' : Hp} (tp : Tape H a) (b : But a H H') (t : GxR.TabG H P) : GxR.TabG H' P := by
  obtain ⟨ps, e, ok⟩ := t
  obtain ⟨y, c, z, w, e2⟩ := tp
  exact ⟨ps, b _ _ (ne_of e e2 (by intro q; cases q)) e, ok⟩
/-- the tape is new: what stood before is kept -/
theorem Bt.but {P a : Addr} {H0 H H' : Hp} (x : Bt P H0 H) (b : But a H H') (tp : Tape H a) (n : H0 a = none) : Bt P H0 H' :=
  ⟨fun c o nc e => b _ _ (ne_of_none e n) (x.1 _ _ nc e), tape_tab tp b x.2⟩
theorem Bt.put {P a : Addr} {H0 H : Hp} (x : Bt P H0 H) (n : H0 a = none) (na : a ≠ P) (o : HO) : Bt P H0 (upd H a o) := by
  refine ⟨fun c u nc e => ?_, ?_⟩
  · rw [upd_ne (ne_of_none e n)]
    exact x.1 _ _ nc e
  · obtain ⟨ps, e, ok⟩ := x.2
    exact ⟨ps, by rw [upd_ne na.symm]; exact e, ok⟩
end
section
/-! ### colourings, and what is read from them -/
def isColB (l : List Nat) (A : List Int) : Bool := decide (A.length = (dg l).n) && (dg l).cs.all (keepB A)
def plainB (A : List Int) : Bool := A.all fun x => x == A.getD 0 0
def Bd (A : List Int) (B : Nat) : Prop := ∀ x ∈ A, x.natAbs ≤ B
theorem Bd.at {A : List Int} {B : Nat} (h : Bd A B) (i : Nat) : (A.getD i 0).natAbs ≤ B := by
  rw [List.getD_eq_getElem?_getD]
  cases e : A[i]? with
  | none => exact Nat.zero_le _
  | some x => exact h x (List.mem_of_getElem? e)
theorem Bd.mono {A : List Int} {B C : Nat} (h : Bd A B) (l : B ≤ C) : Bd A C := fun x hx => Nat.le_trans (h x hx) l
theorem keepB_iff {A : List Int} {c : Nat × Nat × Nat} : keepB A c = true ↔ A.getD c.2.1 0 + A.getD c.2.2 0 = 2 * A.getD c.1 0 := by
  unfold keepB
  exact beq_iff_eq
theorem col_unique : ∀ (k : Nat) (cs : List (Nat × Nat × Nat)) (A : List Int), cs.length = k → (∀ (i : Nat) (c : Nat × Nat × Nat), cs[i]? = some c → c.2.2 = i + 2 ∧ c.1 < i + 2 ∧ c.2.1 < i + 2) → A.length = k + 2 → Keep cs A → A = col cs (A.getD 0 0) (A.getD 1 0)
  | 0, cs, A, hk, _, hA, _ => by
    rw [List.eq_nil_of_length_eq_zero hk]
    match A, hA with
    | [x, y], _ => rfl
  | k + 1, cs, A, hk, hat, hA, hkeep => by
    have hne : cs ≠ [] := fun z => by rw [z] at hk; cases hk
    obtain ⟨r, c, rfl⟩ : ∃ r c, cs = r ++ [c] := ⟨cs.dropLast, cs.getLast hne, (List.dropLast_concat_getLast hne).symm⟩
    have hr : r.length = k := by
      rw [List.length_append] at hk
      have : ([c] : List (Nat × Nat × Nat)).length = 1 := rfl
      omega
    have hAne : A ≠ [] := fun z => by rw [z] at hA; cases hA
    obtain ⟨B, z, rfl⟩ : ∃ B z, A = B ++ [z] := ⟨A.dropLast, A.getLast hAne, (List.dropLast_concat_getLast hAne).symm⟩
    have hB : B.length = k + 2 := by
      rw [List.length_append] at hA
      have : ([z] : List Int).length = 1 := rfl
      omega
    have hatr : ∀ (i : Nat) (c : Nat × Nat × Nat), r[i]? = some c → c.2.2 = i + 2 ∧ c.1 < i + 2 ∧ c.2.1 < i + 2 := fun i d hd => hat i d (by rw [List.getElem?_append_left (List.getElem?_eq_some_iff.mp hd).1]; exact hd)
    have hc := hat r.length c (by rw [List.getElem?_append_right (Nat.le_refl _), Nat.sub_self]; rfl)
    have ih := col_unique k r B hr hatr hB fun d hd => by
      obtain ⟨i, hi, e⟩ := List.getElem_of_mem hd
      have hb := hatr i d (by rw [List.getElem?_eq_getElem hi, e])
      have := hkeep d (List.mem_append_left _ hd)
      rw [getD_left (by omega), getD_left (by omega), getD_left (by omega)] at this
      exact this
    have hlast := hkeep c (List.mem_append_right _ List.mem_cons_self)
    have l1 := getD_last B z
    rw [show B.length = c.2.2 by omega] at l1
    rw [l1, getD_left (by omega), getD_left (by omega)] at hlast
    rw [getD_left (by omega), getD_left (by omega), col_snoc, ← ih]
    unfold cstep
    rw [show z = 2 * B.getD c.1 0 - B.getD c.2.1 0 by omega]
theorem col_same (x : Int) : ∀ (cs : List (Nat × Nat × Nat)), (∀ (i : Nat) (c : Nat × Nat × Nat), cs[i]? = some c → c.2.2 = i + 2 ∧ c.1 < i + 2 ∧ c.2.1 < i + 2) → ∀ i, i < cs.length + 2 → (col cs x x).getD i 0 = x := by
  intro cs
  suffices h : ∀ (k : Nat) (cs : List (Nat × Nat × Nat)), cs.length = k → (∀ (i : Nat) (c : Nat × Nat × Nat), cs[i]? = some c → c.2.2 = i + 2 ∧ c.1 < i + 2 ∧ c.2.1 < i + 2) → ∀ i, i < cs.length + 2 → (col cs x x).getD i 0 = x from h _ cs rfl
  intro k
  induction k with
  | zero =>
    intro cs hk _ i hi
    rw [List.eq_nil_of_length_eq_zero hk] at hi ⊢
    match i with
    | 0 => rfl
    | 1 => rfl
    | i + 2 => exact absurd hi (by show ¬ i + 2 < 0 + 2; omega)
  | succ k ih =>
    intro cs hk hat i hi
    have hne : cs ≠ [] := fun z => by rw [z] at hk; cases hk
    obtain ⟨r, c, rfl⟩ : ∃ r c, cs = r ++ [c] := ⟨cs.dropLast, cs.getLast hne, (List.dropLast_concat_getLast hne).symm⟩
    have hr : r.length = k := by
      rw [List.length_append] at hk
      have : ([c] : List (Nat × Nat × Nat)).length = 1 := rfl
      omega
    have hatr : ∀ (i : Nat) (c : Nat × Nat × Nat), r[i]? = some c → c.2.2 = i + 2 ∧ c.1 < i + 2 ∧ c.2.1 < i + 2 := fun i d hd => hat i d (by rw [List.getElem?_append_left (List.getElem?_eq_some_iff.mp hd).1]; exact hd)
    have hc := hat r.length c (by rw [List.getElem?_append_right (Nat.le_refl _), Nat.sub_self]; rfl)
    have ih' := ih r hr hatr
    have lr := col_len x x r
    rw [col_snoc]
    unfold cstep
    by_cases h : i < r.length + 2
    · rw [getD_left (by omega)]
      exact ih' i h
    · rw [List.length_append] at hi
      have : ([c] : List (Nat × Nat × Nat)).length = 1 := rfl
      have e : i = (col r x x).length := by omega
      rw [e, getD_last, ih' _ (by omega), ih' _ (by omega)]
      omega
theorem col_zero (cs : List (Nat × Nat × Nat)) (x y : Int) : (col cs x y).getD 0 0 = x ∧ (col cs x y).getD 1 0 = y := by
  suffices h : ∀ (cs : List (Nat × Nat × Nat)) (A : List Int), 2 ≤ A.length → (cs.foldl cstep A).getD 0 0 = A.getD 0 0 ∧ (cs.foldl cstep A).getD 1 0 = A.getD 1 0 from h cs [x, y] (by show 2 ≤ 2; omega)
  intro cs
  induction cs with
  | nil => intro A _; exact ⟨rfl, rfl⟩
  | cons c r ih =>
    intro A hA
    have := ih (cstep A c) (by unfold cstep; rw [List.length_append]; omega)
    rw [List.foldl_cons, this.1, this.2]
    unfold cstep
    rw [getD_left (by omega), getD_left (by omega)]
    exact ⟨rfl, rfl⟩
/-- a colouring is what its first two colours give -/
theorem isCol_col {l : List Nat} {A : List Int} (h : isColB l A = true) : A = col (dg l).cs (A.getD 0 0) (A.getD 1 0) ∧ A.length = (dg l).n := by
  unfold isColB at h
  rw [Bool.and_eq_true, decide_eq_true_eq, List.all_eq_true] at h
  have w := wf_dg l
  exact ⟨col_unique _ _ A rfl w.at_ (by rw [h.1, w.n]) fun c hc => keepB_iff.mp (h.2 c hc), h.1⟩
theorem plain_iff {l : List Nat} {A : List Int} (h : isColB l A = true) : plainB A = true ↔ A.getD 1 0 = A.getD 0 0 := by
  obtain ⟨e, hl⟩ := isCol_col h
  have w := wf_dg l
  have wn := w.n
  unfold plainB
  rw [List.all_eq_true]
  constructor
  · intro hp
    have h1 : 1 < A.length := by omega
    have : A.getD 1 0 ∈ A := by
      rw [List.getD_eq_getElem?_getD, List.getElem?_eq_getElem h1]
      exact List.getElem_mem h1
    exact beq_iff_eq.mp (hp _ this)
  · intro h10 x hx
    obtain ⟨i, hi, rfl⟩ := List.getElem_of_mem hx
    rw [beq_iff_eq]
    have e2 : A.getD i 0 = A[i] := by
      rw [List.getD_eq_getElem?_getD, List.getElem?_eq_getElem hi]
      rfl
    rw [← e2]
    rw [h10] at e
    have := col_same (A.getD 0 0) (dg l).cs w.at_ i (by omega)
    rw [← e] at this
    exact this
theorem due_ends {v : Int × Int} {e d : Int} (g : Good v) (he : e = 1 ∨ e = -1) (hd : d ≠ 0) : due (e * v.1 * d) (e * v.2 * d) = v := by
  obtain ⟨p, q⟩ := v
  obtain ⟨g1, g2⟩ := g
  have key : ∀ c : Int, c ≠ 0 → due (p * c) (q * c) = (p, q) := fun c hc => by
    unfold due
    by_cases h0 : q = 0
    · rw [if_pos (by rw [h0, Int.zero_mul])]
      rcases g1 with h | h
      · have : (0 : Int) < q := h
        omega
      · exact h.symm
    · have hq : 0 < q := by
        rcases g1 with h | h
        · exact h
        · cases h; exact absurd rfl h0
      have qc : q * c ≠ 0 := Int.mul_ne_zero h0 hc
      rw [if_neg qc]
      have gg : Int.gcd (p * c) (q * c) = c.natAbs := by
        rw [Int.gcd_mul_right, show Int.gcd p q = 1 from g2, Nat.one_mul]
      rw [gg]
      by_cases hneg : q * c < 0
      · rw [if_pos hneg]
        have cn : c < 0 := by
          rcases Int.lt_trichotomy c 0 with h | h | h
          · exact h
          · exact absurd h hc
          · have := Int.mul_pos hq h
            omega
        rw [show (0 : Int) - (c.natAbs : Int) = c by omega, Int.mul_fdiv_cancel _ hc, Int.mul_fdiv_cancel _ hc]
      · rw [if_neg hneg]
        have cp : 0 < c := by
          rcases Int.lt_trichotomy c 0 with h | h | h
          · have := Int.mul_neg_of_pos_of_neg hq h
            omega
          · exact absurd h hc
          · exact h
        rw [show (c.natAbs : Int) = c by omega, Int.mul_fdiv_cancel _ hc, Int.mul_fdiv_cancel _ hc]
  have e1 : e * p * d = p * (e * d) := by rw [Int.mul_comm e p, Int.mul_assoc]
  have e2 : e * q * d = q * (e * d) := by rw [Int.mul_comm e q, Int.mul_assoc]
  show due (e * p * d) (e * q * d) = (p, q)
  rw [e1, e2]
  exact key _ (Int.mul_ne_zero (by omega) hd)
/-- what is read -/
theorem reads {l : List Nat} {A : List Int} (hl : Lets l) (h : isColB l A = true) (hp : plainB A = false) :
    due (A.getD (dg l).b 0 - A.getD (dg l).a 0) (A.getD (dg l).b 0 - A.getD (dg l).d 0) = run (0, 1) l ∧ (A.getD (dg l).b 0 - A.getD (dg l).a 0 ≠ 0 ∨ A.getD (dg l).b 0 - A.getD (dg l).d 0 ≠ 0) := by
  obtain ⟨eA, hlen⟩ := isCol_col h
  have hne : A.getD 1 0 - A.getD 0 0 ≠ 0 := fun z => by
    rw [(plain_iff h).mpr (by omega)] at hp
    cases hp
  obtain ⟨e, he, h1, h2, _⟩ := ends_dg hl (A.getD 0 0) (A.getD 1 0)
  rw [← eA] at h1 h2
  rw [h1, h2]
  have g := good_run l Good.zero
  refine ⟨due_ends g he hne, ?_⟩
  have e0 : e ≠ 0 := by omega
  by_cases q0 : (run (0, 1) l).2 = 0
  · left
    have p1 : (run (0, 1) l).1 = 1 := by
      rcases g.1 with h | h
      · omega
      · rw [h]
    rw [p1, Int.mul_one]
    exact Int.mul_ne_zero e0 hne
  · right
    exact Int.mul_ne_zero (Int.mul_ne_zero e0 q0) hne
def dtR (l : List Nat) (A : List Int) : Dt := if isColB l A = true ∧ plainB A = false then .tup [.int (run (0, 1) l).1, .int (run (0, 1) l).2] else .non
theorem dtR_none {l : List Nat} {A : List Int} (h : isColB l A = false ∨ plainB A = true) : dtR l A = .non := if_neg fun z => by
  rcases h with h | h
  · rw [h] at z; cases z.1
  · rw [h] at z; cases z.2
theorem dtR_some {l : List Nat} {A : List Int} (h : isColB l A = true) (h2 : plainB A = false) : dtR l A = .tup [.int (run (0, 1) l).1, .int (run (0, 1) l).2] := if_pos ⟨h, h2⟩
theorem non_is {H : Hp} {n : Nat} : Is H n .non .non := by cases n <;> rfl
theorem tup2_is {H : Hp} {n : Nat} {t : Addr} {v : Int × Int} (h : Tup2 H t v) : Is H (n + 1) (.ref t) (.tup [.int v.1, .int v.2]) :=
  is_tup h rfl (by show 2 ≤ 1000000; decide) fun i x d hx hd => by
    match i with
    | 0 => cases hx; cases hd; exact int_is
    | 1 => cases hx; cases hd; exact int_is
    | i + 2 => cases hx
theorem dtR_keep {H H' : Hp} {l : List Nat} {A : List Int} {v : V} (h : Is H 1 v (dtR l A)) (s : Same H H') : Is H' 1 v (dtR l A) := by
  by_cases c : isColB l A = true ∧ plainB A = false
  · unfold dtR at h ⊢
    rw [if_pos c] at h ⊢
    obtain ⟨a, xs, e1, e2, e3, e4, e5⟩ := h
    refine ⟨a, xs, e1, s _ _ e2, e3, e4, fun i x d hx hd => ?_⟩
    have := e5 i x d hx hd
    match i with
    | 0 => cases hd; exact this
    | 1 => cases hd; exact this
    | i + 2 => cases hd
  · unfold dtR at h ⊢
    rw [if_neg c] at h ⊢
    exact h
theorem col_bound {B : Nat} {x y : Int} (hx : x.natAbs ≤ B) (hy : y.natAbs ≤ B) : ∀ (cs : List (Nat × Nat × Nat)), Bd (col cs x y) (B * 3 ^ cs.length) := by
  intro cs
  suffices h : ∀ (cs : List (Nat × Nat × Nat)) (A : List Int) (C : Nat), Bd A C → Bd (cs.foldl cstep A) (C * 3 ^ cs.length) from h cs [x, y] B fun z hz => by
    simp only [List.mem_cons, List.not_mem_nil, or_false] at hz
    rcases hz with rfl | rfl
    · exact hx
    · exact hy
  intro cs
  induction cs with
  | nil =>
    intro A C h
    show Bd A (C * 3 ^ 0)
    rw [Nat.pow_zero, Nat.mul_one]
    exact h
  | cons c r ih =>
    intro A C h
    have := ih (cstep A c) (C * 3) fun z hz => by
      unfold cstep at hz
      rcases List.mem_append.mp hz with hz | hz
      · have := h z hz
        omega
      · rw [List.mem_singleton.mp hz]
        have h1 := h.at c.1
        have h2 := h.at c.2.1
        omega
    rw [List.length_cons, Nat.pow_succ, Nat.mul_comm (3 ^ r.length) 3, ← Nat.mul_assoc]
    exact this
/-! ### what the defs promise -/
def spIsCol (Pt : Addr) : Sp := fun vs H Q _ => ∃ (l : List Nat) (cp : Addr) (A : List Int), vs = [.str (S l), .ref cp] ∧ H cp = some (.lst (A.map V.int)) ∧ A.length ≤ 1000 ∧ l.length ≤ 1000 ∧ GxR.TabG H Pt ∧ ∀ H', Bt Pt H H' → Q (.bl (isColB l A)) H'
def spPlain : Sp := fun vs H Q _ => ∃ (cp : Addr) (A : List Int), vs = [.ref cp] ∧ H cp = some (.lst (A.map V.int)) ∧ 0 < A.length ∧ A.length ≤ 1000 ∧ Q (.bl (plainB A)) H
def spReading (Pt : Addr) : Sp := fun vs H Q _ => ∃ (l : List Nat) (cp : Addr) (A : List Int), vs = [.str (S l), .ref cp] ∧ Lets l ∧ H cp = some (.lst (A.map V.int)) ∧ A.length ≤ 1000 ∧ l.length ≤ 1000 ∧ Bd A (2 ^ 199) ∧ GxR.TabG H Pt ∧ ∀ v H', Bt Pt H H' → Is H' 1 v (dtR l A) → Q v H'
def spLawIsCol : Sp := fun vs H Q _ => ∃ (l : List Nat) (cp : Addr) (A : List Int), vs = [.str (S l), .ref cp] ∧ H cp = some (.lst (A.map V.int)) ∧ A.length ≤ 1000 ∧ l.length ≤ 1000 ∧ ∀ H', Same H H' → Q (.bl (isColB l A)) H'
def spLawReading : Sp := fun vs H Q _ => ∃ (l : List Nat) (cp : Addr) (A : List Int), vs = [.str (S l), .ref cp] ∧ Lets l ∧ H cp = some (.lst (A.map V.int)) ∧ A.length ≤ 1000 ∧ l.length ≤ 1000 ∧ Bd A (2 ^ 199) ∧ ∀ v H', Same H H' → Is H' 1 v (dtR l A) → Q v H'
def spColHolds (Pt : Addr) : Sp := fun vs H Q _ => ∃ (l : List Nat) (cp : Addr) (A : List Int), vs = [.str (S l), .ref cp] ∧ Lets l ∧ H cp = some (.lst (A.map V.int)) ∧ A.length ≤ 1000 ∧ l.length ≤ 1000 ∧ Bd A (2 ^ 199) ∧ GxR.TabG H Pt ∧ ∀ H', Bt Pt H H' → Q (.bl true) H'
def spSpoilt : Sp := fun vs H Q _ => ∃ (a cp : Addr) (A : List Int) (B : Nat), vs = [.ref a, .ref cp] ∧ Tape H a ∧ cp ≠ a ∧ H cp = some (.lst (A.map V.int)) ∧ A.length ≤ 1000 ∧ Bd A B ∧ ∀ (p : Addr) (A' : List Int) H', But a H H' → Tape H' a → p ≠ a → H' p = some (.lst (A'.map V.int)) → A'.length ≤ 2 * A.length + 1 → Bd A' (B + 10 ^ 20) → Q (.ref p) H'
end
section
/-! ### == of two lists of the same objects -/
theorem eqP_self {prog : Program} {w : World} {A : Around} {s : Shared} (a : Addr) : SeqAt.EqP prog w A s (.ref a) (.ref a) true := fun E Q hq => by
  unfold eqBool
  refine wpAny_holding ?_
  exact wpAny_ite_split (fun _ => wpAny_bind (wpAny_rule (wpAny_pure hq))) (fun z => absurd (beq_self_eq_true _) z)
theorem op_eq_sameL {X : Cx} (hu : X.A.units < cLine) : OpR X (compareOp .Eq) (fun x y H Q => ∃ (p q : Addr) (rs : List Addr), x = .ref p ∧ y = .ref q ∧ SqL X.K H p (rs.map V.ref) ∧ SqL X.K H q (rs.map V.ref) ∧ Q (.bl true) H) := by
  intro pins s σ H x y v u Q I rx ry h
  obtain ⟨p, q, rs, rfl, rfl, hp, hq, hQ⟩ := h
  cases rx
  cases ry
  obtain ⟨its, r1, l1, _⟩ := I.list hp
  obtain ⟨its2, r2, l2, _⟩ := I.list hq
  have e1 := vals_refs r1
  have e2 := vals_refs r2
  subst e1 e2
  refine SeqAt.rcP_lists (e := fun _ => true) l1.isList l2.isList rfl hu (fun j h1 h2 => ?_) _ _ ?_
  · have hj : j < rs.length := by simpa using h1
    have e : ((rs.map Value.ref).toArray)[j] = Value.ref rs[j] := by simp
    rw [e]
    exact eqP_self _
  · refine ⟨.bl true, H, I, ?_, hQ⟩
    show Value.bool _ = Value.bool true
    congr 1
    simp
/-! ### rows of moves -/
def FitAll (ms : List Mv) (k : Nat) : Prop := ∀ m ∈ ms, m.Fit k
def led (d : List Nat) (ms : List Mv) : Option (List Nat) := ms.foldl (fun o m => o.bind fun x => mkMv x m) (some d)
theorem led_take {d : List Nat} {ms : List Mv} {i : Nat} {m : Mv} (h : ms[i]? = some m) : led d (ms.take (i + 1)) = (led d (ms.take i)).bind fun x => mkMv x m := by
  unfold led
  rw [List.take_add_one, h, List.foldl_append]
  rfl
theorem led_none (ms : List Mv) : ms.foldl (fun o m => o.bind fun x => mkMv x m) none = none := by
  induction ms with
  | nil => rfl
  | cons m r ih => exact ih
theorem led_stop {d : List Nat} {ms : List Mv} {i : Nat} (h : led d (ms.take i) = none) : led d ms = none := by
  have : led d ms = (ms.drop i).foldl (fun o m => o.bind fun x => mkMv x m) (led d (ms.take i)) := by
    unfold led
    rw [← List.foldl_append, List.take_append_drop]
  rw [this, h]
  exact led_none _
theorem mkMv_len {d x : List Nat} {m : Mv} {k : Nat} (f : m.Fit k) (h : mkMv d m = some x) : x.length ≤ d.length + k := by
  obtain ⟨_, _, rfl⟩ := mkMv_inv h
  exact doMv_len f
/-- items that stand for moves -/
def Mi (H : Hp) (k : Nat) (y : V) : Prop := ∃ (r : Addr) (m : Mv), y = .ref r ∧ Tm H r m ∧ m.Fit k
def Ml (H : Hp) (p : Addr) (k n : Nat) : Prop := ∃ xs, H p = some (.lst xs) ∧ xs.length ≤ n ∧ ∀ y ∈ xs, Mi H k y
theorem Mi.same {H H' : Hp} {k : Nat} {y : V} (h : Mi H k y) (s : Same H H') : Mi H' k y := by
  obtain ⟨r, m, e, t, f⟩ := h
  exact ⟨r, m, e, t.same s, f⟩
theorem Mi.but {H H' : Hp} {a : Addr} {k : Nat} {y : V} (h : Mi H k y) (s : But a H H') (tp : Tape H a) : Mi H' k y := by
  obtain ⟨r, m, e, t, f⟩ := h
  exact ⟨r, m, e, t.but s tp, f⟩
theorem Mi.mono {H : Hp} {k k' : Nat} {y : V} (h : Mi H k y) (l : k ≤ k') : Mi H k' y := by
  obtain ⟨r, m, e, t, f⟩ := h
  exact ⟨r, m, e, t, f.mono l⟩
theorem Ml.same {H H' : Hp} {p : Addr} {k n : Nat} (h : Ml H p k n) (s : Same H H') : Ml H' p k n := by
  obtain ⟨xs, e, z, a⟩ := h
  exact ⟨xs, s _ _ e, z, fun y hy => (a y hy).same s⟩
theorem Ml.tape {H H' : Hp} {a p : Addr} {k n : Nat} (h : Ml H p k n) (s : But a H H') (ne : p ≠ a) (tp : Tape H a) : Ml H' p k n := by
  obtain ⟨xs, e, z, al⟩ := h
  exact ⟨xs, s _ _ ne e, z, fun y hy => (al y hy).but s tp⟩
theorem Ml.tl {H : Hp} {p : Addr} {k n : Nat} (h : Ml H p k n) : ∃ ms : List Mv, Tl H p (ms.map Mv.vs) ∧ FitAll ms k ∧ ms.length ≤ n := by
  obtain ⟨xs, e, z, al⟩ := h
  suffices h : ∀ xs : List V, (∀ y ∈ xs, Mi H k y) → ∃ (rs : List Addr) (ms : List Mv), xs = rs.map V.ref ∧ rs.length = ms.length ∧ FitAll ms k ∧ ∀ (i : Nat) (r : Addr) (m : Mv), rs[i]? = some r → ms[i]? = some m → Tm H r m by
    obtain ⟨rs, ms, rfl, lz, fa, pw⟩ := h xs al
    refine ⟨ms, ⟨rs, e, by rw [List.length_map]; exact lz, fun i r d hr hd => ?_⟩, fa, by rw [← lz]; rw [List.length_map] at z; exact z⟩
    rw [List.getElem?_map] at hd
    cases hm : ms[i]? with
    | none => rw [hm] at hd; cases hd
    | some m =>
      rw [hm] at hd
      cases hd
      exact pw i r m hr hm
  intro xs
  induction xs with
  | nil => intro _; exact ⟨[], [], rfl, rfl, (fun m hm => by cases hm), fun i r m hr _ => by cases hr⟩
  | cons x r ih =>
    intro al
    obtain ⟨rs, ms, rfl, lz, fa, pw⟩ := ih fun y hy => al y (List.mem_cons_of_mem _ hy)
    obtain ⟨a, m, rfl, t, f⟩ := al x List.mem_cons_self
    refine ⟨a :: rs, m :: ms, rfl, by rw [List.length_cons, List.length_cons, lz], fun y hy => ?_, fun i r' m' hr hm => ?_⟩
    · rcases List.mem_cons.mp hy with rfl | hy
      · exact f
      · exact fa y hy
    · cases i with
      | zero => cases hr; cases hm; exact t
      | succ i => exact pw i r' m' hr hm
theorem Tl.ml {H : Hp} {p : Addr} {ms : List Mv} {k n : Nat} (h : Tl H p (ms.map Mv.vs)) (f : FitAll ms k) (z : ms.length ≤ n) : Ml H p k n := by
  obtain ⟨rs, e, lz, pw⟩ := h
  rw [List.length_map] at lz
  refine ⟨_, e, by rw [List.length_map, lz]; exact z, fun y hy => ?_⟩
  obtain ⟨i, hi, rfl⟩ := List.getElem_of_mem hy
  rw [List.length_map] at hi
  have hm : i < ms.length := by omega
  refine ⟨rs[i], ms[i], by rw [List.getElem_map], pw i _ _ (List.getElem?_eq_getElem hi) (by rw [List.getElem?_map, List.getElem?_eq_getElem hm]; rfl), f _ (List.getElem_mem hm)⟩
theorem cutV_mem {xs : List V} {lo hi : Option Int} {y : V} (h : y ∈ cutV xs lo hi) : y ∈ xs := List.mem_of_mem_drop (List.mem_of_mem_take h)
def spLeads : Sp := fun vs H Q _ => ∃ (o e : List Nat) (p : Addr) (ms : List Mv), vs = [.str (S o), .ref p, .str (S e)] ∧ Tl H p (ms.map Mv.vs) ∧ FitAll ms 200 ∧ ms.length ≤ 1000 ∧ o.length ≤ 1000 ∧ ∀ H', Same H H' → Q (.bl (decide (led o ms = some e))) H'
def spRow : Sp := fun vs H Q _ => ∃ (o e : List Nat) (p : Addr), vs = [.str (S o), .ref p, .str (S e)] ∧ Ml H p 200 1000 ∧ o.length ≤ 1000 ∧ ∀ H', Same H H' → Q (.bl true) H'
def spMoves : Sp := fun vs H Q _ => ∃ (a : Addr) (d : List Nat) (n : Int), vs = [.ref a, .str (S d), .int n] ∧ Tape H a ∧ d.length ≤ 120 ∧ 0 ≤ n ∧ n ≤ 100 ∧ ∀ (t p : Addr) (ms : List Mv) (x : List Nat) H', But a H H' → Tape H' a → H p = none → H' t = some (.tup [.ref p, .str (S x)]) → Tl H' p (ms.map Mv.vs) → FitAll ms 6 → (ms.length : Int) ≤ n → led d ms = some x → x.length ≤ max d.length 100 → Q (.ref t) H'
def spChanged : Sp := fun vs H Q _ => ∃ (a p : Addr) (k n : Nat), vs = [.ref a, .ref p] ∧ Tape H a ∧ p ≠ a ∧ Ml H p k n ∧ n ≤ 1000 ∧ 20 ≤ k ∧ k ≤ 1000 ∧ ∀ (p' : Addr) H', But a H H' → Tape H' a → p' ≠ a → Ml H' p' (2 * k) (3 * n + 1) → Q (.ref p') H'
def spSingle : Sp := fun vs H Q _ => ∃ (o : List Nat) (t : Addr) (m : Mv), vs = [.str (S o), .ref t] ∧ Tm H t m ∧ m.Fit 200 ∧ o.length ≤ 1000 ∧ ∀ H', Same H H' → Q (.bl true) H'
end
section
open TL (joinL tl tl_join join_eq split_join)
/-! ### standard dances -/
def nx (p q : Int) : Int := (p / q + 1) * q - p
theorem nx_eq (p q : Int) : nx p q = q - p % q := by
  unfold nx
  have := Int.mul_ediv_add_emod p q
  rw [Int.add_mul, Int.one_mul, Int.mul_comm]
  omega
theorem nx_gcd (p q : Int) : Int.gcd q (nx p q) = Int.gcd p q := by
  unfold nx
  rw [show (p / q + 1) * q - p = -p + q * (p / q + 1) by rw [Int.mul_comm]; omega, Int.gcd_add_mul_left_right, Int.gcd_neg, Int.gcd_comm]
theorem nx_pos {p q : Int} (h : 0 < q) : 0 < nx p q := by
  rw [nx_eq]
  have := Int.emod_lt_of_pos p h
  omega
theorem nx_lt {p q : Int} (h : 1 < q) (g : Int.gcd p q = 1) : nx p q < q := by
  rw [nx_eq]
  have h1 := Int.emod_nonneg p (show q ≠ 0 by omega)
  have h2 : p % q ≠ 0 := fun z => by
    have d : q ∣ p := Int.dvd_of_emod_eq_zero z
    have := Int.gcd_eq_natAbs_right d
    omega
  omega
def rn (b : Int) : List Nat := if b < 0 then List.replicate (-b).toNat 85 else List.replicate b.toNat 84
def bsF : Nat → Int → Int → List Int
  | 0, p, _ => [p]
  | n + 1, p, q => if q ≤ 1 then [p] else bsF n q (nx p q) ++ [p / q + 1]
def bs (p q : Int) : List Int := bsF q.toNat p q
theorem bsF_more : ∀ (n m : Nat) (p q : Int), 0 < q → Int.gcd p q = 1 → q ≤ n → q ≤ m → bsF n p q = bsF m p q
  | 0, _, p, q, h, _, hn, _ => by omega
  | n + 1, 0, p, q, h, _, _, hm => by omega
  | n + 1, m + 1, p, q, h, g, hn, hm => by
    unfold bsF
    by_cases c : q ≤ 1
    · rw [if_pos c, if_pos c]
    · rw [if_neg c, if_neg c, bsF_more n m q (nx p q) (nx_pos h) (by rw [nx_gcd]; exact g) (by have := nx_lt (show 1 < q by omega) g; omega) (by have := nx_lt (show 1 < q by omega) g; omega)]
theorem bs_one (p : Int) : bs p 1 = [p] := rfl
theorem bs_step {p q : Int} (h : 1 < q) (g : Int.gcd p q = 1) : bs p q = bs q (nx p q) ++ [p / q + 1] := by
  have l := nx_lt h g
  have l0 := nx_pos (p := p) (show 0 < q by omega)
  have e : q.toNat = (q.toNat - 1) + 1 := by omega
  have e1 : bs p q = bsF (q.toNat - 1) q (nx p q) ++ [p / q + 1] := by
    unfold bs
    generalize q.toNat - 1 = m at e
    rw [e]
    show (if q ≤ 1 then [p] else bsF m q (nx p q) ++ [p / q + 1]) = _
    rw [if_neg (by omega)]
  rw [e1]
  unfold bs
  rw [bsF_more (q.toNat - 1) (nx p q).toNat q (nx p q) l0 (by rw [nx_gcd]; exact g) (by omega) (by omega)]
theorem bs_ne {p q : Int} : bs p q ≠ [] := by
  unfold bs
  cases q.toNat with
  | zero => intro h; cases h
  | succ n =>
    unfold bsF
    split
    · intro h; cases h
    · intro h; simp at h
def stv (v : Int × Int) : List Nat := if v.2 = 0 then [82] else joinL [82] ((bs v.1 v.2).map rn)
theorem joinL_snoc (S y : List Nat) : ∀ {xs : List (List Nat)}, xs ≠ [] → joinL S (xs ++ [y]) = joinL S xs ++ (S ++ y)
  | [], h => absurd rfl h
  | [x], _ => rfl
  | x :: z :: r, _ => by
    show x ++ (S ++ joinL S ((z :: r) ++ [y])) = (x ++ (S ++ joinL S (z :: r))) ++ (S ++ y)
    rw [joinL_snoc S y (xs := z :: r) (by simp)]
    simp
theorem run_rn (p q b : Int) : run (p, q) (rn b) = (p + b * q, q) := by
  have up : ∀ (n : Nat) (p : Int), run (p, q) (List.replicate n 84) = (p + n * q, q) := by
    intro n
    induction n with
    | zero => intro p; simp [run]
    | succ n ih =>
      intro p
      rw [List.replicate_succ]
      show run (called (p, q) 84) _ = _
      rw [show called (p, q) 84 = (p + q, q) from rfl, ih]
      congr 1
      rw [Int.natCast_add, Int.add_mul, Int.natCast_one, Int.one_mul]
      omega
  have dn : ∀ (n : Nat) (p : Int), run (p, q) (List.replicate n 85) = (p - n * q, q) := by
    intro n
    induction n with
    | zero => intro p; simp [run]
    | succ n ih =>
      intro p
      rw [List.replicate_succ]
      show run (called (p, q) 85) _ = _
      rw [show called (p, q) 85 = (p - q, q) from rfl, ih]
      congr 1
      rw [Int.natCast_add, Int.add_mul, Int.natCast_one, Int.one_mul]
      omega
  unfold rn
  by_cases c : b < 0
  · rw [if_pos c, dn, Int.toNat_of_nonneg (by omega)]
    congr 1
    rw [Int.neg_mul]
    omega
  · rw [if_neg c, up, Int.toNat_of_nonneg (by omega)]
theorem num_bs : ∀ (n : Nat) (p q : Int), 0 < q → Int.gcd p q = 1 → q ≤ n → run (0, 1) (joinL [82] ((bs p q).map rn)) = (p, q)
  | 0, p, q, h, _, hn => by omega
  | n + 1, p, q, h, g, hn => by
    by_cases c : q = 1
    · subst c
      rw [bs_one]
      show run (0, 1) (rn p) = (p, 1)
      rw [run_rn]
      simp
    · have hq : 1 < q := by omega
      have l := nx_lt hq g
      rw [bs_step hq g, List.map_append, List.map_singleton, joinL_snoc [82] _ (fun z => bs_ne (List.map_eq_nil_iff.mp z)), run_app, num_bs n q (nx p q) (nx_pos h) (by rw [nx_gcd]; exact g) (by omega), run_app]
      show run (called (q, nx p q) 82) _ = _
      have e : called (q, nx p q) 82 = (0 - nx p q, q) := by
        unfold called
        rw [if_neg (by decide), if_neg (by decide), if_pos (show 0 < (q, nx p q).1 from h)]
      rw [e, run_rn]
      congr 1
      unfold nx
      omega
theorem num_stv {v : Int × Int} (h : Good v) : run (0, 1) (stv v) = v := by
  obtain ⟨p, q⟩ := v
  obtain ⟨h1, h2⟩ := h
  unfold stv
  by_cases c : q = 0
  · rcases h1 with h1 | h1
    · have : (0 : Int) < q := h1
      omega
    · cases h1
      rfl
  · rw [if_neg (show ¬ (p, q).2 = 0 from c)]
    have h0 : 0 < q := by
      rcases h1 with h1 | h1
      · exact h1
      · cases h1; exact absurd rfl c
    exact num_bs q.toNat p q h0 h2 (by omega)
theorem rn_len (b : Int) : (rn b).length = b.natAbs := by
  unfold rn
  split
  · rw [List.length_replicate]; omega
  · rw [List.length_replicate]; omega
theorem one_le_div {p q : Int} (h : 0 < q) (hp : q ≤ p) : 1 ≤ p / q := Int.le_ediv_of_mul_le h (by omega)
theorem len_in : ∀ (n : Nat) (p q : Int), 0 < q → q < p → Int.gcd p q = 1 → q ≤ n → ((joinL [82] ((bs p q).map rn)).length : Int) ≤ 3 * p
  | 0, p, q, h, _, _, hn => by omega
  | n + 1, p, q, h, hp, g, hn => by
    by_cases c : q = 1
    · subst c
      rw [bs_one]
      show ((rn p).length : Int) ≤ _
      rw [rn_len]
      omega
    · have hq : 1 < q := by omega
      have l := nx_lt hq g
      have l0 := nx_pos (p := p) h
      have ih := len_in n q (nx p q) l0 l (by rw [nx_gcd]; exact g) (by omega)
      rw [bs_step hq g, List.map_append, List.map_singleton, joinL_snoc [82] _ (fun z => bs_ne (List.map_eq_nil_iff.mp z)), List.length_append, List.length_append, rn_len]
      have e := Int.mul_ediv_add_emod p q
      have r0 := Int.emod_lt_of_pos p h
      rw [nx_eq] at l0 l
      have a1 : 1 ≤ p / q := one_le_div h (by omega)
      have m : (p / q - 1) * 1 ≤ (p / q - 1) * q := Int.mul_le_mul_of_nonneg_left (by omega) (by omega)
      have m2 : (p / q - 1) * q = q * (p / q) - q := by rw [Int.sub_mul, Int.one_mul, Int.mul_comm]
      rw [m2, Int.mul_one] at m
      show ((_ + ([82].length + (p / q + 1).natAbs) : Nat) : Int) ≤ _
      have : ([82] : List Nat).length = 1 := rfl
      omega
theorem ediv_abs {p q : Int} (h : 0 < q) : (p / q + 1).natAbs ≤ p.natAbs + 1 := by
  have e := Int.mul_ediv_add_emod p q
  have r0 := Int.emod_lt_of_pos p h
  have r1 := Int.emod_nonneg p (show q ≠ 0 by omega)
  have a := Int.natAbs_ediv_le_natAbs p q.toNat
  rw [Int.toNat_of_nonneg (by omega)] at a
  omega
theorem len_out {p q : Int} (h : 0 < q) (g : Int.gcd p q = 1) : ((joinL [82] ((bs p q).map rn)).length : Int) ≤ p.natAbs + 3 * q + 2 := by
  by_cases c : q = 1
  · subst c
    rw [bs_one]
    show ((rn p).length : Int) ≤ _
    rw [rn_len]
    omega
  · have hq : 1 < q := by omega
    have l := nx_lt hq g
    have l0 := nx_pos (p := p) h
    have ih := len_in q.toNat q (nx p q) l0 l (by rw [nx_gcd]; exact g) (by omega)
    rw [bs_step hq g, List.map_append, List.map_singleton, joinL_snoc [82] _ (fun z => bs_ne (List.map_eq_nil_iff.mp z)), List.length_append, List.length_append, rn_len]
    have := ediv_abs (p := p) h
    have : ([82] : List Nat).length = 1 := rfl
    omega
/-- the runs but the last one -/
theorem bs_two : ∀ (n : Nat) (p q : Int), 0 < q → q < p → Int.gcd p q = 1 → q ≤ n → ∀ b ∈ bs p q, 2 ≤ b
  | 0, p, q, h, _, _, hn => by omega
  | n + 1, p, q, h, hp, g, hn => by
    intro b hb
    by_cases c : q = 1
    · subst c
      rw [bs_one] at hb
      rw [List.mem_singleton.mp hb]
      omega
    · have hq : 1 < q := by omega
      have l := nx_lt hq g
      rw [bs_step hq g] at hb
      rcases List.mem_append.mp hb with hb | hb
      · exact bs_two n q (nx p q) (nx_pos h) l (by rw [nx_gcd]; exact g) (by omega) b hb
      · rw [List.mem_singleton.mp hb]
        have := one_le_div h (show q ≤ p by omega)
        omega
theorem bs_front {p q : Int} (h : 0 < q) (g : Int.gcd p q = 1) : ∀ b ∈ (bs p q).dropLast, 2 ≤ b := by
  intro b hb
  by_cases c : q = 1
  · subst c
    rw [bs_one] at hb
    cases hb
  · have hq : 1 < q := by omega
    rw [bs_step hq g, List.dropLast_concat] at hb
    exact bs_two q.toNat q (nx p q) (nx_pos h) (nx_lt hq g) (by rw [nx_gcd]; exact g) (by have := nx_lt hq g; omega) b hb
/-! ### how great a dance's number is -/
def Grow (n : Nat) (v : Int × Int) : Prop := ∃ k B : Nat, B ^ 3 * 3 ^ k ≤ 3 ^ n ∧ v.2.natAbs ≤ B ∧ v.1.natAbs ≤ (k + 1) * B
theorem cube_three : ∀ k : Nat, (k + 1) ^ 3 ≤ 3 ^ (k + 1)
  | 0 => by decide
  | 1 => by decide
  | 2 => by decide
  | k + 3 => by
    have ih := cube_three (k + 2)
    have e : (3 : Nat) ^ (k + 3 + 1) = 3 * 3 ^ (k + 2 + 1) := by rw [show k + 3 + 1 = (k + 2 + 1) + 1 from rfl, Nat.pow_succ (n := 3) (m := k + 2 + 1), Nat.mul_comm]
    rw [e]
    have h : (k + 3 + 1) ^ 3 ≤ 3 * (k + 2 + 1) ^ 3 := by
      have h1 : (3 * (k + 3 + 1)) ^ 3 ≤ (4 * (k + 2 + 1)) ^ 3 := Nat.pow_le_pow_left (by omega) 3
      rw [Nat.mul_pow, Nat.mul_pow] at h1
      omega
    exact Nat.le_trans h (Nat.mul_le_mul_left 3 ih)
theorem Grow.called {n : Nat} {v : Int × Int} (h : Grow n v) (c : Nat) : Grow (n + 1) (called v c) := by
  obtain ⟨k, B, hb, h2, h1⟩ := h
  have up : B ^ 3 * 3 ^ (k + 1) ≤ 3 ^ (n + 1) := by
    rw [Nat.pow_succ (m := k), Nat.pow_succ (m := n), ← Nat.mul_assoc]
    exact Nat.mul_le_mul_right 3 hb
  have e : (k + 1 + 1) * B = (k + 1) * B + B := by rw [Nat.add_mul (k + 1) 1 B, Nat.one_mul]
  unfold Rope.called
  by_cases c1 : c = 84
  · rw [if_pos c1]
    exact ⟨k + 1, B, up, h2, by rw [e]; show (v.1 + v.2).natAbs ≤ _; omega⟩
  rw [if_neg c1]
  by_cases c2 : c = 85
  · rw [if_pos c2]
    exact ⟨k + 1, B, up, h2, by rw [e]; show (v.1 - v.2).natAbs ≤ _; omega⟩
  rw [if_neg c2]
  have turn : ((k + 1) * B) ^ 3 * 3 ^ 0 ≤ 3 ^ (n + 1) := by
    rw [Nat.pow_zero, Nat.mul_one, Nat.mul_pow]
    exact Nat.le_trans (Nat.mul_le_mul_right _ (cube_three k)) (by rw [Nat.mul_comm]; exact up)
  have hBk : B ≤ (k + 1) * B := by rw [Nat.add_mul, Nat.one_mul]; omega
  by_cases c3 : 0 < v.1
  · rw [if_pos c3]
    exact ⟨0, (k + 1) * B, turn, h1, by show (0 - v.2).natAbs ≤ _; omega⟩
  rw [if_neg c3]
  by_cases c4 : v.1 < 0
  · rw [if_pos c4]
    exact ⟨0, (k + 1) * B, turn, by show (0 - v.1).natAbs ≤ _; omega, by show v.2.natAbs ≤ _; omega⟩
  rw [if_neg c4]
  refine ⟨0, 1, ?_, by show (0 : Int).natAbs ≤ 1; decide, by show (1 : Int).natAbs ≤ (0 + 1) * 1; decide⟩
  exact Nat.pow_pos (by decide)
theorem grow_run : ∀ (l : List Nat) {n : Nat} {v : Int × Int}, Grow n v → Grow (n + l.length) (run v l)
  | [], n, v, h => h
  | c :: r, n, v, h => by
    have := grow_run r (h.called c)
    rw [List.length_cons]
    rw [show n + (r.length + 1) = n + 1 + r.length by omega]
    exact this
theorem grow_cube {n : Nat} {v : Int × Int} (h : Grow n v) : v.1.natAbs ^ 3 ≤ 3 ^ (n + 1) ∧ v.2.natAbs ^ 3 ≤ 3 ^ (n + 1) := by
  obtain ⟨k, B, hb, h2, h1⟩ := h
  have up : B ^ 3 * 3 ^ (k + 1) ≤ 3 ^ (n + 1) := by
    rw [Nat.pow_succ (m := k), Nat.pow_succ (m := n), ← Nat.mul_assoc]
    exact Nat.mul_le_mul_right 3 hb
  have turn : ((k + 1) * B) ^ 3 ≤ 3 ^ (n + 1) := by
    rw [Nat.mul_pow]
    exact Nat.le_trans (Nat.mul_le_mul_right _ (cube_three k)) (by rw [Nat.mul_comm]; exact up)
  have hBk : B ≤ (k + 1) * B := by rw [Nat.add_mul, Nat.one_mul]; omega
  exact ⟨Nat.le_trans (Nat.pow_le_pow_left h1 3) turn, Nat.le_trans (Nat.pow_le_pow_left (Nat.le_trans h2 hBk) 3) turn⟩
/-- small enough to be written out -/
structure Sv (v : Int × Int) : Prop where
  good : Good v
  s1 : v.1.natAbs ≤ 3400000
  s2 : v.2.natAbs ≤ 3400000
theorem cube_small {x : Nat} (h : x ^ 3 ≤ 3 ^ 41) : x ≤ 3400000 := by
  by_cases c : x ≤ 3400000
  · exact c
  · have : (3400001 : Nat) ^ 3 ≤ x ^ 3 := Nat.pow_le_pow_left (by omega) 3
    have e : ¬ (3400001 : Nat) ^ 3 ≤ 3 ^ 41 := by decide +kernel
    exact absurd (Nat.le_trans this h) e
theorem sv_run {l : List Nat} (h : (l.length : Int) ≤ 40) : Sv (run (0, 1) l) := by
  have g := grow_run l (n := 0) (v := (0, 1)) ⟨0, 1, by decide, by decide, by decide⟩
  have q := grow_cube g
  have e : (3 : Nat) ^ (0 + l.length + 1) ≤ 3 ^ 41 := Nat.pow_le_pow_right (by decide) (by omega)
  exact ⟨good_run l Good.zero, cube_small (Nat.le_trans q.1 e), cube_small (Nat.le_trans q.2 e)⟩
theorem stv_len {v : Int × Int} (h : Sv v) : (stv v).length ≤ 14000000 := by
  obtain ⟨p, q⟩ := v
  obtain ⟨⟨h1, h2⟩, s1, s2⟩ := h
  unfold stv
  by_cases c : q = 0
  · rw [if_pos (show (p, q).2 = 0 from c)]
    decide
  · rw [if_neg (show ¬ (p, q).2 = 0 from c)]
    have h0 : 0 < q := by
      rcases h1 with h1 | h1
      · exact h1
      · cases h1; exact absurd rfl c
    have := len_out h0 h2
    simp only at s1 s2 this ⊢
    omega
theorem tl_S (l : List Nat) : tl (S l) = l := S_list l
theorem join_S (xs : List (List Nat)) : Txt.join (S [82]) (xs.map S) = S (joinL [82] xs) := by
  have e := tl_join (S [82]) (xs.map S)
  rw [← join_eq, List.map_map] at e
  have e2 : (tl ∘ S) = id := by funext l; exact tl_S l
  rw [e2, List.map_id, tl_S] at e
  exact (S_eta (Txt.join (S [82]) (xs.map S))).symm.trans (congrArg S e)
theorem sum_S (xs : List (List Nat)) : ((xs.map S).map (·.length)).sum = (xs.map List.length).sum := by
  rw [List.map_map]
  congr 1
theorem le_sum {x : Nat} : ∀ {l : List Nat}, x ∈ l → x ≤ l.sum
  | [], h => by cases h
  | y :: r, h => by
    rw [List.sum_cons]
    rcases List.mem_cons.mp h with rfl | h
    · omega
    · have := le_sum h
      omega
theorem joinL_len : ∀ (xs : List (List Nat)), xs ≠ [] → (joinL [82] xs).length + 1 = (xs.map List.length).sum + xs.length
  | [], h => absurd rfl h
  | [x], _ => by simp [joinL]
  | x :: y :: r, _ => by
    have := joinL_len (y :: r) (by simp)
    show (x ++ ([82] ++ joinL [82] (y :: r))).length + 1 = _
    rw [List.length_append, List.length_append, List.map_cons, List.sum_cons, List.length_cons]
    show x.length + (1 + _) + 1 = x.length + _ + (_ + 1)
    omega
def spRun : Sp := fun vs H Q _ => ∃ b : Int, vs = [.int b] ∧ b.natAbs ≤ 16000000 ∧ Q (.str (S (rn b))) H
def spStd : Sp := fun vs H Q _ => ∃ (t : Addr) (v : Int × Int), vs = [.ref t] ∧ Tup2 H t v ∧ Sv v ∧ ∀ H', Same H H' → Q (.str (S (stv v))) H'
theorem rn_up {b : Int} (h : 0 ≤ b) : (List.replicate b.toNat [84]).flatten = rn b := by
  unfold rn
  rw [if_neg (by omega)]
  induction b.toNat with
  | zero => rfl
  | succ n ih => rw [List.replicate_succ, List.flatten_cons, ih, List.replicate_succ]; rfl
theorem rn_dn {b : Int} (h : b < 0) : (List.replicate (-b).toNat [85]).flatten = rn b := by
  unfold rn
  rw [if_pos h]
  induction (-b).toNat with
  | zero => rfl
  | succ n ih => rw [List.replicate_succ, List.flatten_cons, ih, List.replicate_succ]; rfl
theorem fdiv_pos {p q : Int} (h : 0 < q) : p.fdiv q = p / q := Int.fdiv_eq_ediv_of_nonneg p (by omega)
def spNum : Sp := fun vs H Q _ => ∃ l : List Nat, vs = [.str (S l)] ∧ ∀ t' H', Same H H' → Tup2 H' t' (run (0, 1) l) → Q (.ref t') H'
theorem cut_last (xs : List V) : cutV xs none (some (-1)) = xs.dropLast := by
  unfold cutV
  rw [HT.sIx_none, List.drop_zero, Nat.sub_zero, List.dropLast_eq_take]
  congr 1
  unfold HT.sIx
  show (if (-1 : Int) < 0 then ((-1 : Int) + (xs.length : Int)).toNat else _) = _
  rw [if_pos (by decide)]
  omega
theorem sv_div {p q : Int} (hp : p.natAbs ≤ 400) (hq : q.natAbs ≤ 400) (h0 : 0 < q) : Sv (p / (Int.gcd p q : Int), q / (Int.gcd p q : Int)) := by
  have g0 : 0 < Int.gcd p q := Int.gcd_pos_of_ne_zero_right p (by omega)
  have a : ∀ (x : Int) (g : Nat), (x / (g : Int)).natAbs ≤ x.natAbs := fun x g => Int.natAbs_ediv_le_natAbs x g
  refine ⟨⟨.inl ?_, Int.gcd_ediv_gcd_ediv_gcd g0⟩, Nat.le_trans (a p _) (by omega), Nat.le_trans (a q _) (by omega)⟩
  exact Int.ediv_pos_of_pos_of_dvd h0 (by omega) (Int.gcd_dvd_right _ _)
theorem sv_chain {n : Int} (h0 : 2 ≤ n) (h1 : n ≤ 1000) : Sv (n, n - 1) := by
  refine ⟨⟨.inl (by show 0 < n - 1; omega), ?_⟩, by show n.natAbs ≤ _; omega, by show (n - 1).natAbs ≤ _; omega⟩
  show Int.gcd n (n - 1) = 1
  have := gcd_add' 1 (n - 1)
  rw [show 1 + (n - 1) = n by omega, Int.one_gcd] at this
  exact this
def Vi (H : Hp) (y : V) : Prop := ∃ (t : Addr) (v : Int × Int), y = .ref t ∧ Tup2 H t v ∧ Sv v
theorem Vi.same {H H' : Hp} {y : V} (h : Vi H y) (s : Same H H') : Vi H' y := by
  obtain ⟨t, v, e, a, b⟩ := h
  exact ⟨t, v, e, a.same s, b⟩
theorem rn_no (b : Int) : 82 ∉ rn b := by
  unfold rn
  intro h
  split at h
  · have := (List.mem_replicate.mp h).2; omega
  · have := (List.mem_replicate.mp h).2; omega
theorem rn_T {b : Int} (h : 0 ≤ b) : (List.replicate (rn b).length [84]).flatten = rn b := by
  rw [rn_len, show b.natAbs = b.toNat by omega]
  exact rn_up h
def spSmall : Sp := fun vs H Q _ => ∃ (a : Addr), vs = [.ref a] ∧ Tape H a ∧ ∀ (t : Addr) (v : Int × Int) H', Sv v → But a H H' → Tape H' a → Tup2 H' t v → Q (.ref t) H'
end
section
/-! ### moves keep the number -/
theorem run_TU (v : Int × Int) : run v [84, 85] = v := by
  obtain ⟨p, q⟩ := v
  show (p + q - q, q) = (p, q)
  congr 1
  omega
theorem run_UT (v : Int × Int) : run v [85, 84] = v := by
  obtain ⟨p, q⟩ := v
  show (p - q + q, q) = (p, q)
  congr 1
  omega
theorem turn_pos {p q : Int} (h : 0 < p) : called (p, q) 82 = (0 - q, p) := by
  unfold called
  rw [if_neg (by decide), if_neg (by decide), if_pos (show 0 < (p, q).1 from h)]
theorem turn_neg {p q : Int} (h : p < 0) : called (p, q) 82 = (q, 0 - p) := by
  unfold called
  rw [if_neg (by decide), if_neg (by decide), if_neg (show ¬ 0 < (p, q).1 from by show ¬ 0 < p; omega), if_pos (show (p, q).1 < 0 from h)]
theorem turn_zero {q : Int} : called (0, q) 82 = (1, 0) := rfl
theorem zero_one {q : Int} (g : Good (0, q)) : q = 1 := by
  obtain ⟨h1, h2⟩ := g
  have e : Int.gcd 0 q = 1 := h2
  rw [Int.gcd_zero_left] at e
  rcases h1 with h1 | h1
  · have : 0 < q := h1
    omega
  · cases h1
theorem turn_turn {v : Int × Int} (g : Good v) : called (called v 82) 82 = v := by
  obtain ⟨p, q⟩ := v
  rcases Int.lt_trichotomy p 0 with h | h | h
  · have q0 : 0 < q := by
      rcases g.1 with h1 | h1
      · exact h1
      · cases h1; omega
    rw [turn_neg h, turn_pos q0, Int.zero_sub, Int.zero_sub, Int.neg_neg]
  · subst h
    rw [zero_one g]
    rfl
  · rw [turn_pos h]
    rcases g.1 with h1 | h1
    · have q0 : 0 < q := h1
      rw [turn_neg (by omega)]
      congr 1
      omega
    · cases h1
      rfl
theorem run_RR {v : Int × Int} (g : Good v) : run v [82, 82] = v := turn_turn g
/-- x + 1, turned: three times it leads back -/
theorem run_six {v : Int × Int} (g : Good v) : run v [84, 82, 84, 82, 84, 82] = v := by
  obtain ⟨p, q⟩ := v
  show called (called (called (called (called (called (p, q) 84) 82) 84) 82) 84) 82 = (p, q)
  have tw : ∀ a b : Int, called (a, b) 84 = (a + b, b) := fun a b => rfl
  rcases g.1 with h1 | h1
  · have q0 : 0 < q := h1
    rw [tw p q]
    rcases Int.lt_trichotomy (p + q) 0 with h | h | h
    · rw [turn_neg h, tw q, turn_pos (show 0 < q + (0 - (p + q)) by omega), tw, turn_pos (by omega)]
      congr 1 <;> omega
    · have e : q = -p := by omega
      have g1 : Int.gcd p q = 1 := g.2
      rw [e, Int.gcd_neg, Int.gcd_self] at g1
      have : p = -1 := by omega
      subst this
      have : q = 1 := by omega
      subst this
      rfl
    · rw [turn_pos h, tw (0 - q)]
      rcases Int.lt_trichotomy p 0 with k | k | k
      · rw [turn_neg (show 0 - q + (p + q) < 0 by omega), tw, turn_pos (by omega)]
        congr 1 <;> omega
      · subst k
        rw [zero_one g]
        rfl
      · rw [turn_pos (show 0 < 0 - q + (p + q) by omega), tw, turn_neg (by omega)]
        congr 1 <;> omega
  · cases h1
    rfl
theorem run_word {u : List Nat} (h : u ∈ wds) {v : Int × Int} (g : Good v) : run v u = v := by
  unfold wds at h
  simp only [List.mem_cons, List.not_mem_nil, or_false] at h
  rcases h with rfl | rfl | rfl | rfl
  · exact run_TU v
  · exact run_UT v
  · exact run_RR g
  · exact run_six g
/-- what a move makes has the same number -/
theorem mk_num {d x : List Nat} {m : Mv} (h : mkMv d m = some x) : run (0, 1) x = run (0, 1) d := by
  obtain ⟨h1, h2, rfl⟩ := mkMv_inv h
  obtain ⟨c0, c1, c2⟩ := canMv_inv h2
  have word : ∀ v : Int × Int, Good v → (m.pl = 0 → v = (0, 1)) → run v (m.o ++ m.n) = v := fun v g z => by
    unfold isMv at h1
    rw [Bool.and_eq_true, Bool.or_eq_true, Bool.and_eq_true, decide_eq_true_eq, decide_eq_true_eq, decide_eq_true_eq] at h1
    rcases h1.2 with k | ⟨k0, k⟩
    · exact run_word k g
    · rw [k, z k0]
      rfl
  have e1 : d = d.take m.pl.toNat ++ (m.o ++ d.drop (m.pl.toNat + m.o.length)) := by
    conv => lhs; rw [← List.take_append_drop m.pl.toNat d]
    congr 1
    conv => lhs; rw [← List.take_append_drop m.o.length (d.drop m.pl.toNat)]
    rw [c2, List.drop_drop]
  have g := good_run (d.take m.pl.toNat) Good.zero
  have w := word (run (0, 1) (d.take m.pl.toNat)) g fun z => by rw [z]; rfl
  have e2 : run (run (0, 1) (d.take m.pl.toNat)) m.n = run (run (0, 1) (d.take m.pl.toNat)) m.o := by
    rcases isMv_empty h1 with k | k
    · rw [k] at w ⊢
      exact w
    · rw [k, List.append_nil] at w
      rw [k, w]
      rfl
  unfold doMv
  rw [run_app, run_app, e2]
  conv => rhs; rw [e1]
  rw [run_app, run_app]
end
section
open TL (joinL)
/-! ### a dance of the standard form is the standard dance of its number -/
theorem form_step (p q b : Int) (q0 : 0 < q) (qp : q < p) (g : Int.gcd p q = 1) : Int.gcd (0 - q + b * p) p = 1 ∧ bs (0 - q + b * p) p = bs p q ++ [b] := by
  have g1 : Int.gcd (0 - q + b * p) p = 1 := by
    rw [Int.gcd_add_mul_right_left, Int.zero_sub, Int.neg_gcd, Int.gcd_comm]
    exact g
  have d : (0 - q + b * p) / p = b - 1 := by
    rw [Int.add_mul_ediv_right _ _ (by omega : p ≠ 0)]
    have : (0 - q) / p = -1 := by
      have e1 : (0 - q) = (p - q) + (-1) * p := by omega
      rw [e1, Int.add_mul_ediv_right _ _ (by omega : p ≠ 0), Int.ediv_eq_zero_of_lt (by omega) (by omega)]
      omega
    omega
  have n : nx (0 - q + b * p) p = q := by
    unfold nx
    rw [d, show b - 1 + 1 = b by omega]
    omega
  refine ⟨g1, ?_⟩
  rw [bs_step (by omega) g1, n, d]
  congr 2
  omega
theorem form_two : ∀ (k : Nat) (r : List Int), r.length = k + 1 → (∀ b ∈ r, 2 ≤ b) → ∃ p q : Int, run (0, 1) (joinL [82] (r.map rn)) = (p, q) ∧ 0 < q ∧ q < p ∧ Int.gcd p q = 1 ∧ bs p q = r
  | 0, r, hk, h2 => by
    obtain ⟨b, rfl⟩ : ∃ b, r = [b] := List.length_eq_one_iff.mp hk
    have := h2 b List.mem_cons_self
    refine ⟨b, 1, ?_, by decide, by omega, Int.gcd_one_right _, rfl⟩
    show run (0, 1) (rn b) = _
    rw [run_rn]
    simp
  | k + 1, r, hk, h2 => by
    have hne : r ≠ [] := fun z => by rw [z] at hk; cases hk
    obtain ⟨r', b, rfl⟩ : ∃ r' b, r = r' ++ [b] := ⟨r.dropLast, r.getLast hne, (List.dropLast_concat_getLast hne).symm⟩
    have hk' : r'.length = k + 1 := by
      rw [List.length_append] at hk
      have : ([b] : List Int).length = 1 := rfl
      omega
    obtain ⟨p, q, e, q0, qp, g, eb⟩ := form_two k r' hk' fun x hx => h2 x (List.mem_append_left _ hx)
    have b2 := h2 b (List.mem_append_right _ List.mem_cons_self)
    have ne : r' ≠ [] := fun z => by rw [z] at hk'; cases hk'
    have st := form_step p q b q0 qp g
    refine ⟨0 - q + b * p, p, ?_, by omega, ?_, st.1, by rw [st.2, eb]⟩
    · rw [List.map_append, List.map_singleton, joinL_snoc [82] _ (fun z => ne (List.map_eq_nil_iff.mp z)), run_app, e, run_app]
      show run (called (p, q) 82) _ = _
      rw [show called (p, q) 82 = (0 - q, p) by unfold called; rw [if_neg (by decide), if_neg (by decide), if_pos (show 0 < (p, q).1 by show 0 < p; omega)], run_rn]
    · have : 2 * p ≤ b * p := Int.mul_le_mul_of_nonneg_right b2 (by omega)
      omega
theorem form_std {r : List Int} {b : Int} (h2 : ∀ x ∈ r, 2 ≤ x) : stv (run (0, 1) (joinL [82] ((r ++ [b]).map rn))) = joinL [82] ((r ++ [b]).map rn) := by
  by_cases hr : r = []
  · subst hr
    show stv (run (0, 1) (rn b)) = rn b
    rw [run_rn]
    unfold stv
    rw [if_neg (show ¬ (1 : Int) = 0 by decide)]
    show joinL [82] ((bs (0 + b * 1) 1).map rn) = _
    rw [bs_one, Int.mul_one, Int.zero_add]
    rfl
  · obtain ⟨p, q, e, q0, qp, g, eb⟩ := form_two (r.length - 1) r (by have := List.length_pos_iff.mpr hr; omega) h2
    have st := form_step p q b q0 qp g
    rw [List.map_append, List.map_singleton, joinL_snoc [82] _ (fun z => hr (List.map_eq_nil_iff.mp z)), run_app, e, run_app]
    show stv (run (called (p, q) 82) _) = _
    rw [show called (p, q) 82 = (0 - q, p) by unfold called; rw [if_neg (by decide), if_neg (by decide), if_pos (show 0 < (p, q).1 by show 0 < p; omega)], run_rn]
    unfold stv
    rw [if_neg (show ¬ p = 0 by omega)]
    show joinL [82] ((bs (0 - q + b * p) p).map rn) = _
    rw [st.2, eb, List.map_append, List.map_singleton, joinL_snoc [82] _ (fun z => hr (List.map_eq_nil_iff.mp z))]
end
section
/-! ### rows of moves at the front of a dance -/
def Lead (d : List Nat) (ms : List Mv) (d' : List Nat) : Prop := ∀ s, led (d ++ s) ms = some (d' ++ s)
theorem Lead.refl (d : List Nat) : Lead d [] d := fun s => rfl
theorem led_app (d : List Nat) (ms ns : List Mv) : led d (ms ++ ns) = (led d ms).bind fun x => led x ns := by
  have none_ : ∀ ns : List Mv, ns.foldl (fun (o : Option (List Nat)) m => o.bind fun x => mkMv x m) none = none := by
    intro ns
    induction ns with
    | nil => rfl
    | cons m r ih => exact ih
  unfold led
  rw [List.foldl_append]
  cases ms.foldl (fun (o : Option (List Nat)) m => o.bind fun x => mkMv x m) (some d) with
  | none => exact none_ ns
  | some x => rfl
theorem Lead.trans {a b c : List Nat} {ms ns : List Mv} (h : Lead a ms b) (k : Lead b ns c) : Lead a (ms ++ ns) c := fun s => by
  rw [led_app, h s]
  exact k s
theorem Lead.more {a b : List Nat} {ms : List Mv} (h : Lead a ms b) (s : List Nat) : Lead (a ++ s) ms (b ++ s) := fun t => by
  rw [List.append_assoc, List.append_assoc]
  exact h (s ++ t)
theorem Lead.make {a o n b : List Nat} (h : isMv ⟨(a.length : Int), o, n⟩ = true) : Lead (a ++ o ++ b) [⟨(a.length : Int), o, n⟩] (a ++ n ++ b) := fun s => by
  show mkMv (a ++ o ++ b ++ s) _ = _
  have c : canMv (a ++ o ++ b ++ s) ⟨(a.length : Int), o, n⟩ = true := by
    unfold canMv
    simp
    omega
  rw [mkMv_some h c]
  congr 1
  unfold doMv
  simp
theorem Lead.cast {a b a' b' : List Nat} {ms : List Mv} (h : Lead a ms b) (e : a = a') (k : b = b') : Lead a' ms b' := by rw [← e, ← k]; exact h
theorem Lead.num {a b : List Nat} {ms : List Mv} (h : Lead a ms b) : run (0, 1) b = run (0, 1) a := by
  have key : ∀ (ms : List Mv) (d x : List Nat), led d ms = some x → run (0, 1) x = run (0, 1) d := by
    intro ms
    induction ms with
    | nil =>
      intro d x h
      cases h
      rfl
    | cons m r ih =>
      intro d x h
      have e : led d (m :: r) = (led d [m]).bind fun y => led y r := led_app d [m] r
      rw [e] at h
      cases hy : led d [m] with
      | none => rw [hy] at h; cases h
      | some y =>
        rw [hy] at h
        rw [ih y x h]
        exact mk_num hy
  have := key ms (a ++ []) (b ++ []) (h [])
  rw [List.append_nil, List.append_nil] at this
  exact this
theorem isMv_put {u : List Nat} {p : Int} (h : u ∈ wds) : isMv ⟨p, [], u⟩ = true := by
  have ne : u ≠ [] := fun z => by subst z; revert h; decide
  unfold isMv
  simp [ne, h]
theorem isMv_take {u : List Nat} {p : Int} (h : u ∈ wds) : isMv ⟨p, u, []⟩ = true := by
  have ne : u ≠ [] := fun z => by subst z; revert h; decide
  unfold isMv
  simp [ne, h]
/-! the rows that the front makes -/
theorem lead_UT (a : List Nat) : Lead (a ++ [85, 84]) [⟨(a.length : Int), [85, 84], []⟩] a :=
  (Lead.make (a := a) (o := [85, 84]) (n := []) (b := []) (isMv_take (by decide))).cast (by simp) (by simp)
theorem lead_TU (a : List Nat) : Lead (a ++ [84, 85]) [⟨(a.length : Int), [84, 85], []⟩] a :=
  (Lead.make (a := a) (o := [84, 85]) (n := []) (b := []) (isMv_take (by decide))).cast (by simp) (by simp)
theorem lead_RR (a : List Nat) : Lead (a ++ [82, 82]) [⟨(a.length : Int), [82, 82], []⟩] a :=
  (Lead.make (a := a) (o := [82, 82]) (n := []) (b := []) (isMv_take (by decide))).cast (by simp) (by simp)
theorem lead_TRTRT (a : List Nat) : Lead (a ++ [84, 82, 84, 82, 84]) [⟨((a ++ [84, 82, 84, 82, 84]).length : Int), [], [82, 82]⟩, ⟨(a.length : Int), [84, 82, 84, 82, 84, 82], []⟩] (a ++ [82]) :=
  Lead.trans ((Lead.make (a := a ++ [84, 82, 84, 82, 84]) (o := []) (n := [82, 82]) (b := []) (isMv_put (by decide))).cast (by simp) rfl)
    ((Lead.make (a := a) (o := [84, 82, 84, 82, 84, 82]) (n := []) (b := [82]) (isMv_take (by decide))).cast (by simp) (by simp))
theorem lead_RT : Lead [82, 84] [⟨2, [], [82, 82]⟩, ⟨0, [82, 84, 82], []⟩] [82] :=
  Lead.trans ((Lead.make (a := [82, 84]) (o := []) (n := [82, 82]) (b := []) (isMv_put (by decide))).cast rfl rfl)
    ((Lead.make (a := []) (o := [82, 84, 82]) (n := []) (b := [82]) (by decide)).cast rfl rfl)
theorem lead_RU : Lead [82, 85] [⟨0, [], [82, 84, 82]⟩, ⟨2, [82, 82], []⟩, ⟨1, [84, 85], []⟩] [82] :=
  Lead.trans ((Lead.make (a := []) (o := []) (n := [82, 84, 82]) (b := [82, 85]) (by decide)).cast rfl rfl)
    (Lead.trans ((Lead.make (a := [82, 84]) (o := [82, 82]) (n := []) (b := [85]) (by decide)).cast rfl rfl)
      ((Lead.make (a := [82]) (o := [84, 85]) (n := []) (b := []) (by decide)).cast rfl rfl))
theorem lead_TRT : Lead [84, 82, 84] [⟨0, [], [82, 84, 82]⟩, ⟨6, [], [82, 82]⟩, ⟨1, [84, 82, 84, 82, 84, 82], []⟩, ⟨0, [82, 82], []⟩] [] :=
  Lead.trans ((Lead.make (a := []) (o := []) (n := [82, 84, 82]) (b := [84, 82, 84]) (by decide)).cast rfl rfl)
    (Lead.trans ((Lead.make (a := [82, 84, 82, 84, 82, 84]) (o := []) (n := [82, 82]) (b := []) (by decide)).cast rfl rfl)
      (Lead.trans ((Lead.make (a := [82]) (o := [84, 82, 84, 82, 84, 82]) (n := []) (b := [82]) (by decide)).cast rfl rfl)
        ((Lead.make (a := []) (o := [82, 82]) (n := []) (b := []) (by decide)).cast rfl rfl)))
theorem lead_spread0 : Lead [85] [⟨1, [], [84, 82, 84, 82, 84, 82]⟩, ⟨0, [85, 84], []⟩, ⟨0, [82, 84, 82], []⟩] [84, 82] :=
  Lead.trans ((Lead.make (a := [85]) (o := []) (n := [84, 82, 84, 82, 84, 82]) (b := []) (by decide)).cast rfl rfl)
    (Lead.trans ((Lead.make (a := []) (o := [85, 84]) (n := []) (b := [82, 84, 82, 84, 82]) (by decide)).cast rfl rfl)
      ((Lead.make (a := []) (o := [82, 84, 82]) (n := []) (b := [84, 82]) (by decide)).cast rfl rfl))
theorem lead_spread (y : List Nat) : Lead (y ++ [82, 85]) [⟨((y ++ [82, 85]).length : Int), [], [84, 82, 84, 82, 84, 82]⟩, ⟨((y ++ [82]).length : Int), [85, 84], []⟩, ⟨(y.length : Int), [82, 82], []⟩] (y ++ [84, 82, 84, 82]) :=
  Lead.trans ((Lead.make (a := y ++ [82, 85]) (o := []) (n := [84, 82, 84, 82, 84, 82]) (b := []) (isMv_put (by decide))).cast (by simp) rfl)
    (Lead.trans ((Lead.make (a := y ++ [82]) (o := [85, 84]) (n := []) (b := [82, 84, 82, 84, 82]) (isMv_take (by decide))).cast (by simp) rfl)
      ((Lead.make (a := y) (o := [82, 82]) (n := []) (b := [84, 82, 84, 82]) (isMv_take (by decide))).cast (by simp) (by simp)))
theorem lead_finish (x : List Nat) : Lead (x ++ [84, 82, 84, 82]) [⟨((x ++ [84, 82, 84, 82]).length : Int), [], [84, 85]⟩, ⟨((x ++ [84, 82, 84, 82, 84]).length : Int), [], [82, 82]⟩, ⟨(x.length : Int), [84, 82, 84, 82, 84, 82], []⟩] (x ++ [82, 85]) :=
  Lead.trans ((Lead.make (a := x ++ [84, 82, 84, 82]) (o := []) (n := [84, 85]) (b := []) (isMv_put (by decide))).cast (by simp) rfl)
    (Lead.trans ((Lead.make (a := x ++ [84, 82, 84, 82, 84]) (o := []) (n := [82, 82]) (b := [85]) (isMv_put (by decide))).cast (by simp) rfl)
      ((Lead.make (a := x) (o := [84, 82, 84, 82, 84, 82]) (n := []) (b := [82, 85]) (isMv_take (by decide))).cast (by simp) (by simp)))
theorem lead_finish0 : Lead [84, 82] [⟨0, [], [82, 84, 82]⟩, ⟨0, [], [85, 84]⟩, ⟨1, [84, 82, 84, 82, 84, 82], []⟩] [85] :=
  Lead.trans ((Lead.make (a := []) (o := []) (n := [82, 84, 82]) (b := [84, 82]) (by decide)).cast rfl rfl)
    (Lead.trans ((Lead.make (a := []) (o := []) (n := [85, 84]) (b := [82, 84, 82, 84, 82]) (by decide)).cast rfl rfl)
      ((Lead.make (a := [85]) (o := [84, 82, 84, 82, 84, 82]) (n := []) (b := []) (by decide)).cast rfl rfl))
end
section
open TL (joinL)
/-! ### what the front is after each letter -/
inductive Pf : List Nat → Prop
  | nil : Pf []
  | snoc {w : List Nat} (a : Nat) : Pf w → Pf (w ++ (List.replicate (a + 2) 84 ++ [82]))
inductive Fst : List Nat → Prop
  | A {w : List Nat} (b : Int) : Pf w → Fst (w ++ rn b)
  | B {w : List Nat} (m : Nat) : Pf w → Fst (w ++ ([84, 82] ++ List.replicate m 85))
  | C : Fst [82]
def wt (x : List Nat) : Nat := x.length + 2 * x.count 85
theorem wt_app (x y : List Nat) : wt (x ++ y) = wt x + wt y := by
  unfold wt
  rw [List.length_append, List.count_append]
  omega
theorem wt_U (m : Nat) : wt (List.replicate m 85) = 3 * m := by
  unfold wt
  rw [List.length_replicate, List.count_replicate_self]
  omega
theorem wt_T (m : Nat) : wt (List.replicate m 84) = m := by
  unfold wt
  rw [List.length_replicate, List.count_replicate]
  simp
theorem rn_nat (n : Nat) : rn (n : Int) = List.replicate n 84 := by
  unfold rn
  rw [if_neg (by omega), Int.toNat_natCast]
theorem rn_neg (n : Nat) : rn (-(n : Int)) = List.replicate n 85 := by
  unfold rn
  by_cases h : n = 0
  · subst h
    rfl
  · rw [if_pos (by omega), Int.neg_neg, Int.toNat_natCast]
theorem rep_snoc (n c : Nat) : List.replicate n c ++ [c] = List.replicate (n + 1) c := List.replicate_succ'.symm
/-- from c behind x to x' -/
def Goes (x : List Nat) (x' : List Nat) (k : Nat) : Prop := ∃ ms, Lead x ms x' ∧ Fst x' ∧ wt x' ≤ k
theorem spreads : ∀ (m : Nat) {w : List Nat}, Pf w → ∃ ms w', Pf w' ∧ Lead (w ++ ([84, 82] ++ List.replicate m 85)) ms (w' ++ [84, 82]) ∧ wt w' = wt w + 3 * m
  | 0, w, h => ⟨[], w, h, (Lead.refl _).cast rfl (by simp), rfl⟩
  | m + 1, w, h => by
    obtain ⟨ms, w', h', l, e⟩ := spreads m (Pf.snoc 0 h)
    refine ⟨_, w', h', Lead.trans (((lead_spread (w ++ [84])).more (List.replicate m 85)).cast ?_ ?_) l, ?_⟩
    · rw [List.replicate_succ]
      simp
    · simp [List.replicate]
    · rw [e, wt_app]
      show wt w + 3 + 3 * m = _
      omega
theorem goes_turn {w : List Nat} (h : Pf w) (m : Nat) : ∃ ms w', Pf w' ∧ Lead (w ++ ([84, 82] ++ List.replicate m 85) ++ [82]) ms (w' ++ rn 1) ∧ wt w' = wt w + 3 * m := by
  obtain ⟨ms, w', h', l, e⟩ := spreads m h
  exact ⟨_, w', h', Lead.trans (l.more [82]) ((lead_RR (w' ++ [84])).cast (by simp) rfl), e⟩
theorem goes {x : List Nat} (h : Fst x) {c : Nat} (hc : c = 84 ∨ c = 85 ∨ c = 82) : ∃ x', Goes (x ++ [c]) x' (wt x + 3) := by
  have o4 : wt [84] = 1 := rfl
  have o5 : wt [85] = 3 := rfl
  have o2 : wt [82] = 1 := rfl
  have otr : wt [84, 82] = 2 := rfl
  cases h with
  | @A w b hw =>
    obtain ⟨n, rfl | rfl⟩ : ∃ n : Nat, b = (n : Int) ∨ b = -((n + 1 : Nat) : Int) := by
      by_cases hb : 0 ≤ b
      · exact ⟨b.toNat, .inl (by omega)⟩
      · exact ⟨(-b).toNat - 1, .inr (by omega)⟩
    · rcases hc with rfl | rfl | rfl
      · refine ⟨w ++ rn ((n + 1 : Nat) : Int), [], (Lead.refl _).cast rfl ?_, .A _ hw, ?_⟩
        · rw [rn_nat, rn_nat, List.append_assoc, rep_snoc]
        · rw [rn_nat, rn_nat, wt_app, wt_app, wt_T, wt_T]
          omega
      · cases n with
        | zero =>
          refine ⟨w ++ rn (-((1 : Nat) : Int)), [], (Lead.refl _).cast rfl ?_, .A _ hw, ?_⟩
          · rw [rn_nat, rn_neg, List.append_assoc]
            rfl
          · rw [rn_nat, rn_neg, wt_app, wt_app, wt_T, wt_U]
            omega
        | succ k =>
          refine ⟨w ++ rn (k : Int), _, (lead_TU (w ++ rn (k : Int))).cast ?_ rfl, .A _ hw, ?_⟩
          · rw [rn_nat, rn_nat, ← rep_snoc]
            simp
          · rw [rn_nat, rn_nat, wt_app, wt_app, wt_T, wt_T]
            omega
      · match n with
        | 0 =>
          cases hw with
          | nil => exact ⟨[82], [], Lead.refl _, .C, by decide⟩
          | @snoc w1 a h1 =>
            refine ⟨w1 ++ rn ((a + 2 : Nat) : Int), _, (lead_RR (w1 ++ List.replicate (a + 2) 84)).cast ?_ (by rw [rn_nat]), .A _ h1, ?_⟩
            · rw [rn_nat]
              simp
            · rw [rn_nat, rn_nat, wt_app, wt_app, wt_app, wt_app, wt_T, wt_T]
              omega
        | 1 =>
          refine ⟨w ++ ([84, 82] ++ List.replicate 0 85), [], (Lead.refl _).cast rfl ?_, .B 0 hw, ?_⟩
          · rw [rn_nat]
            simp
          · rw [rn_nat, wt_app, wt_app, wt_app, wt_T, wt_U, otr]
            omega
        | n + 2 =>
          refine ⟨(w ++ (List.replicate (n + 2) 84 ++ [82])) ++ rn ((0 : Nat) : Int), [], (Lead.refl _).cast rfl ?_, .A _ (.snoc n hw), ?_⟩
          · rw [rn_nat, rn_nat]
            simp
          · rw [rn_nat, rn_nat, wt_app, wt_app, wt_app, wt_app, wt_T, wt_T, o2]
            omega
    · rcases hc with rfl | rfl | rfl
      · refine ⟨w ++ rn (-(n : Int)), _, (lead_UT (w ++ rn (-(n : Int)))).cast ?_ rfl, .A _ hw, ?_⟩
        · rw [rn_neg, rn_neg, ← rep_snoc]
          simp
        · rw [rn_neg, rn_neg, wt_app, wt_app, wt_U, wt_U]
          omega
      · refine ⟨w ++ rn (-((n + 2 : Nat) : Int)), [], (Lead.refl _).cast rfl ?_, .A _ hw, ?_⟩
        · rw [rn_neg, rn_neg, List.append_assoc, rep_snoc]
        · rw [rn_neg, rn_neg, wt_app, wt_app, wt_U, wt_U]
          omega
      · cases hw with
        | nil =>
          obtain ⟨ms, w', h', l, e⟩ := goes_turn Pf.nil n
          refine ⟨w' ++ rn 1, _, Lead.trans ((lead_spread0.more (List.replicate n 85 ++ [82])).cast ?_ ?_) l, .A 1 h', ?_⟩
          · rw [rn_neg, List.replicate_succ]
            simp
          · simp
          · rw [rn_neg, wt_app, wt_app, wt_U, e]
            show wt [] + 3 * n + 1 ≤ wt [] + 3 * (n + 1) + 3
            omega
        | @snoc w1 a h1 =>
          obtain ⟨ms, w', h', l, e⟩ := goes_turn (Pf.snoc (a + 1) h1) n
          refine ⟨w' ++ rn 1, _, Lead.trans (((lead_spread (w1 ++ List.replicate (a + 2) 84)).more (List.replicate n 85 ++ [82])).cast ?_ ?_) l, .A 1 h', ?_⟩
          · rw [rn_neg, show List.replicate (n + 1) 85 = 85 :: List.replicate n 85 from List.replicate_succ]
            simp
          · rw [show a + 1 + 2 = (a + 2) + 1 by omega, ← rep_snoc (a + 2) 84]
            simp
          · rw [rn_neg, wt_app, wt_app, wt_U, e, wt_app, wt_app, wt_T, wt_app, wt_app, wt_T]
            show wt w1 + (a + 1 + 2 + wt [82]) + 3 * n + 1 ≤ wt w1 + (a + 2 + wt [82]) + 3 * (n + 1) + 3
            omega
  | @B w m hw =>
    rcases hc with rfl | rfl | rfl
    · cases m with
      | zero =>
        cases hw with
        | nil => exact ⟨[] ++ rn 0, _, lead_TRT.cast rfl rfl, .A 0 .nil, by decide⟩
        | @snoc w1 a h1 =>
          cases a with
          | zero =>
            refine ⟨w1 ++ ([84, 82] ++ List.replicate 0 85), _, (lead_TRTRT (w1 ++ [84])).cast ?_ (by simp), .B 0 h1, ?_⟩
            · simp [List.replicate]
            · rw [wt_app, wt_app, wt_app, wt_app, wt_app, wt_app, wt_T, wt_U, otr, o2]
              omega
          | succ a =>
            refine ⟨(w1 ++ (List.replicate (a + 2) 84 ++ [82])) ++ rn 0, _, (lead_TRTRT (w1 ++ List.replicate (a + 2) 84)).cast ?_ ?_, .A 0 (.snoc a h1), ?_⟩
            · rw [show a + 1 + 2 = (a + 2) + 1 by omega, ← rep_snoc (a + 2) 84]
              simp
            · show _ = _ ++ []
              simp
            · rw [wt_app, wt_app, wt_app, wt_app, wt_app, wt_app, wt_app, wt_T, wt_T, wt_U, otr, o2]
              show wt w1 + (a + 2 + 1) + 0 ≤ _
              omega
      | succ m =>
        refine ⟨w ++ ([84, 82] ++ List.replicate m 85), _, (lead_UT (w ++ ([84, 82] ++ List.replicate m 85))).cast ?_ rfl, .B m hw, ?_⟩
        · rw [← rep_snoc]
          simp
        · rw [wt_app, wt_app, wt_app, wt_app, wt_U, wt_U]
          omega
    · refine ⟨w ++ ([84, 82] ++ List.replicate (m + 1) 85), [], (Lead.refl _).cast rfl ?_, .B (m + 1) hw, ?_⟩
      · rw [← rep_snoc]
        simp
      · rw [wt_app, wt_app, wt_app, wt_app, wt_U, wt_U]
        omega
    · obtain ⟨ms, w', h', l, e⟩ := goes_turn hw m
      refine ⟨w' ++ rn 1, ms, l, .A 1 h', ?_⟩
      rw [wt_app, wt_app, wt_app, wt_U, e, otr]
      show wt w + 3 * m + 1 ≤ _
      omega
  | C =>
    rcases hc with rfl | rfl | rfl
    · exact ⟨[82], _, lead_RT, .C, by decide⟩
    · exact ⟨[82], _, lead_RU, .C, by decide⟩
    · exact ⟨[] ++ rn 0, _, (lead_RR []).cast rfl rfl, .A 0 .nil, by decide⟩
/-! ### the end: a dance of the standard form -/
def Form (x : List Nat) : Prop := x = [82] ∨ ∃ (r : List Int) (b : Int), (∀ y ∈ r, 2 ≤ y) ∧ x = joinL [82] ((r ++ [b]).map rn)
theorem pf_join {w : List Nat} (h : Pf w) : ∃ r : List Int, (∀ y ∈ r, 2 ≤ y) ∧ ∀ b : Int, w ++ rn b = joinL [82] ((r ++ [b]).map rn) := by
  induction h with
  | nil => exact ⟨[], fun y h => (by cases h), fun b => rfl⟩
  | @snoc w a hw ih =>
    obtain ⟨r, h2, e⟩ := ih
    refine ⟨r ++ [((a + 2 : Nat) : Int)], fun y hy => ?_, fun b => ?_⟩
    · rcases List.mem_append.mp hy with hy | hy
      · exact h2 y hy
      · rw [List.mem_singleton.mp hy]
        omega
    · rw [List.map_append, List.map_singleton, joinL_snoc [82] _ (fun z => by simp at z), ← e, rn_nat]
      simp
theorem ends_B : ∀ {w : List Nat}, Pf w → ∀ m : Nat, ∃ ms w' b, Pf w' ∧ Lead (w ++ ([84, 82] ++ List.replicate m 85)) ms (w' ++ rn b) ∧ wt (w' ++ rn b) ≤ wt (w ++ ([84, 82] ++ List.replicate m 85)) + 1 := by
  have o2 : wt [82] = 1 := rfl
  have otr : wt [84, 82] = 2 := rfl
  intro w h
  induction h with
  | nil =>
    intro m
    refine ⟨_, [], -((m + 1 : Nat) : Int), .nil, (lead_finish0.more (List.replicate m 85)).cast (by simp) ?_, ?_⟩
    · rw [rn_neg, List.replicate_succ]
      rfl
    · rw [rn_neg, wt_app, wt_app, wt_app, wt_U, wt_U, otr]
      omega
  | @snoc w a hw ih =>
    intro m
    have l0 : Lead (w ++ (List.replicate (a + 2) 84 ++ [82]) ++ ([84, 82] ++ List.replicate m 85)) [⟨(((w ++ List.replicate (a + 1) 84) ++ [84, 82, 84, 82]).length : Int), [], [84, 85]⟩, ⟨(((w ++ List.replicate (a + 1) 84) ++ [84, 82, 84, 82, 84]).length : Int), [], [82, 82]⟩, ⟨((w ++ List.replicate (a + 1) 84).length : Int), [84, 82, 84, 82, 84, 82], []⟩] (w ++ (List.replicate (a + 1) 84 ++ [82]) ++ List.replicate (m + 1) 85) := by
      refine ((lead_finish (w ++ List.replicate (a + 1) 84)).more (List.replicate m 85)).cast ?_ ?_
      · rw [show a + 2 = (a + 1) + 1 by omega, ← rep_snoc (a + 1) 84]
        simp
      · rw [show List.replicate (m + 1) 85 = 85 :: List.replicate m 85 from List.replicate_succ]
        simp
    cases a with
    | zero =>
      obtain ⟨ms, w', b, h', l, e⟩ := ih (m + 1)
      refine ⟨_, w', b, h', Lead.trans (l0.cast rfl ?_) l, Nat.le_trans e ?_⟩
      · simp
      · rw [wt_app, wt_app, wt_app, wt_app, wt_app, wt_app, wt_T, wt_U, wt_U, otr, o2]
        omega
    | succ a =>
      refine ⟨_, w ++ (List.replicate (a + 2) 84 ++ [82]), -((m + 1 : Nat) : Int), .snoc a hw, l0.cast rfl (by rw [rn_neg]), ?_⟩
      rw [rn_neg, wt_app, wt_app, wt_app, wt_app, wt_app, wt_app, wt_app, wt_T, wt_T, wt_U, wt_U, otr, o2]
      omega
theorem ends {x : List Nat} (h : Fst x) : ∃ ms x', Lead x ms x' ∧ Form x' ∧ wt x' ≤ wt x + 1 := by
  have form : ∀ {w : List Nat} (b : Int), Pf w → Form (w ++ rn b) := fun b hw => by
    obtain ⟨r, h2, e⟩ := pf_join hw
    exact .inr ⟨r, b, h2, e b⟩
  cases h with
  | A b hw => exact ⟨[], _, Lead.refl _, form b hw, by omega⟩
  | B m hw =>
    obtain ⟨ms, w', b, h', l, e⟩ := ends_B hw m
    exact ⟨ms, _, l, form b h', e⟩
  | C => exact ⟨[], _, Lead.refl _, .inl rfl, by omega⟩
theorem leads_all : ∀ (l : List Nat), (∀ c ∈ l, c = 84 ∨ c = 85 ∨ c = 82) → ∀ {x : List Nat}, Fst x → ∃ ms x', Lead (x ++ l) ms x' ∧ Fst x' ∧ wt x' ≤ wt x + 3 * l.length
  | [], _, x, h => ⟨[], x, (Lead.refl _).cast (by simp) rfl, h, by simp⟩
  | c :: r, hl, x, h => by
    obtain ⟨x1, ms, l1, h1, e1⟩ := goes h (hl c List.mem_cons_self)
    obtain ⟨ns, x2, l2, h2, e2⟩ := leads_all r (fun d hd => hl d (List.mem_cons_of_mem _ hd)) h1
    refine ⟨_, x2, Lead.trans ((l1.more r).cast (by simp) rfl) l2, h2, ?_⟩
    rw [List.length_cons]
    omega
theorem form_is {x : List Nat} (h : Form x) : stv (run (0, 1) x) = x := by
  rcases h with rfl | ⟨r, b, h2, rfl⟩
  · rfl
  · exact form_std h2
/-- each dance is led to the standard dance of its number, whose length is at most three for each letter and one more -/
theorem leads_std {l : List Nat} (hl : ∀ c ∈ l, c = 84 ∨ c = 85 ∨ c = 82) : ∃ ms, Lead l ms (stv (run (0, 1) l)) ∧ (stv (run (0, 1) l)).length ≤ 3 * l.length + 1 := by
  obtain ⟨ms, x, l1, h1, e1⟩ := leads_all l hl (x := [] ++ rn 0) (.A 0 .nil)
  obtain ⟨ns, y, l2, h2, e2⟩ := ends h1
  have L := Lead.trans (l1.cast (show ([] ++ rn 0) ++ l = l from rfl) rfl) l2
  have e := form_is h2
  rw [L.num] at e
  rw [e]
  refine ⟨_, L, ?_⟩
  have : wt ([] ++ rn 0) = 0 := rfl
  have : y.length ≤ wt y := by unfold wt; omega
  omega
end
/-! ### the four ends -/
inductive End where
  | nw | ne | sw | se
  deriving DecidableEq
namespace End
def nm : End → Str
  | nw => "nw"
  | ne => "ne"
  | sw => "sw"
  | se => "se"
theorem nm_inj : ∀ {a b : End}, nm a = nm b → a = b := by
  intro a b e
  cases a <;> cases b <;> first | rfl | exact absurd e (by decide +kernel)
/-- where a letter moves what lies at an end -/
def mturn : End → End
  | sw => nw
  | nw => ne
  | ne => se
  | se => sw
def mswap : End → End
  | nw => nw
  | ne => se
  | sw => sw
  | se => ne
def mv (c : Nat) (e : End) : End := if c = 82 then mturn e else mswap e
theorem mv_inj (c : Nat) {a b : End} (h : mv c a = mv c b) : a = b := by
  unfold mv at h
  split at h <;> cases a <;> cases b <;> first | rfl | cases h
def mate : End → End
  | nw => ne
  | ne => nw
  | sw => se
  | se => sw
def pos (l : List Nat) (e : End) : End := l.foldl (fun x c => mv c x) e
theorem pos_take {l : List Nat} {i c : Nat} (e : End) (h : l[i]? = some c) : pos (l.take (i + 1)) e = mv c (pos (l.take i) e) := by
  unfold pos
  rw [List.take_add_one, h, List.foldl_append]
  rfl
theorem pos_inj : ∀ (l : List Nat) {a b : End}, pos l a = pos l b → a = b
  | [], _, _, h => h
  | c :: r, _, _, h => mv_inj c (pos_inj r h)
/-- the partner of nw -/
def pturn : End → End
  | nw => nw
  | ne => sw
  | sw => ne
  | se => se
def pswap : End → End
  | nw => nw
  | ne => se
  | sw => sw
  | se => ne
def pstep (c : Nat) (p : End) : End := if c = 82 then pturn p else pswap p
theorem pstep_R (p : End) : pstep 82 p = pturn p := if_pos rfl
theorem pstep_X {c : Nat} (h : ¬ c = 82) (p : End) : pstep c p = pswap p := if_neg h
def pn (l : List Nat) : End := l.foldl (fun p c => pstep c p) ne
theorem pn_take {l : List Nat} {i c : Nat} (h : l[i]? = some c) : pn (l.take (i + 1)) = pstep c (pn (l.take i)) := by
  unfold pn
  rw [List.take_add_one, h, List.foldl_append]
  rfl
/-- the joining in which nw has the partner p -/
def jsw : End → End
  | nw => sw
  | sw => nw
  | ne => se
  | se => ne
def jse : End → End
  | nw => se
  | se => nw
  | ne => sw
  | sw => ne
def jn : End → End → End
  | ne => mate
  | sw => jsw
  | se => jse
  | nw => jse
theorem jn_step (c : Nat) (p e : End) (h : p ≠ nw) : mv c (jn p e) = jn (pstep c p) (mv c e) := by
  unfold mv pstep
  by_cases hc : c = 82
  · simp only [if_pos hc]
    cases p <;> cases e <;> first | rfl | exact absurd rfl h
  · simp only [if_neg hc]
    cases p <;> cases e <;> first | rfl | exact absurd rfl h
theorem pstep_ne (c : Nat) {p : End} (h : p ≠ nw) : pstep c p ≠ nw := by
  unfold pstep
  by_cases hc : c = 82
  · simp only [if_pos hc]
    cases p <;> first | exact absurd rfl h | (intro z; cases z)
  · simp only [if_neg hc]
    cases p <;> first | exact absurd rfl h | (intro z; cases z)
theorem foldl_snoc {α β : Type} (f : α → β → α) (a : α) (l : List β) (b : β) : (l ++ [b]).foldl f a = f (l.foldl f a) b := by rw [List.foldl_append]; rfl
theorem both (l : List Nat) : pn l ≠ nw ∧ ∀ e, pos l (mate e) = jn (pn l) (pos l e) := by
  suffices h : ∀ n, ∀ l : List Nat, l.length = n → pn l ≠ nw ∧ ∀ e, pos l (mate e) = jn (pn l) (pos l e) from h _ l rfl
  intro n
  induction n with
  | zero =>
    intro l hl
    cases List.eq_nil_of_length_eq_zero hl
    exact ⟨(by intro z; cases z), fun e => rfl⟩
  | succ n ih =>
    intro l hl
    have hne : l ≠ [] := fun z => by rw [z] at hl; cases hl
    obtain ⟨r, c, rfl⟩ : ∃ r c, l = r ++ [c] := ⟨l.dropLast, l.getLast hne, (List.dropLast_concat_getLast hne).symm⟩
    have hr : r.length = n := by rw [List.length_append, List.length_singleton] at hl; omega
    obtain ⟨h1, h2⟩ := ih r hr
    have e1 : pn (r ++ [c]) = pstep c (pn r) := foldl_snoc _ _ _ _
    have e2 : ∀ e, pos (r ++ [c]) e = mv c (pos r e) := fun e => foldl_snoc _ _ _ _
    rw [e1]
    exact ⟨pstep_ne c h1, fun e => by rw [e2, e2, h2, jn_step c _ _ h1]⟩
/-- the ropes' numbers at nw, ne, sw, se, where nw has the partner p -/
def Rp (a b c d : Int) (p : End) : Prop := match p with
  | ne => a = b ∧ c = d ∧ a ≠ c
  | sw => a = c ∧ b = d ∧ a ≠ b
  | se => a = d ∧ b = c ∧ a ≠ b
  | nw => False
theorem Rp.turn {a b c d : Int} {p : End} (h : Rp a b c d p) : Rp c a d b (pstep 82 p) := by
  rw [pstep_R]
  cases p <;> simp only [Rp, pturn] at * <;> first | exact h | omega
theorem Rp.swap {a b c d : Int} {p : End} {x : Nat} (hx : ¬ x = 82) (h : Rp a b c d p) : Rp a d c b (pstep x p) := by
  rw [pstep_X hx]
  cases p <;> simp only [Rp, pswap] at * <;> first | exact h | omega
theorem Rp.mine {a b c d : Int} {p : End} (h : Rp a b c d p) : (b = a ↔ p = ne) ∧ (c = a ↔ p = sw) := by
  cases p <;> simp only [Rp] at h
  · obtain ⟨h1, h2, h3⟩ := h
    exact ⟨⟨fun _ => rfl, fun _ => h1.symm⟩, ⟨fun z => absurd z.symm h3, fun z => by cases z⟩⟩
  · obtain ⟨h1, h2, h3⟩ := h
    exact ⟨⟨fun z => absurd z.symm h3, fun z => by cases z⟩, ⟨fun _ => rfl, fun _ => h1.symm⟩⟩
  · obtain ⟨h1, h2, h3⟩ := h
    exact ⟨⟨fun z => absurd z.symm h3, fun z => by cases z⟩, ⟨fun z => absurd (z.symm.trans h2.symm) h3, fun z => by cases z⟩⟩
/-- the parities of the number -/
def Par (v : Int × Int) (p : End) : Prop := match p with
  | ne => v.1 % 2 = 0 ∧ v.2 % 2 = 1
  | sw => v.1 % 2 = 1 ∧ v.2 % 2 = 0
  | se => v.1 % 2 = 1 ∧ v.2 % 2 = 1
  | nw => False
theorem Par.step {v : Int × Int} {p : End} {c : Nat} (hc : c = 84 ∨ c = 85 ∨ c = 82) (h : Par v p) : Par (called v c) (pstep c p) := by
  obtain ⟨x, y⟩ := v
  rcases hc with rfl | rfl | rfl
  · rw [pstep_X (by decide), show called (x, y) 84 = (x + y, y) from rfl]
    cases p <;> simp only [Par, pswap] at * <;> omega
  · rw [pstep_X (by decide), show called (x, y) 85 = (x - y, y) from rfl]
    cases p <;> simp only [Par, pswap] at * <;> omega
  · rw [pstep_R]
    unfold called
    rw [if_neg (by decide), if_neg (by decide)]
    by_cases h1 : 0 < x
    · rw [if_pos (show 0 < (x, y).1 from h1)]
      cases p <;> simp only [Par, pturn] at * <;> omega
    · rw [if_neg (show ¬ 0 < (x, y).1 from h1)]
      by_cases h2 : x < 0
      · rw [if_pos (show (x, y).1 < 0 from h2)]
        cases p <;> simp only [Par, pturn] at * <;> omega
      · rw [if_neg (show ¬ (x, y).1 < 0 from h2)]
        have h3 : x = 0 := by omega
        subst h3
        cases p <;> simp only [Par, pturn] at * <;> omega
theorem par_run (l : List Nat) (hl : Lets l) : Par (run (0, 1) l) (pn l) := by
  suffices h : ∀ i, i ≤ l.length → Par (run (0, 1) (l.take i)) (pn (l.take i)) by
    have := h l.length (Nat.le_refl _)
    rwa [List.take_of_length_le (Nat.le_refl _)] at this
  intro i
  induction i with
  | zero => intro _; exact ⟨by show (0 : Int) % 2 = 0; decide, by show (1 : Int) % 2 = 1; decide⟩
  | succ i ih =>
    intro hi
    have h1 : i < l.length := hi
    rw [run_take _ (List.getElem?_eq_getElem h1), pn_take (List.getElem?_eq_getElem h1)]
    exact (ih (Nat.le_of_lt h1)).step (hl _ (List.getElem_mem h1))
/-! the closed ropes, as the law counts them -/
def walk (J td : End → End) : Nat → List End × End → List End × End
  | 0, s => s
  | n + 1, s => walk J td n (s.1 ++ [s.2, J s.2], td (J s.2))
def goesE (J td : End → End) (s : List End × Nat) (e : End) : List End × Nat := if s.1.contains e then s else ((walk J td 4 (s.1, e)).1, s.2 + 1)
def all4 : List End := [nw, ne, sw, se]
def count (J td : End → End) : Nat := (all4.foldl (goesE J td) ([], 0)).2
/-- the ends that a way ties -/
def tie (down : Bool) : End → End := if down then jn sw else mate
theorem count_is (p : End) (h : p ≠ nw) (down : Bool) : count (jn p) (tie down) = if p = tie down nw then 2 else 1 := by
  cases p <;> cases down <;> first | decide | exact absurd rfl h
end End
section
theorem log_okL {j : Int} (h : j.natAbs < 2 ^ 201) : j.natAbs.log2 < 9000 := Nat.lt_of_lt_of_le (PySem.Flt.log2_lt_of (by decide) h) (by decide)
/-- its standard dance is short enough to be written out -/
structure SvL (v : Int × Int) : Prop where
  good : Good v
  s2 : v.2.natAbs < 2 ^ 201
  len : (stv v).length ≤ 14000000
theorem svL_run {l : List Nat} (hl : Lets l) (h : l.length ≤ 200) : SvL (run (0, 1) l) := by
  obtain ⟨ms, _, e⟩ := leads_std hl
  have := run_size l (v := (0, 1)) (n := 1) (by decide) (by decide) (by decide)
  refine ⟨good_run l Good.zero, ?_, by omega⟩
  have k : 2 ^ l.length ≤ 2 ^ 200 := Nat.pow_le_pow_right (by decide) h
  omega
def spStdL : Sp := fun vs H Q _ => ∃ (t : Addr) (v : Int × Int), vs = [.ref t] ∧ Tup2 H t v ∧ SvL v ∧ ∀ H', Same H H' → Q (.str (S (stv v))) H'
theorem lets_rn (b : Int) : Lets (rn b) := fun c hc => by
  unfold rn at hc
  split at hc
  · exact .inr (.inl (List.eq_of_mem_replicate hc))
  · exact .inl (List.eq_of_mem_replicate hc)
theorem lets_join : ∀ {xs : List (List Nat)}, (∀ x ∈ xs, Lets x) → Lets (TL.joinL [82] xs)
  | [], _ => fun c h => by cases h
  | [x], h => h x List.mem_cons_self
  | x :: y :: r, h => fun c hc => by
    have e : TL.joinL [82] (x :: y :: r) = x ++ ([82] ++ TL.joinL [82] (y :: r)) := rfl
    rw [e] at hc
    rcases List.mem_append.mp hc with hc | hc
    · exact h x List.mem_cons_self c hc
    · rcases List.mem_append.mp hc with hc | hc
      · exact .inr (.inr (List.mem_singleton.mp hc))
      · exact lets_join (fun z hz => h z (List.mem_cons_of_mem _ hz)) c hc
theorem lets_stv (v : Int × Int) : Lets (stv v) := by
  unfold stv
  split
  · intro c hc
    exact .inr (.inr (List.mem_singleton.mp hc))
  · exact lets_join fun x hx => by
      obtain ⟨b, _, rfl⟩ := List.mem_map.mp hx
      exact lets_rn b
end
section
theorem e_UUR : (("UUR" : Str)) = S [85, 85, 82] := by decide +kernel
theorem e_TTR : (("TTR" : Str)) = S [84, 84, 82] := by decide +kernel
theorem e_TR : (("TR" : Str)) = S [84, 82] := by decide +kernel
theorem e_RTUR : (("RTUR" : Str)) = S [82, 84, 85, 82] := by decide +kernel
theorem lets_app {l m : List Nat} (h : Lets l) (k : Lets m) : Lets (l ++ m) := fun c hc => by
  rcases List.mem_append.mp hc with hc | hc
  · exact h c hc
  · exact k c hc
theorem lets_rep {l : List Nat} (h : Lets l) (n : Nat) : Lets (List.replicate n l).flatten := fun c hc => by
  obtain ⟨x, hx, hc⟩ := List.mem_flatten.mp hc
  rw [List.eq_of_mem_replicate hx] at hc
  exact h c hc
theorem rep_flat (l : List Nat) (n : Nat) : (List.replicate n l).flatten.length = n * l.length := by simp
theorem lets_take {l : List Nat} (h : Lets l) (n : Nat) : Lets (l.take n) := fun c hc => h c (List.mem_of_mem_take hc)
theorem lets_by {l : List Nat} (h : l.all (fun c => c == 84 || c == 85 || c == 82) = true) : Lets l := fun c hc => by
  have := List.all_eq_true.mp h c hc
  simp only [Bool.or_eq_true, beq_iff_eq] at this
  omega
def spSort : Sp := fun vs H Q _ => ∃ (a : Addr), vs = [.ref a] ∧ Tape H a ∧ ∀ l H', Lets l → l.length ≤ 130 → But a H H' → Q (.str (S l)) H'
end
section
def spToStd : Sp := fun vs H Q _ => ∃ l : List Nat, vs = [.str (S l)] ∧ Lets l ∧ l.length ≤ 130 ∧ ∀ (p : Addr) (ms : List Mv) H', Same H H' → Tl H' p (ms.map Mv.vs) → FitAll ms 6 → ms.length ≤ 60000 → led l ms = some (stv (run (0, 1) l)) → Q (.ref p) H'
def spFormed : Sp := fun vs H Q _ => ∃ (p : Addr) (ms : List Mv), vs = [.ref p] ∧ Tl H p (ms.map Mv.vs) ∧ ∀ H', Same H H' → Q (.bl true) H'
theorem led_some {l x : List Nat} {ms : List Mv} (h : led l ms = some x) (i : Nat) : ∃ d, led l (ms.take i) = some d := by
  cases e : led l (ms.take i) with
  | none =>
    rw [led_stop e] at h
    cases h
  | some d => exact ⟨d, rfl⟩
end

section
theorem dp_tup2 {K : PySem.W.Frag} {H : Hp} {t : Addr} {v : Int × Int} (h : Tup2 H t v) : Dp K H (.ref t) (.tuple [.int v.1, .int v.2]) := .tup (SqT.of h) (.cons (.int _) (.cons (.int _) .nil))
theorem can2 (a b : Int) : PyData.canLay0 (.tuple [.int a, .int b]) = true := by
  simp [PyData.canLay0, PyData.canLayAll0]
theorem sh2 (a b : Int) : SeqAt.shaped (.tuple [.int a, .int b]) = true := by
  unfold SeqAt.shaped
  rw [can2]
  simp [PyData.depth, PyData.depthAll]
theorem canN (a b : Int) : PyData.canLayAll0 [.none, .tuple [.int a, .int b]] = true := by
  simp [PyData.canLay0, PyData.canLayAll0]
theorem shN : SeqAt.shaped .none = true := by
  unfold SeqAt.shaped
  simp [PyData.canLay0, PyData.depth]
/-- not in (None, due), the items data of any depth -/
theorem op_notInT {X : Cx} (hu : X.A.units + 65 < cLine) : OpR X (compareOp .NotIn) (fun x y H Q => ∃ d ds, Dp X.K H x d ∧ Dp X.K H y (.tuple ds) ∧ SeqAt.shaped d = true ∧ PyData.canLayAll0 ds = true ∧ Q (.bl (!ds.any fun z => PyData.eqv z d)) H) := by
  intro pins s σ H x y v u Q I rx ry h
  obtain ⟨d, ds, hd, he, sd, se, q⟩ := h
  obtain ⟨as, r1⟩ := Dp.reads I d x v hd rx
  cases he with
  | tup hs ha =>
    cases ry
    obtain ⟨its, rv, pl, _⟩ := I.tuple hs
    obtain ⟨as2, h4⟩ := Dp.readsAll I ds _ its ha rv
    have h5 : ReadsAll s.heap its.toArray.toList ds as2 := h4
    refine SeqAt.notIn_tupleAt _ pl (SeqAt.items_eqAt (vs := its.toArray) h5 r1 se (SeqAt.canLay_of_shaped sd) (PyProof.Rows.room_in_shaped sd hu)) ⟨.bl _, H, I, ?_, q⟩
    rw [SeqAt.any_by_data h5 se]
    rfl
theorem Room.units65 {k : Nat} {A : Around} (r : Room k A) : A.units + 65 < cLine := by have := r.un; omega
theorem in_due {K : PySem.W.Frag} {H : Hp} {v : V} {l : List Nat} {A : List Int} (h : Is H 1 v (dtR l A)) : ∃ d, Dp K H v d ∧ SeqAt.shaped d = true ∧ ([PyData.none, .tuple [.int (run (0, 1) l).1, .int (run (0, 1) l).2]].any fun z => PyData.eqv z d) = true := by
  by_cases c : isColB l A = true ∧ plainB A = false
  · rw [dtR_some c.1 c.2] at h
    obtain ⟨a, xs, rfl, e2, e3, _, e5⟩ := h
    obtain ⟨y, z, rfl⟩ : ∃ y z, xs = [y, z] := by
      match xs, e3 with
      | [y, z], _ => exact ⟨y, z, rfl⟩
    have h0 : y = V.int (run (0, 1) l).1 := e5 0 y _ rfl rfl
    have h1 : z = V.int (run (0, 1) l).2 := e5 1 z _ rfl rfl
    subst h0 h1
    refine ⟨.tuple [.int (run (0, 1) l).1, .int (run (0, 1) l).2], dp_tup2 (v := run (0, 1) l) e2, sh2 _ _, ?_⟩
    rw [List.any_cons, List.any_cons, SeqAt.eqv_refl _ (can2 _ _)]
    simp
  · unfold dtR at h
    rw [if_neg c] at h
    have e : v = .non := h
    subst e
    refine ⟨.none, .non, shN, ?_⟩
    rw [List.any_cons, SeqAt.eqv_refl PyData.none (by simp [PyData.canLay0])]
    rfl
theorem isCol_iff {l : List Nat} {A : List Int} : isColB l A = true ↔ A.length = (dg l).n ∧ Keep (dg l).cs A := by
  unfold isColB
  rw [Bool.and_eq_true, decide_eq_true_eq, List.all_eq_true]
  exact ⟨fun h => ⟨h.1, fun c hc => keepB_iff.mp (h.2 c hc)⟩, fun h => ⟨h.1, fun c hc => keepB_iff.mpr (h.2 c hc)⟩⟩
theorem isCol_mk (l : List Nat) (x y : Int) : isColB l (col (dg l).cs x y) = true := isCol_iff.mpr ⟨by rw [col_len, (wf_dg l).n], keep_col (wf_dg l) x y⟩
theorem within {l : List Nat} {c : Nat × Nat × Nat} (h : c ∈ (dg l).cs) : c.1 < (dg l).n ∧ c.2.1 < (dg l).n ∧ c.2.2 < (dg l).n := by
  obtain ⟨i, hi, e⟩ := List.getElem_of_mem h
  have w := wf_dg l
  have := w.at_ i c (by rw [List.getElem?_eq_getElem hi, e])
  have := w.n
  exact ⟨by omega, by omega, by omega⟩
theorem getD_lin {A : List Int} {f s : Int} {i : Nat} (h : i < A.length) : (A.map fun x => x * f + s).getD i 0 = A.getD i 0 * f + s := by
  rw [List.getD_eq_getElem?_getD, List.getD_eq_getElem?_getD, List.getElem?_map, List.getElem?_eq_getElem h]
  rfl
theorem isCol_lin {l : List Nat} {A : List Int} (f s : Int) (h : isColB l A = true) : isColB l (A.map fun x => x * f + s) = true := by
  obtain ⟨h1, h2⟩ := isCol_iff.mp h
  refine isCol_iff.mpr ⟨by rw [List.length_map, h1], fun c hc => ?_⟩
  obtain ⟨b1, b2, b3⟩ := within hc
  rw [getD_lin (by omega), getD_lin (by omega), getD_lin (by omega)]
  have e : (A.getD c.2.1 0 + A.getD c.2.2 0) * f = 2 * A.getD c.1 0 * f := by rw [h2 c hc]
  rw [Int.add_mul, Int.mul_assoc] at e
  omega
def sumL (A B : List Int) (n : Nat) : List Int := (List.range n).map fun j => A.getD j 0 + B.getD j 0
theorem sumL_len {A B : List Int} {n : Nat} : (sumL A B n).length = n := by unfold sumL; rw [List.length_map, List.length_range]
theorem sumL_at {A B : List Int} {n i : Nat} (h : i < n) : (sumL A B n).getD i 0 = A.getD i 0 + B.getD i 0 := by
  unfold sumL
  rw [List.getD_eq_getElem?_getD, List.getElem?_map, List.getElem?_range h]
  rfl
theorem isCol_sum {l : List Nat} {A B : List Int} (h : isColB l A = true) (k : isColB l B = true) : isColB l (sumL A B (dg l).n) = true := by
  obtain ⟨h1, h2⟩ := isCol_iff.mp h
  obtain ⟨k1, k2⟩ := isCol_iff.mp k
  refine isCol_iff.mpr ⟨sumL_len, fun c hc => ?_⟩
  obtain ⟨b1, b2, b3⟩ := within hc
  rw [sumL_at b1, sumL_at b2, sumL_at b3]
  have := h2 c hc
  have := k2 c hc
  omega
theorem sum_bd {A B : List Int} {n M : Nat} (h : Bd A M) (k : Bd B M) : Bd (sumL A B n) (2 * M) := fun x hx => by
  obtain ⟨i, _, rfl⟩ := List.mem_map.mp hx
  have := h.at i
  have := k.at i
  omega
theorem lin_bd {A : List Int} {f s : Int} {M N : Nat} (h : Bd A M) (hf : f.natAbs ≤ 6) (hs : s.natAbs ≤ N) : Bd (A.map fun x => x * f + s) (6 * M + N) := fun x hx => by
  obtain ⟨z, hz, rfl⟩ := List.mem_map.mp hx
  have h1 := h z hz
  have h2 : (z * f).natAbs = z.natAbs * f.natAbs := Int.natAbs_mul z f
  have h3 : z.natAbs * f.natAbs ≤ M * 6 := Nat.mul_le_mul h1 hf
  omega
theorem col_bd {l : List Nat} {x y : Int} (hl : l.length ≤ 60) (hx : x.natAbs ≤ 2 ^ 101) (hy : y.natAbs ≤ 2 ^ 101) : Bd (col (dg l).cs x y) (2 ^ 101 * 3 ^ 60) := (col_bound (B := 2 ^ 101) hx hy (dg l).cs).mono (by
  have d1 := dg_len l
  exact Nat.mul_le_mul_left _ (Nat.pow_le_pow_right (by decide) (by omega)))
theorem plain_col (l : List Nat) (x : Int) : plainB (col (dg l).cs x x) = true := (plain_iff (isCol_mk l x x)).mpr (by rw [(col_zero _ x x).1, (col_zero _ x x).2])
/-- lists of colours that are colourings -/
def Cols (l : List Nat) (lp : Addr) (G : Hp) (j : Nat) : Prop := ∃ rs : List Addr, G lp = some (.lst (rs.map V.ref)) ∧ rs.length = j ∧ ∀ r ∈ rs, r ≠ lp ∧ ∃ A : List Int, G r = some (.lst (A.map V.int)) ∧ isColB l A = true ∧ Bd A (2 ^ 101 * 3 ^ 60)
theorem Cols.keep {l : List Nat} {lp : Addr} {G G' : Hp} {j : Nat} (h : Cols l lp G j) (k : ∀ a xs, G a = some (.lst xs) → (a = lp ∨ ∃ A : List Int, xs = A.map V.int) → G' a = some (.lst xs)) : Cols l lp G' j := by
  obtain ⟨rs, h1, h2, h3⟩ := h
  refine ⟨rs, k _ _ h1 (.inl rfl), h2, fun r hr => ?_⟩
  obtain ⟨n, A, a1, a2, a3⟩ := h3 r hr
  exact ⟨n, A, k _ _ a1 (.inr ⟨A, rfl⟩), a2, a3⟩
theorem Cols.push {l : List Nat} {lp cp : Addr} {G : Hp} {j : Nat} {A : List Int} (h : Cols l lp G j) (n : cp ≠ lp) (hA : G cp = some (.lst (A.map V.int))) (hc : isColB l A = true) (hb : Bd A (2 ^ 101 * 3 ^ 60)) : ∃ xs, G lp = some (.lst xs) ∧ xs.length = j ∧ Cols l lp (upd G lp (.lst (xs ++ [.ref cp]))) (j + 1) := by
  obtain ⟨rs, h1, h2, h3⟩ := h
  refine ⟨_, h1, by rw [List.length_map, h2], rs ++ [cp], by rw [upd_same, List.map_append]; rfl, by rw [List.length_append, h2]; rfl, fun r hr => ?_⟩
  rcases List.mem_append.mp hr with hr | hr
  · obtain ⟨m, B, b1, b2, b3⟩ := h3 r hr
    exact ⟨m, B, by rw [upd_ne m]; exact b1, b2, b3⟩
  · rw [List.mem_singleton.mp hr]
    exact ⟨n, A, by rw [upd_ne n]; exact hA, hc, hb⟩
theorem three_at {r : Int} (h0 : 0 ≤ r) (h1 : r < 3) : ∃ z : Int, atI [V.int 1, .int (-1), .int 6] r = some (.int z) ∧ z.natAbs ≤ 6 := by
  obtain ⟨c, hc, m⟩ := atI_mk (xs := [V.int 1, .int (-1), .int 6]) h0 h1
  simp only [List.mem_cons, List.not_mem_nil, or_false] at m
  rcases m with rfl | rfl | rfl
  · exact ⟨1, hc, by decide⟩
  · exact ⟨-1, hc, by decide⟩
  · exact ⟨6, hc, by decide⟩
theorem four_at {y r : Int} (hy : y.natAbs ≤ 2 ^ 100) (h0 : 0 ≤ r) (h1 : r < 4) : ∃ z : Int, atI [V.int 1, .int (-1), .int 7, .int y] r = some (.int z) ∧ z.natAbs ≤ 2 ^ 100 := by
  obtain ⟨c, hc, m⟩ := atI_mk (xs := [V.int 1, .int (-1), .int 7, .int y]) h0 h1
  simp only [List.mem_cons, List.not_mem_nil, or_false] at m
  rcases m with rfl | rfl | rfl | rfl
  · exact ⟨1, hc, by decide⟩
  · exact ⟨-1, hc, by decide⟩
  · exact ⟨7, hc, by decide⟩
  · exact ⟨y, hc, hy⟩
def spReads (Pt : Addr) : Sp := fun vs H Q _ => ∃ (l : List Nat) (cp t : Addr) (A : List Int), vs = [.str (S l), .ref cp, .ref t] ∧ Lets l ∧ H cp = some (.lst (A.map V.int)) ∧ isColB l A = true ∧ l.length ≤ 900 ∧ Bd A (2 ^ 199) ∧ Tup2 H t (run (0, 1) l) ∧ GxR.TabG H Pt ∧ ∀ H', Bt Pt H H' → Q (.bl true) H'
end
section
/-! ### moves taken back -/
def Mv.flip (m : Mv) : Mv := ⟨m.pl, m.n, m.o⟩
theorem isMv_flip {m : Mv} (h : isMv m = true) : isMv m.flip = true := by
  have e := isMv_empty h
  unfold isMv at h ⊢
  have c : m.flip.o ++ m.flip.n = m.o ++ m.n := by
    show m.n ++ m.o = m.o ++ m.n
    rcases e with e | e <;> rw [e] <;> simp
  rw [c]
  rw [Bool.and_eq_true] at h ⊢
  refine ⟨?_, h.2⟩
  have h1 := h.1
  show (decide (m.n = []) != decide (m.o = [])) = true
  revert h1
  cases decide (m.o = []) <;> cases decide (m.n = []) <;> decide
theorem mk_flip {d x : List Nat} {m : Mv} (h : mkMv d m = some x) : mkMv x m.flip = some d := by
  unfold mkMv at h
  split at h
  · rename_i hc
    obtain ⟨h1, h2⟩ := hc
    cases h
    unfold canMv at h2
    rw [Bool.and_eq_true, Bool.and_eq_true, decide_eq_true_eq, decide_eq_true_eq, decide_eq_true_eq] at h2
    obtain ⟨p0, p1, p2⟩ := h2
    have tl : (d.take m.pl.toNat).length = m.pl.toNat := by rw [List.length_take]; omega
    have dr : d.drop m.pl.toNat = m.o ++ d.drop (m.pl.toNat + m.o.length) := by
      conv => lhs; rw [← List.take_append_drop m.o.length (d.drop m.pl.toNat)]
      rw [p2, List.drop_drop]
    have dd : d = d.take m.pl.toNat ++ (m.o ++ d.drop (m.pl.toNat + m.o.length)) := by
      conv => lhs; rw [← List.take_append_drop m.pl.toNat d]
      rw [dr]
    generalize hA : d.take m.pl.toNat = A at *
    generalize hB : d.drop (m.pl.toNat + m.o.length) = B at *
    have dx : (doMv d m).drop m.pl.toNat = m.n ++ B := by
      unfold doMv
      rw [hA, hB, List.append_assoc, ← tl, List.drop_left]
    have can : canMv (doMv d m) m.flip = true := by
      unfold canMv
      rw [Bool.and_eq_true, Bool.and_eq_true, decide_eq_true_eq, decide_eq_true_eq, decide_eq_true_eq]
      refine ⟨p0, ?_, ?_⟩
      · show m.pl ≤ ((doMv d m).length : Int)
        unfold doMv
        rw [hA]
        simp only [List.length_append]
        omega
      · show ((doMv d m).drop m.pl.toNat).take m.n.length = m.n
        rw [dx, List.take_left]
    rw [mkMv_some (isMv_flip h1) can]
    congr 1
    show (doMv d m).take m.pl.toNat ++ m.o ++ (doMv d m).drop (m.pl.toNat + m.n.length) = d
    have tk : (doMv d m).take m.pl.toNat = A := by
      unfold doMv
      rw [hA, List.append_assoc, ← tl, List.take_left]
    have dk : (doMv d m).drop (m.pl.toNat + m.n.length) = B := by
      rw [← List.drop_drop, dx, List.drop_left]
    rw [tk, dk, List.append_assoc]
    exact dd.symm
  · cases h
theorem led_app2 (d : List Nat) (ms ns : List Mv) : led d (ms ++ ns) = (led d ms).bind fun x => led x ns := led_app d ms ns
def backMs (ms : List Mv) : List Mv := ms.reverse.map Mv.flip
theorem led_back : ∀ (ms : List Mv) {d x : List Nat}, led d ms = some x → led x (backMs ms) = some d
  | [], d, x, h => by
    cases h
    rfl
  | m :: r, d, x, h => by
    have e : led d (m :: r) = (led d [m]).bind fun y => led y r := led_app d [m] r
    rw [e] at h
    cases hy : led d [m] with
    | none => rw [hy] at h; cases h
    | some y =>
      rw [hy] at h
      have ih := led_back r (show led y r = some x from h)
      have hm : mkMv d m = some y := hy
      have e2 : backMs (m :: r) = backMs r ++ [m.flip] := by
        unfold backMs
        rw [List.reverse_cons, List.map_append]
        rfl
      rw [e2, led_app, ih]
      exact mk_flip hm
theorem fit_flip {ms : List Mv} {k : Nat} (h : FitAll ms k) : FitAll (backMs ms) k := fun m hm => by
  obtain ⟨x, hx, rfl⟩ := List.mem_map.mp hm
  have := h x (List.mem_reverse.mp hx)
  exact ⟨this.n, this.o⟩
theorem fit_app {ms ns : List Mv} {k : Nat} (h : FitAll ms k) (h2 : FitAll ns k) : FitAll (ms ++ ns) k := fun m hm => by
  rcases List.mem_append.mp hm with hm | hm
  · exact h m hm
  · exact h2 m hm
theorem wds_lets {u : List Nat} (h : u ∈ wds ∨ u = wF) : Lets u := by
  rcases h with h | rfl
  · unfold wds at h
    simp only [List.mem_cons, List.not_mem_nil, or_false] at h
    rcases h with rfl | rfl | rfl | rfl <;> exact lets_by rfl
  · exact lets_by rfl
theorem mk_lets {d x : List Nat} {m : Mv} (hd : Lets d) (h : mkMv d m = some x) : Lets x := by
  unfold mkMv at h
  split at h
  · rename_i hc
    cases h
    have hn : Lets m.n := by
      have h1 := hc.1
      have e := isMv_empty h1
      unfold isMv at h1
      rw [Bool.and_eq_true, Bool.or_eq_true, Bool.and_eq_true, decide_eq_true_eq, decide_eq_true_eq, decide_eq_true_eq] at h1
      have hw : m.o ++ m.n ∈ wds ∨ m.o ++ m.n = wF := by
        rcases h1.2 with h | h
        · exact .inl h
        · exact .inr h.2
      have := wds_lets hw
      exact fun c hc => this c (List.mem_append_right _ hc)
    unfold doMv
    exact lets_app (lets_app (lets_take hd _) hn) (fun c hc => hd c (List.mem_of_mem_drop hc))
  · cases h
theorem led_lets : ∀ (ms : List Mv) {d x : List Nat}, Lets d → led d ms = some x → Lets x
  | [], d, x, hd, h => by cases h; exact hd
  | m :: r, d, x, hd, h => by
    have e : led d (m :: r) = (led d [m]).bind fun y => led y r := led_app d [m] r
    rw [e] at h
    cases hy : led d [m] with
    | none => rw [hy] at h; cases h
    | some y =>
      rw [hy] at h
      exact led_lets r (mk_lets hd (show mkMv d m = some y from hy)) h
theorem led_num : ∀ (ms : List Mv) {d x : List Nat}, led d ms = some x → run (0, 1) x = run (0, 1) d
  | [], d, x, h => by cases h; rfl
  | m :: r, d, x, h => by
    have e : led d (m :: r) = (led d [m]).bind fun y => led y r := led_app d [m] r
    rw [e] at h
    cases hy : led d [m] with
    | none => rw [hy] at h; cases h
    | some y =>
      rw [hy] at h
      rw [led_num r h]
      exact mk_num (show mkMv d m = some y from hy)
end
theorem eqv2 (v u : Int × Int) : PyData.eqv (.tuple [.int v.1, .int v.2]) (.tuple [.int u.1, .int u.2]) = decide (v = u) := by
  obtain ⟨a, b⟩ := v
  obtain ⟨c, d⟩ := u
  by_cases h1 : a = c <;> by_cases h2 : b = d <;> simp [PyData.eqv, PyData.eqvAll, h1, h2]
section
variable {P : Program} {w : World} {K : PySem.W.Frag} {mg : Str → Option Value} {base : Heap} {f : Addr} {fd : FuncData}
theorem ok_diagram (F : Fun K "diagram" "diagram" s_diagram f fd)   : FnOk P w K mg base CX0 1 f fd ["dance"] spDiag := by
  refine F.ok sc_diagram (fun vs H Q E h => ?_) (fun cdv A outer s H vs Q E hr h => ?_)
  · obtain ⟨l, rfl, hz, q⟩ := h
    rfl
  obtain ⟨l, rfl, hz, q⟩ := h
  refine ⟨_, (pss_cons (ps_set (i := 1) sc_diagram.nd rfl (.inl rfl) pe_int)
    (pss_cons (ps_set (i := 2) sc_diagram.nd rfl (.inl rfl) (pe_lst pa_nil))
    (pss_cons (ps_asg (pe_tup (pa_cons pe_int (pa_cons pe_int (pa_cons pe_int (pa_cons pe_int pa_nil))))) (pg_tup (by rfl) (pgs_cons (pg_name (i := 3) sc_diagram.nd rfl (.inl rfl)) (pgs_cons (pg_name (i := 4) sc_diagram.nd rfl (.inl rfl)) (pgs_cons (pg_name (i := 5) sc_diagram.nd rfl (.inl rfl)) (pgs_cons (pg_name (i := 6) sc_diagram.nd rfl (.inl rfl)) pgs_nil))))))
    (pss_cons (ps_for PassesOwn.never rfl (pi_str (pv 0)) (pg_name (i := 7) sc_diagram.nd rfl (.inl rfl))
    (pss_cons (ps_if (pt_cmpR op_eq (pv 7) pe_str (nomark _)) (pss_cons (ps_asg (pe_tup (pa_cons (pv 5) (pa_cons (pv 3) (pa_cons (pv 6) (pa_cons (pv 4) pa_nil))))) (pg_tup (by rfl) (pgs_cons (pg_name (i := 3) sc_diagram.nd rfl (.inl rfl)) (pgs_cons (pg_name (i := 4) sc_diagram.nd rfl (.inl rfl)) (pgs_cons (pg_name (i := 5) sc_diagram.nd rfl (.inl rfl)) (pgs_cons (pg_name (i := 6) sc_diagram.nd rfl (.inl rfl)) pgs_nil))))))
    (pss_one ps_continue)) pss_nil)
    (pss_cons (ps_if (pt_cmpR op_eq (pv 7) pe_str (nomark _)) (pss_cons (ps_expr (pe_bm PySem.F.plainAttrs_list PySem.F.slot_list_append PySem.F.type_list_append mt_append (pv 2) (pa_cons (pe_tup (pa_cons (pv 4) (pa_cons (pv 6) (pa_cons (pv 1) pa_nil)))) pa_nil)))
    (pss_one (ps_par (i := 4) (j := 6) (by rfl) sc_diagram.nd rfl rfl (by decide) rfl rfl (pa_cons (pv 1) (pa_cons (pv 4) pa_nil)) (by rfl)))) (pss_cons (ps_expr (pe_bm PySem.F.plainAttrs_list PySem.F.slot_list_append PySem.F.type_list_append mt_append (pv 2) (pa_cons (pe_tup (pa_cons (pv 6) (pa_cons (pv 4) (pa_cons (pv 1) pa_nil)))) pa_nil)))
    (pss_one (ps_par (i := 4) (j := 6) (by rfl) sc_diagram.nd rfl rfl (by decide) rfl rfl (pa_cons (pv 6) (pa_cons (pv 1) pa_nil)) (by rfl)))))
    (pss_one (ps_aug (i := 1) sc_diagram.nd rfl (.inl rfl) pe_int ip_add)))))
    (pss_one (ps_ret (pe_tup (pa_cons (pv 1) (pa_cons (pv 2) (pa_cons (pe_tup (pa_cons (pv 3) (pa_cons (pv 4) (pa_cons (pv 5) (pa_cons (pv 6) pa_nil))))) pa_nil)))))))))), ?_⟩
  have sz : 4 ≤ sizeLine := fits (by decide)
  have s3 : 3 ≤ sizeLine := fits (by decide)
  refine ⟨fits (by decide), fun p hp => ⟨sz, fun e0 he0 => ?_⟩⟩
  refine ⟨e0, _, rfl, SqT.of upd_same, rfl, _, _, rfl, _, _, rfl, _, _, rfl, _, _, rfl, rfl, ?_⟩
  refine ⟨_, rfl, _, rfl, for_str (l := l) (fun i σ H' => ∃ (x1 : Option V), σ = [some (.str (S l)), some (.int ((dg (l.take i)).n : Int)), some (.ref p), some (.int ((dg (l.take i)).a : Int)), some (.int ((dg (l.take i)).b : Int)), some (.int ((dg (l.take i)).c : Int)), some (.int ((dg (l.take i)).d : Int)), x1] ∧ Same H H' ∧ Crs H' p (dg (l.take i)).cs) ?_ ?_ ?_⟩
  · refine ⟨_, rfl, (same_new hp _).trans (same_new he0 _), [], ?_, rfl, fun i r c a _ => by cases a⟩
    rw [upd_ne (ne_of_none upd_same he0), upd_same]
    rfl
  · rintro i c σ H1 hc ⟨x1, rfl, sm, cr⟩
    have hi : i < l.length := (List.getElem?_eq_some_iff.mp hc).1
    have dl := dg_len (l.take i)
    rw [List.length_take] at dl
    have st := dg_take hc
    generalize dg (l.take i) = g at *
    refine ⟨_, rfl, rfl, _, rfl, ite2 (fun c1 => ?_) (fun c1 => ?_)⟩
    · have k1 : c = 82 := (sign_eq e_R).mp (of_decide_eq_true c1)
      have e1 : dg1 g c = ⟨g.n, g.cs, g.c, g.a, g.d, g.b⟩ := if_pos k1
      rw [e1] at st
      rw [st]
      refine ⟨_, rfl, _, rfl, _, rfl, _, rfl, sz, fun t ht => ⟨t, _, rfl, SqT.of upd_same, rfl, _, _, rfl, _, _, rfl, _, _, rfl, _, _, rfl, rfl, ?_⟩⟩
      exact ⟨_, rfl, sm.trans (same_new ht _), cr.same (same_new ht _)⟩
    have k1 : ¬ c = 82 := fun z => c1 (decide_eq_true ((sign_eq e_R).mpr z))
    refine ⟨_, rfl, rfl, _, rfl, ite2 (fun c2 => ?_) (fun c2 => ?_)⟩
    · have k2 : c = 84 := (sign_eq e_T).mp (of_decide_eq_true c2)
      have e1 : dg1 g c = ⟨g.n + 1, g.cs ++ [(g.b, g.d, g.n)], g.a, g.n, g.c, g.b⟩ := (if_neg k1).trans (if_pos k2)
      rw [e1] at st
      rw [st]
      obtain ⟨rs, hrs, _⟩ := cr
      refine ⟨_, rfl, .inl ⟨rfl, _, SqL.of hrs⟩, _, rfl, _, rfl, _, rfl, s3, fun t ht => ?_⟩
      obtain ⟨xs, hx, hl, cr'⟩ := Crs.push ⟨rs, hrs, ‹_›⟩ ht (g.b, g.d, g.n)
      refine ⟨p, xs, _, rfl, rfl, hx, Nat.lt_of_lt_of_le (show xs.length < 16777216 by omega) sizeLine_big, ?_⟩
      refine ⟨_, rfl, _, rfl, _, _, rfl, _, rfl, _, _, rfl, rfl, _, rfl, fun b o hb => ?_, cr'⟩
      rw [upd_ne (ne_of_none hb hp), upd_ne (ne_of_none (sm _ _ hb) ht)]
      exact sm _ _ hb
    · have k2 : ¬ c = 84 := fun z => c2 (decide_eq_true ((sign_eq e_T).mpr z))
      have e1 : dg1 g c = ⟨g.n + 1, g.cs ++ [(g.d, g.b, g.n)], g.a, g.d, g.c, g.n⟩ := (if_neg k1).trans (if_neg k2)
      rw [e1] at st
      rw [st]
      obtain ⟨rs, hrs, _⟩ := cr
      refine ⟨_, rfl, .inl ⟨rfl, _, SqL.of hrs⟩, _, rfl, _, rfl, _, rfl, s3, fun t ht => ?_⟩
      obtain ⟨xs, hx, hl, cr'⟩ := Crs.push ⟨rs, hrs, ‹_›⟩ ht (g.d, g.b, g.n)
      refine ⟨p, xs, _, rfl, rfl, hx, Nat.lt_of_lt_of_le (show xs.length < 16777216 by omega) sizeLine_big, ?_⟩
      refine ⟨_, rfl, _, rfl, _, _, rfl, _, rfl, _, _, rfl, rfl, _, rfl, fun b o hb => ?_, cr'⟩
      rw [upd_ne (ne_of_none hb hp), upd_ne (ne_of_none (sm _ _ hb) ht)]
      exact sm _ _ hb
  · rintro σ H1 ⟨x1, rfl, sm, cr⟩
    rw [List.take_of_length_le (Nat.le_refl _)] at cr ⊢
    exact ⟨_, rfl, _, rfl, _, rfl, _, rfl, _, rfl, _, rfl, sz, fun e he => ⟨s3, fun t ht => q t p _ ((sm.trans (same_new he _)).trans (same_new ht _)) hp ⟨e, upd_same, same_new ht _ _ _ upd_same, (cr.same (same_new he _)).same (same_new ht _)⟩⟩⟩
end
section
variable {P : Program} {w : World} {K : PySem.W.Frag} {mg : Str → Option Value} {base : Heap} {f : Addr} {fd : FuncData}
theorem ok_is_plain (F : Fun K "is_plain" "is_plain" s_is_plain f fd) (y_len : mg "len" = none)  : FnOk P w K mg base CX0 1 f fd ["colours"] spPlain := by
  refine F.ok sc_is_plain (fun vs H Q E h => ?_) (fun cdv A outer s H vs Q E hr h => ?_)
  · obtain ⟨cp, A, rfl, hA, z0, zA, q⟩ := h
    rfl
  obtain ⟨cp, A, rfl, hA, z0, zA, q⟩ := h
  refine ⟨_, (pss_one (ps_ret (pe_cmpR op_eq (pe_bm PySem.F.plainAttrs_list PySem.F.slot_list_count PySem.F.type_list_count mt_lcount (pv 0) (pa_cons (pe_ix ix_list (pv 0) pe_int (fun _ _ => rfl)) pa_nil)) (pe_callB call_len_seq rfl y_len PySem.boot_len (pa_cons (pv 0) pa_nil)) (nomark _)))), ?_⟩
  refine ⟨_, rfl, .inl ⟨rfl, _, SqL.of hA⟩, _, rfl, cp, _, _, _, rfl, rfl, SqL.of hA, at_getD (i := 0) z0, cp, A, _, rfl, rfl, SqL.of hA, _, rfl, cp, _, rfl, .inl (SqL.of hA), rfl, ?_⟩
  have e : decide (V.int ((A.count (A.getD 0 0) : Nat) : Int) = V.int (((A.map V.int).length : Nat) : Int)) = plainB A := by
    rw [Bool.eq_iff_iff, decide_eq_true_eq, List.length_map]
    unfold plainB
    rw [List.all_eq_true]
    constructor
    · intro h x hx
      have h1 : A.count (A.getD 0 0) = A.length := by have := V.int.inj h; omega
      exact beq_iff_eq.mpr (List.count_eq_length.mp h1 x hx).symm
    · intro h
      have h1 : A.count (A.getD 0 0) = A.length := List.count_eq_length.mpr fun x hx => (beq_iff_eq.mp (h x hx)).symm
      rw [h1]
  rw [e]
  exact q
end
section
variable {P : Program} {w : World} {K : PySem.W.Frag} {mg : Str → Option Value} {base : Heap} {f : Addr} {fd : FuncData}
theorem ok_is_colouring {c Pt : Addr} (F : Fun K "is_colouring" "is_colouring" s_is_colouring f fd) (hc : fd.code = .ref c) (TB : GxR.TabB base mg c Pt) (D_diagram : Dfn P w K mg base "diagram" 1 ["dance"] spDiag) (y_all : mg "all" = none) (y_len : mg "len" = none) : FnOk P w K mg base CX0 2 f fd ["dance", "colours"] (spIsCol Pt) := by
  refine okC F hc sc_is_colouring (fun vs H Q E h => ?_) (fun A0 outer s H vs Q E hr h => ?_)
  · obtain ⟨l, cp, A, rfl, _⟩ := h
    rfl
  obtain ⟨l, cp, A, rfl, hA, zA, zl, tg, q⟩ := h
  refine ⟨_, (pss_cons (ps_asg (pe_do D_diagram hr (pa_cons (pv 0) pa_nil)) (pg_tup (by rfl) (pgs_cons (pg_name (i := 2) sc_is_colouring.nd rfl (.inl rfl)) (pgs_cons (pg_name (i := 3) sc_is_colouring.nd rfl (.inl rfl)) (pgs_cons (pg_name (i := 4) sc_is_colouring.nd rfl (.inl rfl)) pgs_nil)))))
    (pss_cons (ps_if (pt_cmpR op_ne (pe_callB call_len_seq rfl y_len PySem.boot_len (pa_cons (pv 1) pa_nil)) (pv 2) (nomark _)) (pss_one (ps_ret pe_bl)) pss_nil)
    (pss_one (ps_ret (pe_all3 (k := 1) hr rfl y_all TB rfl ?sc (pv 3) (fun v => rfl)))))), ?rd⟩
  case sc =>
    refine ⟨rfl, rfl, by decide +kernel, rfl, rfl, rfl, rfl, by decide, by decide, by decide, fun y hy e => ?_⟩
    have hn : y.1 = ("colours" : Str) := by
      revert y
      decide +kernel
    rw [hn]
    exact ⟨_, rfl⟩
  case rd =>
    refine ⟨_, rfl, l, rfl, by omega, fun t kp H1 s1 nk dgm => ?_⟩
    obtain ⟨e, ht, he, rs, hrs, zr, kr⟩ := dgm
    have tg1 := TabG.same tg s1
    have hA1 := s1 _ _ hA
    have w0 := wf_dg l
    refine ⟨t, _, rfl, SqT.of ht, rfl, _, _, rfl, _, _, rfl, _, _, rfl, rfl, ?_⟩
    refine ⟨_, rfl, cp, _, rfl, .inl (SqL.of hA1), _, rfl, rfl, _, rfl, ?_⟩
    have q1 := fun H' b => q H' ((Bt.of s1 tg).trans b)
    by_cases hl : A.length = (dg l).n
    · have e1 : decide (V.int (((A.map V.int).length : Nat) : Int) = V.int (((dg l).n : Nat) : Int)) = true := decide_eq_true (by rw [List.length_map, hl])
      rw [e1]
      refine iteF ⟨_, rfl, kp, (dg l).cs.map crossV, keepAt (dg l).cs A, rfl, ⟨rs, hrs, by rw [List.length_map]; exact zr, fun i t q hi hq => ?_⟩, tg1, fun pins1 s2 J => ?_, fun G' tb => ?_⟩
      · rw [List.getElem?_map] at hq
        cases hcc : (dg l).cs[i]? with
        | none => rw [hcc] at hq; cases hq
        | some c =>
          rw [hcc] at hq
          cases hq
          exact kr i t c hi hcc
      · obtain ⟨ps, hps, _⟩ := tg1
        refine elt_cross (ic := 1) (cp := cp) J rfl rfl rfl rfl rfl (by decide +kernel) rfl rfl rfl rfl hA1 hps (by omega) fun i c hc2 => ?_
        obtain ⟨b1, b2, b3⟩ := w0.at_ i c hc2
        have := (List.getElem?_eq_some_iff.mp hc2).1
        have := w0.n
        exact ⟨by omega, by omega, by omega⟩
      · rw [List.length_map, all_keep]
        have q2 := q1 G' (Bt.tabbed tb)
        unfold isColB at q2
        rw [decide_eq_true hl, Bool.true_and] at q2
        exact q2
    · have e1 : decide (V.int (((A.map V.int).length : Nat) : Int) = V.int (((dg l).n : Nat) : Int)) = false := decide_eq_false fun z => hl (by have := V.int.inj z; rw [List.length_map] at this; omega)
      rw [e1]
      have q2 := q1 H1 (Bt.refl tg1)
      unfold isColB at q2
      rw [decide_eq_false hl, Bool.false_and] at q2
      exact iteT q2
end
section
variable {P : Program} {w : World} {K : PySem.W.Frag} {mg : Str → Option Value} {base : Heap} {f : Addr} {fd : FuncData}
theorem ok_reading (F : Fun K "reading" "reading" s_reading f fd) (D_is_plain : Dfn P w K mg base "is_plain" 2 ["colours"] spPlain) (D_is_colouring : Dfn P w K mg base "is_colouring" 2 ["dance", "colours"] (spIsCol Pt)) (D_diagram : Dfn P w K mg base "diagram" 2 ["dance"] spDiag) (D_fraction : Dfn P w K mg base "fraction" 2 ["p", "q"] spFrac)  : FnOk P w K mg base CX0 3 f fd ["dance", "colours"] (spReading Pt) := by
  refine F.ok sc_reading (fun vs H Q E h => ?_) (fun cdv A outer s H vs Q E hr h => ?_)
  · obtain ⟨l, cp, A, rfl, hl, hA, zA, zl, bd, tg, q⟩ := h
    rfl
  obtain ⟨l, cp, A, rfl, hl, hA, zA, zl, bd, tg, q⟩ := h
  refine ⟨_, (pss_cons (ps_if (PW.pt (pw_or (pt_not (pt_val (pe_do D_is_colouring hr (pa_cons (pv 0) (pa_cons (pv 1) pa_nil))))) (pw_or1 (pt_val (pe_do D_is_plain hr (pa_cons (pv 1) pa_nil)))))) (pss_one (ps_ret pe_non)) pss_nil)
    (pss_cons (ps_asg (pe_ix ix_tup (pe_do D_diagram hr (pa_cons (pv 0) pa_nil)) pe_int (fun _ _ => rfl)) (pg_tup (by rfl) (pgs_cons (pg_name (i := 2) sc_reading.nd rfl (.inl rfl)) (pgs_cons (pg_name (i := 3) sc_reading.nd rfl (.inl rfl)) (pgs_cons (pg_name (i := 4) sc_reading.nd rfl (.inl rfl)) (pgs_cons (pg_name (i := 5) sc_reading.nd rfl (.inl rfl)) pgs_nil))))))
    (pss_one (ps_ret (pe_do D_fraction hr (pa_cons (pe_op op_sub (pe_ix ix_list (pv 1) (pv 3) (fun _ _ => rfl)) (pe_ix ix_list (pv 1) (pv 2) (fun _ _ => rfl))) (pa_cons (pe_op op_sub (pe_ix ix_list (pv 1) (pv 3) (fun _ _ => rfl)) (pe_ix ix_list (pv 1) (pv 5) (fun _ _ => rfl))) pa_nil))))))), ?_⟩
  have w0 := wf_dg l
  refine ⟨_, rfl, _, rfl, l, cp, A, rfl, hA, zA, zl, tg, fun H1 b1 => ⟨_, rfl, ?_⟩⟩
  have hA1 := b1.lst tg hA
  cases hc : isColB l A with
  | false => exact iteT (q _ H1 b1 (by rw [dtR_none (.inl hc)]; exact non_is))
  | true =>
    obtain ⟨_, hlen⟩ := isCol_col hc
    have wn := w0.n
    have wa := w0.a
    have wb := w0.b
    have wd := w0.d
    refine iteF ⟨_, rfl, cp, A, rfl, hA1, by omega, zA, _, rfl, ?_⟩
    cases hp : plainB A with
    | true => exact iteT (q _ H1 b1 (by rw [dtR_none (.inr hp)]; exact non_is))
    | false =>
      refine iteF ⟨_, rfl, l, rfl, by omega, fun t kp H2 s2 nk dgm => ?_⟩
      obtain ⟨e, ht, he, cr⟩ := dgm
      have hA2 := SqL.of (K := K) (s2 _ _ hA1)
      refine ⟨t, _, _, _, rfl, rfl, SqT.of ht, rfl, e, _, rfl, SqT.of he, rfl, _, _, rfl, _, _, rfl, _, _, rfl, _, _, rfl, rfl, ?_⟩
      obtain ⟨r1, r2⟩ := reads hl hc hp
      have b0 := fun i => bd.at i
      refine ⟨_, rfl, _, rfl, cp, _, _, _, rfl, rfl, hA2, at_getD (by omega), _, rfl, _, rfl, cp, _, _, _, rfl, rfl, hA2, at_getD (by omega), _, _, rfl, rfl, _, rfl, _, rfl, cp, _, _, _, rfl, rfl, hA2, at_getD (by omega), _, rfl, _, rfl, cp, _, _, _, rfl, rfl, hA2, at_getD (by omega), _, _, rfl, rfl, _, _, rfl, r2, ?_, ?_, fun t3 H3 s3 tt => q _ H3 ((b1.same s2).same s3) ?_⟩
      · have h1 := b0 (dg l).b
        have h2 := b0 (dg l).a
        omega
      · have h1 := b0 (dg l).b
        have h2 := b0 (dg l).d
        omega
      · rw [dtR_some hc hp]
        rw [r1] at tt
        exact tup2_is (n := 0) tt
end
section
variable {P : Program} {w : World} {K : PySem.W.Frag} {mg : Str → Option Value} {base : Heap} {f : Addr} {fd : FuncData}
theorem ok_law_is_move (F : Fun K "_law_is_move" "_law_is_move" s_law_is_move f fd)   : FnOk P w K mg base CX0 1 f fd ["move"] spIsMove := by
  refine F.ok sc_law_is_move (fun vs H Q E h => ?_) (fun cdv A outer s H vs Q E hr h => ?_)
  · obtain ⟨t, m, rfl, hT, hf, q⟩ := h
    rfl
  obtain ⟨t, m, rfl, hT, hf, q⟩ := h
  refine ⟨_, (pss_cons (ps_asg (pv 0) (pg_tup (by rfl) (pgs_cons (pg_name (i := 1) sc_law_is_move.nd rfl (.inl rfl)) (pgs_cons (pg_name (i := 2) sc_law_is_move.nd rfl (.inl rfl)) (pgs_cons (pg_name (i := 3) sc_law_is_move.nd rfl (.inl rfl)) pgs_nil)))))
    (pss_cons (ps_if (pt_cmpR op_eq (pe_cmpR op_eq (pv 2) pe_str (nomark _)) (pe_cmpR op_eq (pv 3) pe_str (nomark _)) (nomark _)) (pss_one (ps_ret pe_bl)) pss_nil)
    (pss_one (ps_ret (pe_or (pe_cmpR op_in_seq (pe_op op_add_str (pv 2) (pv 3)) (pe_tup (pa_cons pe_str (pa_cons pe_str (pa_cons pe_str (pa_cons pe_str pa_nil))))) (by rfl)) (pe_one (pe_and (pe_cmpR op_eq (pv 1) pe_int (nomark _)) (pe_one (pe_cmpR op_eq (pe_op op_add_str (pv 2) (pv 3)) pe_str (nomark _)))))))))), ?_⟩
  have z1 := hf.o
  have z2 := hf.n
  have sz : (S m.o).length + (S m.n).length ≤ sizeLine := by rw [S_len, S_len]; exact fits (by omega)
  have ee : ∀ l : List Nat, (decide (V.str (S l) = V.str "")) = decide (l = []) := fun l => by rw [e_empty]; exact decide_eq_decide.mpr tx_iff
  refine ⟨_, rfl, t, _, rfl, SqT.of hT, rfl, _, _, rfl, _, _, rfl, _, _, rfl, rfl, ?_⟩
  refine ⟨_, rfl, rfl, _, rfl, rfl, rfl, _, rfl, ?_⟩
  rw [ee, ee]
  refine ite2 (fun c => ?_) (fun c => ?_)
  · have c' : decide (m.o = []) = decide (m.n = []) := V.bl.inj (of_decide_eq_true c)
    have e : isMv m = false := by unfold isMv; rw [c', bne_self_eq_false, Bool.false_and]
    have := q H (Same.refl H)
    rw [e] at this
    exact this
  · have c' : decide (m.o = []) ≠ decide (m.n = []) := fun z => c (decide_eq_true (congrArg V.bl z))
    have e : isMv m = (decide (m.o ++ m.n ∈ wds) || (decide (m.pl = 0) && decide (m.o ++ m.n = wF))) := by unfold isMv; rw [bne_iff_ne.mpr c', Bool.true_and]
    rw [e] at q
    refine ⟨_, rfl, _, rfl, _, _, rfl, rfl, sz, fits (by decide), fun p hp => ⟨p, _, rfl, .inr (SqT.of upd_same), rfl, rfl, ?_⟩⟩
    rw [four_words, S_app]
    refine ⟨_, rfl, ?_⟩
    rw [show (if false = true then !(inV (V.str (S (m.o ++ m.n))) (wds.map tx)) else inV (V.str (S (m.o ++ m.n))) (wds.map tx)) = decide (m.o ++ m.n ∈ wds) from inV_strs _ _]
    have q1 := fun o => q _ (same_new hp o)
    refine ite2 (fun c1 => ?_) (fun c1 => ?_)
    · rw [c1, Bool.true_or] at q1
      exact q1 _
    · rw [Bool.not_eq_true] at c1
      rw [c1, Bool.false_or] at q1
      refine ⟨_, rfl, rfl, _, rfl, ite2 (fun c2 => ?_) (fun c2 => ?_)⟩
      · have k2 : m.pl = 0 := V.int.inj (of_decide_eq_true c2)
        rw [decide_eq_true k2, Bool.true_and] at q1
        refine ⟨_, rfl, _, rfl, _, _, rfl, rfl, sz, rfl, ?_⟩
        rw [S_app, e_RTR, show decide (V.str (S (m.o ++ m.n)) = V.str (S wF)) = decide (m.o ++ m.n = wF) from decide_eq_decide.mpr tx_iff]
        exact q1 _
      · have k2 : ¬ m.pl = 0 := fun z => c2 (decide_eq_true (congrArg V.int z))
        rw [decide_eq_false k2, Bool.false_and] at q1
        exact q1 _
end
section
variable {P : Program} {w : World} {K : PySem.W.Frag} {mg : Str → Option Value} {base : Heap} {f : Addr} {fd : FuncData}
theorem ok_is_move (F : Fun K "is_move" "is_move" s_is_move f fd)  {dW : Addr} {tF : Tok} (gW : mg "WORDS" = some (.ref dW)) (hW : ∀ H, SqT K H dW (wds.map tx)) (gF : mg "WORD_IN_FRONT" = some (.str "RTR" tF)) : FnOk P w K mg base CX0 1 f fd ["move"] spIsMove := by
  refine F.ok sc_is_move (fun vs H Q E h => ?_) (fun cdv A outer s H vs Q E hr h => ?_)
  · obtain ⟨t, m, rfl, hT, hf, q⟩ := h
    rfl
  obtain ⟨t, m, rfl, hT, hf, q⟩ := h
  refine ⟨_, (pss_cons (ps_asg (pv 0) (pg_tup (by rfl) (pgs_cons (pg_name (i := 1) sc_is_move.nd rfl (.inl rfl)) (pgs_cons (pg_name (i := 2) sc_is_move.nd rfl (.inl rfl)) (pgs_cons (pg_name (i := 3) sc_is_move.nd rfl (.inl rfl)) pgs_nil)))))
    (pss_cons (ps_if (PW.pt (pw_and (pt_cmpR op_ne (pv 2) pe_str (nomark _)) (pw_and1 (pt_cmpR op_ne (pv 3) pe_str (nomark _))))) (pss_one (ps_ret pe_bl)) pss_nil)
    (pss_cons (ps_set (i := 4) sc_is_move.nd rfl (.inl rfl) (pe_op op_add_str (pv 2) (pv 3)))
    (pss_one (ps_ret (pe_or (pe_cmpR op_in_seq (pv 4) (pe_glob (v := .ref dW) rfl gW rfl) (by rfl)) (pe_one (pe_and (pe_cmpR op_eq (pv 1) pe_int (nomark _)) (pe_one (pe_cmpR op_eq (pv 4) (pe_glob (v := .str "RTR") rfl gF ⟨_, rfl⟩) (nomark _))))))))))), ?_⟩
  have z1 := hf.o
  have z2 := hf.n
  have sz : (S m.o).length + (S m.n).length ≤ sizeLine := by rw [S_len, S_len]; exact fits (by omega)
  have ee : ∀ l : List Nat, (decide (V.str (S l) = V.str "")) = decide (l = []) := fun l => by rw [e_empty]; exact decide_eq_decide.mpr tx_iff
  have q1 := q H (Same.refl H)
  have rest : m.o = [] ∨ m.n = [] → (isMv m = (decide (m.o ++ m.n ∈ wds) || (decide (m.pl = 0) && decide (m.o ++ m.n = wF)))) := fun h => by
    unfold isMv
    by_cases h1 : m.o = [] <;> by_cases h2 : m.n = []
    · rw [h1, h2]
      rw [show decide (([] : List Nat) ++ [] ∈ wds) = false by decide, show decide (([] : List Nat) ++ [] = wF) = false by decide]
      simp
    · rw [decide_eq_true h1, decide_eq_false h2]; simp
    · rw [decide_eq_true h2, decide_eq_false h1]; simp
    · exact (h.elim h1 h2).elim
  refine ⟨_, rfl, t, _, rfl, SqT.of hT, rfl, _, _, rfl, _, _, rfl, _, _, rfl, rfl, ?_⟩
  refine ⟨_, rfl, rfl, _, rfl, ?_⟩
  rw [ee]
  refine ite2 (fun c => ?A) (fun c => iteF ?B)
  case' A =>
    refine ⟨_, rfl, rfl, _, rfl, ?_⟩
    rw [ee]
    refine ite2 (fun c2 => ?D) (fun c2 => ?C)
  case D =>
    have n1 : ¬ m.o = [] := by simpa using c
    have n2 : ¬ m.n = [] := by simpa using c2
    have e : isMv m = false := by unfold isMv; rw [decide_eq_false n1, decide_eq_false n2]; rfl
    rw [e] at q1
    exact q1
  all_goals
    have hh : m.o = [] ∨ m.n = [] := by first | exact .inr (by simpa using c2) | exact .inl (by simpa using c)
    rw [rest hh] at q1
    refine ⟨_, rfl, _, rfl, _, _, rfl, rfl, sz, ?_⟩
    refine ⟨_, rfl, dW, _, rfl, .inr (hW H), rfl, flat_strs _, ?_⟩
    rw [S_app]
    refine ⟨_, rfl, ?_⟩
    rw [show (if false = true then !(inV (V.str (S (m.o ++ m.n))) (wds.map tx)) else inV (V.str (S (m.o ++ m.n))) (wds.map tx)) = decide (m.o ++ m.n ∈ wds) from inV_strs _ _]
    refine ite2 (fun c1 => ?_) (fun c1 => ?_)
    · rw [c1, Bool.true_or] at q1
      exact q1
    · rw [Bool.not_eq_true] at c1
      rw [c1, Bool.false_or] at q1
      refine ⟨_, rfl, rfl, _, rfl, ite2 (fun c2 => ?_) (fun c2 => ?_)⟩
      · have k2 : m.pl = 0 := V.int.inj (of_decide_eq_true c2)
        rw [decide_eq_true k2, Bool.true_and] at q1
        refine ⟨_, rfl, rfl, ?_⟩
        rw [e_RTR, show decide (V.str (S (m.o ++ m.n)) = V.str (S wF)) = decide (m.o ++ m.n = wF) from decide_eq_decide.mpr tx_iff]
        exact q1
      · have k2 : ¬ m.pl = 0 := fun z => c2 (decide_eq_true (congrArg V.int z))
        rw [decide_eq_false k2, Bool.false_and] at q1
        exact q1
end
section
variable {P : Program} {w : World} {K : PySem.W.Frag} {mg : Str → Option Value} {base : Heap} {f : Addr} {fd : FuncData}
theorem ok_law_made (F : Fun K "_law_made" "_law_made" s_law_made f fd) (D_law_is_move : Dfn P w K mg base "_law_is_move" 1 ["move"] spIsMove) (y_len : mg "len" = none)  : FnOk P w K mg base CX0 2 f fd ["dance", "move"] spLawMade := by
  refine F.ok sc_law_made (fun vs H Q E h => ?_) (fun cdv A outer s H vs Q E hr h => ?_)
  · obtain ⟨d, t, m, rfl, hT, hf, hd, q⟩ := h
    rfl
  obtain ⟨d, t, m, rfl, hT, hf, hd, q⟩ := h
  refine ⟨_, (pss_cons (ps_asg (pv 1) (pg_tup (by rfl) (pgs_cons (pg_name (i := 2) sc_law_made.nd rfl (.inl rfl)) (pgs_cons (pg_name (i := 3) sc_law_made.nd rfl (.inl rfl)) (pgs_cons (pg_name (i := 4) sc_law_made.nd rfl (.inl rfl)) pgs_nil)))))
    (pss_cons (ps_if (PW.pt (pw_or (pt_not (pt_val (pe_do D_law_is_move hr (pa_cons (pv 1) pa_nil)))) (pw_or (pt_cmpR op_lt (pv 2) pe_int (nomark _)) (pw_or1 (pt_cmpR op_gt (pv 2) (pe_callB call_len_str rfl y_len PySem.boot_len (pa_cons (pv 0) pa_nil)) (nomark _)))))) (pss_one (ps_ret pe_non)) pss_nil)
    (pss_cons (ps_if (pt_cmpR op_ne (pe_slice sl_str (pv 0) (po_some (pv 2)) (po_some (pe_op op_add (pv 2) (pe_callB call_len_str rfl y_len PySem.boot_len (pa_cons (pv 3) pa_nil))))) (pv 3) (nomark _)) (pss_one (ps_ret pe_non)) pss_nil)
    (pss_one (ps_ret (pe_op op_add_str (pe_op op_add_str (pe_slice sl_str (pv 0) po_none (po_some (pv 2))) (pv 4)) (pe_slice sl_str (pv 0) (po_some (pe_op op_add (pv 2) (pe_callB call_len_str rfl y_len PySem.boot_len (pa_cons (pv 3) pa_nil)))) po_none))))))), ?_⟩
  have z1 := hf.o
  have z2 := hf.n
  refine ⟨_, rfl, t, _, rfl, SqT.of hT, rfl, _, _, rfl, _, _, rfl, _, _, rfl, rfl, ?_⟩
  refine ⟨_, rfl, t, m, rfl, hT, hf, fun H1 s1 => ?_⟩
  have q1 := q H1 s1
  refine ⟨_, rfl, ?_⟩
  cases e : isMv m with
  | false =>
    rw [mkMv_not e] at q1
    exact iteT q1
  | true =>
    refine iteF ?_
    refine ⟨_, rfl, _, _, rfl, rfl, _, rfl, ite2 (fun c1 => ?_) (fun c1 => ?_)⟩
    · have k1 : m.pl < 0 := of_decide_eq_true c1
      have ec : canMv d m = false := by unfold canMv; rw [decide_eq_false (by omega), Bool.false_and]
      rw [mkMv_cannot ec] at q1
      exact iteT q1
    have k1 : 0 ≤ m.pl := by
      have : ¬ m.pl < 0 := fun z => c1 (decide_eq_true z)
      omega
    refine ⟨_, rfl, _, rfl, _, rfl, by rw [S_len]; exact fits (by omega), _, _, rfl, rfl, _, rfl, ?_⟩
    rw [S_len]
    refine ite2 (fun c2 => ?_) (fun c2 => ?_)
    · have k2 : (d.length : Int) < m.pl := of_decide_eq_true c2
      have ec : canMv d m = false := by unfold canMv; rw [decide_eq_false (show ¬ m.pl ≤ d.length by omega), Bool.false_and, Bool.and_false]
      rw [mkMv_cannot ec] at q1
      exact q1
    have k2 : m.pl ≤ d.length := by
      have : ¬ (d.length : Int) < m.pl := fun z => c2 (decide_eq_true z)
      omega
    refine ⟨_, rfl, _, rfl, _, rfl, _, rfl, _, rfl, _, rfl, by rw [S_len]; exact fits (by omega), _, _, rfl, rfl, _, rfl, _, rfl, by rw [S_len]; exact fits (by omega), ?_⟩
    rw [S_len, S_mid d k1]
    refine ⟨_, rfl, rfl, _, rfl, ?_⟩
    rw [show decide (V.str (S ((d.drop m.pl.toNat).take m.o.length)) = V.str (S m.o)) = decide ((d.drop m.pl.toNat).take m.o.length = m.o) from decide_eq_decide.mpr tx_iff]
    refine ite2 (fun c3 => ?_) (fun c3 => ?_)
    · have k3 : ¬ (d.drop m.pl.toNat).take m.o.length = m.o := by simpa using c3
      have ec : canMv d m = false := by unfold canMv; rw [decide_eq_false k3, Bool.and_false, Bool.and_false]
      rw [mkMv_cannot ec] at q1
      exact q1
    · have k3 : (d.drop m.pl.toNat).take m.o.length = m.o := by simpa using c3
      have ec : canMv d m = true := by unfold canMv; rw [decide_eq_true k1, decide_eq_true k2, decide_eq_true k3]; rfl
      rw [mkMv_some e ec] at q1
      refine ⟨_, rfl, _, rfl, _, rfl, _, rfl, by rw [S_len]; exact fits (by omega), ?_⟩
      rw [S_take d k1]
      refine ⟨_, rfl, _, _, rfl, rfl, ?_, ?_⟩
      · rw [S_len, S_len, List.length_take]; exact fits (by omega)
      refine ⟨_, rfl, _, rfl, _, rfl, _, rfl, by rw [S_len]; exact fits (by omega), _, _, rfl, rfl, _, rfl, _, rfl, by rw [S_len]; exact fits (by omega), ?_⟩
      rw [S_len, S_app, S_drop d (show 0 ≤ m.pl + (m.o.length : Int) by omega), show (m.pl + (m.o.length : Int)).toNat = m.pl.toNat + m.o.length by omega]
      refine ⟨_, _, rfl, rfl, ?_, ?_⟩
      · rw [S_len, S_len, List.length_append, List.length_take, List.length_drop]; exact fits (by omega)
      rw [S_app]
      exact q1
end
section
variable {P : Program} {w : World} {K : PySem.W.Frag} {mg : Str → Option Value} {base : Heap} {f : Addr} {fd : FuncData}
theorem ok_law_put (F : Fun K "_law_put" "_law_put" s_law_put f fd) (D_take : Dfn P w K mg base "_law_take" 1 ["tape", "many"] spTake) (y_len : mg "len" = none)  : FnOk P w K mg base CX0 2 f fd ["tape", "dance"] spPut := by
  refine F.ok sc_law_put (fun vs H Q E h => ?_) (fun cdv A outer s H vs Q E hr h => ?_)
  · obtain ⟨a, d, rfl, hT, hd, q⟩ := h
    rfl
  obtain ⟨a, d, rfl, hT, hd, q⟩ := h
  refine ⟨_, (pss_cons (ps_set (i := 2) sc_law_put.nd rfl (.inl rfl) (pe_ix ix_list (pe_lst (pa_cons pe_str (pa_cons pe_str (pa_cons pe_str (pa_cons pe_str (pa_cons pe_str (pa_cons pe_str pa_nil))))))) (pe_do D_take hr (pa_cons (pv 0) (pa_cons pe_int pa_nil))) (fun _ _ => rfl)))
    (pss_cons (ps_set (i := 3) sc_law_put.nd rfl (.inl rfl) (pe_do D_take hr (pa_cons (pv 0) (pa_cons (pe_op op_add (pe_callB call_len_str rfl y_len PySem.boot_len (pa_cons (pv 1) pa_nil)) pe_int) pa_nil))))
    (pss_cons (ps_if (pt_cmpR op_eq (pv 2) pe_str (nomark _)) (pss_one (ps_set (i := 3) sc_law_put.nd rfl (.inl rfl) pe_int)) pss_nil)
    (pss_one (ps_ret (pe_tup (pa_cons (pv 3) (pa_cons pe_str (pa_cons (pv 2) pa_nil))))))))), ?_⟩
  refine ⟨fits (by decide), fun p hp => ?_⟩
  have np := hT.ne hp
  refine ⟨_, rfl, a, 6, rfl, hT.same (same_new hp _), by decide, by decide, fun r H1 r0 r1 b1 t1 => ?_⟩
  rw [e_TU, e_UT, e_RR, e_six, e_RTR] at *
  obtain ⟨u, hu, hm⟩ := pick_strs (ws := [[84, 85], [85, 84], [82, 82], [82, 82], [84, 82, 84, 82, 84, 82], wF]) r0 r1
  refine ⟨p, _, _, _, rfl, rfl, SqL.of (b1 _ _ np upd_same), hu, ?_⟩
  have B1 : But a H H1 := (But.of (same_new hp _)).trans b1
  refine ⟨_, rfl, _, rfl, _, rfl, by rw [S_len]; exact fits (by omega), _, _, rfl, rfl, a, _, rfl, t1, by rw [S_len]; omega, by rw [S_len]; omega, fun r2 H2 r20 r21 b2 t2 => ?_⟩
  rw [S_len] at r21
  have B2 := B1.trans b2
  have s3 : 3 ≤ sizeLine := fits (by decide)
  refine ⟨_, rfl, rfl, _, rfl, ite2 (fun c1 => ?_) (fun c1 => ?_)⟩
  · have k1 : u = wF := tx_inj (of_decide_eq_true c1)
    subst k1
    refine ⟨_, rfl, _, rfl, s3, fun t ht => q t ⟨0, [], wF⟩ _ (Cn.putF d) rfl (B2.trans (But.of (same_new ht _))) (t2.same (same_new ht _)) ?_⟩
    unfold Tm Mv.vs
    rw [upd_same, e_empty]
  · have k1 : ¬ u = wF := fun z => c1 (decide_eq_true (by rw [z]))
    have hw : u ∈ wds := by
      simp only [List.mem_cons, List.not_mem_nil, or_false] at hm
      rcases hm with h | h | h | h | h | h
      · rw [h]; decide
      · rw [h]; decide
      · rw [h]; decide
      · rw [h]; decide
      · rw [h]; decide
      · exact (k1 h).elim
    refine ⟨_, rfl, _, rfl, s3, fun t ht => q t ⟨r2, [], u⟩ _ (Cn.put hw r20 (by omega)) rfl (B2.trans (But.of (same_new ht _))) (t2.same (same_new ht _)) ?_⟩
    unfold Tm Mv.vs
    rw [upd_same, e_empty]
end
section
variable {P : Program} {w : World} {K : PySem.W.Frag} {mg : Str → Option Value} {base : Heap} {f : Addr} {fd : FuncData}
theorem ok_law_taken (F : Fun K "_law_taken" "_law_taken" s_law_taken f fd) (D_law_put : Dfn P w K mg base "_law_put" 2 ["tape", "dance"] spPut) (D_take : Dfn P w K mg base "_law_take" 2 ["tape", "many"] spTake) (y_range : mg "range" = none) (y_len : mg "len" = none)  : FnOk P w K mg base CX0 3 f fd ["tape", "dance"] spTaken := by
  refine F.ok sc_law_taken (fun vs H Q E h => ?_) (fun cdv A outer s H vs Q E hr h => ?_)
  · obtain ⟨a, d, rfl, hT, hd, q⟩ := h
    rfl
  obtain ⟨a, d, rfl, hT, hd, q⟩ := h
  refine ⟨_, (pss_cons (ps_set (i := 2) sc_law_taken.nd rfl (.inl rfl) (pe_lst pa_nil))
    (pss_cons (ps_for PassesOwn.never rfl (pi_range1 rfl y_range (pa_cons (pe_callB call_len_str rfl y_len PySem.boot_len (pa_cons (pv 1) pa_nil)) pa_nil)) (pg_name (i := 3) sc_law_taken.nd rfl (.inl rfl))
    (pss_one (ps_for PassesOwn.never rfl (pi_list (pe_lst (pa_cons pe_str (pa_cons pe_str (pa_cons pe_str (pa_cons pe_str pa_nil)))))) (pg_name (i := 4) sc_law_taken.nd rfl (.inl rfl))
    (pss_one (ps_if (pt_cmpR op_eq (pe_slice sl_str (pv 1) (po_some (pv 3)) (po_some (pe_op op_add (pv 3) (pe_callB call_len_str rfl y_len PySem.boot_len (pa_cons (pv 4) pa_nil))))) (pv 4) (nomark _)) (pss_one (ps_expr (pe_bm PySem.F.plainAttrs_list PySem.F.slot_list_append PySem.F.type_list_append mt_append (pv 2) (pa_cons (pe_tup (pa_cons (pv 3) (pa_cons (pv 4) (pa_cons pe_str pa_nil)))) pa_nil)))) pss_nil)))))
    (pss_cons (ps_if (pt_cmpR op_eq (pe_slice sl_str (pv 1) po_none (po_some pe_int)) pe_str (nomark _)) (pss_one (ps_expr (pe_bm PySem.F.plainAttrs_list PySem.F.slot_list_append PySem.F.type_list_append mt_append (pv 2) (pa_cons (pe_tup (pa_cons pe_int (pa_cons pe_str (pa_cons pe_str pa_nil)))) pa_nil)))) pss_nil)
    (pss_cons (ps_if (pt_cmpR op_eq (pe_callB call_len_seq rfl y_len PySem.boot_len (pa_cons (pv 2) pa_nil)) pe_int (nomark _)) (pss_one (ps_ret (pe_do D_law_put hr (pa_cons (pv 0) (pa_cons (pv 1) pa_nil))))) pss_nil)
    (pss_one (ps_ret (pe_ix ix_list (pv 2) (pe_do D_take hr (pa_cons (pv 0) (pa_cons (pe_callB call_len_seq rfl y_len PySem.boot_len (pa_cons (pv 2) pa_nil)) pa_nil))) (fun _ _ => rfl)))))))), ?_⟩
  have s3 : 3 ≤ sizeLine := fits (by decide)
  refine ⟨fits (by decide), fun p hp => ?_⟩
  have np := hT.ne hp
  refine ⟨_, rfl, _, rfl, by rw [S_len]; exact fits (by omega), (d.length : Int), by rw [S_len], by omega, by omega, for_range (lo := 0) (n := (d.length : Int).toNat) (fun i σ H' => ∃ (x1 x2 : Option V) (ms : List Mv), σ = [some (.ref a), some (.str (S d)), some (.ref p), x1, x2] ∧ Same H H' ∧ Tl H' p (ms.map Mv.vs) ∧ (∀ m ∈ ms, Cn d m) ∧ ms.length ≤ 4 * i) ?_ ?_ ?_⟩
  · exact ⟨_, _, [], rfl, same_new hp _, Tl.nil upd_same, (fun m hm => by cases hm), Nat.zero_le _⟩
  · rintro i σ H1 hi ⟨x1, x2, ms, rfl, sm, tl, hms, hz⟩
    refine ⟨fits (by decide), fun lp hlp => ?_⟩
    have ne1 : lp ≠ p := by
      obtain ⟨xs, e, _⟩ := tl.lst
      exact (ne_of_none e hlp).symm
    refine ⟨lp, rfl, ⟨_, SqL.of upd_same⟩, for_list (K := K) (a := lp) (xs := wds.map tx) (fun j σ G => ∃ (x2 : Option V) (ms : List Mv), σ = [some (.ref a), some (.str (S d)), some (.ref p), some (.int (0 + (i : Int))), x2] ∧ Same H G ∧ G lp = some (.lst (wds.map tx)) ∧ Tl G p (ms.map Mv.vs) ∧ (∀ m ∈ ms, Cn d m) ∧ ms.length ≤ 4 * i + j) ?_ ?_ ?_ ?_⟩
    · refine ⟨_, ms, rfl, sm.trans (same_new hlp _), ?_, tl.same (same_new hlp _), hms, hz⟩
      rw [upd_same, four_words]
    · rintro j σ G _ ⟨x2, ms, _, _, hl, _⟩
      exact SqL.of hl
    · rintro j y σ G hj ⟨x2, ms, rfl, sg, hl, tl, hms, hz⟩
      rw [List.getElem?_map] at hj
      cases hu : wds[j]? with
      | none => rw [hu] at hj; cases hj
      | some u =>
        rw [hu] at hj
        cases hj
        have mu : u ∈ wds := List.mem_of_getElem? hu
        have lu := wds_len mu
        have hj4 : j < 4 := (List.getElem?_eq_some_iff.mp hu).1
        refine ⟨_, rfl, _, rfl, _, rfl, _, rfl, _, rfl, _, rfl, by rw [S_len]; exact fits (by omega), _, _, rfl, rfl, _, rfl, _, rfl, by rw [S_len]; exact fits (by omega), ?_⟩
        rw [S_len, S_mid d (show (0 : Int) ≤ 0 + (i : Int) by omega)]
        refine ⟨_, rfl, rfl, _, rfl, ite2 (fun c1 => ?_) (fun c1 => ?_)⟩
        · have k1 : (d.drop (0 + (i : Int)).toNat).take u.length = u := tx_inj (of_decide_eq_true c1)
          have cn : Cn d ⟨0 + (i : Int), u, []⟩ := Cn.take mu (by omega) (by omega) k1
          obtain ⟨xs0, e0, _⟩ := tl.lst
          refine ⟨_, rfl, .inl ⟨rfl, _, SqL.of e0⟩, _, rfl, _, rfl, s3, fun t ht => ?_⟩
          have ht1 : upd G t (.tup [.int (0 + (i : Int)), .str (S u), .str ""]) t = some (.tup (Mv.vs ⟨0 + (i : Int), u, []⟩)) := by rw [upd_same, e_empty]; rfl
          obtain ⟨xs, ex, lx, tl'⟩ := (tl.same (same_new ht _)).push ht1
          refine ⟨p, xs, _, rfl, rfl, ex, ?_, ?_⟩
          · rw [lx, List.length_map]; exact Nat.lt_of_lt_of_le (show ms.length < 16777216 by omega) sizeLine_big
          refine ⟨_, ms ++ [⟨0 + (i : Int), u, []⟩], rfl, fun b o hb => ?_, ?_, by rw [List.map_append]; exact tl', fun m hm => ?_, by rw [List.length_append]; show ms.length + 1 ≤ _; omega⟩
          · rw [upd_ne (ne_of_none hb hp), upd_ne (ne_of_none (sg _ _ hb) ht)]; exact sg _ _ hb
          · rw [upd_ne ne1, upd_ne (ne_of_none hl ht)]; exact hl
          · rcases List.mem_append.mp hm with hm | hm
            · exact hms m hm
            · rw [List.mem_singleton.mp hm]; exact cn
        · exact ⟨_, ms, rfl, sg, hl, tl, hms, by omega⟩
    · rintro σ G ⟨x2, ms, rfl, sg, hl, tl, hms, hz⟩
      exact ⟨_, _, ms, rfl, sg, tl, hms, by have : (wds.map tx).length = 4 := rfl; omega⟩
  · rintro σ H1 ⟨x1, x2, ms, rfl, sm, tl, hms, hz⟩
    rw [Int.toNat_natCast] at hz
    refine ⟨_, rfl, _, rfl, _, rfl, by rw [S_len]; exact fits (by omega), ?_⟩
    rw [S_take d (show (0 : Int) ≤ 3 by decide)]
    refine ⟨rfl, _, rfl, ?_⟩
    rw [e_RTR, show decide (V.str (S (List.take (Int.toNat 3) d)) = V.str (S wF)) = decide (d.take 3 = wF) from decide_eq_decide.mpr tx_iff]
    refine ite2 (fun c1 => ?A) (fun c1 => ?B)
    case' A =>
      have cn := Cn.takeF (of_decide_eq_true c1)
      obtain ⟨xs0, e0, _⟩ := tl.lst
      refine ⟨_, rfl, .inl ⟨rfl, _, SqL.of e0⟩, s3, fun t ht => ?_⟩
      have ht1 : upd H1 t (.tup [.int 0, .str "RTR", .str ""]) t = some (.tup (Mv.vs ⟨0, wF, []⟩)) := by rw [upd_same, e_empty, e_RTR]; rfl
      obtain ⟨xs, ex, lx, tl2⟩ := (tl.same (same_new ht _)).push ht1
      refine ⟨p, xs, _, rfl, rfl, ex, ?_, ?_⟩
      · rw [lx, List.length_map]; exact Nat.lt_of_lt_of_le (show ms.length < 16777216 by omega) sizeLine_big
      have sm' : Same H (upd (upd H1 t (.tup [.int 0, .str "RTR", .str ""])) p (.lst (xs ++ [.ref t]))) := fun b o hb => by
        rw [upd_ne (ne_of_none hb hp), upd_ne (ne_of_none (sm _ _ hb) ht)]; exact sm _ _ hb
      obtain ⟨ms', tl', hms', hz'⟩ : ∃ ms' : List Mv, Tl (upd (upd H1 t (.tup [.int 0, .str "RTR", .str ""])) p (.lst (xs ++ [.ref t]))) p (ms'.map Mv.vs) ∧ (∀ m ∈ ms', Cn d m) ∧ ms'.length ≤ 4 * d.length + 1 := by
        refine ⟨ms ++ [⟨0, wF, []⟩], by rw [List.map_append]; exact tl2, fun m hm => ?_, by rw [List.length_append]; show ms.length + 1 ≤ _; omega⟩
        rcases List.mem_append.mp hm with hm | hm
        · exact hms m hm
        · rw [List.mem_singleton.mp hm]; exact cn
    case' B =>
      have sm' := sm
      obtain ⟨ms', tl', hms', hz'⟩ : ∃ ms' : List Mv, Tl H1 p (ms'.map Mv.vs) ∧ (∀ m ∈ ms', Cn d m) ∧ ms'.length ≤ 4 * d.length + 1 := ⟨ms, tl, hms, by omega⟩
    all_goals
      have T2 := hT.same sm'
      obtain ⟨xs2, e2, l2⟩ := tl'.lst
      rw [List.length_map] at l2
      refine ⟨_, rfl, p, _, rfl, .inl (SqL.of e2), rfl, _, rfl, ite2 (fun c2 => ?_) (fun c2 => ?_)⟩
      · refine ⟨_, rfl, _, rfl, a, d, rfl, T2, hd, fun t m H3 cn _ b3 t3 tm => q t m H3 cn ((But.of sm').trans b3) t3 tm⟩
      · have k2 : ms'.length ≠ 0 := fun z => c2 (by rw [l2, z]; rfl)
        refine ⟨_, rfl, _, rfl, _, rfl, p, _, rfl, .inl (SqL.of e2), a, _, rfl, T2, by rw [l2]; omega, by rw [l2]; omega, fun r H3 r0 r1 b3 t3 => ?_⟩
        rw [l2] at r1
        have hlt : r.toNat < ms'.length := by omega
        have tl3 := tl'.tape b3 np T2
        obtain ⟨xs3, rr, e3, l3, at3, tup3⟩ := tl3.at (i := r.toNat) (d := Mv.vs ms'[r.toNat]) (by rw [List.getElem?_map, List.getElem?_eq_getElem hlt]; rfl)
        refine ⟨p, _, _, _, rfl, rfl, SqL.of e3, ?_, q rr _ H3 (hms' _ (List.getElem_mem hlt)) ((But.of sm').trans b3) t3 tup3⟩
        have := atI_nat (j := r.toNat) at3
        rw [Int.toNat_of_nonneg r0] at this
        exact this
end
section
variable {P : Program} {w : World} {K : PySem.W.Frag} {mg : Str → Option Value} {base : Heap} {f : Addr} {fd : FuncData}
theorem ok_near_word (F : Fun K "_law_near_word" "_law_near_word" s_law_near_word f fd) (D_take : Dfn P w K mg base "_law_take" 1 ["tape", "many"] spTake) (y_len : mg "len" = none) (y_range : mg "range" = none)  : FnOk P w K mg base CX0 2 f fd ["tape"] spNear := by
  refine F.ok sc_law_near_word (fun vs H Q E h => ?_) (fun cdv A outer s H vs Q E hr h => ?_)
  · obtain ⟨a, rfl, hT, q⟩ := h
    rfl
  obtain ⟨a, rfl, hT, q⟩ := h
  refine ⟨_, (pss_cons (ps_set (i := 1) sc_law_near_word.nd rfl (.inl rfl) (pe_ix ix_list (pe_lst (pa_cons pe_str (pa_cons pe_str (pa_cons pe_str (pa_cons pe_str (pa_cons pe_str pa_nil)))))) (pe_do D_take hr (pa_cons (pv 0) (pa_cons pe_int pa_nil))) (fun _ _ => rfl)))
    (pss_cons (ps_set (i := 2) sc_law_near_word.nd rfl (.inl rfl) (pe_do D_take hr (pa_cons (pv 0) (pa_cons (pe_op op_add (pe_callB call_len_str rfl y_len PySem.boot_len (pa_cons (pv 1) pa_nil)) pe_int) pa_nil))))
    (pss_cons (ps_set (i := 3) sc_law_near_word.nd rfl (.inl rfl) (pe_ix ix_str pe_str (pe_do D_take hr (pa_cons (pv 0) (pa_cons pe_int pa_nil))) (fun _ _ => rfl)))
    (pss_cons (ps_set (i := 4) sc_law_near_word.nd rfl (.inl rfl) (pe_do D_take hr (pa_cons (pv 0) (pa_cons pe_int pa_nil))))
    (pss_cons (ps_if (pt_cmpR op_eq (pv 4) pe_int (nomark _)) (pss_one (ps_ret (pe_op op_add_str (pe_op op_add_str (pe_slice sl_str (pv 1) po_none (po_some (pv 2))) (pv 3)) (pe_slice sl_str (pv 1) (po_some (pv 2)) po_none)))) pss_nil)
    (pss_cons (ps_if (pt_cmpR op_eq (pv 4) pe_int (nomark _)) (pss_one (ps_ret (pe_op op_add_str (pe_slice sl_str (pv 1) po_none (po_some (pv 2))) (pe_slice sl_str (pv 1) (po_some (pe_op op_add (pv 2) pe_int)) po_none)))) pss_nil)
    (pss_cons (ps_if (pt_cmpR op_eq (pv 4) pe_int (nomark _)) (pss_one (ps_ret (pe_op op_add_str (pe_op op_add_str (pe_slice sl_str (pv 1) po_none (po_some (pv 2))) (pv 3)) (pe_slice sl_str (pv 1) (po_some (pe_op op_add (pv 2) pe_int)) po_none)))) pss_nil)
    (pss_one (ps_ret (pe_join pe_str (pe_lc (own := [("k", 5)]) (g := (gName 5)) (tt := tYes) (by rfl) sc_law_near_word.nd (pi_range1 rfl y_range (pa_cons (pe_do D_take hr (pa_cons (pv 0) (pa_cons pe_int pa_nil))) pa_nil)) (blkOk_by (own := [("k", 5)]) (N := ["tape", "word", "spot", "letter", "choice", "k"]) (sc := defScope s_law_near_word) (by decide +kernel)) (fun _ _ _ _ _ => pg_name (i := 5) sc_law_near_word.nd rfl (Or.inl rfl)) (fun _ _ _ _ _ => pts_nil) (fun _ _ _ _ _ => (pe_ix ix_str pe_str (pe_do D_take hr (pa_cons (pv 0) (pa_cons pe_int pa_nil))) (fun _ _ => rfl)))))))))))))), ?_⟩
  refine ⟨fits (by decide), fun p hp => ?_⟩
  have np := hT.ne hp
  refine ⟨_, rfl, a, 5, rfl, hT.same (same_new hp _), by decide, by decide, fun r H1 r0 r1 b1 t1 => ?_⟩
  rw [e_TU, e_UT, e_RR, e_six, e_RTR] at *
  obtain ⟨u, hu, hm⟩ := pick_strs (ws := [[84, 85], [85, 84], [82, 82], [84, 82, 84, 82, 84, 82], wF]) r0 r1
  have hul : u.length ≤ 6 := by
    simp only [List.mem_cons, List.not_mem_nil, or_false] at hm
    rcases hm with rfl | rfl | rfl | rfl | rfl <;> decide
  refine ⟨p, _, _, _, rfl, rfl, SqL.of (b1 _ _ np upd_same), hu, ?_⟩
  have B1 : But a H H1 := (But.of (same_new hp _)).trans b1
  refine ⟨_, rfl, _, rfl, _, rfl, by rw [S_len]; exact fits (by omega), _, _, rfl, rfl, a, _, rfl, t1, by rw [S_len]; omega, by rw [S_len]; omega, fun r2 H2 r20 r21 b2 t2 => ?_⟩
  refine ⟨_, rfl, a, 6, rfl, t2, by decide, by decide, fun r3 H3 r30 r31 b3 t3 => ?_⟩
  obtain ⟨c, hc, _⟩ := pick_sign e_near r30 r31
  refine ⟨_, _, c, rfl, rfl, fits (by decide +kernel), hc, ?_⟩
  refine ⟨_, rfl, a, 4, rfl, t3, by decide, by decide, fun r4 H4 r40 r41 b4 t4 => ?_⟩
  have B4 := ((B1.trans b2).trans b3).trans b4
  have len2 : ∀ x : Nat, (u.take x).length ≤ 6 := fun x => by rw [List.length_take]; omega
  have len3 : ∀ x : Nat, (u.drop x).length ≤ 6 := fun x => by rw [List.length_drop]; omega
  have f6 : u.length ≤ sizeLine := fits (by omega)
  have fa : ∀ x y : List Nat, x.length ≤ 20 → y.length ≤ 20 → (S x).length + (S y).length ≤ sizeLine := fun x y h1 h2 => by rw [S_len, S_len]; exact fits (by omega)
  refine ⟨_, rfl, rfl, _, rfl, ite2 (fun c1 => ?_) (fun c1 => ?_)⟩
  · refine ⟨_, rfl, _, rfl, _, rfl, _, rfl, by rw [S_len]; exact f6, ?_⟩
    rw [S_take u r20]
    refine ⟨_, rfl, _, S [c], rfl, rfl, fa _ _ (Nat.le_trans (len2 _) (by decide)) (by show 1 ≤ 20; decide), ?_⟩
    rw [S_app]
    refine ⟨_, rfl, _, rfl, _, rfl, _, rfl, by rw [S_len]; exact f6, ?_⟩
    rw [S_drop u r20]
    refine ⟨_, _, rfl, rfl, fa _ _ (by rw [List.length_append]; have := len2 r2.toNat; show _ + 1 ≤ 20; omega) (Nat.le_trans (len3 _) (by decide)), ?_⟩
    rw [S_app]
    exact q _ H4 (by rw [List.length_append, List.length_append]; have := len2 r2.toNat; have := len3 r2.toNat; show _ + 1 + _ ≤ 20; omega) B4 t4
  refine ⟨_, rfl, rfl, _, rfl, ite2 (fun c2 => ?_) (fun c2 => ?_)⟩
  · refine ⟨_, rfl, _, rfl, _, rfl, _, rfl, by rw [S_len]; exact f6, ?_⟩
    rw [S_take u r20]
    refine ⟨_, rfl, _, rfl, _, _, rfl, rfl, _, rfl, _, rfl, by rw [S_len]; exact f6, ?_⟩
    rw [S_drop u (show 0 ≤ r2 + 1 by omega)]
    refine ⟨_, _, rfl, rfl, fa _ _ (Nat.le_trans (len2 _) (by decide)) (Nat.le_trans (len3 _) (by decide)), ?_⟩
    rw [S_app]
    exact q _ H4 (by rw [List.length_append]; have := len2 r2.toNat; have := len3 (r2 + 1).toNat; omega) B4 t4
  refine ⟨_, rfl, rfl, _, rfl, ite2 (fun c3 => ?_) (fun c3 => ?_)⟩
  · refine ⟨_, rfl, _, rfl, _, rfl, _, rfl, by rw [S_len]; exact f6, ?_⟩
    rw [S_take u r20]
    refine ⟨_, rfl, _, S [c], rfl, rfl, fa _ _ (Nat.le_trans (len2 _) (by decide)) (by show 1 ≤ 20; decide), ?_⟩
    rw [S_app]
    refine ⟨_, rfl, _, rfl, _, _, rfl, rfl, _, rfl, _, rfl, by rw [S_len]; exact f6, ?_⟩
    rw [S_drop u (show 0 ≤ r2 + 1 by omega)]
    refine ⟨_, _, rfl, rfl, fa _ _ (by rw [List.length_append]; have := len2 r2.toNat; show _ + 1 ≤ 20; omega) (Nat.le_trans (len3 _) (by decide)), ?_⟩
    rw [S_app]
    exact q _ H4 (by rw [List.length_append, List.length_append]; have := len2 r2.toNat; have := len3 (r2 + 1).toNat; show _ + 1 + _ ≤ 20; omega) B4 t4
  refine ⟨⟨_, rfl⟩, _, rfl, a, 8, rfl, t4, by decide, by decide, fun r5 H5 r50 r51 b5 t5 => ?_⟩
  refine ⟨r5, rfl, by omega, by omega, fun D' hD => ?_⟩
  have nD := t5.ne hD
  refine lc_range (lo := 0) (n := r5.toNat) (fun i G => ∃ l : List Nat, But a H5 G ∧ Tape G a ∧ G D' = some (.lst (l.map fun c => V.str (S [c]))) ∧ l.length = i) ?_ ?_ ?_
  · exact ⟨[], But.of (same_new hD _), t5.same (same_new hD _), upd_same, rfl⟩
  · rintro i G hi ⟨l, bt, tp, hG, hl⟩
    refine ⟨rfl, ?_⟩
    refine ⟨_, rfl, a, 3, rfl, tp, by decide, by decide, fun r6 H6 r60 r61 b6 t6 => ?_⟩
    obtain ⟨c, hc, _⟩ := pick_sign e_TUR r60 r61
    have hG6 := b6 _ _ nD hG
    refine ⟨_, _, c, rfl, rfl, fits (by decide +kernel), hc, _, hG6, ?_, l ++ [c], fun b o nb hb => ?_, ?_, ?_, by rw [List.length_append, hl]; rfl⟩
    · rw [List.length_map, hl]
      exact Nat.lt_of_lt_of_le (show i < 16777216 by omega) sizeLine_big
    · have h2 := b6 _ _ nb (bt _ _ nb hb)
      rw [upd_ne (ne_of_none hb hD)]
      exact h2
    · obtain ⟨y1, y2, y3, y4, e⟩ := t6
      exact ⟨y1, y2, y3, y4, by rw [upd_ne nD.symm]; exact e⟩
    · rw [upd_same, List.map_append]; rfl
  · rintro G ⟨l, bt, tp, hG, hl⟩
    refine ⟨S [], D', l.map fun c => S [c], e_empty ▸ rfl, rfl, .inl (SqL.of ?_), ?_, ?_⟩
    · rw [hG, List.map_map]; rfl
    · rw [sum_ones, S_len, List.length_map, hl]
      show r5.toNat + r5.toNat * 0 ≤ 16777216
      omega
    · rw [join_signs]
      exact q l G (by omega) ((B4.trans b5).trans bt) tp
end
section
variable {P : Program} {w : World} {K : PySem.W.Frag} {mg : Str → Option Value} {base : Heap} {f : Addr} {fd : FuncData}
theorem ok_odd_move (F : Fun K "_law_odd_move" "_law_odd_move" s_law_odd_move f fd) (D_take : Dfn P w K mg base "_law_take" 2 ["tape", "many"] spTake) (D_near_word : Dfn P w K mg base "_law_near_word" 2 ["tape"] spNear) (y_len : mg "len" = none)  : FnOk P w K mg base CX0 3 f fd ["tape", "move"] spOdd := by
  refine F.ok sc_law_odd_move (fun vs H Q E h => ?_) (fun cdv A outer s H vs Q E hr h => ?_)
  · obtain ⟨a, t0, m0, kk, rfl, hT, hm0, hf, kk0, kk1, q⟩ := h
    rfl
  obtain ⟨a, t0, m0, kk, rfl, hT, hm0, hf, kk0, kk1, q⟩ := h
  refine ⟨_, (pss_cons (ps_set (i := 2) sc_law_odd_move.nd rfl (.inl rfl) (pe_lst (pa_cons pe_str (pa_cons pe_str (pa_cons pe_str (pa_cons pe_str (pa_cons pe_str (pa_cons pe_str (pa_cons pe_str (pa_cons pe_str (pa_cons pe_str (pa_cons pe_str (pa_cons pe_str (pa_cons pe_str (pa_cons pe_str (pa_cons pe_str pa_nil))))))))))))))))
    (pss_cons (ps_set (i := 3) sc_law_odd_move.nd rfl (.inl rfl) (pe_do D_take hr (pa_cons (pv 0) (pa_cons pe_int pa_nil))))
    (pss_cons (ps_asg (pv 1) (pg_tup (by rfl) (pgs_cons (pg_name (i := 4) sc_law_odd_move.nd rfl (.inl rfl)) (pgs_cons (pg_name (i := 5) sc_law_odd_move.nd rfl (.inl rfl)) (pgs_cons (pg_name (i := 6) sc_law_odd_move.nd rfl (.inl rfl)) pgs_nil)))))
    (pss_cons (ps_set (i := 7) sc_law_odd_move.nd rfl (.inl rfl) (pe_op op_add_str (pv 5) (pv 6)))
    (pss_cons (ps_set (i := 8) sc_law_odd_move.nd rfl (.inl rfl) (pe_do D_take hr (pa_cons (pv 0) (pa_cons (pe_op op_add (pe_callB call_len_str rfl y_len PySem.boot_len (pa_cons (pv 7) pa_nil)) pe_int) pa_nil))))
    (pss_cons (ps_if (pt_cmpR op_eq (pv 3) pe_int (nomark _)) (pss_one (ps_ret (pe_tup (pa_cons (pe_op op_add (pv 4) (pe_ix ix_list (pe_lst (pa_cons pe_int (pa_cons (pe_un un_neg pe_int) (pa_cons pe_int (pa_cons (pe_op op_pow pe_int pe_int) (pa_cons (pe_un un_neg (pe_op op_pow pe_int pe_int)) pa_nil)))))) (pe_do D_take hr (pa_cons (pv 0) (pa_cons pe_int pa_nil))) (fun _ _ => rfl))) (pa_cons (pv 5) (pa_cons (pv 6) pa_nil)))))) pss_nil)
    (pss_cons (ps_if (pt_cmpR op_eq (pv 3) pe_int (nomark _)) (pss_one (ps_ret (pe_tup (pa_cons (pv 4) (pa_cons (pe_ix ix_list (pv 2) (pe_do D_take hr (pa_cons (pv 0) (pa_cons pe_int pa_nil))) (fun _ _ => rfl)) (pa_cons (pv 6) pa_nil)))))) pss_nil)
    (pss_cons (ps_if (pt_cmpR op_eq (pv 3) pe_int (nomark _)) (pss_one (ps_ret (pe_tup (pa_cons (pv 4) (pa_cons (pv 5) (pa_cons (pe_ix ix_list (pv 2) (pe_do D_take hr (pa_cons (pv 0) (pa_cons pe_int pa_nil))) (fun _ _ => rfl)) pa_nil)))))) pss_nil)
    (pss_cons (ps_if (pt_cmpR op_eq (pv 3) pe_int (nomark _)) (pss_one (ps_ret (pe_tup (pa_cons (pv 4) (pa_cons (pv 6) (pa_cons (pv 5) pa_nil)))))) pss_nil)
    (pss_cons (ps_if (pt_cmpR op_eq (pv 3) pe_int (nomark _)) (pss_one (ps_ret (pe_tup (pa_cons (pe_op op_sub (pe_do D_take hr (pa_cons (pv 0) (pa_cons pe_int pa_nil))) pe_int) (pa_cons (pe_ix ix_list (pv 2) (pe_do D_take hr (pa_cons (pv 0) (pa_cons pe_int pa_nil))) (fun _ _ => rfl)) (pa_cons (pe_ix ix_list (pv 2) (pe_do D_take hr (pa_cons (pv 0) (pa_cons pe_int pa_nil))) (fun _ _ => rfl)) pa_nil)))))) pss_nil)
    (pss_cons (ps_if (pt_cmpR op_eq (pv 3) pe_int (nomark _)) (pss_one (ps_ret (pe_tup (pa_cons (pv 4) (pa_cons (pe_slice sl_str (pv 7) po_none (po_some (pv 8))) (pa_cons (pe_slice sl_str (pv 7) (po_some (pv 8)) po_none) pa_nil)))))) pss_nil)
    (pss_cons (ps_if (PW.pt (pw_or (pt_cmpR op_eq (pv 5) pe_str (nomark _)) (pw_or1 (pt_cmpR op_eq (pv 3) pe_int (nomark _))))) (pss_one (ps_ret (pe_tup (pa_cons (pv 4) (pa_cons (pv 5) (pa_cons (pe_do D_near_word hr (pa_cons (pv 0) pa_nil)) pa_nil)))))) pss_nil)
    (pss_one (ps_ret (pe_tup (pa_cons (pv 4) (pa_cons (pe_do D_near_word hr (pa_cons (pv 0) pa_nil)) (pa_cons (pv 6) pa_nil)))))))))))))))))), ?_⟩
  have z1 := hf.o
  have z2 := hf.n
  have s3 : 3 ≤ sizeLine := fits (by decide)
  refine ⟨fits (by decide), fun wp hwp => ?_⟩
  have nw := hT.ne hwp
  have W14 : ∀ z ∈ (["", "TU", "UT", "RR", "TRTRTR", "RTR", "URURUR", "RUR", "TTU", "T", "RT", "tu", "a b", "UTU"] : List Str), z.length ≤ 6 := by decide +kernel
  refine ⟨_, rfl, a, 8, rfl, hT.same (same_new hwp _), by decide, by decide, fun c8 H1 c0 c1 b1 t1 => ?_⟩
  have B1 : But a H H1 := (But.of (same_new hwp _)).trans b1
  have W1 := b1 _ _ nw (upd_same (H := H) (a := wp))
  have M1 : Tm H1 t0 m0 := (hm0.same (same_new hwp _)).but b1 (hT.same (same_new hwp _))
  refine ⟨_, rfl, t0, _, rfl, SqT.of M1, rfl, _, _, rfl, _, _, rfl, _, _, rfl, rfl, ?_⟩
  refine ⟨_, rfl, _, rfl, _, _, rfl, rfl, by rw [S_len, S_len]; exact fits (by omega), ?_⟩
  rw [S_app]
  refine ⟨_, rfl, _, rfl, _, rfl, by rw [S_len, List.length_append]; exact fits (by omega), _, _, rfl, rfl, a, _, rfl, t1, by rw [S_len]; omega, by rw [S_len, List.length_append]; omega, fun sp H2 sp0 sp1 b2 t2 => ?_⟩
  have B2 := B1.trans b2
  have W2 := b2 _ _ nw W1
  have M2 : Tm H2 t0 m0 := M1.but b2 t1
  have fin : ∀ (t : Addr) (m : Mv) (G : Hp), G t = none → m.Fit (2 * kk) → But a H G → Tape G a → Q (.ref t) (upd G t (.tup m.vs)) := fun t m G ht fit b tp => q t m _ fit (b.trans (But.of (same_new ht _))) (tp.same (same_new ht _)) upd_same
  refine ⟨_, rfl, rfl, _, rfl, ite2 (fun k0 => ?_) (fun k0 => ?_)⟩
  · refine ⟨_, rfl, _, rfl, _, _, rfl, rfl, ⟨by decide, by decide, by decide⟩, _, _, rfl, rfl, ⟨by decide, by decide, by decide⟩, _, rfl, fits (by show 5 ≤ 16777216; decide), fun lp hlp => ?_⟩
    have nl := t2.ne hlp
    refine ⟨_, rfl, a, 5, rfl, t2.same (same_new hlp _), by decide, by decide, fun r H3 r0 r1 b3 t3 => ?_⟩
    obtain ⟨z, hz⟩ := atI_ints (ns := [1, -1, 2, 10 ^ (20 : Int).toNat, -(10 ^ (20 : Int).toNat)]) r0 (show r < 5 from r1)
    refine ⟨lp, _, _, _, rfl, rfl, SqL.of (b3 _ _ nl upd_same), hz, _, _, rfl, rfl, ?_⟩
    exact ⟨_, rfl, _, rfl, s3, fun t ht => fin t ⟨m0.pl + z, m0.o, m0.n⟩ _ ht ⟨by show m0.o.length ≤ 2 * kk; omega, by show m0.n.length ≤ 2 * kk; omega⟩ (B2.trans ((But.of (same_new hlp _)).trans b3)) t3⟩
  refine ⟨_, rfl, rfl, _, rfl, ite2 (fun k1 => ?_) (fun k1 => ?_)⟩
  · refine ⟨_, rfl, _, rfl, _, rfl, a, 14, rfl, t2, by decide, by decide, fun r H3 r0 r1 b3 t3 => ?_⟩
    obtain ⟨u, hu, hl⟩ := pick_zs W14 r0 (show r < 14 from r1)
    exact ⟨wp, _, _, _, rfl, rfl, SqL.of (b3 _ _ nw W2), hu, _, rfl, s3, fun t ht => fin t ⟨m0.pl, u, m0.n⟩ _ ht ⟨by show u.length ≤ 2 * kk; omega, by show m0.n.length ≤ 2 * kk; omega⟩ (B2.trans b3) t3⟩
  refine ⟨_, rfl, rfl, _, rfl, ite2 (fun k2 => ?_) (fun k2 => ?_)⟩
  · refine ⟨_, rfl, _, rfl, _, rfl, _, rfl, a, 14, rfl, t2, by decide, by decide, fun r H3 r0 r1 b3 t3 => ?_⟩
    obtain ⟨u, hu, hl⟩ := pick_zs W14 r0 (show r < 14 from r1)
    exact ⟨wp, _, _, _, rfl, rfl, SqL.of (b3 _ _ nw W2), hu, s3, fun t ht => fin t ⟨m0.pl, m0.o, u⟩ _ ht ⟨by show m0.o.length ≤ 2 * kk; omega, by show u.length ≤ 2 * kk; omega⟩ (B2.trans b3) t3⟩
  refine ⟨_, rfl, rfl, _, rfl, ite2 (fun k3 => ?_) (fun k3 => ?_)⟩
  · exact ⟨_, rfl, _, rfl, _, rfl, s3, fun t ht => fin t ⟨m0.pl, m0.n, m0.o⟩ _ ht ⟨by show m0.n.length ≤ 2 * kk; omega, by show m0.o.length ≤ 2 * kk; omega⟩ B2 t2⟩
  refine ⟨_, rfl, rfl, _, rfl, ite2 (fun k4 => ?_) (fun k4 => ?_)⟩
  · refine ⟨_, rfl, a, 4, rfl, t2, by decide, by decide, fun r H3 r0 r1 b3 t3 => ⟨_, _, rfl, rfl, ?_⟩⟩
    refine ⟨_, rfl, _, rfl, a, 14, rfl, t3, by decide, by decide, fun r4 H4 r40 r41 b4 t4 => ?_⟩
    obtain ⟨u, hu, hl⟩ := pick_zs W14 r40 (show r4 < 14 from r41)
    refine ⟨wp, _, _, _, rfl, rfl, SqL.of (b4 _ _ nw (b3 _ _ nw W2)), hu, ?_⟩
    refine ⟨_, rfl, _, rfl, a, 14, rfl, t4, by decide, by decide, fun r5 H5 r50 r51 b5 t5 => ?_⟩
    obtain ⟨u2, hu2, hl2⟩ := pick_zs W14 r50 (show r5 < 14 from r51)
    exact ⟨wp, _, _, _, rfl, rfl, SqL.of (b5 _ _ nw (b4 _ _ nw (b3 _ _ nw W2))), hu2, s3, fun t ht => fin t ⟨r - 1, u, u2⟩ _ ht ⟨by show u.length ≤ 2 * kk; omega, by show u2.length ≤ 2 * kk; omega⟩ (((B2.trans b3).trans b4).trans b5) t5⟩
  refine ⟨_, rfl, rfl, _, rfl, ite2 (fun k5 => ?_) (fun k5 => ?_)⟩
  · refine ⟨_, rfl, _, rfl, _, rfl, _, rfl, _, rfl, by rw [S_len, List.length_append]; exact fits (by omega), ?_⟩
    rw [S_take _ sp0]
    refine ⟨_, rfl, _, rfl, _, rfl, _, rfl, by rw [S_len, List.length_append]; exact fits (by omega), ?_⟩
    rw [S_drop _ sp0]
    exact ⟨s3, fun t ht => fin t ⟨m0.pl, (m0.o ++ m0.n).take sp.toNat, (m0.o ++ m0.n).drop sp.toNat⟩ _ ht ⟨by show (List.take _ _).length ≤ 2 * kk; rw [List.length_take, List.length_append]; omega, by show (List.drop _ _).length ≤ 2 * kk; rw [List.length_drop, List.length_append]; omega⟩ B2 t2⟩
  refine ⟨_, rfl, rfl, _, rfl, ite2 (fun k6 => ?A) (fun k6 => ⟨_, rfl, rfl, _, rfl, ite2 (fun k7 => ?B) (fun k7 => ?C)⟩)⟩
  case A =>
    exact ⟨_, rfl, _, rfl, _, rfl, a, rfl, t2, fun u H3 hu b3 t3 => ⟨s3, fun t ht => fin t ⟨m0.pl, m0.o, u⟩ _ ht ⟨by show m0.o.length ≤ 2 * kk; omega, by show u.length ≤ 2 * kk; omega⟩ (B2.trans b3) t3⟩⟩
  case B =>
    exact ⟨_, rfl, _, rfl, _, rfl, a, rfl, t2, fun u H3 hu b3 t3 => ⟨s3, fun t ht => fin t ⟨m0.pl, m0.o, u⟩ _ ht ⟨by show m0.o.length ≤ 2 * kk; omega, by show u.length ≤ 2 * kk; omega⟩ (B2.trans b3) t3⟩⟩
  case C =>
    exact ⟨_, rfl, _, rfl, a, rfl, t2, fun u H3 hu b3 t3 => ⟨_, rfl, s3, fun t ht => fin t ⟨m0.pl, u, m0.n⟩ _ ht ⟨by show u.length ≤ 2 * kk; omega, by show m0.n.length ≤ 2 * kk; omega⟩ (B2.trans b3) t3⟩⟩
end
section
variable {P : Program} {w : World} {K : PySem.W.Frag} {mg : Str → Option Value} {base : Heap} {f : Addr} {fd : FuncData}
theorem ok_madeX (F : Fun K "made" "made" s_made f fd) (D_is_move : Dfn P w K mg base "is_move" 1 ["move"] spIsMove) (y_len : mg "len" = none) {C : Addr} (EC : Err K mg "BadMove" C) : FnOk P w K mg base (CX P w) 2 f fd ["dance", "move"] (spMadeX C) := by
  refine F.okX sc_made (fun vs H Q E h => ?_) (fun cdv A outer s H vs Q E hr h => ?_)
  · obtain ⟨d, t, m, rfl, hT, hf, hd, q, qE⟩ := h
    rfl
  obtain ⟨d, t, m, rfl, hT, hf, hd, q, qE⟩ := h
  refine ⟨_, (pss_cons (ps_if (pt_not (pt_val (pe_do D_is_move hr (pa_cons (pv 1) pa_nil)))) (pss_one (L2.ps_raise rfl (L2.takes_of rfl rfl rfl rfl) (L2.pmk_own PySem.F.excBase_ValueError EC.x EC.g EC.k (raises_own EC.b EC.t) rfl))) pss_nil)
    (pss_cons (ps_asg (pv 1) (pg_tup (by rfl) (pgs_cons (pg_name (i := 2) sc_made.nd rfl (.inl rfl)) (pgs_cons (pg_name (i := 3) sc_made.nd rfl (.inl rfl)) (pgs_cons (pg_name (i := 4) sc_made.nd rfl (.inl rfl)) pgs_nil)))))
    (pss_cons (ps_set (i := 5) sc_made.nd rfl (.inl rfl) (pe_op op_add (pv 2) (pe_callB call_len_str rfl y_len PySem.boot_len (pa_cons (pv 3) pa_nil))))
    (pss_cons (ps_if (PW.pt (pw_or (pt_cmpR op_lt (pv 2) pe_int (nomark _)) (pw_or (pt_cmpR op_gt (pv 2) (pe_callB call_len_str rfl y_len PySem.boot_len (pa_cons (pv 0) pa_nil)) (nomark _)) (pw_or1 (pt_cmpR op_ne (pe_slice sl_str (pv 0) (po_some (pv 2)) (po_some (pv 5))) (pv 3) (nomark _)))))) (pss_one (L2.ps_raise rfl (L2.takes_of rfl rfl rfl rfl) (L2.pmk_own PySem.F.excBase_ValueError EC.x EC.g EC.k (raises_own EC.b EC.t) rfl))) pss_nil)
    (pss_one (ps_ret (pe_op op_add_str (pe_op op_add_str (pe_slice sl_str (pv 0) po_none (po_some (pv 2))) (pv 4)) (pe_slice sl_str (pv 0) (po_some (pv 5)) po_none)))))))), ?_⟩
  have z1 := hf.o
  have z2 := hf.n
  refine ⟨_, rfl, t, m, rfl, hT, hf, fun H1 s1 => ?_⟩
  refine ⟨_, rfl, ?_⟩
  cases e : isMv m with
  | false => exact iteT (qE (mkMv_not e) H1 s1)
  | true =>
    refine iteF ?_
    refine ⟨_, rfl, t, _, rfl, SqT.of (hT.same s1), rfl, _, _, rfl, _, _, rfl, _, _, rfl, rfl, ?_⟩
    refine ⟨_, rfl, _, rfl, _, rfl, by rw [S_len]; exact fits (by omega), _, _, rfl, rfl, ?_⟩
    rw [S_len]
    refine ⟨_, rfl, _, _, rfl, rfl, _, rfl, ite2 (fun c1 => ?_) (fun c1 => ?_)⟩
    · have k1 : m.pl < 0 := of_decide_eq_true c1
      have ec : canMv d m = false := by unfold canMv; rw [decide_eq_false (by omega), Bool.false_and]
      exact iteT (qE (mkMv_cannot ec) H1 s1)
    have k1 : 0 ≤ m.pl := by
      have : ¬ m.pl < 0 := fun z => c1 (decide_eq_true z)
      omega
    refine ⟨_, rfl, _, rfl, _, rfl, by rw [S_len]; exact fits (by omega), _, _, rfl, rfl, _, rfl, ?_⟩
    rw [S_len]
    refine ite2 (fun c2 => ?_) (fun c2 => ?_)
    · have k2 : (d.length : Int) < m.pl := of_decide_eq_true c2
      have ec : canMv d m = false := by unfold canMv; rw [decide_eq_false (show ¬ m.pl ≤ d.length by omega), Bool.false_and, Bool.and_false]
      exact iteT (qE (mkMv_cannot ec) H1 s1)
    have k2 : m.pl ≤ d.length := by
      have : ¬ (d.length : Int) < m.pl := fun z => c2 (decide_eq_true z)
      omega
    refine ⟨_, rfl, _, rfl, _, rfl, _, rfl, _, rfl, _, rfl, by rw [S_len]; exact fits (by omega), ?_⟩
    rw [S_mid d k1]
    refine ⟨_, rfl, rfl, _, rfl, ?_⟩
    rw [show decide (V.str (S ((d.drop m.pl.toNat).take m.o.length)) = V.str (S m.o)) = decide ((d.drop m.pl.toNat).take m.o.length = m.o) from decide_eq_decide.mpr tx_iff]
    refine ite2 (fun c3 => ?_) (fun c3 => ?_)
    · have k3 : ¬ (d.drop m.pl.toNat).take m.o.length = m.o := by simpa using c3
      have ec : canMv d m = false := by unfold canMv; rw [decide_eq_false k3, Bool.and_false, Bool.and_false]
      exact qE (mkMv_cannot ec) H1 s1
    · have k3 : (d.drop m.pl.toNat).take m.o.length = m.o := by simpa using c3
      have ec : canMv d m = true := by unfold canMv; rw [decide_eq_true k1, decide_eq_true k2, decide_eq_true k3]; rfl
      have q1 := q _ (mkMv_some e ec) H1 s1
      refine ⟨_, rfl, _, rfl, _, rfl, _, rfl, by rw [S_len]; exact fits (by omega), ?_⟩
      rw [S_take d k1]
      refine ⟨_, rfl, _, _, rfl, rfl, ?_, ?_⟩
      · rw [S_len, S_len, List.length_take]; exact fits (by omega)
      rw [S_app]
      refine ⟨_, rfl, _, rfl, _, rfl, _, rfl, by rw [S_len]; exact fits (by omega), ?_⟩
      rw [S_drop d (show 0 ≤ m.pl + (m.o.length : Int) by omega), show (m.pl + (m.o.length : Int)).toNat = m.pl.toNat + m.o.length by omega]
      refine ⟨_, _, rfl, rfl, ?_, ?_⟩
      · rw [S_len, S_len, List.length_append, List.length_take, List.length_drop]; exact fits (by omega)
      rw [S_app]
      exact q1
end
section
variable {P : Program} {w : World} {K : PySem.W.Frag} {mg : Str → Option Value} {base : Heap} {f : Addr} {fd : FuncData}
theorem ok_law_moves (F : Fun K "_law_moves" "_law_moves" s_law_moves f fd) (D_take : Dfn P w K mg base "_law_take" 3 ["tape", "many"] spTake) (D_law_put : Dfn P w K mg base "_law_put" 3 ["tape", "dance"] spPut) (D_law_taken : Dfn P w K mg base "_law_taken" 3 ["tape", "dance"] spTaken) (D_law_made : Dfn P w K mg base "_law_made" 3 ["dance", "move"] spLawMade) (y_range : mg "range" = none) (y_len : mg "len" = none)  : FnOk P w K mg base CX0 4 f fd ["tape", "dance", "most"] spMoves := by
  refine F.ok sc_law_moves (fun vs H Q E h => ?_) (fun cdv A outer s H vs Q E hr h => ?_)
  · obtain ⟨a, d, n, rfl, hT, hd, n0, n1, q⟩ := h
    rfl
  obtain ⟨a, d, n, rfl, hT, hd, n0, n1, q⟩ := h
  refine ⟨_, (pss_cons (ps_set (i := 3) sc_law_moves.nd rfl (.inl rfl) (pe_lst pa_nil))
    (pss_cons (ps_for PassesOwn.never rfl (pi_range1 rfl y_range (pa_cons (pe_do D_take hr (pa_cons (pv 0) (pa_cons (pe_op op_add (pv 2) pe_int) pa_nil))) pa_nil)) (pg_name (i := 4) sc_law_moves.nd rfl (.inl rfl))
    (pss_cons (ps_set (i := 5) sc_law_moves.nd rfl (.inl rfl) (pe_do D_law_put hr (pa_cons (pv 0) (pa_cons (pv 1) pa_nil))))
    (pss_cons (ps_if (PW.pt (pw_or (pt_cmpR op_gt (pe_callB call_len_str rfl y_len PySem.boot_len (pa_cons (pv 1) pa_nil)) pe_int (nomark _)) (pw_or1 (pt_cmpR op_eq (pe_do D_take hr (pa_cons (pv 0) (pa_cons pe_int pa_nil))) pe_int (nomark _))))) (pss_one (ps_set (i := 5) sc_law_moves.nd rfl (.inl rfl) (pe_do D_law_taken hr (pa_cons (pv 0) (pa_cons (pv 1) pa_nil))))) pss_nil)
    (pss_one (ps_if (pt_cmpR op_lt (pe_callB call_len_str rfl y_len PySem.boot_len (pa_cons (pv 1) pa_nil)) pe_int (nomark _)) (pss_cons (ps_expr (pe_bm PySem.F.plainAttrs_list PySem.F.slot_list_append PySem.F.type_list_append mt_append (pv 3) (pa_cons (pv 5) pa_nil)))
    (pss_one (ps_set (i := 1) sc_law_moves.nd rfl (.inl rfl) (pe_do D_law_made hr (pa_cons (pv 1) (pa_cons (pv 5) pa_nil)))))) pss_nil)))))
    (pss_one (ps_ret (pe_tup (pa_cons (pv 3) (pa_cons (pv 1) pa_nil))))))), ?_⟩
  refine ⟨fits (by decide), fun p hp => ?_⟩
  have np := hT.ne hp
  refine ⟨_, rfl, _, rfl, _, _, rfl, rfl, a, _, rfl, hT.same (same_new hp _), by omega, by omega, fun r H1 r0 r1 b1 t1 => ?_⟩
  refine ⟨r, rfl, by omega, by omega, for_range (lo := 0) (n := r.toNat) (fun i σ G => ∃ (d' : List Nat) (ms : List Mv) (x4 x5 : Option V), σ = [some (.ref a), some (.str (S d')), some (.int n), some (.ref p), x4, x5] ∧ But a H G ∧ Tape G a ∧ Tl G p (ms.map Mv.vs) ∧ FitAll ms 6 ∧ ms.length ≤ i ∧ led d ms = some d' ∧ d'.length ≤ max d.length 100) ?_ ?_ ?_⟩
  · exact ⟨d, [], _, _, rfl, (But.of (same_new hp _)).trans b1, t1, Tl.nil (b1 _ _ np upd_same), (fun m hm => by cases hm), Nat.zero_le _, rfl, by omega⟩
  · rintro i σ G hi ⟨d', ms, x4, x5, rfl, bg, tg, tl, fa, hz, hl, hd'⟩
    refine ⟨_, rfl, _, rfl, a, d', rfl, tg, by omega, fun t m G1 cn _ b1 t1 tm => ?_⟩
    have sd : (S d').length ≤ sizeLine := by rw [S_len]; exact fits (by omega)
    refine ⟨_, rfl, _, rfl, sd, _, _, rfl, rfl, _, rfl, ite2 (fun c1 => iteT ?A) (fun c1 => ⟨_, rfl, a, 2, rfl, t1, by decide, by decide, fun r2 G2 r20 r21 b2 t2 => ⟨rfl, _, rfl, ite2 (fun c2 => ?B) (fun c2 => ?C)⟩⟩)⟩
    case' A =>
      refine ⟨_, rfl, _, rfl, a, d', rfl, t1, by omega, fun t m G2 cn b3 t2 tm => ?_⟩
      have BB := b1.trans b3
    case' B =>
      refine ⟨_, rfl, _, rfl, a, d', rfl, t2, by omega, fun t m G2 cn b3 t2 tm => ?_⟩
      have BB := (b1.trans b2).trans b3
    case' C =>
      have BB := b1.trans b2
      have tm := tm.but b2 t1
    all_goals
      have tl3 := tl.tape BB np tg
      refine ⟨_, rfl, _, rfl, sd, _, _, rfl, rfl, _, rfl, ite2 (fun k1 => ?_) (fun k1 => ?_)⟩
      · have k90 : d'.length < 90 := by
          have := of_decide_eq_true k1
          rw [S_len] at this
          omega
        obtain ⟨xs0, e0, _⟩ := tl3.lst
        obtain ⟨xs, ex, lx, tl'⟩ := tl3.push tm
        rw [List.length_map] at lx
        refine ⟨_, rfl, .inl ⟨rfl, _, SqL.of e0⟩, _, rfl, p, xs, _, rfl, rfl, ex, Nat.lt_of_lt_of_le (show xs.length < 16777216 by omega) sizeLine_big, ?_⟩
        refine ⟨_, rfl, _, rfl, d', t, m, rfl, But.upd _ _ (ne_of tm ex (by intro z; cases z)) tm, cn.2.2.mono (by decide), by omega, fun G4 s4 => ?_⟩
        rw [mkMv_some cn.1 cn.2.1]
        refine ⟨doMv d' m, ms ++ [m], _, _, rfl, fun b o nb hb => s4 _ _ (by rw [upd_ne (ne_of_none hb hp)]; exact (bg.trans BB) b o nb hb), Tape.same ?_ s4, Tl.same (by rw [List.map_append]; exact tl') s4, fun x hx => ?_, by rw [List.length_append]; show ms.length + 1 ≤ _; omega, ?_, by have := doMv_len (d := d') cn.2.2; omega⟩
        · obtain ⟨y1, y2, y3, y4, e⟩ := t2
          exact ⟨y1, y2, y3, y4, by rw [upd_ne np.symm]; exact e⟩
        · rcases List.mem_append.mp hx with hx | hx
          · exact fa x hx
          · rw [List.mem_singleton.mp hx]; exact cn.2.2
        · unfold led at hl ⊢
          rw [List.foldl_append, hl]
          exact mkMv_some cn.1 cn.2.1
      · exact ⟨d', ms, _, _, rfl, bg.trans BB, t2, tl3, fa, by omega, hl, hd'⟩
  · rintro σ G ⟨d', ms, x4, x5, rfl, bg, tg, tl, fa, hz, hl, hd'⟩
    refine ⟨_, rfl, _, rfl, fits (by show 2 ≤ 16777216; decide), fun t ht => q t p ms d' _ (bg.trans (But.of (same_new ht _))) (tg.same (same_new ht _)) hp upd_same (tl.same (same_new ht _)) fa (by omega) hl hd'⟩
end
def spLeadsG : Sp := fun vs H Q _ => ∃ (o e : List Nat) (p : Addr) (ms : List Mv) (kk : Nat), vs = [.str (S o), .ref p, .str (S e)] ∧ Tl H p (ms.map Mv.vs) ∧ FitAll ms kk ∧ kk ≤ 200 ∧ o.length + kk * ms.length ≤ 900000 ∧ ∀ H', Same H H' → Q (.bl (decide (led o ms = some e))) H'
/-- a paper with moves -/
def spJudgeA : Sp := fun vs H Q _ => ∃ (l m : List Nat), vs = [.str (S l), .str (S m)] ∧ Lets l ∧ Lets m ∧ l.length ≤ 130 ∧ m.length ≤ 130 ∧ run (0, 1) l = run (0, 1) m ∧ ∀ (t p : Addr) (ms : List Mv) H', Same H H' → H' t = some (.tup [.str "alike", .ref p]) → Tl H' p (ms.map Mv.vs) → FitAll ms 6 → ms.length ≤ 120000 → led l ms = some m → Q (.ref t) H'
def spAccA : Sp := fun vs H Q _ => ∃ (o e : List Nat) (t p : Addr) (ms : List Mv) (kk : Nat), vs = [.str (S o), .str (S e), .ref t] ∧ H t = some (.tup [.str "alike", .ref p]) ∧ Tl H p (ms.map Mv.vs) ∧ FitAll ms kk ∧ kk ≤ 200 ∧ o.length + kk * ms.length ≤ 900000 ∧ ∀ H', Same H H' → Q (.bl (decide (led o ms = some e))) H'
theorem Tl.cat {H H' : Hp} {p q r : Addr} {ds es : List (List V)} {xs ys : List V} (h : Tl H p ds) (k : Tl H q es) (s : Same H H') (hp : H p = some (.lst xs)) (hq : H q = some (.lst ys)) (hr : H' r = some (.lst (xs ++ ys))) : Tl H' r (ds ++ es) := by
  obtain ⟨rs, e1, z1, k1⟩ := h
  obtain ⟨us, e2, z2, k2⟩ := k
  rw [e1] at hp
  rw [e2] at hq
  cases hp; cases hq
  refine ⟨rs ++ us, by rw [hr, List.map_append], by rw [List.length_append, List.length_append, z1, z2], fun i r d hr hd => ?_⟩
  by_cases c : i < rs.length
  · rw [List.getElem?_append_left c] at hr
    rw [List.getElem?_append_left (by omega)] at hd
    exact s _ _ (k1 i r d hr hd)
  · rw [List.getElem?_append_right (by omega)] at hr
    rw [List.getElem?_append_right (by omega), ← z1] at hd
    exact s _ _ (k2 _ r d hr hd)
section
variable {P : Program} {w : World} {K : PySem.W.Frag} {mg : Str → Option Value} {base : Heap} {f : Addr} {fd : FuncData}
theorem ok_leads (F : Fun K "leads" "leads" s_leads f fd)  {gm C : Addr} {gd : FuncData} (Gm : FnOk P w K mg base (CX P w) 2 gm gd ["dance", "move"] (spMadeX C)) (mG : mg "made" = some (.ref gm)) (kG : PySem.W.keepIn K (.ref gm) = true) (bG : Binds K gd ["dance", "move"] []) (gC : mg "BadMove" = some (.ref C)) (XC : PySem.W.exmOne K (.ref C) (.ref C) = some true) : FnOk P w K mg base CX0 3 f fd ["one", "moves", "other"] spLeadsG := by
  refine F.ok sc_leads (fun vs H Q E h => ?_) (fun cdv A outer s H vs Q E hr h => ?_)
  · obtain ⟨o, e, p, ms, kk, rfl, tl, fa, hk, hz, q⟩ := h
    rfl
  obtain ⟨o, e, p, ms, kk, rfl, tl, fa, hk, hz, q⟩ := h
  refine ⟨_, (pss_cons (ps_set (i := 3) sc_leads.nd rfl (.inl rfl) (pv 0))
    (pss_cons (ps_for PassesOwn.never rfl (pi_list (pv 1)) (pg_name (i := 4) sc_leads.nd rfl (.inl rfl))
    (pss_one (ps_try_only (tb := fun W => tAsg (tCallS (spMadeX C) (WE W) (tCons (tVar 3) (tCons (tVar 4) tNil))) (gName 3)) (ts := fun a cls d => tRet (tC (.bl false))) (Wout := fun _ _ _ _ => False) rfl rfl ⟨rfl, by decide, Or.inl gC⟩ takes0
      (fun W pn xe tk _ => pss_one (ps_set (i := 3) sc_leads.nd rfl (.inl rfl) (by exact (pe_callS Gm hr rfl mG kG bG (fun σ => passAt tk σ) (by exact (pa_cons (pv 3) (pa_cons (pv 4) pa_nil)))))))
      (fun a oe cls d pn _ _ => pss_one (ps_ret pe_bl)))))
    (pss_one (ps_ret (pe_cmpR op_eq (pv 3) (pv 2) (nomark _)))))), ?_⟩
  obtain ⟨xs, hxs, lxs⟩ := tl.lst
  rw [List.length_map] at lxs
  refine ⟨_, rfl, _, rfl, p, rfl, ⟨xs, SqL.of hxs⟩, for_list (K := K) (tb := fun D σ H => tAsg (tCallS (spMadeX C) (WE (wOnly K (.ref C) (fun a cls d => tRet (tC (.bl false))) (fun _ _ _ _ => False) D)) (tCons (tVar 3) (tCons (tVar 4) tNil))) (gName 3) D σ H) (a := p) (xs := xs) (fun i σ G => ∃ (d : List Nat) (x4 : Option V), σ = [some (.str (S o)), some (.ref p), some (.str (S e)), some (.str (S d)), x4] ∧ Same H G ∧ led o (ms.take i) = some d ∧ d.length ≤ o.length + kk * i) ?_ ?_ ?_ ?_⟩
  · exact ⟨o, _, rfl, Same.refl H, rfl, by omega⟩
  · rintro i σ G _ ⟨d, x4, _, sm, _⟩
    exact SqL.of (sm _ _ hxs)
  · rintro i y σ G hy ⟨d, x4, rfl, sm, hd, hl⟩
    have hi : i < ms.length := by rw [← lxs]; exact (List.getElem?_eq_some_iff.mp hy).1
    have hm : ms[i]? = some ms[i] := List.getElem?_eq_getElem hi
    obtain ⟨xs', r, e1, _, e2, e3⟩ := tl.at (i := i) (d := Mv.vs ms[i]) (by rw [List.getElem?_map, hm]; rfl)
    rw [hxs] at e1
    cases e1
    rw [hy] at e2
    cases e2
    have lt := led_take (d := o) hm
    rw [hd] at lt
    have fm := fa _ (List.getElem_mem hi)
    refine ⟨_, rfl, _, rfl, d, r, ms[i], rfl, Tm.same e3 sm, fm.mono (by omega), (by have := Nat.mul_le_mul_left kk (Nat.le_of_lt hi); omega), fun x hx G1 s1 => ?_, fun hx G1 s1 => ⟨true, XC, fun _ a ha => ?_, fun z => nomatch z⟩⟩
    · exact ⟨x, _, rfl, sm.trans s1, lt.trans hx, by have := mkMv_len fm hx; rw [Nat.mul_succ]; omega⟩
    · have q1 := q G1 (sm.trans s1)
      rw [led_stop (lt.trans hx)] at q1
      exact q1
  · rintro σ G ⟨d, x4, rfl, sm, hd, _⟩
    rw [List.take_of_length_le (show ms.length ≤ xs.length by omega)] at hd
    have q1 := q G sm
    rw [hd] at q1
    refine ⟨_, rfl, _, rfl, rfl, ?_⟩
    rw [show decide (V.str (S d) = V.str (S e)) = decide (some d = some e) from decide_eq_decide.mpr (tx_iff.trans ⟨fun h => by rw [h], fun h => Option.some.inj h⟩)]
    exact q1
end
def strsB : List Value → List Str → Bool
  | [], [] => true
  | .str a _ :: r, b :: s => decide (a = b) && strsB r s
  | _, _ => false
theorem strs_ok : ∀ (us : List Value) (zs : List Str), strsB us zs = true → Vals (zs.map V.str) us
  | [], [], _ => .nil
  | .str a t :: r, b :: s, h => by
    obtain ⟨h1, h2⟩ := He.ba (show (decide (a = b) && strsB r s) = true from h)
    have e := of_decide_eq_true h1
    subst e
    exact .cons ⟨t, rfl⟩ (strs_ok r s h2)
  | [], _ :: _, h => by cases h
  | .none :: _, [], h => by cases h
  | .bool _ :: _, [], h => by cases h
  | v :: r, [], h => by cases v <;> cases h
  | v :: r, b :: s, h => by
    cases v with
    | str a t =>
      obtain ⟨h1, h2⟩ := He.ba (show (decide (a = b) && strsB r s) = true from h)
      have e := of_decide_eq_true h1
      subst e
      exact .cons ⟨t, rfl⟩ (strs_ok r s h2)
    | _ => cases h
def tupB (K : PySem.W.Frag) (a : Addr) (zs : List Str) : Bool := match K.lookup a with
  | some o => decide (o.cls = .type "tuple") && (match o.data with
    | .seq its _ => strsB its.toList zs
    | _ => false)
  | none => false
theorem tup_ok {K : PySem.W.Frag} {a : Addr} {zs : List Str} (h : tupB K a zs = true) (hz : zs.length ≤ 1000) : ∀ H, SqT K H a (zs.map V.str) := by
  intro H
  unfold tupB at h
  cases e : K.lookup a with
  | none => rw [e] at h; cases h
  | some o =>
    rw [e] at h
    obtain ⟨h1, h2⟩ := He.ba (show (decide (o.cls = .type "tuple") && (match o.data with
      | .seq its _ => strsB its.toList zs
      | _ => false)) = true from h)
    cases ed : o.data with
    | seq its n =>
      rw [ed] at h2
      have v := strs_ok _ _ h2
      refine .inr ⟨o, its, n, e, of_decide_eq_true h1, ed, ?_, v⟩
      have := v.length
      rw [List.length_map] at this
      rw [sizeLine_eq]
      have e2 : its.toList.length = its.size := Array.length_toList
      omega
    | _ => rw [ed] at h2; cases h2
def wordsB (K : PySem.W.Frag) : Bool := tupB K (He.ga K "WORDS") ["TU", "UT", "RR", "TRTRTR"]
theorem words_ok {K : PySem.W.Frag} (h : wordsB K = true) : ∀ H, SqT K H (He.ga K "WORDS") (wds.map tx) := by
  intro H
  rw [← four_words]
  exact tup_ok h (by decide) H

section
def Iv (B : Nat) (y : V) : Prop := ∃ z : Int, y = .int z ∧ z.natAbs ≤ B
theorem ints_of {B : Nat} : ∀ {xs : List V}, (∀ y ∈ xs, Iv B y) → ∃ A : List Int, xs = A.map V.int ∧ Bd A B
  | [], _ => ⟨[], rfl, fun x h => by cases h⟩
  | y :: r, h => by
    obtain ⟨z, rfl, hz⟩ := h y List.mem_cons_self
    obtain ⟨A, rfl, hA⟩ := ints_of (xs := r) fun x hx => h x (List.mem_cons_of_mem _ hx)
    exact ⟨z :: A, rfl, fun x hx => by
      rcases List.mem_cons.mp hx with rfl | hx
      · exact hz
      · exact hA x hx⟩
theorem iv_of {A : List Int} {B C : Nat} (h : Bd A B) (l : B ≤ C) : ∀ y ∈ A.map V.int, Iv C y := fun y hy => by
  obtain ⟨z, hz, rfl⟩ := List.mem_map.mp hy
  exact ⟨z, rfl, Nat.le_trans (h z hz) l⟩
theorem due_neg {p qq : Int} (hc : qq < 0 ∨ (qq = 0 ∧ p < 0)) : ((p.fdiv (0 - ((Int.gcd p qq : Nat) : Int)), qq.fdiv (0 - ((Int.gcd p qq : Nat) : Int))) : Int × Int) = due p qq := by
  unfold due
  rcases hc with hc | ⟨hc, hc2⟩
  · rw [if_neg (by omega), if_pos hc]
  · subst hc
    rw [if_pos rfl]
    have e : 0 - ((Int.gcd p 0 : Nat) : Int) = p := by rw [Int.gcd_zero_right]; omega
    rw [e, Int.fdiv_self (by omega), Int.zero_fdiv]
theorem due_pos {p qq : Int} (r2 : p ≠ 0 ∨ qq ≠ 0) (hc : ¬ (qq < 0 ∨ (qq = 0 ∧ p < 0))) : ((p.fdiv ((Int.gcd p qq : Nat) : Int), qq.fdiv ((Int.gcd p qq : Nat) : Int)) : Int × Int) = due p qq := by
  unfold due
  by_cases h0 : qq = 0
  · subst h0
    rw [if_pos rfl]
    have e : ((Int.gcd p 0 : Nat) : Int) = p := by rw [Int.gcd_zero_right]; omega
    rw [e, Int.fdiv_self (by omega), Int.zero_fdiv]
  · rw [if_neg h0, if_neg (by omega)]
theorem four_steps {r : Int} (h0 : 0 ≤ r) (h1 : r < 4) : ∃ z : Int, atI [V.int 1, .int (-1), .int 2, .int (10 ^ (20 : Int).toNat)] r = some (.int z) ∧ z.natAbs ≤ 10 ^ 20 := by
  obtain ⟨c, hc, m⟩ := atI_mk (xs := [V.int 1, .int (-1), .int 2, .int (10 ^ (20 : Int).toNat)]) h0 h1
  simp only [List.mem_cons, List.not_mem_nil, or_false] at m
  rcases m with rfl | rfl | rfl | rfl
  · exact ⟨1, hc, by decide⟩
  · exact ⟨-1, hc, by decide⟩
  · exact ⟨2, hc, by decide⟩
  · exact ⟨_, hc, by decide⟩
end
section
variable {P : Program} {w : World} {K : PySem.W.Frag} {mg : Str → Option Value} {base : Heap} {f : Addr} {fd : FuncData}
theorem ok_law_spoilt (F : Fun K "_law_spoilt" "_law_spoilt" s_law_spoilt f fd) (D_take : Dfn P w K mg base "_law_take" 1 ["tape", "many"] spTake) (y_len : mg "len" = none) (y_list : mg "list" = none)  : FnOk P w K mg base CX0 2 f fd ["tape", "colours"] spSpoilt := by
  refine F.ok sc_law_spoilt (fun vs H Q E h => ?_) (fun cdv A outer s H vs Q E hr h => ?_)
  · obtain ⟨a, cp, A, B, rfl, hT, nc, hA, zA, bd, q⟩ := h
    rfl
  obtain ⟨a, cp, A, B, rfl, hT, nc, hA, zA, bd, q⟩ := h
  refine ⟨_, (pss_cons (ps_if (pt_cmpR op_eq (pe_callB call_len_seq rfl y_len PySem.boot_len (pa_cons (pv 1) pa_nil)) pe_int (nomark _)) (pss_one (ps_ret (pe_lst (pa_cons pe_int pa_nil)))) pss_nil)
    (pss_cons (ps_set (i := 2) sc_law_spoilt.nd rfl (.inl rfl) (pe_do D_take hr (pa_cons (pv 0) (pa_cons pe_int pa_nil))))
    (pss_cons (ps_set (i := 3) sc_law_spoilt.nd rfl (.inl rfl) (pe_do D_take hr (pa_cons (pv 0) (pa_cons (pe_callB call_len_seq rfl y_len PySem.boot_len (pa_cons (pv 1) pa_nil)) pa_nil))))
    (pss_cons (ps_if (pt_cmpR op_eq (pv 2) pe_int (nomark _)) (pss_one (ps_ret (pe_op op_cat (pe_slice sl_list (pv 1) po_none (po_some (pv 3))) (pe_slice sl_list (pv 1) (po_some (pe_op op_add (pv 3) pe_int)) po_none)))) pss_nil)
    (pss_cons (ps_if (pt_cmpR op_eq (pv 2) pe_int (nomark _)) (pss_one (ps_ret (pe_op op_cat (pe_op op_cat (pe_slice sl_list (pv 1) po_none (po_some (pv 3))) (pe_lst (pa_cons (pe_ix ix_list (pv 1) (pv 3) (fun _ _ => rfl)) pa_nil))) (pe_slice sl_list (pv 1) (po_some (pv 3)) po_none)))) pss_nil)
    (pss_cons (ps_if (pt_cmpR op_eq (pv 2) pe_int (nomark _)) (pss_cons (ps_set (i := 4) sc_law_spoilt.nd rfl (.inl rfl) (pe_do D_take hr (pa_cons (pv 0) (pa_cons (pe_callB call_len_seq rfl y_len PySem.boot_len (pa_cons (pv 1) pa_nil)) pa_nil))))
    (pss_cons (ps_set (i := 5) sc_law_spoilt.nd rfl (.inl rfl) (pe_callTy call_list_of rfl y_list (by decide +kernel) (pa_cons (pv 1) pa_nil)))
    (pss_cons (ps_asg (pe_ix ix_list (pv 1) (pv 4) (fun _ _ => rfl)) (pg_sub (pv 5) (pv 3) set_list))
    (pss_cons (ps_asg (pe_ix ix_list (pv 1) (pv 3) (fun _ _ => rfl)) (pg_sub (pv 5) (pv 4) set_list))
    (pss_one (ps_ret (pv 5))))))) pss_nil)
    (pss_one (ps_ret (pe_op op_cat (pe_op op_cat (pe_slice sl_list (pv 1) po_none (po_some (pv 3))) (pe_lst (pa_cons (pe_op op_add (pe_ix ix_list (pv 1) (pv 3) (fun _ _ => rfl)) (pe_ix ix_list (pe_lst (pa_cons pe_int (pa_cons (pe_un un_neg pe_int) (pa_cons pe_int (pa_cons (pe_op op_pow pe_int pe_int) pa_nil))))) (pe_do D_take hr (pa_cons (pv 0) (pa_cons pe_int pa_nil))) (fun _ _ => rfl))) pa_nil))) (pe_slice sl_list (pv 1) (po_some (pe_op op_add (pv 3) pe_int)) po_none)))))))))), ?_⟩
  have fin : ∀ (p : Addr) (G : Hp) (ys : List V), G p = none → But a H G → Tape G a → ys.length ≤ 2 * A.length + 1 → (∀ y ∈ ys, Iv (B + 10 ^ 20) y) → Q (.ref p) (upd G p (.lst ys)) := fun p G ys hp b tp z al => by
    obtain ⟨A', rfl, hb⟩ := ints_of al
    exact q p A' _ (b.trans (But.of (same_new hp _))) (tp.same (same_new hp _)) (tp.ne hp) upd_same (by rw [List.length_map] at z; exact z) hb
  have ln : ∀ (xs ys : List V), xs.length ≤ 10000 → ys.length ≤ 10000 → xs.length + ys.length ≤ sizeLine := fun xs ys h1 h2 => fits (by omega)
  have one : 1 ≤ sizeLine := fits (by decide)
  have iv := iv_of bd (show B ≤ B + 10 ^ 20 by omega)
  refine ⟨_, rfl, cp, _, rfl, .inl (SqL.of hA), rfl, _, rfl, ite2 (fun k0 => ?_) (fun k0 => ?_)⟩
  · refine ⟨one, fun p hp => fin p H _ hp (But.refl _ _) hT (by show 1 ≤ _; omega) fun y hy => ?_⟩
    rw [List.mem_singleton.mp hy]
    exact ⟨0, rfl, Nat.zero_le _⟩
  have n0 : A.length ≠ 0 := fun z => k0 (by rw [List.length_map, z]; rfl)
  have lm : (A.map V.int).length = A.length := List.length_map ..
  have cl : ∀ lo hi, (cutV (A.map V.int) lo hi).length ≤ A.length := fun lo hi => by have := cutV_length (A.map V.int) lo hi; omega
  refine ⟨_, rfl, a, 5, rfl, hT, by decide, by decide, fun c H1 c0 c1 b1 t1 => ?_⟩
  have hA1 := b1 _ _ nc hA
  refine ⟨_, rfl, _, rfl, cp, _, rfl, .inl (SqL.of hA1), a, _, rfl, t1, by omega, by omega, fun s H2 s0 s1 b2 t2 => ?_⟩
  have B2 := b1.trans b2
  have hA2 := b2 _ _ nc hA1
  rw [lm] at s1
  have at0 : atI (A.map V.int) s = some (.int (A.getD s.toNat 0)) := by
    have := at_getD (A := A) (i := s.toNat) (by omega)
    rw [Int.toNat_of_nonneg s0] at this
    exact this
  have ivs : Iv (B + 10 ^ 20) (.int (A.getD s.toNat 0)) := ⟨_, rfl, Nat.le_trans (bd.at _) (by omega)⟩
  refine ⟨_, rfl, rfl, _, rfl, ite2 (fun k1 => ?_) (fun k1 => ?_)⟩
  · refine ⟨_, rfl, _, rfl, _, rfl, cp, _, rfl, SqL.of hA2, fun p1 h1 => ?_⟩
    have e1 := same_new h1 (.lst (cutV (A.map V.int) none (some s))) _ _ hA2
    refine ⟨_, rfl, _, rfl, _, _, rfl, rfl, _, rfl, cp, _, rfl, SqL.of e1, fun p2 h2 => ?_⟩
    refine ⟨p1, p2, _, _, rfl, rfl, same_new h2 _ _ _ upd_same, upd_same, ln _ _ (by have := cl none (some s); omega) (by have := cl (some (s + 1)) none; omega), fun p3 h3 => ?_⟩
    have SS := (same_new h1 (.lst (cutV (A.map V.int) none (some s)))).trans (same_new h2 (.lst (cutV (A.map V.int) (some (s + 1)) none)))
    refine fin p3 _ _ h3 (B2.trans (But.of SS)) (t2.same SS) ?_ fun y hy => ?_
    · rw [List.length_append]; have := cl none (some s); have := cl (some (s + 1)) none; omega
    · rcases List.mem_append.mp hy with hy | hy
      · exact iv y (cutV_mem hy)
      · exact iv y (cutV_mem hy)
  refine ⟨_, rfl, rfl, _, rfl, ite2 (fun k2 => ?_) (fun k2 => ?_)⟩
  · refine ⟨_, rfl, _, rfl, _, rfl, cp, _, rfl, SqL.of hA2, fun p1 h1 => ?_⟩
    have e1 := same_new h1 (.lst (cutV (A.map V.int) none (some s))) _ _ hA2
    refine ⟨_, rfl, _, rfl, cp, _, _, _, rfl, rfl, SqL.of e1, at0, one, fun p2 h2 => ?_⟩
    refine ⟨p1, p2, _, _, rfl, rfl, same_new h2 _ _ _ upd_same, upd_same, ln _ _ (by have := cl none (some s); omega) (by show 1 ≤ 10000; decide), fun p3 h3 => ?_⟩
    have SS3 := ((same_new h1 (.lst (cutV (A.map V.int) none (some s)))).trans (same_new h2 (.lst [V.int (A.getD s.toNat 0)]))).trans (same_new h3 (.lst (cutV (A.map V.int) none (some s) ++ [V.int (A.getD s.toNat 0)])))
    refine ⟨_, rfl, _, rfl, _, rfl, cp, _, rfl, SqL.of (SS3 _ _ hA2), fun p4 h4 => ?_⟩
    refine ⟨p3, p4, _, _, rfl, rfl, same_new h4 _ _ _ upd_same, upd_same, ln _ _ (by rw [List.length_append]; have := cl none (some s); show _ + 1 ≤ _; omega) (by have := cl (some s) none; omega), fun p5 h5 => ?_⟩
    have SS4 := SS3.trans (same_new h4 (.lst (cutV (A.map V.int) (some s) none)))
    refine fin p5 _ _ h5 (B2.trans (But.of SS4)) (t2.same SS4) ?_ fun y hy => ?_
    · rw [List.length_append, List.length_append]; have := cl none (some s); have := cl (some s) none; show _ + 1 + _ ≤ _; omega
    · rcases List.mem_append.mp hy with hy | hy
      · rcases List.mem_append.mp hy with hy | hy
        · exact iv y (cutV_mem hy)
        · rw [List.mem_singleton.mp hy]; exact ivs
      · exact iv y (cutV_mem hy)
  refine ⟨_, rfl, rfl, _, rfl, ite2 (fun k3 => ?_) (fun k3 => ?_)⟩
  · refine ⟨_, rfl, _, rfl, cp, _, rfl, .inl (SqL.of hA2), a, _, rfl, t2, by omega, by omega, fun s' H3 s0' s1' b3 t3 => ?_⟩
    have hA3 := b3 _ _ nc hA2
    rw [lm] at s1'
    have at1 : atI (A.map V.int) s' = some (.int (A.getD s'.toNat 0)) := by
      have := at_getD (A := A) (i := s'.toNat) (by omega)
      rw [Int.toNat_of_nonneg s0'] at this
      exact this
    refine ⟨_, rfl, cp, _, rfl, .inl (SqL.of hA3), fun p1 h1 => ?_⟩
    have S1 := same_new h1 (.lst (A.map V.int))
    have ix : ∀ (n : Nat) (k : Int), 0 ≤ k → k < n → ixN n k = some k.toNat := fun n k h0 h1 => by
      unfold ixN
      rw [if_pos h0, if_pos h1]
    refine ⟨_, rfl, _, rfl, cp, _, _, _, rfl, rfl, SqL.of (S1 _ _ hA3), at1, _, rfl, _, rfl, p1, _, _, s.toNat, rfl, rfl, upd_same, by rw [lm]; exact ix _ _ s0 (by omega), ?_⟩
    have hA4 : upd (upd H3 p1 (.lst (A.map V.int))) p1 (.lst ((A.map V.int).set s.toNat (.int (A.getD s'.toNat 0)))) cp = some (.lst (A.map V.int)) := by
      rw [upd_ne (ne_of_none hA3 h1)]
      exact S1 _ _ hA3
    refine ⟨_, rfl, _, rfl, cp, _, _, _, rfl, rfl, SqL.of hA4, at0, _, rfl, _, rfl, p1, _, _, s'.toNat, rfl, rfl, upd_same, by rw [List.length_set, lm]; exact ix _ _ s0' (by omega), ?_⟩
    have al : ∀ y ∈ ((A.map V.int).set s.toNat (.int (A.getD s'.toNat 0))).set s'.toNat (.int (A.getD s.toNat 0)), Iv (B + 10 ^ 20) y := fun y hy => by
      rcases List.mem_or_eq_of_mem_set hy with hy | rfl
      · rcases List.mem_or_eq_of_mem_set hy with hy | rfl
        · exact iv y hy
        · exact ⟨_, rfl, Nat.le_trans (bd.at _) (by omega)⟩
      · exact ivs
    obtain ⟨A', eA, hb⟩ := ints_of al
    have lA : A'.length = A.length := by
      have := congrArg List.length eA
      rw [List.length_set, List.length_set, lm, List.length_map] at this
      omega
    have BU : But a H3 (upd (upd (upd H3 p1 (.lst (A.map V.int))) p1 (.lst ((A.map V.int).set s.toNat (.int (A.getD s'.toNat 0))))) p1 (.lst (((A.map V.int).set s.toNat (.int (A.getD s'.toNat 0))).set s'.toNat (.int (A.getD s.toNat 0))))) := fun b o nb hb' => by
      have nb1 : b ≠ p1 := ne_of_none hb' h1
      rw [upd_ne nb1, upd_ne nb1, upd_ne nb1]
      exact hb'
    have np1 := t3.ne h1
    refine ⟨_, rfl, q p1 A' _ ((B2.trans b3).trans BU) ?_ np1 (by rw [upd_same, eA]) (by omega) hb⟩
    obtain ⟨y1, y2, y3, y4, e⟩ := t3
    exact ⟨y1, y2, y3, y4, by rw [upd_ne np1.symm, upd_ne np1.symm, upd_ne np1.symm]; exact e⟩
  · refine ⟨_, rfl, _, rfl, _, rfl, cp, _, rfl, SqL.of hA2, fun p1 h1 => ?_⟩
    have S1 := same_new h1 (.lst (cutV (A.map V.int) none (some s)))
    have n1 := t2.ne h1
    refine ⟨_, rfl, _, rfl, cp, _, _, _, rfl, rfl, SqL.of (S1 _ _ hA2), at0, _, rfl, _, _, rfl, rfl, ⟨by decide, by decide, by decide⟩, fits (by show 4 ≤ 16777216; decide), fun p2 h2 => ?_⟩
    have S2 := S1.trans (same_new h2 (.lst [V.int 1, .int (-1), .int 2, .int (10 ^ (20 : Int).toNat)]))
    have n2 := (t2.same S1).ne h2
    refine ⟨_, rfl, a, 4, rfl, t2.same S2, by decide, by decide, fun r H3 r0 r1 b3 t3 => ?_⟩
    obtain ⟨z, hz, bz⟩ := four_steps r0 r1
    refine ⟨p2, _, _, _, rfl, rfl, SqL.of (b3 _ _ n2 upd_same), hz, _, _, rfl, rfl, one, fun p3 h3 => ?_⟩
    have e1 := b3 _ _ n1 (same_new h2 (.lst [V.int 1, .int (-1), .int 2, .int (10 ^ (20 : Int).toNat)]) _ _ (upd_same (H := H2) (a := p1)))
    refine ⟨p1, p3, _, _, rfl, rfl, same_new h3 _ _ _ e1, upd_same, ln _ _ (by have := cl none (some s); omega) (by show 1 ≤ 10000; decide), fun p4 h4 => ?_⟩
    have S4 := (same_new h3 (.lst [V.int (A.getD s.toNat 0 + z)])).trans (same_new h4 (.lst (cutV (A.map V.int) none (some s) ++ [V.int (A.getD s.toNat 0 + z)])))
    have hA5 := S4 _ _ (b3 _ _ nc (S2 _ _ hA2))
    refine ⟨_, rfl, _, rfl, _, _, rfl, rfl, _, rfl, cp, _, rfl, SqL.of hA5, fun p5 h5 => ?_⟩
    refine ⟨p4, p5, _, _, rfl, rfl, same_new h5 _ _ _ upd_same, upd_same, ln _ _ (by rw [List.length_append]; have := cl none (some s); show _ + 1 ≤ _; omega) (by have := cl (some (s + 1)) none; omega), fun p6 h6 => ?_⟩
    have S5 := S4.trans (same_new h5 (.lst (cutV (A.map V.int) (some (s + 1)) none)))
    refine fin p6 _ _ h6 (((B2.trans (But.of S2)).trans b3).trans (But.of S5)) (t3.same S5) ?_ fun y hy => ?_
    · rw [List.length_append, List.length_append]; have := cl none (some s); have := cl (some (s + 1)) none; show _ + 1 + _ ≤ _; omega
    · rcases List.mem_append.mp hy with hy | hy
      · rcases List.mem_append.mp hy with hy | hy
        · exact iv y (cutV_mem hy)
        · rw [List.mem_singleton.mp hy]
          exact ⟨_, rfl, by have := bd.at s.toNat; omega⟩
      · exact iv y (cutV_mem hy)
end
section
variable {P : Program} {w : World} {K : PySem.W.Frag} {mg : Str → Option Value} {base : Heap} {f : Addr} {fd : FuncData}
theorem ok_law_run (F : Fun K "_law_run" "_law_run" s_law_run f fd)   : FnOk P w K mg base CX0 1 f fd ["count"] spRun := by
  refine F.ok sc_law_run (fun vs H Q E h => ?_) (fun cdv A outer s H vs Q E hr h => ?_)
  · obtain ⟨b, rfl, hb, q⟩ := h
    rfl
  obtain ⟨b, rfl, hb, q⟩ := h
  refine ⟨_, (pss_cons (ps_if (pt_cmpR op_lt (pv 0) pe_int (nomark _)) (pss_one (ps_ret (pe_op op_mul_str pe_str (pe_op op_sub pe_int (pv 0))))) pss_nil)
    (pss_one (ps_ret (pe_op op_mul_str pe_str (pv 0))))), ?_⟩
  refine ⟨_, rfl, _, _, rfl, rfl, _, rfl, ite2 (fun c => ?_) (fun c => ?_)⟩
  · have k : b < 0 := of_decide_eq_true c
    rw [e_U]
    refine ⟨_, rfl, _, _, rfl, rfl, [85], 0 - b, rfl, rfl, by omega, by omega, by show 1 * (0 - b).toNat ≤ 16777215; omega, ?_⟩
    rw [Int.zero_sub, rn_dn k]
    exact q
  · have k : 0 ≤ b := by
      have : ¬ b < 0 := fun z => c (decide_eq_true z)
      omega
    rw [e_T]
    refine ⟨_, rfl, [84], b, rfl, rfl, by omega, by omega, by show 1 * b.toNat ≤ 16777215; omega, ?_⟩
    rw [rn_up k]
    exact q
end
section
variable {P : Program} {w : World} {K : PySem.W.Frag} {mg : Str → Option Value} {base : Heap} {f : Addr} {fd : FuncData}
theorem ok_law_standard (F : Fun K "_law_standard" "_law_standard" s_law_standard f fd) (D_law_run : Dfn P w K mg base "_law_run" 1 ["count"] spRun)  : FnOk P w K mg base CX0 2 f fd ["value"] spStdL := by
  refine F.ok sc_law_standard (fun vs H Q E h => ?_) (fun cdv A outer s H vs Q E hr h => ?_)
  · obtain ⟨t, v, rfl, hT, sv, q⟩ := h
    rfl
  obtain ⟨t, v, rfl, hT, sv, q⟩ := h
  refine ⟨_, (pss_cons (ps_asg (pv 0) (pg_tup (by rfl) (pgs_cons (pg_name (i := 1) sc_law_standard.nd rfl (.inl rfl)) (pgs_cons (pg_name (i := 2) sc_law_standard.nd rfl (.inl rfl)) pgs_nil))))
    (pss_cons (ps_if (pt_cmpR op_eq (pv 2) pe_int (nomark _)) (pss_one (ps_ret pe_str)) pss_nil)
    (pss_cons (ps_set (i := 3) sc_law_standard.nd rfl (.inl rfl) pe_str)
    (pss_cons (ps_while PassesOwn.never (pt_cmpR op_gt (pv 2) pe_int (nomark _)) (pss_cons (ps_set (i := 4) sc_law_standard.nd rfl (.inl rfl) (pe_op op_add (pe_op op_fdivWN (pv 1) (pv 2)) pe_int))
    (pss_cons (ps_set (i := 3) sc_law_standard.nd rfl (.inl rfl) (pe_op op_add_str (pe_op op_add_str pe_str (pe_do D_law_run hr (pa_cons (pv 4) pa_nil))) (pv 3)))
    (pss_one (ps_par (i := 1) (j := 2) (by rfl) sc_law_standard.nd rfl rfl (by decide) rfl rfl (pa_cons (pv 2) (pa_cons (pe_op op_sub (pe_op op_mul (pv 4) (pv 2)) (pv 1)) pa_nil)) (by rfl))))))
    (pss_one (ps_ret (pe_op op_add_str (pe_do D_law_run hr (pa_cons (pv 1) pa_nil)) (pv 3)))))))), ?_⟩
  obtain ⟨p, q'⟩ := v
  have q0 := q H (Same.refl H)
  obtain ⟨⟨h1, h2⟩, s2, hlen⟩ := sv
  simp only at h1 h2 s2
  refine ⟨_, rfl, t, _, rfl, SqT.of hT, rfl, _, _, rfl, _, _, rfl, rfl, ?_⟩
  refine ⟨_, rfl, rfl, _, rfl, ite2 (fun c => ?_) (fun c => ?_)⟩
  · have k : q' = 0 := V.int.inj (of_decide_eq_true c)
    subst k
    rw [e_R]
    exact q0
  have k : ¬ q' = 0 := fun z => c (decide_eq_true (congrArg V.int z))
  have h0 : 0 < q' := by
    rcases h1 with h1 | h1
    · exact h1
    · cases h1; exact absurd rfl k
  have es : stv (p, q') = TL.joinL [82] ((bs p q').map rn) := if_neg k
  rw [es] at q0 hlen
  refine while_by (fun σ G => G = H ∧ ∃ (x y : Int) (d : List Nat) (x4 : Option V), σ = [some (.ref t), some (.int x), some (.int y), some (.str (S d)), x4] ∧ 0 < y ∧ y.natAbs < 2 ^ 201 ∧ Int.gcd x y = 1 ∧ TL.joinL [82] ((bs p q').map rn) = TL.joinL [82] ((bs x y).map rn) ++ d) (fun σ _ => match σ with | [_, _, some (.int b), _, _] => b.natAbs | _ => 0) ⟨rfl, p, q', [], none, by rw [e_empty]; rfl, h0, s2, h2, by rw [List.append_nil]⟩ ?_ ?_
  · rintro σ _ ⟨rfl, x, y, d, x4, rfl, y0, ys, gx, ej⟩
    have tot : (TL.joinL [82] ((bs x y).map rn)).length + d.length ≤ 14000000 := by
      have := congrArg List.length ej
      rw [List.length_append] at this
      omega
    refine ⟨_, rfl, _, _, rfl, rfl, _, rfl, ite2 (fun c1 => ?_) (fun c1 => ?_)⟩
    · have y1 : 1 < y := of_decide_eq_true c1
      have nl := nx_lt y1 gx
      have np := nx_pos (p := x) y0
      have bst := bs_step y1 gx
      have jst : TL.joinL [82] ((bs x y).map rn) = TL.joinL [82] ((bs y (nx x y)).map rn) ++ ([82] ++ rn (x / y + 1)) := by
        rw [bst, List.map_append, List.map_singleton, joinL_snoc [82] _ (fun z => bs_ne (List.map_eq_nil_iff.mp z))]
      have rl := rn_len (x / y + 1)
      have jl := congrArg List.length jst
      rw [List.length_append, List.length_append, rl] at jl
      have o1 : ([82] : List Nat).length = 1 := rfl
      refine ⟨_, rfl, _, rfl, _, _, rfl, rfl, ⟨by omega, log_okL ys⟩, _, _, rfl, rfl, ?_⟩
      rw [fdiv_pos y0]
      refine ⟨_, rfl, x / y + 1, rfl, by omega, ?_⟩
      rw [e_R]
      refine ⟨_, _, rfl, rfl, by rw [S_len, S_len, rl]; exact fits (by show 1 + _ ≤ _; omega), ?_⟩
      rw [S_app]
      refine ⟨_, rfl, _, _, rfl, rfl, by rw [S_len, S_len, List.length_append, rl]; exact fits (by show 1 + _ + _ ≤ _; omega), ?_⟩
      rw [S_app]
      refine ⟨_, rfl, _, rfl, _, rfl, _, _, rfl, rfl, .inl ⟨by omega, by omega⟩, _, rfl, _, _, rfl, rfl, _, _, rfl, ⟨rfl, y, nx x y, ([82] ++ rn (x / y + 1)) ++ d, _, rfl, np, by omega, by rw [nx_gcd]; exact gx, ?_⟩, ?_⟩
      · rw [ej, jst, List.append_assoc]
      · show (nx x y).natAbs < y.natAbs
        omega
    · have y1 : y = 1 := by
        have : ¬ 1 < y := fun z => c1 (decide_eq_true z)
        omega
      subst y1
      have tot' : (rn x).length + d.length ≤ 14000000 := tot
      rw [rn_len] at tot'
      rw [bs_one] at ej
      refine ⟨_, rfl, x, rfl, by omega, _, rfl, _, _, rfl, rfl, by rw [S_len, S_len, rn_len]; exact fits (by omega), ?_⟩
      rw [S_app]
      rw [ej] at q0
      exact q0
  · rintro σ H' Q1 Q2 hm ⟨v, e, i, j, e1, e2, b, e3, qq⟩
    exact ⟨v, e, i, j, e1, e2, b, e3, hm _ _ qq⟩
end
section
variable {P : Program} {w : World} {K : PySem.W.Frag} {mg : Str → Option Value} {base : Heap} {f : Addr} {fd : FuncData}
theorem ok_law_diagram (F : Fun K "_law_diagram" "_law_diagram" s_law_diagram f fd)   : FnOk P w K mg base CX0 1 f fd ["dance"] spDiag := by
  refine F.ok sc_law_diagram (fun vs H Q E h => ?_) (fun cdv A outer s H vs Q E hr h => ?_)
  · obtain ⟨l, rfl, hz, q⟩ := h
    rfl
  obtain ⟨l, rfl, hz, q⟩ := h
  refine ⟨_, (pss_cons (ps_set (i := 1) sc_law_diagram.nd rfl (.inl rfl) pe_int)
    (pss_cons (ps_set (i := 2) sc_law_diagram.nd rfl (.inl rfl) (pe_lst pa_nil))
    (pss_cons (ps_set (i := 3) sc_law_diagram.nd rfl (.inl rfl) (pe_tup (pa_cons pe_int (pa_cons pe_int (pa_cons pe_int (pa_cons pe_int pa_nil))))))
    (pss_cons (ps_for PassesOwn.never rfl (pi_str (pv 0)) (pg_name (i := 4) sc_law_diagram.nd rfl (.inl rfl))
    (pss_cons (ps_asg (pv 3) (pg_tup (by rfl) (pgs_cons (pg_name (i := 5) sc_law_diagram.nd rfl (.inl rfl)) (pgs_cons (pg_name (i := 6) sc_law_diagram.nd rfl (.inl rfl)) (pgs_cons (pg_name (i := 7) sc_law_diagram.nd rfl (.inl rfl)) (pgs_cons (pg_name (i := 8) sc_law_diagram.nd rfl (.inl rfl)) pgs_nil))))))
    (pss_one (ps_if (pt_cmpR op_eq (pv 4) pe_str (nomark _)) (pss_one (ps_set (i := 3) sc_law_diagram.nd rfl (.inl rfl) (pe_tup (pa_cons (pv 7) (pa_cons (pv 5) (pa_cons (pv 8) (pa_cons (pv 6) pa_nil))))))) (pss_one (ps_if (pt_cmpR op_eq (pv 4) pe_str (nomark _)) (pss_cons (ps_expr (pe_bm PySem.F.plainAttrs_list PySem.F.slot_list_append PySem.F.type_list_append mt_append (pv 2) (pa_cons (pe_tup (pa_cons (pv 6) (pa_cons (pv 8) (pa_cons (pv 1) pa_nil)))) pa_nil)))
    (pss_cons (ps_set (i := 3) sc_law_diagram.nd rfl (.inl rfl) (pe_tup (pa_cons (pv 5) (pa_cons (pv 1) (pa_cons (pv 7) (pa_cons (pv 6) pa_nil))))))
    (pss_one (ps_set (i := 1) sc_law_diagram.nd rfl (.inl rfl) (pe_op op_add (pv 1) pe_int))))) (pss_cons (ps_expr (pe_bm PySem.F.plainAttrs_list PySem.F.slot_list_append PySem.F.type_list_append mt_append (pv 2) (pa_cons (pe_tup (pa_cons (pv 8) (pa_cons (pv 6) (pa_cons (pv 1) pa_nil)))) pa_nil)))
    (pss_cons (ps_set (i := 3) sc_law_diagram.nd rfl (.inl rfl) (pe_tup (pa_cons (pv 5) (pa_cons (pv 8) (pa_cons (pv 7) (pa_cons (pv 1) pa_nil))))))
    (pss_one (ps_set (i := 1) sc_law_diagram.nd rfl (.inl rfl) (pe_op op_add (pv 1) pe_int)))))))))))
    (pss_one (ps_ret (pe_tup (pa_cons (pv 1) (pa_cons (pv 2) (pa_cons (pv 3) pa_nil)))))))))), ?_⟩
  have sz : 4 ≤ sizeLine := fits (by decide)
  have s3 : 3 ≤ sizeLine := fits (by decide)
  refine ⟨fits (by decide), fun p hp => ⟨sz, fun e0 he0 => ?_⟩⟩
  refine ⟨_, rfl, _, rfl, for_str (l := l) (fun i σ H' => ∃ (e : Addr) (x1 x2 x3 x4 x5 : Option V), σ = [some (.str (S l)), some (.int ((dg (l.take i)).n : Int)), some (.ref p), some (.ref e), x1, x2, x3, x4, x5] ∧ Same H H' ∧ H' e = some (e4 (dg (l.take i))) ∧ Crs H' p (dg (l.take i)).cs) ?_ ?_ ?_⟩
  · refine ⟨e0, _, _, _, _, _, rfl, (same_new hp _).trans (same_new he0 _), upd_same, [], ?_, rfl, fun i r c a _ => by cases a⟩
    rw [upd_ne (ne_of_none upd_same he0), upd_same]
    rfl
  · rintro i c σ H1 hc ⟨e, x1, x2, x3, x4, x5, rfl, sm, he, cr⟩
    have hi : i < l.length := (List.getElem?_eq_some_iff.mp hc).1
    have dl := dg_len (l.take i)
    rw [List.length_take] at dl
    have st := dg_take hc
    generalize dg (l.take i) = g at *
    refine ⟨_, rfl, e, _, rfl, SqT.of he, rfl, _, _, rfl, _, _, rfl, _, _, rfl, _, _, rfl, rfl, ?_⟩
    refine ⟨_, rfl, rfl, _, rfl, ite2 (fun c1 => ?_) (fun c1 => ?_)⟩
    · have k1 : c = 82 := (sign_eq e_R).mp (of_decide_eq_true c1)
      have e1 : dg1 g c = ⟨g.n, g.cs, g.c, g.a, g.d, g.b⟩ := if_pos k1
      rw [e1] at st
      rw [st]
      refine ⟨_, rfl, _, rfl, _, rfl, _, rfl, sz, fun t ht => ⟨t, _, _, _, _, _, rfl, sm.trans (same_new ht _), upd_same, cr.same (same_new ht _)⟩⟩
    have k1 : ¬ c = 82 := fun z => c1 (decide_eq_true ((sign_eq e_R).mpr z))
    refine ⟨_, rfl, rfl, _, rfl, ite2 (fun c2 => ?_) (fun c2 => ?_)⟩
    · have k2 : c = 84 := (sign_eq e_T).mp (of_decide_eq_true c2)
      have e1 : dg1 g c = ⟨g.n + 1, g.cs ++ [(g.b, g.d, g.n)], g.a, g.n, g.c, g.b⟩ := (if_neg k1).trans (if_pos k2)
      rw [e1] at st
      rw [st]
      obtain ⟨rs, hrs, _⟩ := cr
      refine ⟨_, rfl, .inl ⟨rfl, _, SqL.of hrs⟩, _, rfl, _, rfl, _, rfl, s3, fun t ht => ?_⟩
      obtain ⟨xs, hx, hl, cr'⟩ := Crs.push ⟨rs, hrs, ‹_›⟩ ht (g.b, g.d, g.n)
      refine ⟨p, xs, _, rfl, rfl, hx, Nat.lt_of_lt_of_le (show xs.length < 16777216 by omega) sizeLine_big, ?_⟩
      refine ⟨_, rfl, _, rfl, _, rfl, _, rfl, sz, fun t2 ht2 => ⟨_, rfl, _, _, rfl, rfl, t2, _, _, _, _, _, rfl, ?_, upd_same, cr'.same (same_new ht2 _)⟩⟩
      refine Same.trans (fun b o hb => ?_) (same_new ht2 _)
      rw [upd_ne (ne_of_none hb hp), upd_ne (ne_of_none (sm _ _ hb) ht)]
      exact sm _ _ hb
    · have k2 : ¬ c = 84 := fun z => c2 (decide_eq_true ((sign_eq e_T).mpr z))
      have e1 : dg1 g c = ⟨g.n + 1, g.cs ++ [(g.d, g.b, g.n)], g.a, g.d, g.c, g.n⟩ := (if_neg k1).trans (if_neg k2)
      rw [e1] at st
      rw [st]
      obtain ⟨rs, hrs, _⟩ := cr
      refine ⟨_, rfl, .inl ⟨rfl, _, SqL.of hrs⟩, _, rfl, _, rfl, _, rfl, s3, fun t ht => ?_⟩
      obtain ⟨xs, hx, hl, cr'⟩ := Crs.push ⟨rs, hrs, ‹_›⟩ ht (g.d, g.b, g.n)
      refine ⟨p, xs, _, rfl, rfl, hx, Nat.lt_of_lt_of_le (show xs.length < 16777216 by omega) sizeLine_big, ?_⟩
      refine ⟨_, rfl, _, rfl, _, rfl, _, rfl, sz, fun t2 ht2 => ⟨_, rfl, _, _, rfl, rfl, t2, _, _, _, _, _, rfl, ?_, upd_same, cr'.same (same_new ht2 _)⟩⟩
      refine Same.trans (fun b o hb => ?_) (same_new ht2 _)
      rw [upd_ne (ne_of_none hb hp), upd_ne (ne_of_none (sm _ _ hb) ht)]
      exact sm _ _ hb
  · rintro σ H1 ⟨e, x1, x2, x3, x4, x5, rfl, sm, he, cr⟩
    rw [List.take_of_length_le (Nat.le_refl _)] at he cr ⊢
    exact ⟨_, rfl, _, rfl, _, rfl, s3, fun t ht => q t p _ (sm.trans (same_new ht _)) hp ⟨e, upd_same, same_new ht _ _ _ he, cr.same (same_new ht _)⟩⟩
end
section
variable {P : Program} {w : World} {K : PySem.W.Frag} {mg : Str → Option Value} {base : Heap} {f : Addr} {fd : FuncData}
theorem ok_law_colouring (F : Fun K "_law_colouring" "_law_colouring" s_law_colouring f fd) (D_law_diagram : Dfn P w K mg base "_law_diagram" 1 ["dance"] spDiag)  : FnOk P w K mg base CX0 2 f fd ["dance", "first", "second"] spCol := by
  refine F.ok sc_law_colouring (fun vs H Q E h => ?_) (fun cdv A outer s H vs Q E hr h => ?_)
  · obtain ⟨l, x, y, rfl, hz, q⟩ := h
    rfl
  obtain ⟨l, x, y, rfl, hz, q⟩ := h
  refine ⟨_, (pss_cons (ps_set (i := 3) sc_law_colouring.nd rfl (.inl rfl) (pe_lst (pa_cons (pv 1) (pa_cons (pv 2) pa_nil))))
    (pss_cons (ps_for PassesOwn.never rfl (pi_list (pe_ix ix_tup (pe_do D_law_diagram hr (pa_cons (pv 0) pa_nil)) pe_int (fun _ _ => rfl))) (pg_tup (by rfl) (pgs_cons (pg_name (i := 4) sc_law_colouring.nd rfl (.inl rfl)) (pgs_cons (pg_name (i := 5) sc_law_colouring.nd rfl (.inl rfl)) (pgs_cons (pg_name (i := 6) sc_law_colouring.nd rfl (.inl rfl)) pgs_nil))))
    (pss_one (ps_expr (pe_bm PySem.F.plainAttrs_list PySem.F.slot_list_append PySem.F.type_list_append mt_append (pv 3) (pa_cons (pe_op op_sub (pe_op op_mul pe_int (pe_ix ix_list (pv 3) (pv 4) (fun _ _ => rfl))) (pe_ix ix_list (pv 3) (pv 5) (fun _ _ => rfl))) pa_nil)))))
    (pss_one (ps_ret (pv 3))))), ?_⟩
  have two : 2 ≤ sizeLine := fits (by decide)
  refine ⟨_, rfl, _, rfl, two, fun p hp => ?_⟩
  refine ⟨_, rfl, l, rfl, hz, fun t kp H2 s2 nk dgm => ?_⟩
  have hk0 := nk
  obtain ⟨e, ht, he, rs, hrs, zr, kr⟩ := dgm
  have np : p ≠ kp := ne_of_none upd_same nk
  have ep := s2 _ _ (upd_same (H := H) (a := p))
  have wl := wf_dg l
  have dl := dg_len l
  refine ⟨t, _, _, _, rfl, rfl, SqT.of ht, rfl, kp, rfl, ⟨_, SqL.of hrs⟩, for_list (K := K) (a := kp) (xs := rs.map V.ref) (fun i σ G => ∃ (x4 x5 x6 : Option V), σ = [some (.str (S l)), some (.int x), some (.int y), some (.ref p), x4, x5, x6] ∧ But p H2 G ∧ G p = some (.lst ((col ((dg l).cs.take i) x y).map V.int))) ?_ ?_ ?_ ?_⟩
  · exact ⟨_, _, _, rfl, But.refl _ _, ep⟩
  · rintro i σ G _ ⟨x4, x5, x6, _, bt, _⟩
    exact SqL.of (bt _ _ np.symm hrs)
  · rintro i v σ G hv ⟨x4, x5, x6, rfl, bt, hG⟩
    rw [List.getElem?_map] at hv
    cases hr : rs[i]? with
    | none => rw [hr] at hv; cases hv
    | some r =>
      rw [hr] at hv
      cases hv
      have hi : i < (dg l).cs.length := by rw [← zr]; exact (List.getElem?_eq_some_iff.mp hr).1
      have hc : (dg l).cs[i]? = some (dg l).cs[i] := List.getElem?_eq_getElem hi
      generalize (dg l).cs[i] = c at hc
      have tr := kr i r c hr hc
      have trG := bt _ _ (ne_of tr ep (by intro z; cases z)) tr
      obtain ⟨b1, b2, b3⟩ := wl.at_ i c hc
      have lA := col_len x y ((dg l).cs.take i)
      rw [List.length_take] at lA
      have lm : ((col ((dg l).cs.take i) x y).map V.int).length < sizeLine := by
        rw [List.length_map]
        exact Nat.lt_of_lt_of_le (show _ < 16777216 by omega) sizeLine_big
      refine ⟨r, _, rfl, SqT.of trG, rfl, _, _, rfl, _, _, rfl, _, _, rfl, rfl, ?_⟩
      refine ⟨_, rfl, .inl ⟨rfl, _, SqL.of hG⟩, _, rfl, _, rfl, p, _, _, _, rfl, rfl, SqL.of hG, at_getD (by omega), _, _, rfl, rfl, .inl ⟨by decide, by decide⟩, _, rfl, _, rfl, p, _, _, _, rfl, rfl, SqL.of hG, at_getD (by omega), _, _, rfl, rfl, p, _, _, rfl, rfl, hG, lm, ?_⟩
      refine ⟨_, _, _, rfl, bt.trans But.upd, ?_⟩
      rw [upd_same, List.take_add_one, hc]
      show _ = some (HO.lst ((col ((dg l).cs.take i ++ [c]) x y).map V.int))
      rw [col_snoc]
      unfold cstep
      rw [List.map_append]
      rfl
  · rintro σ G ⟨x4, x5, x6, rfl, bt, hG⟩
    rw [List.length_map, zr, List.take_of_length_le (Nat.le_refl _)] at hG
    exact ⟨_, rfl, q p G (fun b o hb => bt _ _ (ne_of_none hb hp) (s2 _ _ (same_new hp _ _ _ hb))) hp hG⟩
end
section
variable {P : Program} {w : World} {K : PySem.W.Frag} {mg : Str → Option Value} {base : Heap} {f : Addr} {fd : FuncData}
theorem ok_law_is_colouring (F : Fun K "_law_is_colouring" "_law_is_colouring" s_law_is_colouring f fd) (D_law_diagram : Dfn P w K mg base "_law_diagram" 1 ["dance"] spDiag) (y_len : mg "len" = none)  : FnOk P w K mg base CX0 2 f fd ["dance", "colours"] spLawIsCol := by
  refine F.ok sc_law_is_colouring (fun vs H Q E h => ?_) (fun cdv A outer s H vs Q E hr h => ?_)
  · obtain ⟨l, cp, A, rfl, hA, zA, zl, q⟩ := h
    rfl
  obtain ⟨l, cp, A, rfl, hA, zA, zl, q⟩ := h
  refine ⟨_, (pss_cons (ps_asg (pe_do D_law_diagram hr (pa_cons (pv 0) pa_nil)) (pg_tup (by rfl) (pgs_cons (pg_name (i := 2) sc_law_is_colouring.nd rfl (.inl rfl)) (pgs_cons (pg_name (i := 3) sc_law_is_colouring.nd rfl (.inl rfl)) (pgs_cons (pg_name (i := 4) sc_law_is_colouring.nd rfl (.inl rfl)) pgs_nil)))))
    (pss_cons (ps_if (pt_cmpR op_ne (pe_callB call_len_seq rfl y_len PySem.boot_len (pa_cons (pv 1) pa_nil)) (pv 2) (nomark _)) (pss_one (ps_ret pe_bl)) pss_nil)
    (pss_cons (ps_setLc (i := 5) (own := [("one", 6)]) (g := (gName 6)) (by rfl) sc_law_is_colouring.nd rfl rfl (sw_true rfl rfl rfl (by decide +kernel)) (pi_list (pv 3)) (blkOk_by (own := [("one", 6)]) (N := ["dance", "colours", "count", "crossings", "ends", "wrong", "one"]) (sc := defScope s_law_is_colouring) (by decide +kernel)) (fun _ _ _ _ _ => pg_name (i := 6) sc_law_is_colouring.nd rfl (Or.inl rfl)) (fun _ _ _ _ _ => (pts_one (pt_cmpR op_ne (pe_op op_add (pe_ix (r := rIxL K) ix_list (pv 1) (pe_ix (r := rIxT K) ix_tup (pv 6) pe_int (fun _ _ => rfl)) (fun _ _ => rfl)) (pe_ix (r := rIxL K) ix_list (pv 1) (pe_ix (r := rIxT K) ix_tup (pv 6) pe_int (fun _ _ => rfl)) (fun _ _ => rfl))) (pe_op op_mul pe_int (pe_ix (r := rIxL K) ix_list (pv 1) (pe_ix (r := rIxT K) ix_tup (pv 6) pe_int (fun _ _ => rfl)) (fun _ _ => rfl))) (nomark _)))) (fun _ _ _ _ _ => (pv 6)))
    (pss_one (ps_ret (pe_cmpR op_eq (pe_callB call_len_seq rfl y_len PySem.boot_len (pa_cons (pv 5) pa_nil)) pe_int (nomark _))))))), ?_⟩
  have w0 := wf_dg l
  refine ⟨_, rfl, l, rfl, by omega, fun t kp H1 s1 nk dgm => ?_⟩
  obtain ⟨e, ht, he, rs, hrs, zr, kr⟩ := dgm
  have hA1 := s1 _ _ hA
  refine ⟨t, _, rfl, SqT.of ht, rfl, _, _, rfl, _, _, rfl, _, _, rfl, rfl, ?_⟩
  refine ⟨_, rfl, cp, _, rfl, .inl (SqL.of hA1), _, rfl, rfl, _, rfl, ?_⟩
  by_cases hl : A.length = (dg l).n
  · have e1 : decide (V.int (((A.map V.int).length : Nat) : Int) = V.int (((dg l).n : Nat) : Int)) = true := decide_eq_true (by rw [List.length_map, hl])
    rw [e1]
    refine iteF ⟨_, rfl, kp, rfl, ⟨_, SqL.of hrs⟩, fun D hD => lc_list (K := K) (a := kp) (xs := rs.map V.ref) (fun i F => ∃ ys : List V, Same H1 F ∧ F D = some (.lst ys) ∧ ys.length ≤ i ∧ (ys = [] ↔ ((dg l).cs.take i).all (keepB A) = true)) ⟨[], same_new hD _, upd_same, Nat.zero_le _, ⟨fun _ => rfl, fun _ => rfl⟩⟩ ?_ ?_ ?_⟩
    · rintro i F _ ⟨ys, sF, _⟩
      exact SqL.of (sF _ _ hrs)
    · rintro i v F hv ⟨ys, sF, hF, hy, hys⟩
      rw [List.getElem?_map] at hv
      cases hr : rs[i]? with
      | none => rw [hr] at hv; cases hv
      | some r =>
        rw [hr] at hv
        cases hv
        have hi : i < (dg l).cs.length := by rw [← zr]; exact (List.getElem?_eq_some_iff.mp hr).1
        have hc : (dg l).cs[i]? = some (dg l).cs[i] := List.getElem?_eq_getElem hi
        generalize (dg l).cs[i] = c at hc
        have trF := SqT.of (K := K) (sF _ _ (kr i r c hr hc))
        obtain ⟨b1, b2, b3⟩ := w0.at_ i c hc
        have wn := w0.n
        have dl := dg_len l
        have aF := SqL.of (K := K) (sF _ _ hA1)
        refine ⟨rfl, _, rfl, _, rfl, r, _, _, _, rfl, rfl, trF, rfl, cp, _, _, _, rfl, rfl, aF, at_getD (by omega), _, rfl, _, rfl, r, _, _, _, rfl, rfl, trF, rfl, cp, _, _, _, rfl, rfl, aF, at_getD (by omega), _, _, rfl, rfl, _, rfl, _, rfl, r, _, _, _, rfl, rfl, trF, rfl, cp, _, _, _, rfl, rfl, aF, at_getD (by omega), _, _, rfl, rfl, .inl ⟨by decide, by decide⟩, rfl, _, rfl, ?_⟩
        have step : ((dg l).cs.take (i + 1)).all (keepB A) = (((dg l).cs.take i).all (keepB A) && keepB A c) := by
          rw [List.take_add_one, hc, List.all_append]
          show (_ && [c].all (keepB A)) = _
          rw [List.all_cons, List.all_nil, Bool.and_true]
        refine ite2 (fun k => ?_) (fun k => ?_)
        · have hne : keepB A c = false := by
            cases hk : keepB A c with
            | false => rfl
            | true =>
              have h1 := keepB_iff.mp hk
              have h2 := of_decide_eq_false (show decide (V.int (A.getD c.2.1 0 + A.getD c.2.2 0) = V.int (2 * A.getD c.1 0)) = false from by simpa only [Bool.not_eq_true'] using k)
              exact absurd (congrArg V.int h1) h2
          refine ⟨_, rfl, ys, hF, Nat.lt_of_lt_of_le (show ys.length < 16777216 by omega) sizeLine_big, ys ++ [_], fun b o hb => ?_, upd_same, by rw [List.length_append]; show _ + 1 ≤ _; omega, ?_⟩
          · rw [upd_ne (ne_of_none hb hD)]
            exact sF _ _ hb
          · rw [step, hne, Bool.and_false]
            exact ⟨fun z => by simp at z, fun z => by cases z⟩
        · have heq : keepB A c = true := keepB_iff.mpr (V.int.inj (by simpa using k))
          refine ⟨ys, sF, hF, by omega, ?_⟩
          rw [step, heq, Bool.and_true]
          exact hys
    · rintro F ⟨ys, sF, hF, hy, hys⟩
      rw [List.length_map, zr, List.take_of_length_le (Nat.le_refl _)] at hys
      have q2 := q F (s1.trans sF)
      unfold isColB at q2
      rw [decide_eq_true hl, Bool.true_and] at q2
      refine ⟨_, rfl, D, ys, rfl, .inl (SqL.of hF), rfl, ?_⟩
      have e1 : decide (V.int ((ys.length : Nat) : Int) = V.int 0) = (dg l).cs.all (keepB A) := by
        rw [Bool.eq_iff_iff, decide_eq_true_eq, ← hys]
        constructor
        · intro z
          exact List.eq_nil_of_length_eq_zero (by have := V.int.inj z; omega)
        · intro z
          rw [z]
          rfl
      rw [e1]
      exact q2
  · have e1 : decide (V.int (((A.map V.int).length : Nat) : Int) = V.int (((dg l).n : Nat) : Int)) = false := decide_eq_false fun z => hl (by have := V.int.inj z; rw [List.length_map] at this; omega)
    rw [e1]
    have q2 := q H1 s1
    unfold isColB at q2
    rw [decide_eq_false hl, Bool.false_and] at q2
    exact iteT q2
end
section
variable {P : Program} {w : World} {K : PySem.W.Frag} {mg : Str → Option Value} {base : Heap} {f : Addr} {fd : FuncData}
theorem ok_law_reading (F : Fun K "_law_reading" "_law_reading" s_law_reading f fd) (D_law_is_colouring : Dfn P w K mg base "_law_is_colouring" 2 ["dance", "colours"] spLawIsCol) (D_law_diagram : Dfn P w K mg base "_law_diagram" 2 ["dance"] spDiag) (D_divisor : Dfn P w K mg base "_law_divisor" 2 ["one", "other"] spDivisor) (y_len : mg "len" = none)  : FnOk P w K mg base CX0 3 f fd ["dance", "colours"] spLawReading := by
  refine F.ok sc_law_reading (fun vs H Q E h => ?_) (fun cdv A outer s H vs Q E hr h => ?_)
  · obtain ⟨l, cp, A, rfl, hl, hA, zA, zl, bd, q⟩ := h
    rfl
  obtain ⟨l, cp, A, rfl, hl, hA, zA, zl, bd, q⟩ := h
  refine ⟨_, (pss_cons (ps_if (PW.pt (pw_or (pt_not (pt_val (pe_do D_law_is_colouring hr (pa_cons (pv 0) (pa_cons (pv 1) pa_nil))))) (pw_or1 (pt_cmpR op_eq (pe_callB call_len_seq rfl y_len PySem.boot_len (pa_cons (pe_lc (own := [("one", 9)]) (g := (gName 9)) (by rfl) sc_law_reading.nd (pi_list (pv 1)) (blkOk_by (own := [("one", 9)]) (N := ["dance", "colours", "nw", "ne", "sw", "se", "p", "q", "divisor", "one"]) (sc := defScope s_law_reading) (by decide +kernel)) (fun _ _ _ _ _ => pg_name (i := 9) sc_law_reading.nd rfl (Or.inl rfl)) (fun _ _ _ _ _ => (pts_one (pt_cmpR op_ne (pv 9) (pe_ix (r := rIxL K) ix_list (pv 1) pe_int (fun _ _ => rfl)) (nomark _)))) (fun _ _ _ _ _ => (pv 9))) pa_nil)) pe_int (nomark _))))) (pss_one (ps_ret pe_non)) pss_nil)
    (pss_cons (ps_asg (pe_ix ix_tup (pe_do D_law_diagram hr (pa_cons (pv 0) pa_nil)) pe_int (fun _ _ => rfl)) (pg_tup (by rfl) (pgs_cons (pg_name (i := 2) sc_law_reading.nd rfl (.inl rfl)) (pgs_cons (pg_name (i := 3) sc_law_reading.nd rfl (.inl rfl)) (pgs_cons (pg_name (i := 4) sc_law_reading.nd rfl (.inl rfl)) (pgs_cons (pg_name (i := 5) sc_law_reading.nd rfl (.inl rfl)) pgs_nil))))))
    (pss_cons (ps_set (i := 6) sc_law_reading.nd rfl (.inl rfl) (pe_op op_sub (pe_ix ix_list (pv 1) (pv 3) (fun _ _ => rfl)) (pe_ix ix_list (pv 1) (pv 2) (fun _ _ => rfl))))
    (pss_cons (ps_set (i := 7) sc_law_reading.nd rfl (.inl rfl) (pe_op op_sub (pe_ix ix_list (pv 1) (pv 3) (fun _ _ => rfl)) (pe_ix ix_list (pv 1) (pv 5) (fun _ _ => rfl))))
    (pss_cons (ps_set (i := 8) sc_law_reading.nd rfl (.inl rfl) (pe_do D_divisor hr (pa_cons (pv 6) (pa_cons (pv 7) pa_nil))))
    (pss_cons (ps_if (PW.pt (pw_or (pt_cmpR op_lt (pv 7) pe_int (nomark _)) (pw_or1 (PW.pt (pw_and (pt_cmpR op_eq (pv 7) pe_int (nomark _)) (pw_and1 (pt_cmpR op_lt (pv 6) pe_int (nomark _)))))))) (pss_one (ps_set (i := 8) sc_law_reading.nd rfl (.inl rfl) (pe_op op_sub pe_int (pv 8)))) pss_nil)
    (pss_one (ps_ret (pe_tup (pa_cons (pe_op op_fdivWN (pv 6) (pv 8)) (pa_cons (pe_op op_fdivWN (pv 7) (pv 8)) pa_nil))))))))))), ?_⟩
  have w0 := wf_dg l
  have two : 2 ≤ sizeLine := fits (by decide)
  refine ⟨_, rfl, _, rfl, l, cp, A, rfl, hA, zA, zl, fun H1 s1 => ⟨_, rfl, ?_⟩⟩
  have hA1 := s1 _ _ hA
  cases hc : isColB l A with
  | false => exact iteT (q _ H1 s1 (by rw [dtR_none (.inl hc)]; exact non_is))
  | true =>
    obtain ⟨_, hlen⟩ := isCol_col hc
    have wn := w0.n
    have wa := w0.a
    have wb := w0.b
    have wd := w0.d
    have pos : 0 < A.length := by omega
    refine iteF ⟨_, rfl, cp, rfl, ⟨_, SqL.of hA1⟩, fun D hD => lc_list (K := K) (a := cp) (xs := A.map V.int) (fun i F => ∃ ys : List V, Same H1 F ∧ F D = some (.lst ys) ∧ ys.length ≤ i ∧ (ys = [] ↔ ((A.take i).all fun x => x == A.getD 0 0) = true)) ⟨[], same_new hD _, upd_same, Nat.zero_le _, ⟨fun _ => rfl, fun _ => rfl⟩⟩ ?_ ?_ ?_⟩
    · rintro i F _ ⟨ys, sF, _⟩
      exact SqL.of (sF _ _ hA1)
    · rintro i v F hv ⟨ys, sF, hF, hy, hys⟩
      rw [List.getElem?_map] at hv
      cases hx : A[i]? with
      | none => rw [hx] at hv; cases hv
      | some x =>
        rw [hx] at hv
        cases hv
        have hi : i < A.length := (List.getElem?_eq_some_iff.mp hx).1
        have step : ((A.take (i + 1)).all fun x => x == A.getD 0 0) = (((A.take i).all fun x => x == A.getD 0 0) && (x == A.getD 0 0)) := by
          rw [List.take_add_one, hx, List.all_append]
          show (_ && [x].all _) = _
          rw [List.all_cons, List.all_nil, Bool.and_true]
        refine ⟨rfl, _, rfl, _, rfl, cp, _, _, _, rfl, rfl, SqL.of (sF _ _ hA1), at_getD (i := 0) pos, rfl, _, rfl, ite2 (fun k => ?_) (fun k => ?_)⟩
        · have hne : (x == A.getD 0 0) = false := by
            rw [beq_eq_false_iff_ne]
            intro z
            exact of_decide_eq_false (show decide (V.int x = V.int (A.getD 0 0)) = false from by simpa only [Bool.not_eq_true'] using k) (congrArg V.int z)
          refine ⟨_, rfl, ys, hF, Nat.lt_of_lt_of_le (show ys.length < 16777216 by omega) sizeLine_big, ys ++ [_], fun b o hb => ?_, upd_same, by rw [List.length_append]; show _ + 1 ≤ _; omega, ?_⟩
          · rw [upd_ne (ne_of_none hb hD)]
            exact sF _ _ hb
          · rw [step, hne, Bool.and_false]
            exact ⟨fun z => by simp at z, fun z => by cases z⟩
        · have heq : (x == A.getD 0 0) = true := beq_iff_eq.mpr (V.int.inj (by simpa using k))
          refine ⟨ys, sF, hF, by omega, ?_⟩
          rw [step, heq, Bool.and_true]
          exact hys
    · rintro F ⟨ys, sF, hF, hy, hys⟩
      rw [List.length_map, List.take_of_length_le (Nat.le_refl _)] at hys
      have hys' : ys = [] ↔ plainB A = true := hys
      have sF1 := s1.trans sF
      refine ⟨D, ys, rfl, .inl (SqL.of hF), rfl, _, rfl, ?_⟩
      cases hp : plainB A with
      | true =>
        have e : ys = [] := hys'.mpr hp
        rw [e]
        exact iteT (q _ F sF1 (by rw [dtR_none (.inr hp)]; exact non_is))
      | false =>
        have e : decide (V.int ((ys.length : Nat) : Int) = V.int 0) = false := decide_eq_false fun z => by
          have h0 := V.int.inj z
          have : ys = [] := List.eq_nil_of_length_eq_zero (by omega)
          rw [hys'.mp this] at hp
          cases hp
        rw [e]
        refine iteF ⟨_, rfl, l, rfl, by omega, fun t kp H2 s2 nk dgm => ?_⟩
        obtain ⟨e, ht, he, cr⟩ := dgm
        have hA2 := SqL.of (K := K) (s2 _ _ (sF _ _ hA1))
        refine ⟨t, _, _, _, rfl, rfl, SqT.of ht, rfl, e, _, rfl, SqT.of he, rfl, _, _, rfl, _, _, rfl, _, _, rfl, _, _, rfl, rfl, ?_⟩
        obtain ⟨r1, r2⟩ := reads hl hc hp
        have b0 := fun i => bd.at i
        refine ⟨_, rfl, _, rfl, cp, _, _, _, rfl, rfl, hA2, at_getD (by omega), _, rfl, _, rfl, cp, _, _, _, rfl, rfl, hA2, at_getD (by omega), _, _, rfl, rfl, ?_⟩
        refine ⟨_, rfl, _, rfl, cp, _, _, _, rfl, rfl, hA2, at_getD (by omega), _, rfl, _, rfl, cp, _, _, _, rfl, rfl, hA2, at_getD (by omega), _, _, rfl, rfl, ?_⟩
        have h1 := b0 (dg l).b
        have h2 := b0 (dg l).a
        have h3 := b0 (dg l).d
        have sp : (A.getD (dg l).b 0 - A.getD (dg l).a 0).natAbs < 2 ^ 201 := by omega
        have sq : (A.getD (dg l).b 0 - A.getD (dg l).d 0).natAbs < 2 ^ 201 := by omega
        have gs := gcd_size r2 sp sq
        refine ⟨_, rfl, _, rfl, (A.getD (dg l).b 0 - A.getD (dg l).a 0), (A.getD (dg l).b 0 - A.getD (dg l).d 0), rfl, ?_⟩
        have qf := fun t3 H3 (s3 : Same H2 H3) (tt : Tup2 H3 t3 (due (A.getD (dg l).b 0 - A.getD (dg l).a 0) (A.getD (dg l).b 0 - A.getD (dg l).d 0))) => q (.ref t3) H3 ((sF1.trans s2).trans s3) (by
          rw [dtR_some hc hp]
          rw [r1] at tt
          exact tup2_is (n := 0) tt)
        have last : ∀ d : Int, d ≠ 0 → d.natAbs < 2 ^ 201 → (Int.fdiv (A.getD (dg l).b 0 - A.getD (dg l).a 0) d, Int.fdiv (A.getD (dg l).b 0 - A.getD (dg l).d 0) d) = due (A.getD (dg l).b 0 - A.getD (dg l).a 0) (A.getD (dg l).b 0 - A.getD (dg l).d 0) → tRet (tTup (tCons (tOp (rI (fun _ j => j ≠ 0 ∧ j.natAbs.log2 < 9000) fun i j => .int (i.fdiv j)) (tVar 6) (tVar 8)) (tCons (tOp (rI (fun _ j => j ≠ 0 ∧ j.natAbs.log2 < 9000) fun i j => .int (i.fdiv j)) (tVar 7) (tVar 8)) tNil)))
            { nx := fun _ H' => Q .non H', rt := Q } [some (.str (S l)), some (.ref cp), some (.int ((dg l).a : Int)), some (.int ((dg l).b : Int)), some (.int ((dg l).c : Int)), some (.int ((dg l).d : Int)), some (.int (A.getD (dg l).b 0 - A.getD (dg l).a 0)), some (.int (A.getD (dg l).b 0 - A.getD (dg l).d 0)), some (.int d), none] H2 := fun d d0 ds e => by
          refine ⟨_, rfl, _, rfl, _, _, rfl, rfl, ⟨d0, log_ok ds⟩, _, rfl, _, rfl, _, _, rfl, rfl, ⟨d0, log_ok ds⟩, two, fun n hn => qf n _ (same_new hn _) ?_⟩
          rw [← e]
          exact upd_same
        have e0 : ((Nat.gcd (Int.natAbs (A.getD (dg l).b 0 - A.getD (dg l).a 0)) (Int.natAbs (A.getD (dg l).b 0 - A.getD (dg l).d 0)) : Nat) : Int) = ((Int.gcd (A.getD (dg l).b 0 - A.getD (dg l).a 0) (A.getD (dg l).b 0 - A.getD (dg l).d 0) : Nat) : Int) := rfl
        refine ⟨_, rfl, _, _, rfl, rfl, _, rfl, ite2 (fun c1 => iteT ?_) (fun c1 => ?_)⟩
        · have c1' : (A.getD (dg l).b 0 - A.getD (dg l).d 0) < 0 := of_decide_eq_true c1
          exact ⟨_, rfl, _, _, rfl, rfl, last (0 - ((Int.gcd (A.getD (dg l).b 0 - A.getD (dg l).a 0) (A.getD (dg l).b 0 - A.getD (dg l).d 0) : Nat) : Int)) (by have := gs.1; omega) (by have := gs.2; omega) (due_neg (.inl c1'))⟩
        have c1' : ¬ (A.getD (dg l).b 0 - A.getD (dg l).d 0) < 0 := fun z => c1 (decide_eq_true z)
        refine ⟨_, rfl, rfl, _, rfl, ite2 (fun c2 => ?_) (fun c2 => iteF ?_)⟩
        · have c2' : (A.getD (dg l).b 0 - A.getD (dg l).d 0) = 0 := V.int.inj (of_decide_eq_true c2)
          refine ⟨_, rfl, _, _, rfl, rfl, _, rfl, ite2 (fun c3 => ?_) (fun c3 => ?_)⟩
          · have c3' : (A.getD (dg l).b 0 - A.getD (dg l).a 0) < 0 := of_decide_eq_true c3
            exact ⟨_, rfl, _, _, rfl, rfl, last (0 - ((Int.gcd (A.getD (dg l).b 0 - A.getD (dg l).a 0) (A.getD (dg l).b 0 - A.getD (dg l).d 0) : Nat) : Int)) (by have := gs.1; omega) (by have := gs.2; omega) (due_neg (.inr ⟨c2', c3'⟩))⟩
          · have c3' : ¬ (A.getD (dg l).b 0 - A.getD (dg l).a 0) < 0 := fun z => c3 (decide_eq_true z)
            exact last ((Int.gcd (A.getD (dg l).b 0 - A.getD (dg l).a 0) (A.getD (dg l).b 0 - A.getD (dg l).d 0) : Nat) : Int) (by have := gs.1; omega) (by have := gs.2; omega) (due_pos r2 (by omega))
        · have c2' : ¬ (A.getD (dg l).b 0 - A.getD (dg l).d 0) = 0 := fun z => c2 (decide_eq_true (congrArg V.int z))
          exact last ((Int.gcd (A.getD (dg l).b 0 - A.getD (dg l).a 0) (A.getD (dg l).b 0 - A.getD (dg l).d 0) : Nat) : Int) (by have := gs.1; omega) (by have := gs.2; omega) (due_pos r2 (by omega))
end
section
variable {P : Program} {w : World} {K : PySem.W.Frag} {mg : Str → Option Value} {base : Heap} {f : Addr} {fd : FuncData}
theorem ok_law_leads (F : Fun K "_law_leads" "_law_leads" s_law_leads f fd) (D_law_made : Dfn P w K mg base "_law_made" 2 ["dance", "move"] spLawMade)  : FnOk P w K mg base CX0 3 f fd ["one", "moves", "other"] spLeadsG := by
  refine F.ok sc_law_leads (fun vs H Q E h => ?_) (fun cdv A outer s H vs Q E hr h => ?_)
  · obtain ⟨o, e, p, ms, kk, rfl, tl, fa, hk, hz, q⟩ := h
    rfl
  obtain ⟨o, e, p, ms, kk, rfl, tl, fa, hk, hz, q⟩ := h
  refine ⟨_, (pss_cons (ps_set (i := 3) sc_law_leads.nd rfl (.inl rfl) (pv 0))
    (pss_cons (ps_for PassesOwn.never rfl (pi_list (pv 1)) (pg_name (i := 4) sc_law_leads.nd rfl (.inl rfl))
    (pss_one (ps_if (pt_cmpR op_notN (pv 3) pe_non (nomark _)) (pss_one (ps_set (i := 3) sc_law_leads.nd rfl (.inl rfl) (pe_do D_law_made hr (pa_cons (pv 3) (pa_cons (pv 4) pa_nil))))) pss_nil)))
    (pss_one (ps_ret (pe_and (pe_cmpR op_notN (pv 3) pe_non (nomark _)) (pe_one (pe_cmpR op_eq (pv 3) (pv 2) (nomark _)))))))), ?_⟩
  obtain ⟨xs, hxs, lxs⟩ := tl.lst
  rw [List.length_map] at lxs
  refine ⟨_, rfl, _, rfl, p, rfl, ⟨xs, SqL.of hxs⟩, for_list (K := K) (a := p) (xs := xs) (fun i σ G => ∃ (x4 : Option V), σ = [some (.str (S o)), some (.ref p), some (.str (S e)), some (tMade (led o (ms.take i))), x4] ∧ Same H G ∧ ∀ d, led o (ms.take i) = some d → d.length ≤ o.length + kk * i) ?_ ?_ ?_ ?_⟩
  · exact ⟨_, rfl, Same.refl H, fun d hd => by cases hd; omega⟩
  · rintro i σ G _ ⟨x4, _, sm, _⟩
    exact SqL.of (sm _ _ hxs)
  · rintro i y σ G hy ⟨x4, rfl, sm, hl⟩
    have hi : i < ms.length := by rw [← lxs]; exact (List.getElem?_eq_some_iff.mp hy).1
    have hm : ms[i]? = some ms[i] := List.getElem?_eq_getElem hi
    obtain ⟨xs', r, e1, _, e2, e3⟩ := tl.at (i := i) (d := Mv.vs ms[i]) (by rw [List.getElem?_map, hm]; rfl)
    rw [hxs] at e1
    cases e1
    rw [hy] at e2
    cases e2
    rw [led_take hm]
    have fm := fa _ (List.getElem_mem hi)
    cases hd : led o (ms.take i) with
    | none =>
      exact ⟨_, rfl, rfl, _, rfl, iteF ⟨_, rfl, sm, fun d hd => by cases hd⟩⟩
    | some d =>
      have hdl := hl d hd
      refine ⟨_, rfl, rfl, _, rfl, iteT ?_⟩
      refine ⟨_, rfl, _, rfl, d, r, ms[i], rfl, Tm.same e3 sm, fm.mono (by omega), (by have := Nat.mul_le_mul_left kk (Nat.le_of_lt hi); omega), fun G1 s1 => ⟨_, rfl, sm.trans s1, fun d' hd' => ?_⟩⟩
      have := mkMv_len fm hd'
      rw [Nat.mul_succ]
      omega
  · rintro σ G ⟨x4, rfl, sm, _⟩
    rw [List.take_of_length_le (show ms.length ≤ xs.length by omega)]
    have q1 := q G sm
    cases hd : led o ms with
    | none =>
      rw [hd] at q1
      exact ⟨_, rfl, rfl, _, rfl, iteF q1⟩
    | some d =>
      rw [hd] at q1
      refine ⟨_, rfl, rfl, _, rfl, iteT ⟨_, rfl, _, rfl, rfl, ?_⟩⟩
      rw [show decide (tMade (some d) = V.str (S e)) = decide (some d = some e) from decide_eq_decide.mpr (tx_iff.trans ⟨fun h => by rw [h], fun h => Option.some.inj h⟩)]
      exact q1
end
section
open PySem PySem.Spec PyProof.Rows
variable {X : Cx}
def rListOf (K : PySem.W.Frag) : List V → Hp → VK → Prop := fun xs H Q => ∃ (p : Addr) (ys : List V), xs = [.ref p] ∧ (SqL K H p ys ∨ SqT K H p ys) ∧ ∀ l, H l = none → Q (.ref l) (upd H l (.lst ys))
theorem call_list_ofK {K : PySem.W.Frag} {X : Cx} (hK : X.K = K) : CallR X (.type "list") (rListOf K) := hK ▸ call_list_of
theorem boot_list_ : bootBuiltins "list" = some (.type "list") := by decide +kernel
/-- equal parts of two papers: the same, or lists of the same -/
def PairE (K : PySem.W.Frag) (H : Hp) (x y : V) : Prop := (x = y ∧ flatB x = true) ∨ ∃ (l m : Addr) (zs : List V), x = .ref l ∧ y = .ref m ∧ SqL K H l zs ∧ SqL K H m zs ∧ ∀ z ∈ zs, flatB z = true ∨ ∃ a, z = .ref a
theorem rel_same {A : Around} {s : Shared} {z : V} {u u' : Value} (r : RelV z u) (r' : RelV z u') (h : flatB z = true ∨ ∃ a, z = .ref a) : SeqAt.EqAt A s u u' true := by
  rcases h with h | ⟨a, rfl⟩
  · exact eqAt_same r r' h
  · cases (show u = Value.ref a from r)
    cases (show u' = Value.ref a from r')
    exact SeqAt.EqAt.same _
theorem pair_run {pins : List (Addr × Obj)} {σ : L2.St} {H : Hp} {s : Shared} {A : Around} (I : Inv X pins σ H s) (hu : A.units < cLine) {x y : V} {v u : Value} (h : PairE X.K H x y) (rx : RelV x v) (ry : RelV y u) : SeqAt.EqAt A s v u true := by
  rcases h with ⟨rfl, f⟩ | ⟨l, m, zs, rfl, rfl, hl, hm, hz⟩
  · exact eqAt_same rx ry f
  · cases (show v = Value.ref l from rx)
    cases (show u = Value.ref m from ry)
    by_cases e : l = m
    · subst e
      exact SeqAt.EqAt.same _
    · obtain ⟨us, r1, p1, _⟩ := I.list hl
      obtain ⟨ws, r2, p2, _⟩ := I.list hm
      have hsz : us.toArray.size = ws.toArray.size := by
        rw [List.size_toArray, List.size_toArray, ← r1.length, ← r2.length]
      have key := SeqAt.RcAt.lists (e := fun _ => true) p1.isList p2.isList hsz hu (fun j h1 h2 => by
        have j1 : j < zs.length := by rw [r1.length]; simpa using h1
        obtain ⟨a, ha, ra⟩ := r1.get (i := j) (x := zs[j]) (by simp [j1])
        obtain ⟨b, hb, rb⟩ := r2.get (i := j) (x := zs[j]) (by simp [j1])
        have ea := (List.getElem?_eq_some_iff.mp ha).2
        have eb := (List.getElem?_eq_some_iff.mp hb).2
        have := rel_same (A := A.in1) (s := s) ra rb (hz _ (List.getElem_mem j1))
        rw [← ea, ← eb] at this
        simpa using this)
      rw [show ((List.range us.toArray.size).all fun _ => true) = true from List.all_eq_true.mpr fun _ _ => rfl] at key
      exact SeqAt.EqAt.of_refs e key
theorem pairs_run {pins : List (Addr × Obj)} {σ : L2.St} {H : Hp} {s : Shared} {A : Around} (I : Inv X pins σ H s) (hu : A.units < cLine) {xs ys : List V} (hp : Paired (PairE X.K H) xs ys) : ∀ {us ws : List Value}, Vals xs us → Vals ys ws → ∀ j (h1 : j < us.length) (h2 : j < ws.length), SeqAt.EqAt A s us[j] ws[j] true := by
  induction hp with
  | nil =>
    intro us ws r1 r2 j h1 h2
    cases r1
    exact absurd h1 (Nat.not_lt_zero j)
  | cons h _ k =>
    intro us ws r1 r2 j h1 h2
    cases r1 with
    | cons a1 b1 =>
      cases r2 with
      | cons a2 b2 =>
        cases j with
        | zero => exact pair_run I hu h a1 a2
        | succ j => exact k b1 b2 j (Nat.lt_of_succ_lt_succ h1) (Nat.lt_of_succ_lt_succ h2)
/-- == of two papers that are equal -/
theorem op_eqPap (hu : X.A.units + 65 < cLine) : OpR X (compareOp .Eq) (fun x y H Q => ∃ (p q : Addr) (xs ys : List V), x = .ref p ∧ y = .ref q ∧ SqT X.K H p xs ∧ SqT X.K H q ys ∧ Paired (PairE X.K H) xs ys ∧ Q (.bl true) H) := by
  intro pins s σ H x y v u Q I rx ry h
  obtain ⟨p, q, xs, ys, rfl, rfl, hp, hq, hP, hQ⟩ := h
  cases (show v = Value.ref p from rx)
  cases (show u = Value.ref q from ry)
  obtain ⟨us, r1, p1, _⟩ := I.tuple hp
  obtain ⟨ws, r2, p2, _⟩ := I.tuple hq
  have hsz : us.toArray.size = ws.toArray.size := by
    rw [List.size_toArray, List.size_toArray, ← r1.length, ← r2.length]
    exact Paired.length hP
  have key := SeqAt.RcAt.tuples (A := X.A) (e := fun _ => true) p1 p2 (by omega) (fun j h1 h2 => by
    have := pairs_run I (A := X.A.in1) (by show X.A.units + 1 < cLine; omega) hP r1 r2 j (by simpa using h1) (by simpa using h2)
    simpa using this)
  rw [show ((List.range (min us.toArray.size ws.toArray.size)).all fun _ => true) = true from List.all_eq_true.mpr fun _ _ => rfl, hsz] at key
  have key2 : SeqAt.RcAt X.A s (.ref p) (.ref q) true := by simpa using key
  exact key2 X.prog X.w _ _ ⟨.bl true, H, I, rfl, hQ⟩
end
section
/-- a paper at t, none of its lists at z: rows of at most n tuples of strings of at most k letters, or lists of at most c colours of size at most B -/
def PapB (H : Hp) (z t : Addr) (k n c B : Nat) : Prop :=
  (∃ p : Addr, H t = some (.tup [.str "alike", .ref p]) ∧ p ≠ z ∧ Ml H p k n) ∨
  (∃ (a b : Addr) (A C : List Int), H t = some (.tup [.str "apart", .ref a, .ref b]) ∧ a ≠ z ∧ b ≠ z ∧ H a = some (.lst (A.map V.int)) ∧ H b = some (.lst (C.map V.int)) ∧ A.length ≤ c ∧ C.length ≤ c ∧ Bd A B ∧ Bd C B)
theorem tape_ints {H : Hp} {a p : Addr} {A : List Int} (tp : Tape H a) (h : H p = some (.lst (A.map V.int))) : p ≠ a := by
  rintro rfl
  obtain ⟨x, c, y, b, e⟩ := tp
  rw [e] at h
  match A, h with
  | [], h => cases h
  | [_], h => cases h
  | _ :: _ :: _, h => cases h
theorem tape_tup {H H' : Hp} {a0 b : Addr} {xs : List V} (s : But a0 H H') (tp : Tape H a0) (e : H b = some (.tup xs)) : H' b = some (.tup xs) := by
  obtain ⟨x, c, y, w, e2⟩ := tp
  exact s _ _ (ne_of e e2 (by intro q; cases q)) e
variable {H H' : Hp} {z t : Addr} {k n c B : Nat}
theorem PapB.same (h : PapB H z t k n c B) (s : Same H H') : PapB H' z t k n c B := by
  rcases h with ⟨p, a, b, xs, e, l, al⟩ | ⟨a, b, A, C, h1, h2, h3, h4, h5, h6⟩
  · exact .inl ⟨p, s _ _ a, b, xs, s _ _ e, l, fun y hy => (al y hy).same s⟩
  · exact .inr ⟨a, b, A, C, s _ _ h1, h2, h3, s _ _ h4, s _ _ h5, h6⟩
theorem PapB.but (h : PapB H z t k n c B) (s : But z H H') (tp : Tape H z) : PapB H' z t k n c B := by
  rcases h with ⟨p, a, b, xs, e, l, al⟩ | ⟨a, b, A, C, h1, h2, h3, h4, h5, h6⟩
  · exact .inl ⟨p, tape_tup s tp a, b, xs, s _ _ b e, l, fun y hy => (al y hy).but s tp⟩
  · exact .inr ⟨a, b, A, C, tape_tup s tp h1, h2, h3, s _ _ h2 h4, s _ _ h3 h5, h6⟩
theorem PapB.bt {P : Addr} (h : PapB H z t k n c B) (s : Bt P H H') (tg : GxR.TabG H P) : PapB H' z t k n c B := by
  rcases h with ⟨p, a, b, xs, e, l, al⟩ | ⟨a, b, A, C, h1, h2, h3, h4, h5, h6⟩
  · exact .inl ⟨p, s.tup tg a, b, xs, s.lst tg e, l, fun y hy => by
      obtain ⟨r, m, e1, e2, e3⟩ := al y hy
      exact ⟨r, m, e1, s.tup tg e2, e3⟩⟩
  · exact .inr ⟨a, b, A, C, s.tup tg h1, h2, h3, s.lst tg h4, s.lst tg h5, h6⟩
theorem PapB.mono {k' n' c' B' : Nat} (h : PapB H z t k n c B) (hk : k ≤ k') (hn : n ≤ n') (hc : c ≤ c') (hB : B ≤ B') : PapB H z t k' n' c' B' := by
  rcases h with ⟨p, a, b, xs, e, l, al⟩ | ⟨a, b, A, C, h1, h2, h3, h4, h5, h6, h7, h8, h9⟩
  · exact .inl ⟨p, a, b, xs, e, Nat.le_trans l hn, fun y hy => (al y hy).mono hk⟩
  · exact .inr ⟨a, b, A, C, h1, h2, h3, h4, h5, Nat.le_trans h6 hc, Nat.le_trans h7 hc, fun x hx => Nat.le_trans (h8 x hx) hB, fun x hx => Nat.le_trans (h9 x hx) hB⟩
theorem same_upd {H0 G : Hp} {a : Addr} {o : HO} (s : Same H0 G) (n : H0 a = none) : Same H0 (upd G a o) := fun b u h => by rw [upd_ne (ne_of_none h n)]; exact s b u h
theorem Tl.bt {P : Addr} {H H' : Hp} {p : Addr} {ds : List (List V)} (h : Tl H p ds) (s : Bt P H H') (t : GxR.TabG H P) : Tl H' p ds := by
  obtain ⟨rs, a, b, c⟩ := h
  exact ⟨rs, s.lst t a, b, fun i r d h1 h2 => s.tup t (c i r d h1 h2)⟩
def apB (l m : List Nat) (A C : List Int) : Bool := decide ((isColB l A = true ∧ plainB A = false) ∧ (isColB m C = true ∧ plainB C = false) ∧ run (0, 1) l ≠ run (0, 1) m)
/-- what is told of a paper: k of the answer -/
def PapC (H : Hp) (l m : List Nat) (t : Addr) (k : Bool → Prop) : Prop :=
  (∃ (p : Addr) (ms : List Mv) (kk : Nat), H t = some (.tup [.str "alike", .ref p]) ∧ Tl H p (ms.map Mv.vs) ∧ FitAll ms kk ∧ kk ≤ 200 ∧ l.length + kk * ms.length ≤ 900000 ∧ k (decide (led l ms = some m))) ∨
  (∃ (a b : Addr) (A C : List Int), H t = some (.tup [.str "apart", .ref a, .ref b]) ∧ H a = some (.lst (A.map V.int)) ∧ H b = some (.lst (C.map V.int)) ∧ A.length ≤ 1000 ∧ C.length ≤ 1000 ∧ Bd A (2 ^ 199) ∧ Bd C (2 ^ 199) ∧ k (apB l m A C))
theorem is_non {H : Hp} {v : V} (h : Is H 1 v .non) : v = .non := h
theorem is_pair {H : Hp} {v : V} {a b : Int} (h : Is H 1 v (.tup [.int a, .int b])) : ∃ t, v = .ref t ∧ Tup2 H t (a, b) := by
  obtain ⟨t, xs, rfl, e2, e3, _, e5⟩ := h
  obtain ⟨x, y, rfl⟩ : ∃ x y, xs = [x, y] := by
    match xs, e3 with
    | [x, y], _ => exact ⟨x, y, rfl⟩
  have h0 : x = V.int a := e5 0 x _ rfl rfl
  have h1 : y = V.int b := e5 1 y _ rfl rfl
  subst h0 h1
  exact ⟨t, rfl, e2⟩
def spAcc15 (Pt : Addr) : Sp := fun vs H Q _ => ∃ (l m : List Nat) (t : Addr), vs = [.str (S l), .str (S m), .ref t] ∧ Lets l ∧ Lets m ∧ l.length ≤ 125 ∧ m.length ≤ 125 ∧ GxR.TabG H Pt ∧ PapC H l m t fun b => ∀ H', Bt Pt H H' → Q (.bl b) H'
def spAccd15 : Sp := fun vs H Q _ => ∃ (l m : List Nat) (t : Addr), vs = [.str (S l), .str (S m), .ref t] ∧ Lets l ∧ Lets m ∧ l.length ≤ 125 ∧ m.length ≤ 125 ∧ PapC H l m t fun b => ∀ H', Same H H' → Q (.bl b) H'
def spPHolds (Pt : Addr) : Sp := fun vs H Q _ => ∃ (l m : List Nat) (t z : Addr), vs = [.str (S l), .str (S m), .ref t] ∧ Lets l ∧ Lets m ∧ l.length ≤ 125 ∧ m.length ≤ 125 ∧ PapB H z t 200 1000 1000 (2 ^ 199) ∧ GxR.TabG H Pt ∧ ∀ H', Bt Pt H H' → Q (.bl true) H'
def spOther : Sp := fun vs H Q _ => ∃ (a : Addr) (d : List Nat), vs = [.ref a, .str (S d)] ∧ Tape H a ∧ Lets d ∧ d.length ≤ 30 ∧ ∀ x H', Lets x → x.length ≤ 101 → But a H H' → Tape H' a → Q (.str (S x)) H'
def spPChanged : Sp := fun vs H Q _ => ∃ (a t : Addr) (k n c B : Nat), vs = [.ref a, .ref t] ∧ Tape H a ∧ PapB H a t k n c B ∧ n ≤ 900 ∧ 20 ≤ k ∧ k ≤ 1000 ∧ c ≤ 500 ∧ ∀ (t' : Addr) H', But a H H' → Tape H' a → PapB H' a t' (2 * k) (n + 1) (2 * c + 1) (B + 10 ^ 20) → Q (.ref t') H'
def spPPapers : Sp := fun vs H Q _ => ∃ (a p : Addr) (l m : List Nat), vs = [.ref a, .str (S l), .str (S m), .ref p] ∧ Tape H a ∧ Lets l ∧ Lets m ∧ l.length ≤ 30 ∧ m.length ≤ 110 ∧ p ≠ a ∧ Ml H p 20 100 ∧ ∀ (r : Addr) (ts : List Addr) H', But a H H' → Tape H' a → H' r = some (.lst (ts.map V.ref)) → r ≠ a → (∀ t ∈ ts, PapB H' a t 20 100 113 (2 ^ 190)) → ts.length ≤ 10 → Q (.ref r) H'
def spPSingle (Pt : Addr) : Sp := fun vs H Q _ => ∃ (a : Addr) (l : List Nat), vs = [.ref a, .str (S l)] ∧ Tape H a ∧ Lets l ∧ l.length ≤ 30 ∧ GxR.TabG H Pt ∧ ∀ H1 H', But a H H1 → Tape H1 a → Bt Pt H1 H' → Q (.bl true) H'
def spLaw (K : PySem.W.Frag) (Pt : Addr) : Sp := fun vs H Q _ => ∃ (a : Addr) (ns : List Int), vs = [.ref a] ∧ SqL K H a (ns.map V.int) ∧ ns.length ≤ 63 ∧ GxR.TabG H Pt ∧ ∀ H', Q (.bl true) H'
def spLawK (K : PySem.W.Frag) : Sp := spLaw K (He.cT K ("is_colouring", none)).2
end
section
variable {P : Program} {w : World} {K : PySem.W.Frag} {mg : Str → Option Value} {base : Heap} {f : Addr} {fd : FuncData}
theorem ok_accepts (F : Fun K "accepts" "accepts" s_accepts f fd) (D_leads : Dfn P w K mg base "leads" 4 ["one", "moves", "other"] spLeadsG) (D_reading : Dfn P w K mg base "reading" 4 ["dance", "colours"] (spReading Pt))  : FnOk P w K mg base CX0 5 f fd ["one", "other", "paper"] (spAcc15 Pt) := by
  refine F.ok sc_accepts (fun vs H Q E h => ?_) (fun cdv A outer s H vs Q E hr h => ?_)
  · obtain ⟨l, m, t, rfl, hl, hm, zl, zm, tg, pa⟩ := h
    rfl
  obtain ⟨l, m, t, rfl, hl, hm, zl, zm, tg, pa⟩ := h
  refine ⟨_, (pss_cons (ps_if (pt_cmpR op_eq (pe_ix ix_tup (pv 2) pe_int (fun _ _ => rfl)) pe_str (nomark _)) (pss_one (ps_ret (pe_do D_leads hr (pa_cons (pv 0) (pa_cons (pe_ix ix_tup (pv 2) pe_int (fun _ _ => rfl)) (pa_cons (pv 1) pa_nil)))))) pss_nil)
    (pss_cons (ps_set (i := 3) sc_accepts.nd rfl (.inl rfl) (pe_do D_reading hr (pa_cons (pv 0) (pa_cons (pe_ix ix_tup (pv 2) pe_int (fun _ _ => rfl)) pa_nil))))
    (pss_cons (ps_set (i := 4) sc_accepts.nd rfl (.inl rfl) (pe_do D_reading hr (pa_cons (pv 1) (pa_cons (pe_ix ix_tup (pv 2) pe_int (fun _ _ => rfl)) pa_nil))))
    (pss_cons (ps_if (PW.pt (pw_or (pt_cmpR op_isN (pv 3) pe_non (nomark _)) (pw_or1 (pt_cmpR op_isN (pv 4) pe_non (nomark _))))) (pss_one (ps_ret pe_bl)) pss_nil)
    (pss_one (ps_ret (pe_cmpR (op_neD hr.units) (pv 3) (pv 4) (nomark _)))))))), ?_⟩
  rcases pa with ⟨p, ms, kk, ht, tl, f, hk, zz, q⟩ | ⟨a, b, A, C, ht, ha, hb, lA, lB, bA, bB, q⟩
  · refine ⟨_, rfl, t, _, _, _, rfl, rfl, SqT.of ht, rfl, rfl, _, rfl, ?_⟩
    rw [decide_eq_true rfl]
    refine iteT ⟨_, rfl, _, rfl, t, _, _, _, rfl, rfl, SqT.of ht, rfl, _, rfl, l, m, p, ms, kk, rfl, tl, f, hk, zz, fun H' s' => ?_⟩
    exact q H' ((Bt.refl tg).same s')
  · refine ⟨_, rfl, t, _, _, _, rfl, rfl, SqT.of ht, rfl, rfl, _, rfl, iteF ?_⟩
    refine ⟨_, rfl, _, rfl, t, _, _, _, rfl, rfl, SqT.of ht, rfl, l, a, A, rfl, hl, ha, lA, by omega, bA, tg, fun v1 H1 b1 i1 => ?_⟩
    have ht1 := b1.tup tg ht
    refine ⟨_, rfl, _, rfl, t, _, _, _, rfl, rfl, SqT.of ht1, rfl, m, b, C, rfl, hm, b1.lst tg hb, lB, by omega, bB, b1.2, fun v2 H2 b2 i2 => ?_⟩
    have B2 := b1.trans b2
    unfold dtR at i1 i2
    by_cases c1 : isColB l A = true ∧ plainB A = false
    · rw [if_pos c1] at i1
      obtain ⟨t1, rfl, T1⟩ := is_pair i1
      by_cases c2 : isColB m C = true ∧ plainB C = false
      · rw [if_pos c2] at i2
        obtain ⟨t2, rfl, T2⟩ := is_pair i2
        have T1' : Tup2 H2 t1 (run (0, 1) l) := b2.tup b1.2 T1
        refine ⟨_, rfl, rfl, _, rfl, iteF ⟨_, rfl, rfl, _, rfl, iteF ?_⟩⟩
        refine ⟨_, rfl, _, rfl, _, _, dp_tup2 T1', dp_tup2 T2, sh2 _ _, sh2 _ _, ?_⟩
        rw [eqv2]
        have e : apB l m A C = !decide (run (0, 1) l = run (0, 1) m) := by
          unfold apB
          by_cases h : run (0, 1) l = run (0, 1) m
          · rw [decide_eq_true h]; exact decide_eq_false (fun z => z.2.2 h)
          · rw [decide_eq_false h]; exact decide_eq_true ⟨c1, c2, h⟩
        rw [← e]
        exact q H2 B2
      · rw [if_neg c2] at i2
        have e2 := is_non i2
        subst e2
        have e : apB l m A C = false := decide_eq_false fun z => c2 z.2.1
        rw [e] at q
        exact ⟨_, rfl, rfl, _, rfl, iteF ⟨_, rfl, rfl, _, rfl, iteT (q H2 B2)⟩⟩
    · rw [if_neg c1] at i1
      have e1 := is_non i1
      subst e1
      have e : apB l m A C = false := decide_eq_false fun z => c1 z.1
      rw [e] at q
      exact ⟨_, rfl, rfl, _, rfl, iteT (q H2 B2)⟩
end
section
variable {P : Program} {w : World} {K : PySem.W.Frag} {mg : Str → Option Value} {base : Heap} {f : Addr} {fd : FuncData}
theorem ok_law_accepted (F : Fun K "_law_accepted" "_law_accepted" s_law_accepted f fd) (D_law_leads : Dfn P w K mg base "_law_leads" 3 ["one", "moves", "other"] spLeadsG) (D_law_reading : Dfn P w K mg base "_law_reading" 3 ["dance", "colours"] spLawReading)  : FnOk P w K mg base CX0 4 f fd ["one", "other", "paper"] spAccd15 := by
  refine F.ok sc_law_accepted (fun vs H Q E h => ?_) (fun cdv A outer s H vs Q E hr h => ?_)
  · obtain ⟨l, m, t, rfl, hl, hm, zl, zm, pa⟩ := h
    rfl
  obtain ⟨l, m, t, rfl, hl, hm, zl, zm, pa⟩ := h
  refine ⟨_, (pss_cons (ps_if (pt_cmpR op_eq (pe_ix ix_tup (pv 2) pe_int (fun _ _ => rfl)) pe_str (nomark _)) (pss_one (ps_ret (pe_do D_law_leads hr (pa_cons (pv 0) (pa_cons (pe_ix ix_tup (pv 2) pe_int (fun _ _ => rfl)) (pa_cons (pv 1) pa_nil)))))) pss_nil)
    (pss_cons (ps_set (i := 3) sc_law_accepted.nd rfl (.inl rfl) (pe_tup (pa_cons (pe_do D_law_reading hr (pa_cons (pv 0) (pa_cons (pe_ix ix_tup (pv 2) pe_int (fun _ _ => rfl)) pa_nil))) (pa_cons (pe_do D_law_reading hr (pa_cons (pv 1) (pa_cons (pe_ix ix_tup (pv 2) pe_int (fun _ _ => rfl)) pa_nil))) pa_nil))))
    (pss_one (ps_ret (pe_and (pe_cmpR op_notN (pe_ix ix_tup (pv 3) pe_int (fun _ _ => rfl)) pe_non (nomark _)) (pe_and (pe_cmpR op_notN (pe_ix ix_tup (pv 3) pe_int (fun _ _ => rfl)) pe_non (nomark _)) (pe_one (pe_cmpR (op_neD hr.units) (pe_ix ix_tup (pv 3) pe_int (fun _ _ => rfl)) (pe_ix ix_tup (pv 3) pe_int (fun _ _ => rfl)) (nomark _))))))))), ?_⟩
  rcases pa with ⟨p, ms, kk, ht, tl, f, hk, zz, q⟩ | ⟨a, b, A, C, ht, ha, hb, lA, lB, bA, bB, q⟩
  · refine ⟨_, rfl, t, _, _, _, rfl, rfl, SqT.of ht, rfl, rfl, _, rfl, ?_⟩
    rw [decide_eq_true rfl]
    exact iteT ⟨_, rfl, _, rfl, t, _, _, _, rfl, rfl, SqT.of ht, rfl, _, rfl, l, m, p, ms, kk, rfl, tl, f, hk, zz, q⟩
  · refine ⟨_, rfl, t, _, _, _, rfl, rfl, SqT.of ht, rfl, rfl, _, rfl, iteF ?_⟩
    refine ⟨_, rfl, _, rfl, t, _, _, _, rfl, rfl, SqT.of ht, rfl, l, a, A, rfl, hl, ha, lA, by omega, bA, fun v1 H1 s1 i1 => ?_⟩
    refine ⟨_, rfl, _, rfl, t, _, _, _, rfl, rfl, SqT.of (s1 _ _ ht), rfl, m, b, C, rfl, hm, s1 _ _ hb, lB, by omega, bB, fun v2 H2 s2 i2 => ?_⟩
    refine ⟨fits (by show 2 ≤ 16777216; decide), fun rp hrp => ?_⟩
    have S3 := same_new hrp (.tup [v1, v2])
    have S := s1.trans (s2.trans S3)
    unfold dtR at i1 i2
    by_cases c1 : isColB l A = true ∧ plainB A = false
    · rw [if_pos c1] at i1
      obtain ⟨t1, rfl, T1⟩ := is_pair i1
      refine ⟨_, rfl, rp, _, _, _, rfl, rfl, SqT.of upd_same, rfl, rfl, _, rfl, iteT ?_⟩
      by_cases c2 : isColB m C = true ∧ plainB C = false
      · rw [if_pos c2] at i2
        obtain ⟨t2, rfl, T2⟩ := is_pair i2
        have T1' := (T1.same s2).same S3
        have T2' := T2.same S3
        refine ⟨_, rfl, rp, _, _, _, rfl, rfl, SqT.of upd_same, rfl, rfl, _, rfl, iteT ?_⟩
        refine ⟨_, rfl, rp, _, _, _, rfl, rfl, SqT.of upd_same, rfl, _, rfl, rp, _, _, _, rfl, rfl, SqT.of upd_same, rfl, _, _, dp_tup2 T1', dp_tup2 T2', sh2 _ _, sh2 _ _, ?_⟩
        rw [eqv2]
        have e : apB l m A C = !decide (run (0, 1) l = run (0, 1) m) := by
          unfold apB
          by_cases h : run (0, 1) l = run (0, 1) m
          · rw [decide_eq_true h]; exact decide_eq_false (fun z => z.2.2 h)
          · rw [decide_eq_false h]; exact decide_eq_true ⟨c1, c2, h⟩
        rw [← e]
        exact q _ S
      · rw [if_neg c2] at i2
        have e2 := is_non i2
        subst e2
        have e : apB l m A C = false := decide_eq_false fun z => c2 z.2.1
        rw [e] at q
        exact ⟨_, rfl, rp, _, _, _, rfl, rfl, SqT.of upd_same, rfl, rfl, _, rfl, iteF (q _ S)⟩
    · rw [if_neg c1] at i1
      have e1 := is_non i1
      subst e1
      have e : apB l m A C = false := decide_eq_false fun z => c1 z.1
      rw [e] at q
      exact ⟨_, rfl, rp, _, _, _, rfl, rfl, SqT.of upd_same, rfl, rfl, _, rfl, iteF (q _ S)⟩
end
section
variable {P : Program} {w : World} {K : PySem.W.Frag} {mg : Str → Option Value} {base : Heap} {f : Addr} {fd : FuncData}
theorem ok_law_holds (F : Fun K "_law_holds" "_law_holds" s_law_holds f fd) (D_accepts : Dfn P w K mg base "accepts" 7 ["one", "other", "paper"] (spAcc15 Pt)) (D_says : Dfn P w K mg base "_law_says" 7 ["told", "due"] spSays) (D_law_accepted : Dfn P w K mg base "_law_accepted" 7 ["one", "other", "paper"] spAccd15) (y_tuple : mg "tuple" = none) (y_list : mg "list" = none)  : FnOk P w K mg base CX0 8 f fd ["one", "other", "paper"] (spPHolds Pt) := by
  refine F.ok sc_law_holds (fun vs H Q E h => ?_) (fun cdv A outer s H vs Q E hr h => ?_)
  · obtain ⟨l, m, t, z, rfl, hl, hm, zl, zm, pa, tg, q⟩ := h
    rfl
  obtain ⟨l, m, t, z, rfl, hl, hm, zl, zm, pa, tg, q⟩ := h
  refine ⟨_, (pss_cons (ps_set (i := 3) sc_law_holds.nd rfl (.inl rfl) (pe_op op_catT (pe_tup (pa_cons (pe_ix ix_tup (pv 2) pe_int (fun _ _ => rfl)) pa_nil)) (pe_callTy call_tuple_of rfl y_tuple (by decide +kernel) (pa_cons (pe_lc (own := [("part", 5)]) (g := (gName 5)) (tt := tYes) (by rfl) sc_law_holds.nd (pi_tup (pe_slice sl_tup (pv 2) (po_some pe_int) po_none)) (blkOk_by (own := [("part", 5)]) (N := ["one", "other", "paper", "passed", "told", "part"]) (sc := defScope s_law_holds) (by decide +kernel)) (fun _ _ _ _ _ => pg_name (i := 5) sc_law_holds.nd rfl (Or.inl rfl)) (fun _ _ _ _ _ => pts_nil) (fun _ _ _ _ _ => (pe_callTy (call_list_ofK (K := K) rfl) rfl y_list boot_list_ (pa_cons (pv 5) pa_nil)))) pa_nil))))
    (pss_cons (ps_set (i := 4) sc_law_holds.nd rfl (.inl rfl) (pe_do D_accepts hr (pa_cons (pv 0) (pa_cons (pv 1) (pa_cons (pv 3) pa_nil)))))
    (pss_one (ps_ret (pe_and (pe_do D_says hr (pa_cons (pv 4) (pa_cons (pe_do D_law_accepted hr (pa_cons (pv 0) (pa_cons (pv 1) (pa_cons (pv 2) pa_nil)))) pa_nil))) (pe_one (pe_cmpR (op_eqPap (Rope.Room.units65 hr)) (pv 3) (pv 2) (nomark _)))))))), ?_⟩
  obtain ⟨kd, ss, Cs, ht, lc, hs, kinds⟩ : ∃ (kd : Str) (ss : List Addr) (Cs : List (List V)), H t = some (.tup (.str kd :: ss.map V.ref)) ∧ Cs.length = ss.length ∧ (∀ (j : Nat) (s : Addr) (c : List V), ss[j]? = some s → Cs[j]? = some c → H s = some (.lst c)) ∧
      ((kd = "alike" ∧ ∃ (p : Addr) (xs : List V), ss = [p] ∧ Cs = [xs] ∧ xs.length ≤ 1000 ∧ ∀ y ∈ xs, Mi H 200 y) ∨ (kd = "apart" ∧ ∃ (a b : Addr) (A C : List Int), ss = [a, b] ∧ Cs = [A.map V.int, C.map V.int] ∧ A.length ≤ 1000 ∧ C.length ≤ 1000 ∧ Bd A (2 ^ 199) ∧ Bd C (2 ^ 199))) := by
    rcases pa with ⟨p, e1, _, xs, e2, e3, e4⟩ | ⟨a, b, A, C, h1, h2, h3, h4, h5, h6⟩
    · refine ⟨"alike", [p], [xs], e1, rfl, fun j s c hj hc => ?_, .inl ⟨rfl, p, xs, rfl, rfl, e3, e4⟩⟩
      match j with
      | 0 => cases hj; cases hc; exact e2
      | j + 1 => cases hj
    · refine ⟨"apart", [a, b], [A.map V.int, C.map V.int], h1, rfl, fun j s c hj hc => ?_, .inr ⟨rfl, a, b, A, C, rfl, rfl, h6⟩⟩
      match j with
      | 0 => cases hj; cases hc; exact h4
      | 1 => cases hj; cases hc; exact h5
      | j + 2 => cases hj
  have sl : 1 ≤ ss.length ∧ ss.length ≤ 2 := by
    rcases kinds with ⟨_, p, xs, rfl, _⟩ | ⟨_, a, b, A, C, rfl, _⟩ <;> simp
  have one : 1 ≤ sizeLine := fits (by decide)
  refine ⟨_, rfl, t, _, _, _, rfl, rfl, SqT.of ht, (atI_nat (j := 0) rfl : atI (V.str kd :: ss.map V.ref) ((0 : Nat) : Int) = _), one, fun p1 hp1 => ?_⟩
  have s1 := same_new hp1 (.tup [V.str kd])
  have e1 : (upd H p1 (.tup [V.str kd])) p1 = some (.tup [V.str kd]) := upd_same
  generalize upd H p1 (.tup [V.str kd]) = H1 at *
  have ec : cutV (V.str kd :: ss.map V.ref) (some 1) none = ss.map V.ref := by
    unfold cutV
    have i1 : HT.sIx (V.str kd :: ss.map V.ref).length 0 (some ((1 : Nat) : Int)) = 1 := by rw [HT.sIx_nat, List.length_cons]; omega
    have i1' : HT.sIx (V.str kd :: ss.map V.ref).length 0 (some 1) = 1 := i1
    have i2 : HT.sIx (V.str kd :: ss.map V.ref).length (V.str kd :: ss.map V.ref).length none = (V.str kd :: ss.map V.ref).length := rfl
    rw [i1', i2, List.drop_succ_cons, List.drop_zero, List.take_of_length_le]
    rw [List.length_cons]
    omega
  refine ⟨_, rfl, _, rfl, t, _, rfl, SqT.of (s1 _ _ ht), (fun zz => by
    have i1 : HT.sIx (V.str kd :: ss.map V.ref).length 0 (some ((1 : Nat) : Int)) = 1 := by rw [HT.sIx_nat, List.length_cons]; omega
    have i1' : HT.sIx (V.str kd :: ss.map V.ref).length 0 (some 1) = 1 := i1
    rw [i1'] at zz
    exact absurd zz.1 (by decide)), fun p2 hp2 => ?_⟩
  rw [ec]
  have s2 := same_new hp2 (.tup (ss.map V.ref))
  have e2 : (upd H1 p2 (.tup (ss.map V.ref))) p2 = some (.tup (ss.map V.ref)) := upd_same
  have e12 := s2 _ _ e1
  have S2 := s1.trans s2
  generalize upd H1 p2 (.tup (ss.map V.ref)) = H2 at *
  refine ⟨p2, rfl, ⟨_, SqT.of e2⟩, fun D hD => lc_tup (K := K) (a := p2) (xs := ss.map V.ref) (fun i G => Same H2 G ∧ ∃ ls : List Addr, G D = some (.lst (ls.map V.ref)) ∧ ls.length = i ∧ ∀ (j : Nat) (u : Addr) (c : List V), ls[j]? = some u → Cs[j]? = some c → G u = some (.lst c) ∧ u ≠ D) ⟨same_new hD _, [], upd_same, rfl, fun j u c hj => by cases hj⟩ ?_ ?_ ?_⟩
  · rintro i G _ ⟨sG, _⟩
    exact SqT.of (sG _ _ e2)
  · rintro i x G hx ⟨sG, ls, hG, ll, lv⟩
    rw [List.getElem?_map] at hx
    have hi : i < ss.length := by
      cases e : ss[i]? with
      | none => rw [e] at hx; cases hx
      | some u => exact (List.getElem?_eq_some_iff.mp e).1
    have hsi : ss[i]? = some ss[i] := List.getElem?_eq_getElem hi
    rw [hsi] at hx
    cases hx
    have hci : Cs[i]? = some Cs[i] := List.getElem?_eq_getElem (by omega)
    generalize ss[i] = s at hsi ⊢
    generalize Cs[i] = c at hci
    have hsc := sG _ _ (S2 _ _ (hs i s c hsi hci))
    refine ⟨rfl, _, rfl, s, _, rfl, .inl (SqL.of hsc), fun u hu => ?_⟩
    have su := same_new hu (.lst c)
    have nuD : u ≠ D := fun zz => by rw [zz, hG] at hu; cases hu
    refine ⟨ls.map V.ref, su _ _ hG, Nat.lt_of_lt_of_le (show (ls.map V.ref).length < 16777216 by rw [List.length_map]; omega) sizeLine_big, same_upd (sG.trans su) hD, ls ++ [u], by rw [upd_same, List.map_append]; rfl, by rw [List.length_append, ll]; rfl, fun j w c' hw hc' => ?_⟩
    by_cases cj : j < ls.length
    · rw [List.getElem?_append_left cj] at hw
      obtain ⟨h1, h2⟩ := lv j w c' hw hc'
      exact ⟨by rw [upd_ne h2]; exact su _ _ h1, h2⟩
    · rw [List.getElem?_append_right (by omega)] at hw
      have ej : j = ls.length := by
        have := (List.getElem?_eq_some_iff.mp hw).1
        have : j - ls.length < 1 := this
        omega
      subst ej
      rw [Nat.sub_self] at hw
      cases hw
      rw [ll, hci] at hc'
      cases hc'
      exact ⟨by rw [upd_ne nuD]; exact upd_same, nuD⟩
  rintro G ⟨sG, ls, hG, ll, lv⟩
  rw [List.length_map] at ll
  refine ⟨D, _, rfl, .inl ⟨SqL.of hG, fun p3 hp3 => ?_⟩⟩
  have s3 := same_new hp3 (.tup (ls.map V.ref))
  have e3 : (upd G p3 (.tup (ls.map V.ref))) p3 = some (.tup (ls.map V.ref)) := upd_same
  have e13 := s3 _ _ (sG _ _ e12)
  have lv3 : ∀ (j : Nat) (u : Addr) (c : List V), ls[j]? = some u → Cs[j]? = some c → (upd G p3 (.tup (ls.map V.ref))) u = some (.lst c) := fun j u c h1 h2 => s3 _ _ (lv j u c h1 h2).1
  have S3 := (S2.trans sG).trans s3
  generalize upd G p3 (.tup (ls.map V.ref)) = H3 at *
  refine ⟨p1, p3, [V.str kd], _, rfl, rfl, SqT.of e13, SqT.of e3, (by simp), fits (by rw [List.length_map]; show 1 + ls.length ≤ _; omega), (fun zz => by
    have := congrArg List.length zz
    rw [List.length_map] at this
    have : ls.length = 0 := this
    omega), fun _ p4 hp4 => ?_⟩
  have s4 := same_new hp4 (.tup ([V.str kd] ++ ls.map V.ref))
  have e4 : (upd H3 p4 (.tup ([V.str kd] ++ ls.map V.ref))) p4 = some (.tup (.str kd :: ls.map V.ref)) := upd_same
  have lv4 : ∀ (j : Nat) (u : Addr) (c : List V), ls[j]? = some u → Cs[j]? = some c → (upd H3 p4 (.tup ([V.str kd] ++ ls.map V.ref))) u = some (.lst c) := fun j u c h1 h2 => s4 _ _ (lv3 j u c h1 h2)
  have S4 := S3.trans s4
  generalize upd H3 p4 (.tup ([V.str kd] ++ ls.map V.ref)) = H4 at *
  have tg4 : GxR.TabG H4 Pt := ((Bt.refl tg).same S4).2
  refine ⟨_, rfl, _, rfl, _, rfl, l, m, p4, rfl, hl, hm, zl, zm, tg4, ?_⟩
  rcases kinds with ⟨rfl, p, xs, rfl, rfl, xl, al⟩ | ⟨rfl, a, b, A, C, rfl, rfl, lA, lC, bA, bC⟩
  · obtain ⟨u, rfl⟩ : ∃ u, ls = [u] := by
      match ls, ll with
      | [u], _ => exact ⟨u, rfl⟩
    have hp := hs 0 p xs rfl rfl
    have hu4 := lv4 0 u xs rfl rfl
    obtain ⟨ms, tl, fa, hz⟩ := (show Ml H p 200 1000 from ⟨xs, hp, xl, al⟩).tl
    have tl4 := tl.same S4
    have tlu : Tl H4 u (ms.map Mv.vs) := by
      obtain ⟨rs, r1, r2, r3⟩ := tl4
      rw [S4 _ _ hp] at r1
      cases r1
      exact ⟨rs, hu4, r2, r3⟩
    have xr : ∀ y ∈ xs, ∃ w, y = V.ref w := fun y hy => by
      obtain ⟨w, _, e, _⟩ := al y hy
      exact ⟨w, e⟩
    refine .inl ⟨u, ms, 200, e4, tlu, fa, by decide, by omega, fun H5 b5 => ?_⟩
    refine ⟨_, rfl, _, rfl, _, rfl, _, rfl, l, m, t, rfl, hl, hm, zl, zm, .inl ⟨p, ms, 200, b5.tup tg4 (S4 _ _ ht), tl4.bt b5 tg4, fa, by decide, by omega, fun H6 s6 => ?_⟩⟩
    have b6 := b5.same s6
    refine ⟨_, rfl, _, rfl, iteT ⟨_, rfl, _, rfl, p4, t, _, _, rfl, rfl, SqT.of (b6.tup tg4 e4), SqT.of (b6.tup tg4 (S4 _ _ ht)), .cons (.inl ⟨rfl, rfl⟩) (.cons (.inr ⟨u, p, xs, rfl, rfl, SqL.of (b6.lst tg4 hu4), SqL.of (b6.lst tg4 (S4 _ _ hp)), fun y hy => .inr (xr y hy)⟩) .nil), ?_⟩⟩
    exact q H6 (((Bt.refl tg).same S4).trans b6)
  · obtain ⟨u, v, rfl⟩ : ∃ u v, ls = [u, v] := by
      match ls, ll with
      | [u, v], _ => exact ⟨u, v, rfl⟩
    have ha := hs 0 a _ rfl rfl
    have hb := hs 1 b _ rfl rfl
    have hu4 := lv4 0 u _ rfl rfl
    have hv4 := lv4 1 v _ rfl rfl
    have fl : ∀ (A : List Int), ∀ y ∈ A.map V.int, flatB y = true ∨ ∃ w, y = V.ref w := fun A y hy => by
      obtain ⟨i, _, rfl⟩ := List.mem_map.mp hy
      exact .inl rfl
    refine .inr ⟨u, v, A, C, e4, hu4, hv4, lA, lC, bA, bC, fun H5 b5 => ?_⟩
    refine ⟨_, rfl, _, rfl, _, rfl, _, rfl, l, m, t, rfl, hl, hm, zl, zm, .inr ⟨a, b, A, C, b5.tup tg4 (S4 _ _ ht), b5.lst tg4 (S4 _ _ ha), b5.lst tg4 (S4 _ _ hb), lA, lC, bA, bC, fun H6 s6 => ?_⟩⟩
    have b6 := b5.same s6
    refine ⟨_, rfl, _, rfl, iteT ⟨_, rfl, _, rfl, p4, t, _, _, rfl, rfl, SqT.of (b6.tup tg4 e4), SqT.of (b6.tup tg4 (S4 _ _ ht)), .cons (.inl ⟨rfl, rfl⟩) (.cons (.inr ⟨u, a, _, rfl, rfl, SqL.of (b6.lst tg4 hu4), SqL.of (b6.lst tg4 (S4 _ _ ha)), fl A⟩) (.cons (.inr ⟨v, b, _, rfl, rfl, SqL.of (b6.lst tg4 hv4), SqL.of (b6.lst tg4 (S4 _ _ hb)), fl C⟩) .nil)), ?_⟩⟩
    exact q H6 (((Bt.refl tg).same S4).trans b6)
end
section
variable {P : Program} {w : World} {K : PySem.W.Frag} {mg : Str → Option Value} {base : Heap} {f : Addr} {fd : FuncData}
theorem ok_law_other (F : Fun K "_law_other" "_law_other" s_law_other f fd) (D_take : Dfn P w K mg base "_law_take" 4 ["tape", "many"] spTake) (D_dance : Dfn P w K mg base "_law_dance" 4 ["tape", "most"] spDance) (D_law_moves : Dfn P w K mg base "_law_moves" 4 ["tape", "dance", "most"] spMoves) (D_law_standard : Dfn P w K mg base "_law_standard" 4 ["value"] spStdL) (D_number : Dfn P w K mg base "_law_number" 4 ["dance"] (spNumber K)) (y_len : mg "len" = none)  : FnOk P w K mg base CX0 5 f fd ["tape", "dance"] spOther := by
  refine F.ok sc_law_other (fun vs H Q E h => ?_) (fun cdv A outer s H vs Q E hr h => ?_)
  · obtain ⟨a, d, rfl, hT, hd, zd, q⟩ := h
    rfl
  obtain ⟨a, d, rfl, hT, hd, zd, q⟩ := h
  refine ⟨_, (pss_cons (ps_set (i := 2) sc_law_other.nd rfl (.inl rfl) (pe_do D_take hr (pa_cons (pv 0) (pa_cons pe_int pa_nil))))
    (pss_cons (ps_if (pt_cmpR op_eq (pv 2) pe_int (nomark _)) (pss_one (ps_ret (pe_do D_dance hr (pa_cons (pv 0) (pa_cons pe_int pa_nil))))) pss_nil)
    (pss_cons (ps_set (i := 3) sc_law_other.nd rfl (.inl rfl) (pe_ix ix_tup (pe_do D_law_moves hr (pa_cons (pv 0) (pa_cons (pv 1) (pa_cons pe_int pa_nil)))) pe_int (fun _ _ => rfl)))
    (pss_cons (ps_if (pt_cmpR op_eq (pv 2) pe_int (nomark _)) (pss_one (ps_ret (pe_op op_add_str (pv 3) (pe_ix ix_str pe_str (pe_do D_take hr (pa_cons (pv 0) (pa_cons pe_int pa_nil))) (fun _ _ => rfl))))) pss_nil)
    (pss_cons (ps_if (pt_cmpR op_eq (pv 2) pe_int (nomark _)) (pss_one (ps_ret (pe_do D_law_standard hr (pa_cons (pe_do D_number hr (pa_cons (pv 1) pa_nil)) pa_nil)))) pss_nil)
    (pss_cons (ps_if (pt_cmpR op_eq (pv 2) pe_int (nomark _)) (pss_cons (ps_set (i := 4) sc_law_other.nd rfl (.inl rfl) (pe_do D_take hr (pa_cons (pv 0) (pa_cons (pe_op op_add (pe_callB call_len_str rfl y_len PySem.boot_len (pa_cons (pv 3) pa_nil)) pe_int) pa_nil))))
    (pss_one (ps_ret (pe_op op_add_str (pe_slice sl_str (pv 3) po_none (po_some (pv 4))) (pe_slice sl_str (pv 3) (po_some (pe_op op_add (pv 4) pe_int)) po_none))))) pss_nil)
    (pss_one (ps_ret (pv 3))))))))), ?_⟩
  have sz : ∀ x y : List Nat, x.length ≤ 1000 → y.length ≤ 1000 → (S x).length + (S y).length ≤ sizeLine := fun x y h1 h2 => by rw [S_len, S_len]; exact fits (by omega)
  refine ⟨_, rfl, a, 6, rfl, hT, by decide, by decide, fun r H1 r0 r1 b1 t1 => ?_⟩
  refine ⟨_, rfl, rfl, _, rfl, ite2 (fun _ => ?_) (fun _ => ?_)⟩
  · exact ⟨_, rfl, a, 30, rfl, t1, by decide, by decide, fun x H2 hx zx b2 t2 => q x H2 hx (by omega) (b1.trans b2) t2⟩
  refine ⟨_, rfl, _, rfl, a, d, 12, rfl, t1, by omega, by decide, by decide, fun tt p ms x H2 b2 t2 hp htt tl fa hz hled hx => ⟨tt, _, _, _, rfl, rfl, SqT.of htt, rfl, ?_⟩⟩
  have hx' := led_lets ms hd hled
  have B2 := b1.trans b2
  refine ⟨_, rfl, rfl, _, rfl, ite2 (fun _ => ?_) (fun _ => ?_)⟩
  · refine ⟨_, rfl, _, rfl, a, 3, rfl, t2, by decide, by decide, fun r2 H3 r20 r21 b3 t3 => ?_⟩
    obtain ⟨c, hc, mc⟩ := pick_sign e_TUR r20 r21
    have lc : Lets [c] := fun z hz => by
      rw [List.mem_singleton.mp hz]
      simp only [List.mem_cons, List.not_mem_nil, or_false] at mc
      exact mc
    refine ⟨_, _, c, rfl, rfl, fits (by decide +kernel), hc, _, S [c], rfl, rfl, sz _ _ (by omega) (by show 1 ≤ _; decide), ?_⟩
    rw [S_app]
    exact q _ H3 (lets_app hx' lc) (by rw [List.length_append]; show _ + 1 ≤ _; omega) (B2.trans b3) t3
  refine ⟨_, rfl, rfl, _, rfl, ite2 (fun _ => ?_) (fun _ => ?_)⟩
  · refine ⟨_, rfl, d, rfl, fun t H3 s3 T3 => ⟨t, _, rfl, T3, svL_run hd (by omega), fun H4 s4 => ?_⟩⟩
    obtain ⟨_, _, e⟩ := leads_std hd
    exact q _ H4 (lets_stv _) (by omega) (B2.trans (But.of (s3.trans s4))) (t2.same (s3.trans s4))
  refine ⟨_, rfl, rfl, _, rfl, ite2 (fun _ => ?_) (fun _ => ?_)⟩
  · refine ⟨_, rfl, _, rfl, _, rfl, by rw [S_len]; exact fits (by omega), _, _, rfl, rfl, a, _, rfl, t2, by omega, by rw [S_len]; omega, fun r2 H3 r20 r21 b3 t3 => ?_⟩
    rw [S_len] at r21
    refine ⟨_, rfl, _, rfl, _, rfl, _, rfl, by rw [S_len]; exact fits (by omega), ?_⟩
    rw [S_take x r20]
    refine ⟨_, rfl, _, rfl, _, _, rfl, rfl, _, rfl, _, rfl, by rw [S_len]; exact fits (by omega), ?_⟩
    rw [S_drop x (show 0 ≤ r2 + 1 by omega)]
    refine ⟨_, _, rfl, rfl, sz _ _ (by rw [List.length_take]; omega) (by rw [List.length_drop]; omega), ?_⟩
    rw [S_app]
    exact q _ H3 (lets_app (lets_take hx' _) (fun c hc => hx' c (List.mem_of_mem_drop hc))) (by rw [List.length_append, List.length_take, List.length_drop]; omega) (B2.trans b3) t3
  · exact ⟨_, rfl, q x H2 hx' (by omega) B2 t2⟩
end
section
theorem col9 {d : List Nat} {x y : Int} (h : d.length ≤ 111) (hx : x.natAbs ≤ 9) (hy : y.natAbs ≤ 9) : (col (dg d).cs x y).length ≤ 113 ∧ Bd (col (dg d).cs x y) (2 ^ 190) := by
  have h1 := col_len x y (dg d).cs
  have h2 := dg_len d
  refine ⟨by omega, (col_bound (B := 9) hx hy (dg d).cs).mono ?_⟩
  have h3 : 3 ^ (dg d).cs.length ≤ 3 ^ 111 := Nat.pow_le_pow_right (by decide) (by omega)
  exact Nat.le_trans (Nat.mul_le_mul_left _ h3) (by decide)
theorem tape_upd {H : Hp} {p a : Addr} {o : HO} (t : Tape H a) (h : p ≠ a) : Tape (upd H p o) a := by
  obtain ⟨x, c, y, b, e⟩ := t
  exact ⟨x, c, y, b, by rw [upd_ne (Ne.symm h)]; exact e⟩
theorem tape_refs {H : Hp} {a p : Addr} {rs : List Addr} (tp : Tape H a) (h : H p = some (.lst (rs.map V.ref))) : p ≠ a := by
  rintro rfl
  obtain ⟨x, c, y, b, e⟩ := tp
  rw [e] at h
  cases rs with
  | nil => cases h
  | cons r rs => cases h
theorem pick_three {d0 d1 d2 : List Nat} {i : Nat} {x : V} (h : ([V.str (S d0), .str (S d1), .str (S d2)] : List V)[i]? = some x) : ∃ d, x = .str (S d) ∧ (d = d0 ∨ d = d1 ∨ d = d2) := by
  match i with
  | 0 => cases h; exact ⟨d0, rfl, .inl rfl⟩
  | 1 => cases h; exact ⟨d1, rfl, .inr (.inl rfl)⟩
  | 2 => cases h; exact ⟨d2, rfl, .inr (.inr rfl)⟩
  | i + 3 => cases h
/-- a list of colours, not at z -/
def Cl (H : Hp) (z c : Addr) (n B : Nat) : Prop := ∃ A : List Int, H c = some (.lst (A.map V.int)) ∧ c ≠ z ∧ A.length ≤ n ∧ Bd A B
theorem Cl.same {H H' : Hp} {z c : Addr} {n B : Nat} (h : Cl H z c n B) (s : Same H H') : Cl H' z c n B := by
  obtain ⟨A, a, b, d⟩ := h
  exact ⟨A, s _ _ a, b, d⟩
theorem Cl.but {H H' : Hp} {z c : Addr} {n B : Nat} (h : Cl H z c n B) (s : But z H H') : Cl H' z c n B := by
  obtain ⟨A, e, b, d⟩ := h
  exact ⟨A, s _ _ b e, b, d⟩
theorem Cl.pap {H : Hp} {z c d t : Addr} {k n m B : Nat} (h : Cl H z c m B) (h' : Cl H z d m B) (ht : H t = some (.tup [.str "apart", .ref c, .ref d])) : PapB H z t k n m B := by
  obtain ⟨A, e1, e2, e3, e4⟩ := h
  obtain ⟨C, f1, f2, f3, f4⟩ := h'
  exact .inr ⟨c, d, A, C, ht, e2, f2, e1, f1, e3, f3, e4, f4⟩
theorem cutV_le (xs : List V) (lo hi : Option Int) : (cutV xs lo hi).length ≤ xs.length := cutV_length xs lo hi
theorem cut_add {xs : List V} {s : Int} (s0 : 0 ≤ s) : (cutV xs none (some s)).length + (cutV xs (some s) none).length ≤ xs.length ∧ (s < xs.length → (cutV xs none (some s)).length + (cutV xs (some (s + 1)) none).length + 1 ≤ xs.length) := by
  obtain ⟨n, rfl⟩ := Int.eq_ofNat_of_zero_le s0
  have a1 : (cutV xs none (some (n : Int))).length ≤ min n xs.length := by
    unfold cutV
    have e1 : HT.sIx xs.length 0 none = 0 := rfl
    rw [e1, HT.sIx_nat, List.length_take, List.length_drop]
    omega
  have a2 : (cutV xs (some (n : Int)) none).length ≤ xs.length - n := by
    unfold cutV
    have e1 : HT.sIx xs.length xs.length none = xs.length := rfl
    rw [e1, HT.sIx_nat, List.length_take, List.length_drop]
    omega
  have a3 : (cutV xs (some ((n : Int) + 1)) none).length ≤ xs.length - (n + 1) := by
    unfold cutV
    have e1 : HT.sIx xs.length xs.length none = xs.length := rfl
    have e2 : (some ((n : Int) + 1)) = some (((n + 1 : Nat)) : Int) := rfl
    rw [e1, e2, HT.sIx_nat, List.length_take, List.length_drop]
    omega
  exact ⟨by omega, fun h => by omega⟩
end
section
variable {P : Program} {w : World} {K : PySem.W.Frag} {mg : Str → Option Value} {base : Heap} {f : Addr} {fd : FuncData}
theorem ok_law_changed (F : Fun K "_law_changed" "_law_changed" s_law_changed f fd) (D_take : Dfn P w K mg base "_law_take" 4 ["tape", "many"] spTake) (D_law_spoilt : Dfn P w K mg base "_law_spoilt" 4 ["tape", "colours"] spSpoilt) (D_odd_move : Dfn P w K mg base "_law_odd_move" 4 ["tape", "move"] spOdd) (y_len : mg "len" = none)  : FnOk P w K mg base CX0 5 f fd ["tape", "paper"] spPChanged := by
  refine F.ok sc_law_changed (fun vs H Q E h => ?_) (fun cdv A outer s H vs Q E hr h => ?_)
  · obtain ⟨a, t, k, n, c, B, rfl, hT, pa, hn, hk0, hk1, hc, q⟩ := h
    rfl
  obtain ⟨a, t, k, n, c, B, rfl, hT, pa, hn, hk0, hk1, hc, q⟩ := h
  refine ⟨_, (pss_cons (ps_if (pt_cmpR op_eq (pe_ix ix_tup (pv 1) pe_int (fun _ _ => rfl)) pe_str (nomark _)) (pss_cons (ps_set (i := 2) sc_law_changed.nd rfl (.inl rfl) (pe_do D_take hr (pa_cons (pv 0) (pa_cons pe_int pa_nil))))
    (pss_cons (ps_if (pt_cmpR op_eq (pv 2) pe_int (nomark _)) (pss_one (ps_ret (pe_tup (pa_cons pe_str (pa_cons (pe_ix ix_tup (pv 1) pe_int (fun _ _ => rfl)) (pa_cons (pe_ix ix_tup (pv 1) pe_int (fun _ _ => rfl)) pa_nil)))))) pss_nil)
    (pss_cons (ps_if (pt_cmpR op_eq (pv 2) pe_int (nomark _)) (pss_one (ps_ret (pe_tup (pa_cons pe_str (pa_cons (pe_do D_law_spoilt hr (pa_cons (pv 0) (pa_cons (pe_ix ix_tup (pv 1) pe_int (fun _ _ => rfl)) pa_nil))) (pa_cons (pe_ix ix_tup (pv 1) pe_int (fun _ _ => rfl)) pa_nil)))))) pss_nil)
    (pss_one (ps_ret (pe_tup (pa_cons pe_str (pa_cons (pe_ix ix_tup (pv 1) pe_int (fun _ _ => rfl)) (pa_cons (pe_do D_law_spoilt hr (pa_cons (pv 0) (pa_cons (pe_ix ix_tup (pv 1) pe_int (fun _ _ => rfl)) pa_nil))) pa_nil))))))))) pss_nil)
    (pss_cons (ps_set (i := 3) sc_law_changed.nd rfl (.inl rfl) (pe_ix ix_tup (pv 1) pe_int (fun _ _ => rfl)))
    (pss_cons (ps_if (pt_cmpR op_eq (pe_callB call_len_seq rfl y_len PySem.boot_len (pa_cons (pv 3) pa_nil)) pe_int (nomark _)) (pss_one (ps_ret (pe_tup (pa_cons pe_str (pa_cons (pe_lst (pa_cons (pe_do D_odd_move hr (pa_cons (pv 0) (pa_cons (pe_tup (pa_cons pe_int (pa_cons pe_str (pa_cons pe_str pa_nil)))) pa_nil))) pa_nil)) pa_nil))))) pss_nil)
    (pss_cons (ps_set (i := 4) sc_law_changed.nd rfl (.inl rfl) (pe_do D_take hr (pa_cons (pv 0) (pa_cons (pe_callB call_len_seq rfl y_len PySem.boot_len (pa_cons (pv 3) pa_nil)) pa_nil))))
    (pss_cons (ps_set (i := 2) sc_law_changed.nd rfl (.inl rfl) (pe_do D_take hr (pa_cons (pv 0) (pa_cons pe_int pa_nil))))
    (pss_cons (ps_if (pt_cmpR op_eq (pv 2) pe_int (nomark _)) (pss_one (ps_ret (pe_tup (pa_cons pe_str (pa_cons (pe_op op_cat (pe_slice sl_list (pv 3) po_none (po_some (pv 4))) (pe_slice sl_list (pv 3) (po_some (pe_op op_add (pv 4) pe_int)) po_none)) pa_nil))))) pss_nil)
    (pss_cons (ps_if (pt_cmpR op_eq (pv 2) pe_int (nomark _)) (pss_one (ps_ret (pe_tup (pa_cons pe_str (pa_cons (pe_op op_cat (pe_op op_cat (pe_slice sl_list (pv 3) po_none (po_some (pv 4))) (pe_lst (pa_cons (pe_ix ix_list (pv 3) (pv 4) (fun _ _ => rfl)) pa_nil))) (pe_slice sl_list (pv 3) (po_some (pv 4)) po_none)) pa_nil))))) pss_nil)
    (pss_one (ps_ret (pe_tup (pa_cons pe_str (pa_cons (pe_op op_cat (pe_op op_cat (pe_slice sl_list (pv 3) po_none (po_some (pv 4))) (pe_lst (pa_cons (pe_do D_odd_move hr (pa_cons (pv 0) (pa_cons (pe_ix ix_list (pv 3) (pv 4) (fun _ _ => rfl)) pa_nil))) pa_nil))) (pe_slice sl_list (pv 3) (po_some (pe_op op_add (pv 4) pe_int)) po_none)) pa_nil)))))))))))), ?_⟩
  have one : 1 ≤ sizeLine := fits (by decide)
  have two : 2 ≤ sizeLine := fits (by decide)
  have three : 3 ≤ sizeLine := fits (by decide)
  rcases pa with ⟨p, ht, np, xs, ex, lx, al⟩ | ⟨x, y, A, C, ht, nx, ny, hx, hy, lA, lC, bA, bC⟩
  · refine ⟨_, rfl, t, _, _, _, rfl, rfl, SqT.of ht, rfl, rfl, _, rfl, iteF ?_⟩
    refine ⟨_, rfl, t, _, _, _, rfl, rfl, SqT.of ht, rfl, ?_⟩
    have fin : ∀ (q' t' : Addr) (G : Hp) (ys : List V), G q' = none → G t' = none → q' ≠ t' → But a H G → Tape G a → ys.length ≤ n + 1 → (∀ y ∈ ys, Mi G (2 * k) y) → Q (.ref t') (upd (upd G q' (.lst ys)) t' (.tup [V.str "alike", .ref q'])) := fun q' t' G ys hq ht' nqt b tp zz al' => by
      have S1 := same_new hq (.lst ys)
      have ht2 : (upd G q' (.lst ys)) t' = none := by rw [upd_ne (Ne.symm nqt)]; exact ht'
      have S2 := same_new ht2 (.tup [V.str "alike", .ref q'])
      refine q t' _ ((b.trans (But.of S1)).trans (But.of S2)) ((tp.same S1).same S2) (.inl ⟨q', upd_same, tp.ne hq, ys, S2 _ _ upd_same, zz, fun y hy => (al' y hy).same (S1.trans S2)⟩)
    have fin2 : ∀ (q' t' : Addr) (G : Hp) (ys : List V), G q' = none → But a H G → Tape G a → ys.length ≤ n + 1 → (∀ y ∈ ys, Mi G (2 * k) y) → (upd G q' (.lst ys)) t' = none → Q (.ref t') (upd (upd G q' (.lst ys)) t' (.tup [V.str "alike", .ref q'])) := fun q' t' G ys hq b tp zz al' ht' => by
      have nqt : q' ≠ t' := fun e => by rw [← e, upd_same] at ht'; cases ht'
      exact fin q' t' G ys hq (by rw [upd_ne (Ne.symm nqt)] at ht'; exact ht') nqt b tp zz al'
    have ln : ∀ (xs ys : List V), xs.length ≤ 10000 → ys.length ≤ 10000 → xs.length + ys.length ≤ sizeLine := fun xs ys h1 h2 => fits (by omega)
    refine ⟨_, rfl, p, _, rfl, .inl (SqL.of ex), rfl, _, rfl, ite2 (fun k1 => ?_) (fun k1 => ?_)⟩
    · have xl : xs.length = 0 := by
        have := V.int.inj (of_decide_eq_true k1)
        omega
      refine ⟨_, rfl, three, fun t0 h0 => ?_⟩
      have S0 := same_new h0 (.tup [V.int 0, .str "", .str "RR"])
      have m0 : Tm (upd H t0 (.tup [V.int 0, .str "", .str "RR"])) t0 ⟨0, [], [82, 82]⟩ := by unfold Tm Mv.vs; rw [upd_same, e_empty, e_RR]
      refine ⟨a, t0, ⟨0, [], [82, 82]⟩, k, rfl, hT.same S0, m0, ⟨Nat.zero_le _, by show 2 ≤ k; omega⟩, hk0, by omega, fun ot om H3 fo b3 t3 ho => ?_⟩
      refine ⟨one, fun p2 h2 => ⟨two, fun t2 ht2 => ?_⟩⟩
      refine fin2 p2 t2 H3 _ h2 ((But.of S0).trans b3) t3 (by show 1 ≤ n + 1; omega) (fun y hy => ?_) ht2
      rw [List.mem_singleton.mp hy]
      exact ⟨ot, om, rfl, ho, fo⟩
    have k1' : xs.length ≠ 0 := fun z => k1 (by rw [z]; rfl)
    refine ⟨_, rfl, _, rfl, p, _, rfl, .inl (SqL.of ex), a, _, rfl, hT, by omega, by omega, fun s H1 s0 s1 b1 t1 => ?_⟩
    refine ⟨_, rfl, a, 3, rfl, t1, by decide, by decide, fun r H2 r0 r1 b2 t2 => ?_⟩
    have B2 := b1.trans b2
    have ex2 := B2 _ _ np ex
    have al2' : ∀ y ∈ xs, Mi H2 k y := fun y hy => ((al y hy).but b1 hT).but b2 t1
    have al2 : ∀ y ∈ xs, Mi H2 (2 * k) y := fun y hy => (al2' y hy).mono (by omega)
    obtain ⟨v, hv, mv⟩ := atI_mk (xs := xs) s0 s1
    obtain ⟨vr, vm, rfl, tv, fv'⟩ := al2' v mv
    have fv := fv'.mono (show k ≤ 2 * k by omega)
    have cl : ∀ lo hi, (cutV xs lo hi).length ≤ n := fun lo hi => Nat.le_trans (cutV_length xs lo hi) lx
    have ca := cut_add (xs := xs) s0
    refine ⟨_, rfl, rfl, _, rfl, ite2 (fun k3 => ?_) (fun k3 => ?_)⟩
    · refine ⟨_, rfl, _, rfl, _, rfl, p, xs, rfl, SqL.of ex2, fun p1 h1 => ?_⟩
      have ex3 := same_new h1 (.lst (cutV xs none (some s))) _ _ ex2
      refine ⟨_, rfl, _, rfl, _, _, rfl, rfl, _, rfl, p, xs, rfl, SqL.of ex3, fun p2 h2 => ?_⟩
      refine ⟨p1, p2, _, _, rfl, rfl, same_new h2 _ _ _ upd_same, upd_same, ln _ _ (by have := cl none (some s); omega) (by have := cl (some (s + 1)) none; omega), fun p3 h3 => ⟨two, fun t2' ht2' => ?_⟩⟩
      have SS := (same_new h1 (.lst (cutV xs none (some s)))).trans (same_new h2 (.lst (cutV xs (some (s + 1)) none)))
      refine fin2 p3 t2' _ _ h3 (B2.trans (But.of SS)) (t2.same SS) ?_ (fun y hy => ?_) ht2'
      · rw [List.length_append]; have := ca.2 s1; omega
      · rcases List.mem_append.mp hy with hy | hy
        · exact (al2 y (cutV_mem hy)).same SS
        · exact (al2 y (cutV_mem hy)).same SS
    refine ⟨_, rfl, rfl, _, rfl, ite2 (fun k4 => ?_) (fun k4 => ?_)⟩
    · refine ⟨_, rfl, _, rfl, _, rfl, p, xs, rfl, SqL.of ex2, fun p1 h1 => ?_⟩
      have ex3 := same_new h1 (.lst (cutV xs none (some s))) _ _ ex2
      refine ⟨_, rfl, _, rfl, p, xs, _, _, rfl, rfl, SqL.of ex3, hv, one, fun p2 h2 => ?_⟩
      refine ⟨p1, p2, _, _, rfl, rfl, same_new h2 _ _ _ upd_same, upd_same, ln _ _ (by have := cl none (some s); omega) (by show 1 ≤ 10000; decide), fun p3 h3 => ?_⟩
      have SS := (same_new h1 (.lst (cutV xs none (some s)))).trans (same_new h2 (.lst [V.ref vr]))
      have SS3 := SS.trans (same_new h3 (.lst (cutV xs none (some s) ++ [V.ref vr])))
      refine ⟨_, rfl, _, rfl, _, rfl, p, xs, rfl, SqL.of (SS3 _ _ ex2), fun p4 h4 => ?_⟩
      refine ⟨p3, p4, _, _, rfl, rfl, same_new h4 _ _ _ upd_same, upd_same, ln _ _ (by rw [List.length_append]; have := cl none (some s); show _ + 1 ≤ _; omega) (by have := cl (some s) none; omega), fun p5 h5 => ⟨two, fun t2' ht2' => ?_⟩⟩
      have SS4 := SS3.trans (same_new h4 (.lst (cutV xs (some s) none)))
      refine fin2 p5 t2' _ _ h5 (B2.trans (But.of SS4)) (t2.same SS4) ?_ (fun y hy => ?_) ht2'
      · rw [List.length_append, List.length_append]; have := ca.1; show _ + 1 + _ ≤ _; omega
      · rcases List.mem_append.mp hy with hy | hy
        · rcases List.mem_append.mp hy with hy | hy
          · exact (al2 y (cutV_mem hy)).same SS4
          · rw [List.mem_singleton.mp hy]
            exact Mi.same ⟨vr, vm, rfl, tv, fv⟩ SS4
        · exact (al2 y (cutV_mem hy)).same SS4
    · refine ⟨_, rfl, _, rfl, _, rfl, p, xs, rfl, SqL.of ex2, fun p1 h1 => ?_⟩
      have S1 := same_new h1 (.lst (cutV xs none (some s)))
      have n1 := t2.ne h1
      refine ⟨_, rfl, _, rfl, _, rfl, p, xs, _, _, rfl, rfl, SqL.of (S1 _ _ ex2), hv, a, vr, vm, k, rfl, t2.same S1, tv.same S1, fv', hk0, by omega, fun ot om H3 fo b3 t3 ho => ?_⟩
      have ep1 := b3 _ _ n1 (upd_same (H := H2) (a := p1))
      refine ⟨one, fun p2 h2 => ?_⟩
      refine ⟨p1, p2, _, _, rfl, rfl, same_new h2 _ _ _ ep1, upd_same, ln _ _ (by have := cl none (some s); omega) (by show 1 ≤ 10000; decide), fun p3 h3 => ?_⟩
      have S3 := (same_new h2 (.lst [V.ref ot])).trans (same_new h3 (.lst (cutV xs none (some s) ++ [V.ref ot])))
      have ex3 : _ := S3 _ _ (b3 _ _ np (S1 _ _ ex2))
      refine ⟨_, rfl, _, rfl, _, _, rfl, rfl, _, rfl, p, xs, rfl, SqL.of ex3, fun p4 h4 => ?_⟩
      refine ⟨p3, p4, _, _, rfl, rfl, same_new h4 _ _ _ upd_same, upd_same, ln _ _ (by rw [List.length_append]; have := cl none (some s); show _ + 1 ≤ _; omega) (by have := cl (some (s + 1)) none; omega), fun p5 h5 => ⟨two, fun t2' ht2' => ?_⟩⟩
      have S4 := S3.trans (same_new h4 (.lst (cutV xs (some (s + 1)) none)))
      have al5 : ∀ y ∈ xs, Mi _ (2 * k) y := fun y hy => (((al2 y hy).same S1).but b3 (t2.same S1)).same S4
      refine fin2 p5 t2' _ _ h5 (((B2.trans (But.of S1)).trans b3).trans (But.of S4)) (t3.same S4) ?_ (fun y hy => ?_) ht2'
      · rw [List.length_append, List.length_append]; have := ca.2 s1; show _ + 1 + _ ≤ _; omega
      · rcases List.mem_append.mp hy with hy | hy
        · rcases List.mem_append.mp hy with hy | hy
          · exact al5 y (cutV_mem hy)
          · rw [List.mem_singleton.mp hy]
            exact Mi.same ⟨ot, om, rfl, ho, fo⟩ S4
        · exact al5 y (cutV_mem hy)
  · refine ⟨_, rfl, t, _, _, _, rfl, rfl, SqT.of ht, rfl, rfl, _, rfl, ?_⟩
    rw [decide_eq_true rfl]
    refine iteT ⟨_, rfl, a, 3, rfl, hT, by decide, by decide, fun r H1 r0 r1 b1 t1 => ?_⟩
    have ht1 := tape_tup b1 hT ht
    have CX1 : Cl H1 a x c B := ⟨A, b1 _ _ nx hx, nx, lA, bA⟩
    have CY1 : Cl H1 a y c B := ⟨C, b1 _ _ ny hy, ny, lC, bC⟩
    have wide : ∀ {G : Hp} {z : Addr}, Cl G a z c B → Cl G a z (2 * c + 1) (B + 10 ^ 20) := fun ⟨A', e1, e2, e3, e4⟩ => ⟨A', e1, e2, by omega, fun i hi => Nat.le_trans (e4 i hi) (Nat.le_add_right _ _)⟩
    refine ⟨_, rfl, rfl, _, rfl, ite2 (fun k1 => ?_) (fun k1 => ?_)⟩
    · refine ⟨_, rfl, t, _, _, _, rfl, rfl, SqT.of ht1, rfl, _, rfl, t, _, _, _, rfl, rfl, SqT.of ht1, rfl, three, fun t2 ht2 => ?_⟩
      have S2 := same_new ht2 (.tup [V.str "apart", .ref y, .ref x])
      exact q t2 _ (b1.trans (But.of S2)) (t1.same S2) (Cl.pap (wide (CY1.same S2)) (wide (CX1.same S2)) upd_same)
    refine ⟨_, rfl, rfl, _, rfl, ite2 (fun k2 => ?_) (fun k2 => ?_)⟩
    · obtain ⟨A1, hA1, _, lA1, bA1⟩ := CX1
      refine ⟨_, rfl, _, rfl, t, _, _, _, rfl, rfl, SqT.of ht1, rfl, a, x, A1, B, rfl, t1, nx, hA1, by omega, bA1, fun p A2 H2 b2 t2 npa hp lp bp => ?_⟩
      have ht2 := tape_tup b2 t1 ht1
      refine ⟨_, rfl, t, _, _, _, rfl, rfl, SqT.of ht2, rfl, three, fun t3 ht3 => ?_⟩
      have S3 := same_new ht3 (.tup [V.str "apart", .ref p, .ref y])
      exact q t3 _ ((b1.trans b2).trans (But.of S3)) (t2.same S3) (Cl.pap (Cl.same ⟨A2, hp, npa, by omega, bp⟩ S3) (wide ((CY1.but b2).same S3)) upd_same)
    · obtain ⟨A1, hA1, _, lA1, bA1⟩ := CY1
      refine ⟨_, rfl, t, _, _, _, rfl, rfl, SqT.of ht1, rfl, ?_⟩
      refine ⟨_, rfl, _, rfl, t, _, _, _, rfl, rfl, SqT.of ht1, rfl, a, y, A1, B, rfl, t1, ny, hA1, by omega, bA1, fun p A2 H2 b2 t2 npa hp lp bp => ⟨three, fun t3 ht3 => ?_⟩⟩
      have S3 := same_new ht3 (.tup [V.str "apart", .ref x, .ref p])
      exact q t3 _ ((b1.trans b2).trans (But.of S3)) (t2.same S3) (Cl.pap (wide ((CX1.but b2).same S3)) (Cl.same ⟨A2, hp, npa, by omega, bp⟩ S3) upd_same)
end
section
variable {P : Program} {w : World} {K : PySem.W.Frag} {mg : Str → Option Value} {base : Heap} {f : Addr} {fd : FuncData}
theorem ok_law_papers (F : Fun K "_law_papers" "_law_papers" s_law_papers f fd) (D_dance : Dfn P w K mg base "_law_dance" 2 ["tape", "most"] spDance) (D_take : Dfn P w K mg base "_law_take" 2 ["tape", "many"] spTake) (D_law_colouring : Dfn P w K mg base "_law_colouring" 2 ["dance", "first", "second"] spCol) (y_reversed : mg "reversed" = none)  : FnOk P w K mg base CX0 3 f fd ["tape", "one", "other", "moves"] spPPapers := by
  refine F.ok sc_law_papers (fun vs H Q E h => ?_) (fun cdv A outer s H vs Q E hr h => ?_)
  · obtain ⟨a, p, l, m, rfl, hT, hl, hm, zl, zm, np, ml, q⟩ := h
    rfl
  obtain ⟨a, p, l, m, rfl, hT, hl, hm, zl, zm, np, ml, q⟩ := h
  refine ⟨_, (pss_cons (ps_set (i := 4) sc_law_papers.nd rfl (.inl rfl) (pe_lst (pa_cons (pe_tup (pa_cons pe_str (pa_cons (pv 3) pa_nil))) (pa_cons (pe_tup (pa_cons pe_str (pa_cons (pe_lst pa_nil) pa_nil))) (pa_cons (pe_tup (pa_cons pe_str (pa_cons (pe_lc (own := [("place", 9), ("old", 10), ("new", 11)]) (g := (gTup K 3 (gCons (gName 9) (gCons (gName 10) (gCons (gName 11) gNil))))) (tt := tYes) (by rfl) sc_law_papers.nd (pi_reversed rfl y_reversed (pa_cons (pv 3) pa_nil)) (blkOk_by (own := [("place", 9), ("old", 10), ("new", 11)]) (N := ["tape", "one", "other", "moves", "papers", "third", "lists", "dance", "first", "place", "old", "new"]) (sc := defScope s_law_papers) (by decide +kernel)) (fun _ _ _ _ _ => pg_tup (by rfl) (pgs_cons (pg_name (i := 9) sc_law_papers.nd rfl (.inl rfl)) (pgs_cons (pg_name (i := 10) sc_law_papers.nd rfl (.inl rfl)) (pgs_cons (pg_name (i := 11) sc_law_papers.nd rfl (.inl rfl)) pgs_nil)))) (fun _ _ _ _ _ => pts_nil) (fun _ _ _ _ _ => (pe_tup (pa_cons (pv 9) (pa_cons (pv 11) (pa_cons (pv 10) pa_nil)))))) pa_nil))) pa_nil)))))
    (pss_cons (ps_set (i := 5) sc_law_papers.nd rfl (.inl rfl) (pe_do D_dance hr (pa_cons (pv 0) (pa_cons pe_int pa_nil))))
    (pss_cons (ps_set (i := 6) sc_law_papers.nd rfl (.inl rfl) (pe_lst pa_nil))
    (pss_cons (ps_for PassesOwn.never rfl (pi_list (pe_lst (pa_cons (pv 1) (pa_cons (pv 2) (pa_cons (pv 5) pa_nil))))) (pg_name (i := 7) sc_law_papers.nd rfl (.inl rfl))
    (pss_cons (ps_set (i := 8) sc_law_papers.nd rfl (.inl rfl) (pe_op op_sub (pe_do D_take hr (pa_cons (pv 0) (pa_cons pe_int pa_nil))) pe_int))
    (pss_one (ps_expr (pe_bm PySem.F.plainAttrs_list PySem.F.slot_list_append PySem.F.type_list_append mt_append (pv 6) (pa_cons (pe_do D_law_colouring hr (pa_cons (pv 7) (pa_cons (pv 8) (pa_cons (pe_op op_add (pv 8) (pe_do D_take hr (pa_cons (pv 0) (pa_cons pe_int pa_nil)))) pa_nil)))) pa_nil))))))
    (pss_cons (ps_set (i := 4) sc_law_papers.nd rfl (.inl rfl) (pe_op op_cat (pv 4) (pe_lst (pa_cons (pe_tup (pa_cons pe_str (pa_cons (pe_ix ix_list (pv 6) pe_int (fun _ _ => rfl)) (pa_cons (pe_ix ix_list (pv 6) pe_int (fun _ _ => rfl)) pa_nil)))) (pa_cons (pe_tup (pa_cons pe_str (pa_cons (pe_ix ix_list (pv 6) pe_int (fun _ _ => rfl)) (pa_cons (pe_ix ix_list (pv 6) pe_int (fun _ _ => rfl)) pa_nil)))) (pa_cons (pe_tup (pa_cons pe_str (pa_cons (pe_ix ix_list (pv 6) pe_int (fun _ _ => rfl)) (pa_cons (pe_ix ix_list (pv 6) pe_int (fun _ _ => rfl)) pa_nil)))) pa_nil))))))
    (pss_one (ps_ret (pv 4)))))))), ?_⟩
  have zero : 0 ≤ sizeLine := Nat.zero_le _
  have two : 2 ≤ sizeLine := fits (by decide)
  have three : 3 ≤ sizeLine := fits (by decide)
  obtain ⟨xs, ex, lx, al⟩ := id ml
  refine ⟨_, rfl, two, fun t1 ht1 => ⟨zero, fun e he => ⟨two, fun t2 ht2 => ?_⟩⟩⟩
  have S1 := same_new ht1 (.tup [V.str "alike", .ref p])
  have S2 := same_new he (.lst [])
  have S3 := same_new ht2 (.tup [V.str "alike", .ref e])
  have T3 := ((hT.same S1).same S2).same S3
  have ne : e ≠ a := (hT.same S1).ne he
  have P1 : PapB (upd (upd (upd H t1 (.tup [V.str "alike", .ref p])) e (.lst [])) t2 (.tup [V.str "alike", .ref e])) a t1 20 100 113 (2 ^ 190) := (PapB.same (.inl ⟨p, upd_same, np, xs, S1 _ _ ex, lx, fun y hy => (al y hy).same S1⟩) S2).same S3
  have P2 : PapB (upd (upd (upd H t1 (.tup [V.str "alike", .ref p])) e (.lst [])) t2 (.tup [V.str "alike", .ref e])) a t2 20 100 113 (2 ^ 190) := .inl ⟨e, upd_same, ne, [], S3 _ _ upd_same, Nat.zero_le _, fun y hy => by cases hy⟩
  have SS0 := S1.trans (S2.trans S3)
  have B3 : But a H _ := But.of SS0
  have ex3 := SS0 _ _ ex
  generalize upd (upd (upd H t1 (.tup [V.str "alike", .ref p])) e (.lst [])) t2 (.tup [V.str "alike", .ref e]) = H3 at *
  refine ⟨_, rfl, p, xs, rfl, SqL.of ex3, fun D hD => lc_it (walk_rev (K := K) (a := p) (xs := xs)) (fun i G => Same H3 G ∧ ∃ us : List Addr, G D = some (.lst (us.map V.ref)) ∧ us.length = i ∧ ∀ u ∈ us, Mi G 20 (.ref u)) ⟨same_new hD _, [], upd_same, rfl, fun u hu => by cases hu⟩ ?_ ?_ ?_⟩
  · rintro i G _ ⟨sG, _⟩
    exact SqL.of (sG _ _ ex3)
  · rintro i x G G' hi ⟨sG, us, hG, ul, ua⟩ ⟨rfl, hx⟩
    obtain ⟨r, mv, rfl, tm, fm⟩ := al x (List.mem_of_getElem? hx)
    have T := (sG _ _ (SS0 _ _ tm) : G' r = some (.tup mv.vs))
    refine ⟨r, _, rfl, SqT.of T, rfl, _, _, rfl, _, _, rfl, _, _, rfl, rfl, rfl, ?_⟩
    refine ⟨_, rfl, _, rfl, _, rfl, three, fun t ht => ?_⟩
    have St := same_new ht (.tup [V.int mv.pl, .str (S mv.n), .str (S mv.o)])
    refine ⟨_, St _ _ hG, Nat.lt_of_lt_of_le (show (us.map V.ref).length < 16777216 by rw [List.length_map]; omega) sizeLine_big, same_upd (sG.trans St) hD, us ++ [t], by rw [upd_same, List.map_append]; rfl, by rw [List.length_append, ul]; rfl, fun u hu => ?_⟩
    have key : ∀ u' m', (upd G' t (.tup [V.int mv.pl, .str (S mv.n), .str (S mv.o)])) u' = some (.tup (Mv.vs m')) → (upd (upd G' t (.tup [V.int mv.pl, .str (S mv.n), .str (S mv.o)])) D (.lst (us.map V.ref ++ [V.ref t]))) u' = some (.tup (Mv.vs m')) := fun u' m' h => by
      rw [upd_ne (ne_of h (St _ _ hG) (fun z => nomatch z))]
      exact h
    rcases List.mem_append.mp hu with hu | hu
    · obtain ⟨r', m', e1, e2, e3⟩ := ua u hu
      exact ⟨r', m', e1, key _ _ (St _ _ e2), e3⟩
    · rw [List.mem_singleton.mp hu]
      exact ⟨t, ⟨mv.pl, mv.n, mv.o⟩, rfl, key t ⟨mv.pl, mv.n, mv.o⟩ upd_same, ⟨fm.n, fm.o⟩⟩
  rintro G ⟨sG, us, hG, ul, ua⟩
  have TG := T3.same sG
  refine ⟨two, fun t3 ht3 => ⟨three, fun pp hpp => ?_⟩⟩
  have S4 := same_new ht3 (.tup [V.str "alike", .ref D])
  have S5 := same_new hpp (.lst [V.ref t1, .ref t2, .ref t3])
  have nD : D ≠ a := tape_refs TG hG
  have P3 : PapB (upd (upd G t3 (.tup [V.str "alike", .ref D])) pp (.lst [V.ref t1, .ref t2, .ref t3])) a t3 20 100 113 (2 ^ 190) := PapB.same (.inl ⟨D, upd_same, nD, us.map V.ref, S4 _ _ hG, by rw [List.length_map]; omega, fun y hy => by
    obtain ⟨u, hu, rfl⟩ := List.mem_map.mp hy
    exact (ua u hu).same S4⟩) S5
  have S45 := S4.trans S5
  have P1' := (P1.same sG).same S45
  have P2' := (P2.same sG).same S45
  have T5 := TG.same S45
  have npp : pp ≠ a := (TG.same S4).ne hpp
  have epp : (upd (upd G t3 (.tup [V.str "alike", .ref D])) pp (.lst [V.ref t1, .ref t2, .ref t3])) pp = some (.lst (([t1, t2, t3] : List Addr).map V.ref)) := upd_same
  have B5 : But a H _ := B3.trans (But.of (sG.trans S45))
  generalize upd (upd G t3 (.tup [V.str "alike", .ref D])) pp (.lst [V.ref t1, .ref t2, .ref t3]) = H5 at *
  refine ⟨_, rfl, a, 30, rfl, T5, by decide, by decide, fun d H6 hd zd b6 t6 => ⟨zero, fun lp hlp => ?_⟩⟩
  have S7 := same_new hlp (.lst [])
  have nlp : lp ≠ a := t6.ne hlp
  have e6 : H6 pp = some (.lst (([t1, t2, t3] : List Addr).map V.ref)) := b6 _ _ npp epp
  have nlpp : lp ≠ pp := fun z => by rw [z, e6] at hlp; cases hlp
  have t7 := t6.same S7
  refine ⟨_, rfl, _, rfl, _, rfl, three, fun dl hdl => ?_⟩
  have S8 := same_new hdl (.lst [V.str (S l), .str (S m), .str (S d)])
  have el : (upd (upd H6 lp (.lst [])) dl (.lst [V.str (S l), .str (S m), .str (S d)])) lp = some (.lst (([] : List Addr).map V.ref)) := S8 _ _ upd_same
  have ed : (upd (upd H6 lp (.lst [])) dl (.lst [V.str (S l), .str (S m), .str (S d)])) dl = some (.lst [V.str (S l), .str (S m), .str (S d)]) := upd_same
  have ndl : dl ≠ a := t7.ne hdl
  have ndlp : dl ≠ lp := fun z => by rw [z, upd_same] at hdl; cases hdl
  have t8 := t7.same S8
  have hp8 := (S7.trans S8) _ _ e6
  have B8 : But a H5 _ := b6.trans (But.of (S7.trans S8))
  have Q1 := (P1'.but b6 T5).same (S7.trans S8)
  have Q2 := (P2'.but b6 T5).same (S7.trans S8)
  have Q3 := (P3.but b6 T5).same (S7.trans S8)
  have nn : ∀ b o, H5 b = some o → b ≠ a → b ≠ lp := fun b o hb nb z => by
    have := b6 b o nb hb
    rw [z, hlp] at this
    cases this
  generalize upd (upd H6 lp (.lst [])) dl (.lst [V.str (S l), .str (S m), .str (S d)]) = H8 at *
  -- all but the list of lists and the tape stay
  refine ⟨dl, rfl, ⟨_, SqL.of ed⟩, for_list (K := K) (a := dl) (xs := [V.str (S l), .str (S m), .str (S d)]) (fun i σ F => ∃ (cs : List Addr) (x7 x8 : Option V), σ = [some (.ref a), some (.str (S l)), some (.str (S m)), some (.ref p), some (.ref pp), some (.str (S d)), some (.ref lp), x7, x8, none, none, none] ∧ (∀ b o, b ≠ a → b ≠ lp → H8 b = some o → F b = some o) ∧ Tape F a ∧ F lp = some (.lst (cs.map V.ref)) ∧ cs.length = i ∧ ∀ c ∈ cs, Cl F a c 113 (2 ^ 190) ∧ c ≠ lp) ?_ ?_ ?_ ?_⟩
  · exact ⟨[], _, _, rfl, fun b o _ _ h => h, t8, el, rfl, fun c hc => by cases hc⟩
  · rintro i σ F _ ⟨cs, x7, x8, _, kp, _⟩
    exact SqL.of (kp _ _ ndl ndlp ed)
  · rintro i x σ F hx ⟨cs, x7, x8, rfl, kp, tF, hL, cl, ca⟩
    have i3 : i < 3 := (List.getElem?_eq_some_iff.mp hx).1
    obtain ⟨dd, rfl, hdd⟩ := pick_three hx
    have zd' : dd.length ≤ 111 := by
      rcases hdd with rfl | rfl | rfl
      · omega
      · omega
      · have : (dd.length : Int) ≤ 30 := zd
        omega
    refine ⟨_, rfl, a, 9, rfl, tF, by decide, by decide, fun r1 F1 r10 r11 c1 t1' => ⟨_, _, rfl, rfl, ?_⟩⟩
    have hL1 := c1 _ _ nlp hL
    refine ⟨_, rfl, .inl ⟨rfl, _, SqL.of hL1⟩, _, rfl, _, rfl, _, rfl, _, rfl, a, 3, rfl, t1', by decide, by decide, fun r2 F2 r20 r21 c2 t2' => ⟨_, _, rfl, rfl, ?_⟩⟩
    refine ⟨dd, r1 - 4, r1 - 4 + r2, rfl, by omega, fun c F3 s3 nc hc => ?_⟩
    have k9 := col9 (d := dd) (x := r1 - 4) (y := r1 - 4 + r2) zd' (by omega) (by omega)
    have t3' := t2'.same s3
    have nca : c ≠ a := tape_ints t3' hc
    have hL2 := c2 _ _ nlp hL1
    have hL3 := s3 _ _ hL2
    have ncl : c ≠ lp := fun z => by rw [z, hL2] at nc; cases nc
    refine ⟨lp, _, _, rfl, rfl, hL3, Nat.lt_of_lt_of_le (show (cs.map V.ref).length < 16777216 by rw [List.length_map]; omega) sizeLine_big, ?_⟩
    refine ⟨cs ++ [c], _, _, rfl, fun b o n1 n2 hb => ?_, tape_upd t3' nlp, by rw [upd_same, List.map_append]; rfl, by rw [List.length_append, cl]; rfl, fun c' hc' => ?_⟩
    · rw [upd_ne n2]
      exact s3 _ _ (c2 _ _ n1 (c1 _ _ n1 (kp b o n1 n2 hb)))
    · rcases List.mem_append.mp hc' with hc' | hc'
      · obtain ⟨⟨A, e1, e2, e3⟩, n2⟩ := ca c' hc'
        exact ⟨⟨A, by rw [upd_ne n2]; exact s3 _ _ (c2 _ _ e2 (c1 _ _ e2 e1)), e2, e3⟩, n2⟩
      · rw [List.mem_singleton.mp hc']
        exact ⟨⟨_, by rw [upd_ne ncl]; exact hc, nca, k9.1, k9.2⟩, ncl⟩
  rintro σ F ⟨cs, x7, x8, rfl, kp, tF, hL, cl, ca⟩
  obtain ⟨c0, c1, c2, rfl⟩ : ∃ c0 c1 c2, cs = [c0, c1, c2] := by
    match cs, cl with
    | [c0, c1, c2], _ => exact ⟨c0, c1, c2, rfl⟩
  have C0 := (ca c0 (by simp)).1
  have C1 := (ca c1 (by simp)).1
  have C2 := (ca c2 (by simp)).1
  -- the papers with moves still stand
  have papF : ∀ {t : Addr}, PapB H8 a t 20 100 113 (2 ^ 190) → (∀ r : Addr, H8 t = some (.tup [V.str "alike", .ref r]) → r ≠ lp) → (∀ x y : Addr, H8 t ≠ some (.tup [V.str "apart", .ref x, .ref y])) → PapB F a t 20 100 113 (2 ^ 190) := by
    intro t h nr no
    have tupF : ∀ {b : Addr} {ys : List V}, H8 b = some (.tup ys) → F b = some (.tup ys) := fun {b ys} h => by
      refine kp _ _ (fun z => ?_) (fun z => ?_) h
      · obtain ⟨x, y, u, v, e⟩ := t8
        rw [z, e] at h; cases h
      · rw [z, el] at h; cases h
    rcases h with ⟨r, h1, h2, zs, h3, h4, h5⟩ | ⟨x, y, A, C, h1, _⟩
    · exact .inl ⟨r, tupF h1, h2, zs, kp _ _ h2 (nr r h1) h3, h4, fun y hy => by
        obtain ⟨w, mv, e1, e2, e3⟩ := h5 y hy
        exact ⟨w, mv, e1, tupF e2, e3⟩⟩
    · exact absurd h1 (no x y)
  have tup8 : ∀ {b : Addr} {ys : List V} {G0 : Hp}, G0 b = some (.tup ys) → True := fun _ => trivial
  have keyA : ∀ {t r : Addr}, PapB H5 a t 20 100 113 (2 ^ 190) → H5 t = some (.tup [V.str "alike", .ref r]) → r ≠ a → (∃ o, H5 r = some o) → PapB F a t 20 100 113 (2 ^ 190) := by
    intro t r h e nr ⟨o, ho⟩
    have e8 : H8 t = some (.tup [V.str "alike", .ref r]) := tape_tup B8 T5 e
    refine papF (h.but B8 T5) (fun r' h' => ?_) (fun x y h' => ?_)
    · rw [e8] at h'
      cases h'
      exact nn r o ho nr
    · rw [e8] at h'
      cases h'
  have a1 : PapB F a t1 20 100 113 (2 ^ 190) := by
    rcases id P1' with ⟨r, h1, h2, zs, h3, _⟩ | ⟨x, y, A, C, h1, h2, h3, h4, h5, h6⟩
    · exact keyA P1' h1 h2 ⟨_, h3⟩
    · have e8 := tape_tup B8 T5 h1
      have tupF : F t1 = some (.tup [V.str "apart", .ref x, .ref y]) := by
        refine kp _ _ (fun z => ?_) (fun z => ?_) e8
        · obtain ⟨x, y, u, v, e⟩ := t8
          rw [z, e] at e8; cases e8
        · rw [z, el] at e8; cases e8
      exact .inr ⟨x, y, A, C, tupF, h2, h3, kp _ _ h2 (nn _ _ h4 h2) (B8 _ _ h2 h4), kp _ _ h3 (nn _ _ h5 h3) (B8 _ _ h3 h5), h6⟩
  have gen : ∀ {t : Addr}, PapB H5 a t 20 100 113 (2 ^ 190) → PapB F a t 20 100 113 (2 ^ 190) := by
    intro t P
    rcases id P with ⟨r, h1, h2, zs, h3, _⟩ | ⟨x, y, A, C, h1, h2, h3, h4, h5, h6⟩
    · exact keyA P h1 h2 ⟨_, h3⟩
    · have e8 := tape_tup B8 T5 h1
      have tupF : F t = some (.tup [V.str "apart", .ref x, .ref y]) := by
        refine kp _ _ (fun z => ?_) (fun z => ?_) e8
        · obtain ⟨x, y, u, v, e⟩ := t8
          rw [z, e] at e8; cases e8
        · rw [z, el] at e8; cases e8
      exact .inr ⟨x, y, A, C, tupF, h2, h3, kp _ _ h2 (nn _ _ h4 h2) (B8 _ _ h2 h4), kp _ _ h3 (nn _ _ h5 h3) (B8 _ _ h3 h5), h6⟩
  have a2 := gen P2'
  have a3 := gen P3
  have ppF : F pp = some (.lst (([t1, t2, t3] : List Addr).map V.ref)) := kp _ _ npp (Ne.symm nlpp) hp8
  have BF : But a H F := fun b o nb hb => kp b o nb (nn b o (B5 b o nb hb) nb) (B8 b o nb (B5 b o nb hb))
  have at0 : ∀ (z : Int), z = 0 → atI (([c0, c1, c2] : List Addr).map V.ref) z = some (V.ref c0) := fun z h => by rw [h]; rfl
  refine ⟨_, rfl, _, rfl, lp, _, _, _, rfl, rfl, SqL.of hL, rfl, _, rfl, lp, _, _, _, rfl, rfl, SqL.of hL, rfl, three, fun u1 hu1 => ?_⟩
  have R1 := same_new hu1 (.tup [V.str "apart", .ref c0, .ref c1])
  have b1 := Cl.pap (k := 20) (n := 100) (C0.same R1) (C1.same R1) upd_same
  have L1 := R1 _ _ hL
  have W1 := tF.same R1
  generalize upd F u1 (.tup [V.str "apart", .ref c0, .ref c1]) = F1 at *
  refine ⟨_, rfl, lp, _, _, _, rfl, rfl, SqL.of L1, rfl, _, rfl, lp, _, _, _, rfl, rfl, SqL.of L1, rfl, three, fun u2 hu2 => ?_⟩
  have R2 := same_new hu2 (.tup [V.str "apart", .ref c1, .ref c0])
  have b2 := Cl.pap (k := 20) (n := 100) ((C1.same R1).same R2) ((C0.same R1).same R2) upd_same
  have b1' := b1.same R2
  have L2' := R2 _ _ L1
  have W2 := W1.same R2
  generalize upd F1 u2 (.tup [V.str "apart", .ref c1, .ref c0]) = F2 at *
  refine ⟨_, rfl, lp, _, _, _, rfl, rfl, SqL.of L2', rfl, _, rfl, lp, _, _, _, rfl, rfl, SqL.of L2', rfl, three, fun u3 hu3 => ?_⟩
  have R3 := same_new hu3 (.tup [V.str "apart", .ref c0, .ref c2])
  have b3 := Cl.pap (k := 20) (n := 100) (((C0.same R1).same R2).same R3) (((C2.same R1).same R2).same R3) upd_same
  have b2' := b2.same R3
  have b1'' := b1'.same R3
  have W3 := W2.same R3
  have RR := R1.trans (R2.trans R3)
  have a1' := a1.same RR
  have a2' := a2.same RR
  have a3' := a3.same RR
  have pp3 := RR _ _ ppF
  generalize upd F2 u3 (.tup [V.str "apart", .ref c0, .ref c2]) = F3 at *
  refine ⟨three, fun q3 hq3 => ?_⟩
  have R4 := same_new hq3 (.lst [V.ref u1, .ref u2, .ref u3])
  refine ⟨pp, q3, _, _, rfl, rfl, R4 _ _ pp3, upd_same, fits (by show 3 + 3 ≤ 16777216; decide), fun r hr => ?_⟩
  have R5 := same_new hr (.lst (([t1, t2, t3] : List Addr).map V.ref ++ [V.ref u1, .ref u2, .ref u3]))
  have R45 := R4.trans R5
  refine ⟨_, rfl, q r [t1, t2, t3, u1, u2, u3] _ (BF.trans (But.of (RR.trans R45))) (W3.same R45) upd_same ((W3.same R4).ne hr) (fun t ht => ?_) (by show 6 ≤ 10; decide)⟩
  simp only [List.mem_cons, List.not_mem_nil, or_false] at ht
  rcases ht with rfl | rfl | rfl | rfl | rfl | rfl
  · exact a1'.same R45
  · exact a2'.same R45
  · exact a3'.same R45
  · exact b1''.same R45
  · exact b2'.same R45
  · exact b3.same R45
end
section
theorem Ml.bt {P p : Addr} {k n : Nat} {H H' : Hp} (h : Ml H p k n) (s : Bt P H H') (tg : GxR.TabG H P) : Ml H' p k n := by
  obtain ⟨xs, e, l, al⟩ := h
  exact ⟨xs, s.lst tg e, l, fun y hy => by
    obtain ⟨r, m, e1, e2, e3⟩ := al y hy
    exact ⟨r, m, e1, s.tup tg e2, e3⟩⟩
theorem tur_in {c : Nat} (h : ¬ (!decide (c ∈ (("TUR" : Str)).cps.toList)) = true) : c = 84 ∨ c = 85 ∨ c = 82 := by
  have e : (("TUR" : Str)).cps.toList = [84, 85, 82] := by decide +kernel
  rw [e] at h
  have h2 : decide (c ∈ ([84, 85, 82] : List Nat)) = true := by
    cases hd : decide (c ∈ ([84, 85, 82] : List Nat)) with
    | true => rfl
    | false => rw [hd] at h; exact absurd rfl h
  have := of_decide_eq_true h2
  simp only [List.mem_cons, List.not_mem_nil, or_false] at this
  exact this
end
section
variable {P : Program} {w : World} {K : PySem.W.Frag} {mg : Str → Option Value} {base : Heap} {f : Addr} {fd : FuncData}
theorem ok_law_single (F : Fun K "_law_single" "_law_single" s_law_single f fd) (D_odd_move : Dfn P w K mg base "_law_odd_move" 8 ["tape", "move"] spOdd) (D_law_taken : Dfn P w K mg base "_law_taken" 8 ["tape", "dance"] spTaken) (D_law_put : Dfn P w K mg base "_law_put" 8 ["tape", "dance"] spPut) (D_take : Dfn P w K mg base "_law_take" 8 ["tape", "many"] spTake) (D_law_holds : Dfn P w K mg base "_law_holds" 8 ["one", "other", "paper"] (spPHolds Pt)) (y_len : mg "len" = none)  : FnOk P w K mg base CX0 9 f fd ["tape", "one"] (spPSingle Pt) := by
  refine F.ok sc_law_single (fun vs H Q E h => ?_) (fun cdv A outer s H vs Q E hr h => ?_)
  · obtain ⟨a, l, rfl, hT, hl, zl, tg, q⟩ := h
    rfl
  obtain ⟨a, l, rfl, hT, hl, zl, tg, q⟩ := h
  refine ⟨_, (pss_cons (ps_set (i := 2) sc_law_single.nd rfl (.inl rfl) (pe_do D_odd_move hr (pa_cons (pv 0) (pa_cons (pe_ix ix_list (pe_lst (pa_cons (pe_do D_law_put hr (pa_cons (pv 0) (pa_cons (pv 1) pa_nil))) (pa_cons (pe_do D_law_taken hr (pa_cons (pv 0) (pa_cons (pv 1) pa_nil))) pa_nil))) (pe_do D_take hr (pa_cons (pv 0) (pa_cons pe_int pa_nil))) (fun _ _ => rfl)) pa_nil))))
    (pss_cons (ps_if (pt_cmpR op_eq (pe_do D_take hr (pa_cons (pv 0) (pa_cons pe_int pa_nil))) pe_int (nomark _)) (pss_one (ps_set (i := 2) sc_law_single.nd rfl (.inl rfl) (pe_tup (pa_cons (pe_do D_take hr (pa_cons (pv 0) (pa_cons pe_int pa_nil))) (pa_cons pe_str (pa_cons pe_str pa_nil)))))) pss_nil)
    (pss_cons (ps_asg (pv 2) (pg_tup (by rfl) (pgs_cons (pg_name (i := 3) sc_law_single.nd rfl (.inl rfl)) (pgs_cons (pg_name (i := 4) sc_law_single.nd rfl (.inl rfl)) (pgs_cons (pg_name (i := 5) sc_law_single.nd rfl (.inl rfl)) pgs_nil)))))
    (pss_cons (ps_if (PW.pt (pw_or (pt_cmpR op_lt (pv 3) pe_int (nomark _)) (pw_or (pt_cmpR op_gt (pv 3) (pe_callB call_len_str rfl y_len PySem.boot_len (pa_cons (pv 1) pa_nil)) (nomark _)) (pw_or1 (pt_cmpR op_ne (pe_slice sl_str (pv 1) (po_some (pv 3)) (po_some (pe_op op_add (pv 3) (pe_callB call_len_str rfl y_len PySem.boot_len (pa_cons (pv 4) pa_nil))))) (pv 4) (nomark _)))))) (pss_one (ps_ret pe_bl)) pss_nil)
    (pss_cons (ps_set (i := 6) sc_law_single.nd rfl (.inl rfl) (pe_op op_add_str (pe_op op_add_str (pe_slice sl_str (pv 1) po_none (po_some (pv 3))) (pv 5)) (pe_slice sl_str (pv 1) (po_some (pe_op op_add (pv 3) (pe_callB call_len_str rfl y_len PySem.boot_len (pa_cons (pv 4) pa_nil)))) po_none)))
    (pss_cons (ps_if (pt_cmpR op_gt (pe_callB call_len_seq rfl y_len PySem.boot_len (pa_cons (pe_lc (own := [("letter", 7)]) (g := (gName 7)) (by rfl) sc_law_single.nd (pi_str (pv 6)) (blkOk_by (own := [("letter", 7)]) (N := ["tape", "one", "move", "place", "old", "new", "other", "letter"]) (sc := defScope s_law_single) (by decide +kernel)) (fun _ _ _ _ _ => pg_name (i := 7) sc_law_single.nd rfl (Or.inl rfl)) (fun _ _ _ _ _ => (pts_one (pt_cmpR op_notIn_sign (pv 7) pe_str rfl))) (fun _ _ _ _ _ => (pv 7))) pa_nil)) pe_int (nomark _)) (pss_one (ps_ret pe_bl)) pss_nil)
    (pss_one (ps_ret (pe_do D_law_holds hr (pa_cons (pv 1) (pa_cons (pv 6) (pa_cons (pe_tup (pa_cons pe_str (pa_cons (pe_lst (pa_cons (pv 2) pa_nil)) pa_nil))) pa_nil)))))))))))), ?_⟩
  have one : 1 ≤ sizeLine := fits (by decide)
  have two : 2 ≤ sizeLine := fits (by decide)
  have three : 3 ≤ sizeLine := fits (by decide)
  refine ⟨_, rfl, _, rfl, _, rfl, a, l, rfl, hT, by omega, fun ta ma G1 cna _ b1 tg1 hma => ?_⟩
  refine ⟨_, rfl, _, rfl, a, l, rfl, tg1, by omega, fun tb mb G2 cnb b2' tg2 hmb => ?_⟩
  refine ⟨two, fun lp hlp => ?_⟩
  have nl := tg2.ne hlp
  refine ⟨_, rfl, a, 2, rfl, tg2.same (same_new hlp _), by decide, by decide, fun r' G3 r0' r1' b3' tg3 => ?_⟩
  have hma3 : Tm G3 ta ma := ((hma.but b2' tg1).same (same_new hlp _)).but b3' (tg2.same (same_new hlp _))
  have hmb3 : Tm G3 tb mb := (hmb.same (same_new hlp _)).but b3' (tg2.same (same_new hlp _))
  obtain ⟨t, m, hat, hm, cn⟩ := pick_two hma3 hmb3 cna cnb r0' r1'
  refine ⟨lp, _, _, _, rfl, rfl, SqL.of (b3' _ _ nl upd_same), hat, ?_⟩
  obtain ⟨cn1, cn2, fit⟩ := cn
  refine ⟨a, t, m, 20, rfl, tg3, hm, fit.mono (by decide), by decide, by decide, fun to mo G4 fo b4 tg4 hmo => ?_⟩
  have B4 : But a H G4 := (b1.trans b2').trans (((But.of (same_new hlp _)).trans b3').trans b4)
  refine ⟨_, rfl, a, 4, rfl, tg4, by decide, by decide, fun r5 G5 r50 r51 b5 tg5 => ⟨rfl, _, rfl, ite2 (fun c1 => ?A) (fun c1 => ?B)⟩⟩
  case' A =>
    refine ⟨_, rfl, a, 4, rfl, tg5, by decide, by decide, fun r6 G6 r60 r61 b6 tg6 => ⟨three, fun tq htq => ?_⟩⟩
    have S7 := same_new htq (.tup [V.int r6, .str "", .str "RTR"])
    have hM : Tm (upd G6 tq (.tup [V.int r6, .str "", .str "RTR"])) tq ⟨r6, [], wF⟩ := by unfold Tm Mv.vs; rw [upd_same, e_empty, e_RTR]
    have fM : (⟨r6, [], wF⟩ : Mv).Fit 40 := ⟨Nat.zero_le _, by show 3 ≤ 40; decide⟩
    have BB : But a H _ := (B4.trans b5).trans (b6.trans (But.of S7))
    have TT := tg6.same S7
    clear b6 S7 tg6 hmo fo
    generalize (⟨r6, [], wF⟩ : Mv) = mm at hM fM
    generalize upd G6 tq (.tup [V.int r6, .str "", .str "RTR"]) = GG at *
    generalize tq = t' at *
  case' B =>
    have hM := hmo.but b5 tg4
    have fM : mo.Fit 40 := fo
    have BB := B4.trans b5
    have TT := tg5
    clear b5 tg5 hmo fo
    generalize mo = mm at hM fM
    generalize G5 = GG at *
    generalize to = t' at *
  all_goals
    have z1 := fM.o
    have z2 := fM.n
    have tgG := tape_tab hT BB tg
    have out : Q (.bl true) GG := q GG GG BB TT (Bt.refl tgG)
    refine ⟨_, rfl, t', _, rfl, SqT.of hM, rfl, _, _, rfl, _, _, rfl, _, _, rfl, rfl, ?_⟩
    refine ⟨_, rfl, _, _, rfl, rfl, _, rfl, ite2 (fun d1 => iteT out) (fun d1 => ?_)⟩
    have k1 : 0 ≤ mm.pl := by
      have : ¬ mm.pl < 0 := fun z => d1 (decide_eq_true z)
      omega
    have sd : (S l).length ≤ sizeLine := by rw [S_len]; exact fits (by omega)
    have so : (S mm.o).length ≤ sizeLine := by rw [S_len]; exact fits (by omega)
    refine ⟨_, rfl, _, rfl, _, rfl, sd, _, _, rfl, rfl, _, rfl, ite2 (fun d2 => iteT out) (fun d2 => ?_)⟩
    refine ⟨_, rfl, _, rfl, _, rfl, _, rfl, _, rfl, _, rfl, so, _, _, rfl, rfl, _, rfl, _, rfl, sd, ?_⟩
    refine ⟨_, rfl, rfl, _, rfl, ite2 (fun d3 => out) (fun d3 => ?_)⟩
    refine ⟨_, rfl, _, rfl, _, rfl, _, rfl, sd, ?_⟩
    rw [S_take l k1]
    refine ⟨_, rfl, _, _, rfl, rfl, ?_, ?_⟩
    · rw [S_len, S_len, List.length_take]; exact fits (by omega)
    rw [S_app]
    refine ⟨_, rfl, _, rfl, _, rfl, _, rfl, so, _, _, rfl, rfl, _, rfl, _, rfl, sd, ?_⟩
    rw [S_len, S_drop l (show 0 ≤ mm.pl + (mm.o.length : Int) by omega)]
    refine ⟨_, _, rfl, rfl, ?_, ?_⟩
    · rw [S_len, S_len, List.length_append, List.length_take, List.length_drop]; exact fits (by omega)
    rw [S_app]
    have zx : (l.take mm.pl.toNat ++ mm.n ++ l.drop (mm.pl + (mm.o.length : Int)).toNat).length ≤ 110 := by
      rw [List.length_append, List.length_append, List.length_take, List.length_drop]
      omega
    generalize l.take mm.pl.toNat ++ mm.n ++ l.drop (mm.pl + (mm.o.length : Int)).toNat = x at zx
    refine ⟨_, rfl, _, rfl, fun D' hD => lc_str (l := x) (fun i G => ∃ ys : List V, Same GG G ∧ G D' = some (.lst ys) ∧ ys.length ≤ i ∧ (ys.length = 0 → ∀ c ∈ x.take i, c = 84 ∨ c = 85 ∨ c = 82)) ⟨[], same_new hD _, upd_same, Nat.le_refl _, fun _ c hc => by rw [List.take_zero] at hc; cases hc⟩ ?_ ?_⟩
    · rintro i c G hc ⟨ys, sm, hG, hy, hin⟩
      have hi : i < x.length := (List.getElem?_eq_some_iff.mp hc).1
      refine ⟨rfl, _, rfl, c, _, rfl, rfl, _, rfl, ite2 (fun k => ?_) (fun k => ?_)⟩
      · refine ⟨_, rfl, ys, hG, Nat.lt_of_lt_of_le (show ys.length < 16777216 by omega) sizeLine_big, ys ++ [_], fun b u hb => ?_, upd_same, by rw [List.length_append]; show _ + 1 ≤ _; omega, fun z => by rw [List.length_append] at z; have : ys.length + 1 = 0 := z; omega⟩
        rw [upd_ne (ne_of_none hb hD)]
        exact sm _ _ hb
      · refine ⟨ys, sm, hG, by omega, fun z d hd => ?_⟩
        rw [List.take_add_one, hc] at hd
        rcases List.mem_append.mp hd with hd | hd
        · exact hin z d hd
        · rw [List.mem_singleton.mp hd]
          exact tur_in k
    · rintro G ⟨ys, sm, hG, hy, hin⟩
      have TGG := TT.same sm
      have BG := BB.trans (But.of sm)
      have tgG2 := TabG.same tgG sm
      refine ⟨D', ys, rfl, .inl (SqL.of hG), _, _, rfl, rfl, _, rfl, ite2 (fun k => q G G BG TGG (Bt.refl tgG2)) (fun k => ?_)⟩
      have y0 : ys.length = 0 := by
        have : ¬ (0 : Int) < (ys.length : Int) := fun z => k (decide_eq_true z)
        omega
      have hx : Lets x := fun c hc => by
        have := hin y0 c
        rw [List.take_of_length_le (Nat.le_refl _)] at this
        exact this hc
      refine ⟨_, rfl, _, rfl, _, rfl, one, fun lp2 hlp2 => ⟨two, fun tp2 htp2 => ?_⟩⟩
      have R1 := same_new hlp2 (.lst [V.ref t'])
      have R2 := same_new htp2 (.tup [V.str "alike", .ref lp2])
      have RR := R1.trans R2
      have nlp2 := TGG.ne hlp2
      have ml : Ml (upd (upd G lp2 (.lst [V.ref t'])) tp2 (.tup [V.str "alike", .ref lp2])) lp2 200 1000 := ⟨[V.ref t'], R2 _ _ upd_same, by show 1 ≤ 1000; decide, fun y hy => by
        rw [List.mem_singleton.mp hy]
        exact ⟨t', mm, rfl, ((hM.same sm).same R1).same R2, fM.mono (by decide)⟩⟩
      refine ⟨l, x, tp2, a, rfl, hl, hx, by omega, by omega, .inl ⟨lp2, upd_same, nlp2, ml⟩, TabG.same tgG2 RR, fun H' b' => q _ H' (BG.trans (But.of RR)) (TGG.same RR) b'⟩
end
section
variable {P : Program} {w : World} {K : PySem.W.Frag} {mg : Str → Option Value} {base : Heap} {f : Addr} {fd : FuncData}
theorem ok_law (F : Fun K "law" "law" s_law f fd) (D_tape : Dfn P w K mg base "_law_tape" 9 ["script", "k"] (spTape K)) (D_dance : Dfn P w K mg base "_law_dance" 9 ["tape", "most"] spDance) (D_law_moves : Dfn P w K mg base "_law_moves" 9 ["tape", "dance", "most"] spMoves) (D_take : Dfn P w K mg base "_law_take" 9 ["tape", "many"] spTake) (D_law_other : Dfn P w K mg base "_law_other" 9 ["tape", "dance"] spOther) (D_law_single : Dfn P w K mg base "_law_single" 9 ["tape", "one"] (spPSingle Pt)) (D_law_papers : Dfn P w K mg base "_law_papers" 9 ["tape", "one", "other", "moves"] spPPapers) (D_law_holds : Dfn P w K mg base "_law_holds" 9 ["one", "other", "paper"] (spPHolds Pt)) (D_law_changed : Dfn P w K mg base "_law_changed" 9 ["tape", "paper"] spPChanged) (y_range : mg "range" = none)  : FnOk P w K mg base CX0 10 f fd ["script"] (spLaw K Pt) := by
  refine F.ok sc_law (fun vs H Q E h => ?_) (fun cdv A outer s H vs Q E hr h => ?_)
  · obtain ⟨sa, ns, rfl, hS, h63, tg, q⟩ := h
    rfl
  obtain ⟨sa, ns, rfl, hS, h63, tg, q⟩ := h
  refine ⟨_, (pss_cons (ps_for PassesOwn.never rfl (pi_range1 rfl y_range (pa_cons pe_int pa_nil)) (pg_name (i := 1) sc_law.nd rfl (.inl rfl))
    (pss_cons (ps_set (i := 2) sc_law.nd rfl (.inl rfl) (pe_do D_tape hr (pa_cons (pv 0) (pa_cons (pv 1) pa_nil))))
    (pss_cons (ps_set (i := 3) sc_law.nd rfl (.inl rfl) (pe_do D_dance hr (pa_cons (pv 2) (pa_cons pe_int pa_nil))))
    (pss_cons (ps_asg (pe_do D_law_moves hr (pa_cons (pv 2) (pa_cons (pv 3) (pa_cons pe_int pa_nil)))) (pg_tup (by rfl) (pgs_cons (pg_name (i := 4) sc_law.nd rfl (.inl rfl)) (pgs_cons (pg_name (i := 5) sc_law.nd rfl (.inl rfl)) pgs_nil))))
    (pss_cons (ps_if (pt_cmpR op_eq (pe_do D_take hr (pa_cons (pv 2) (pa_cons pe_int pa_nil))) pe_int (nomark _)) (pss_one (ps_set (i := 5) sc_law.nd rfl (.inl rfl) (pe_do D_law_other hr (pa_cons (pv 2) (pa_cons (pv 3) pa_nil))))) pss_nil)
    (pss_cons (ps_for PassesOwn.never rfl (pi_range1 rfl y_range (pa_cons pe_int pa_nil)) (pg_name (i := 6) sc_law.nd rfl (.inl rfl))
    (pss_one (ps_if (pt_not (pt_val (pe_do D_law_single hr (pa_cons (pv 2) (pa_cons (pv 3) pa_nil))))) (pss_one (ps_ret pe_bl)) pss_nil)))
    (pss_one (ps_for PassesOwn.never rfl (pi_list (pe_do D_law_papers hr (pa_cons (pv 2) (pa_cons (pv 3) (pa_cons (pv 5) (pa_cons (pv 4) pa_nil)))))) (pg_name (i := 7) sc_law.nd rfl (.inl rfl))
    (pss_one (ps_for PassesOwn.never rfl (pi_range1 rfl y_range (pa_cons (pe_op op_add pe_int (pe_do D_take hr (pa_cons (pv 2) (pa_cons pe_int pa_nil)))) pa_nil)) (pg_name (i := 6) sc_law.nd rfl (.inl rfl))
    (pss_cons (ps_if (pt_not (pt_val (pe_do D_law_holds hr (pa_cons (pv 3) (pa_cons (pv 5) (pa_cons (pv 7) pa_nil)))))) (pss_one (ps_ret pe_bl)) pss_nil)
    (pss_one (ps_set (i := 7) sc_law.nd rfl (.inl rfl) (pe_do D_law_changed hr (pa_cons (pv 2) (pa_cons (pv 7) pa_nil))))))))))))))))
    (pss_one (ps_ret pe_bl))), ?_⟩
  refine ⟨6, rfl, by decide, by decide, for_range (lo := 0) (n := 6) (fun i σ F => ∃ (x1 x2 x3 x4 x5 x6 x7 : Option V), σ = [some (.ref sa), x1, x2, x3, x4, x5, x6, x7] ∧ Bt Pt H F) ?_ ?_ ?_⟩
  · exact ⟨_, _, _, _, _, _, _, rfl, Bt.refl tg⟩
  · rintro i σ H0 hi ⟨x1, x2, x3, x4, x5, x6, x7, rfl, bt⟩
    refine ⟨_, rfl, _, rfl, sa, ns, 0 + (i : Int), rfl, bt.seq tg hS, by omega, fun tp H1 s1 ntp t1 => ?_⟩
    have B1 := (Bt.refl bt.2).same s1
    refine ⟨_, rfl, tp, 30, rfl, t1, by decide, by decide, fun l H2 hl zl b2 t2 => ?_⟩
    have B2 := B1.but b2 t1 ntp
    have zl' : l.length ≤ 30 := by omega
    refine ⟨_, rfl, _, rfl, tp, l, 12, rfl, t2, by omega, by decide, by decide, fun tt p ms x H3 b3 t3 hp htt tl fa hz hled hx => ?_⟩
    have B3 := B2.but b3 t2 ntp
    have hx' := led_lets ms hl hled
    refine ⟨tt, _, rfl, SqT.of htt, rfl, _, _, rfl, _, _, rfl, rfl, ?_⟩
    have ml3 : Ml H3 p 20 100 := by
      obtain ⟨rs, e, zr, kr⟩ := tl
      rw [List.length_map] at zr
      refine ⟨rs.map V.ref, e, by rw [List.length_map]; omega, fun y hy => ?_⟩
      obtain ⟨r, hr, rfl⟩ := List.mem_map.mp hy
      obtain ⟨j, hj⟩ := List.getElem?_of_mem hr
      have jl : j < ms.length := by have := (List.getElem?_eq_some_iff.mp hj).1; omega
      exact ⟨r, ms[j], rfl, kr j r _ hj (by rw [List.getElem?_map, List.getElem?_eq_getElem jl]; rfl), (fa _ (List.getElem_mem jl)).mono (by decide)⟩
    have np : p ≠ tp := by
      obtain ⟨rs, e, _⟩ := tl
      exact tape_refs t3 e
    refine ⟨_, rfl, tp, 3, rfl, t3, by decide, by decide, fun r H4 r0 r1 b4 t4 => ⟨rfl, _, rfl, ite2 (fun c1 => ?A) (fun c1 => ?B)⟩⟩
    case' A =>
      refine ⟨_, rfl, _, rfl, tp, l, rfl, t4, hl, zl', fun m H5 hm zm b5 t5 => ?_⟩
      have BB := (B3.but b4 t3 ntp).but b5 t4 ntp
      have ml5 := (ml3.tape b4 np t3).tape b5 np t4
      have zm' : m.length ≤ 110 := by omega
    case' B =>
      have BB := B3.but b4 t3 ntp
      have ml5 := ml3.tape b4 np t3
      have hm := hx'
      have zm' : x.length ≤ 110 := by omega
      have t5 := t4
      generalize x = m at hm zm' ⊢
      generalize H4 = H5 at *
    all_goals
      refine ⟨4, rfl, by decide, by decide, for_range (lo := 0) (n := 4) (fun j σ G => ∃ (x6 x7 : Option V), σ = [some (.ref sa), some (.int (0 + (i : Int))), some (.ref tp), some (.str (S l)), some (.ref p), some (.str (S m)), x6, x7] ∧ Bt Pt H0 G ∧ Tape G tp ∧ Ml G p 20 100) ?_ ?_ ?_⟩
      · exact ⟨_, _, rfl, BB, t5, ml5⟩
      · rintro j σ G hj ⟨x6, x7, rfl, bG, tG, mG⟩
        refine ⟨_, rfl, _, rfl, tp, l, rfl, tG, hl, zl', bG.2, fun G1 G2 b1 tG1 b2 => ⟨_, rfl, iteF ?_⟩⟩
        have bG1 := bG.but b1 tG ntp
        exact ⟨_, _, rfl, bG1.trans b2, b2.tape bG1.2 tG1, (mG.tape b1 np tG).bt b2 bG1.2⟩
      · rintro σ G ⟨x6, x7, rfl, bG, tG, mG⟩
        refine ⟨_, rfl, _, rfl, _, rfl, _, rfl, tp, p, l, m, rfl, tG, hl, hm, zl', zm', np, mG, fun rr ts G1 b1 tG1 hr nr al tl10 => ?_⟩
        have bG1 := bG.but b1 tG ntp
        refine ⟨rr, rfl, ⟨_, SqL.of hr⟩, for_list (K := K) (a := rr) (xs := ts.map V.ref) (fun j σ F => ∃ (x6 x7 : Option V), σ = [some (.ref sa), some (.int (0 + (i : Int))), some (.ref tp), some (.str (S l)), some (.ref p), some (.str (S m)), x6, x7] ∧ Bt Pt H0 F ∧ Tape F tp ∧ F rr = some (.lst (ts.map V.ref)) ∧ ∀ t ∈ ts, PapB F tp t 20 100 113 (2 ^ 190)) ?_ ?_ ?_ ?_⟩
        · exact ⟨_, _, rfl, bG1, tG1, hr, al⟩
        · rintro j σ F _ ⟨x6, x7, _, _, _, hF, _⟩
          exact SqL.of hF
        · rintro j y σ F hy ⟨x6, x7, rfl, bF, tF, hF, aF⟩
          obtain ⟨u0, hu0, rfl⟩ := List.mem_map.mp (List.mem_of_getElem? hy)
          refine ⟨_, rfl, tp, 3, rfl, tF, by decide, by decide, fun r2 F1 r20 r21 b2 tF1 => ⟨_, _, rfl, rfl, ?_⟩⟩
          have bF1 := bF.but b2 tF ntp
          refine ⟨1 + r2, rfl, by omega, by omega, for_range (lo := 0) (n := (1 + r2).toNat) (fun e σ E => ∃ (u : Addr) (k n c B : Nat) (x6 : Option V), σ = [some (.ref sa), some (.int (0 + (i : Int))), some (.ref tp), some (.str (S l)), some (.ref p), some (.str (S m)), x6, some (.ref u)] ∧ Bt Pt H0 E ∧ Tape E tp ∧ E rr = some (.lst (ts.map V.ref)) ∧ (∀ t ∈ ts, PapB E tp t 20 100 113 (2 ^ 190)) ∧ PapB E tp u k n c B ∧ 20 ≤ k ∧ k ≤ 20 * 2 ^ e ∧ n ≤ 100 + e ∧ c + 1 ≤ 114 * 2 ^ e ∧ B ≤ 2 ^ 190 + e * 10 ^ 20) ?_ ?_ ?_⟩
          · have P0 := (aF u0 hu0).but b2 tF
            exact ⟨u0, 20, 100, 113, 2 ^ 190, _, rfl, bF1, tF1, b2 _ _ nr hF, fun t ht => (aF t ht).but b2 tF, P0, Nat.le_refl _, by decide, by decide, by decide, by decide⟩
          · rintro e σ E he ⟨u, k, n, c, B, x6, rfl, bE, tE, hE, aE, pE, k0, k1, n1, c1, B1'⟩
            have e2 : e ≤ 2 := by omega
            have pw : 2 ^ e ≤ 4 := Nat.le_trans (Nat.pow_le_pow_right (by decide) e2) (by decide)
            have pw2 : 2 ^ (e + 1) = 2 * 2 ^ e := Nat.pow_succ'
            have Bl : B ≤ 2 ^ 199 := Nat.le_trans B1' (Nat.le_trans (Nat.add_le_add_left (Nat.mul_le_mul_right _ e2) _) (by decide))
            have ph := pE.mono (k' := 200) (n' := 1000) (c' := 1000) (B' := 2 ^ 199) (by omega) (by omega) (by omega) Bl
            refine ⟨_, rfl, _, rfl, _, rfl, l, m, u, tp, rfl, hl, hm, by omega, by omega, ph, bE.2, fun E1 b3' => ⟨_, rfl, iteF ?_⟩⟩
            have tE1 := b3'.tape bE.2 tE
            have pE1 := pE.bt b3' bE.2
            refine ⟨_, rfl, _, rfl, tp, u, k, n, c, B, rfl, tE1, pE1, by omega, k0, by omega, by omega, fun u' E2 b4' tE2 pE2 => ?_⟩
            have bE1 := bE.trans b3'
            exact ⟨u', _, _, _, _, _, rfl, bE1.but b4' tE1 ntp, tE2, b4' _ _ nr (b3'.lst bE.2 hE), fun t ht => ((aE t ht).bt b3' bE.2).but b4' tE1, pE2, by omega, by omega, by omega, by omega, by rw [Nat.add_mul]; omega⟩
          · rintro σ E ⟨u, k, n, c, B, x6, rfl, bE, tE, hE, aE, _⟩
            exact ⟨_, _, rfl, bE, tE, hE, aE⟩
        · rintro σ F ⟨x6, x7, rfl, bF, _⟩
          exact ⟨_, _, _, _, _, _, _, rfl, bt.trans bF⟩
  · rintro σ F ⟨x1, x2, x3, x4, x5, x6, x7, rfl, bt⟩
    exact q F
end
def d_fraction : He.DefD := ⟨("fraction", none), "fraction", "fraction", defArgs s_fraction, defBody s_fraction, defScope s_fraction, [], []⟩
def d_diagram : He.DefD := ⟨("diagram", none), "diagram", "diagram", defArgs s_diagram, defBody s_diagram, defScope s_diagram, [], []⟩
def d_is_colouring : He.DefD := ⟨("is_colouring", none), "is_colouring", "is_colouring", defArgs s_is_colouring, defBody s_is_colouring, defScope s_is_colouring, [], []⟩
def d_is_plain : He.DefD := ⟨("is_plain", none), "is_plain", "is_plain", defArgs s_is_plain, defBody s_is_plain, defScope s_is_plain, [], []⟩
def d_reading : He.DefD := ⟨("reading", none), "reading", "reading", defArgs s_reading, defBody s_reading, defScope s_reading, [], []⟩
def d_is_move : He.DefD := ⟨("is_move", none), "is_move", "is_move", defArgs s_is_move, defBody s_is_move, defScope s_is_move, [], []⟩
def d_made : He.DefD := ⟨("made", none), "made", "made", defArgs s_made, defBody s_made, defScope s_made, [], []⟩
def d_leads : He.DefD := ⟨("leads", none), "leads", "leads", defArgs s_leads, defBody s_leads, defScope s_leads, [], []⟩
def d_accepts : He.DefD := ⟨("accepts", none), "accepts", "accepts", defArgs s_accepts, defBody s_accepts, defScope s_accepts, [], []⟩
def d__law_tape : He.DefD := ⟨("_law_tape", none), "_law_tape", "_law_tape", defArgs s_law_tape, defBody s_law_tape, defScope s_law_tape, [], []⟩
def d__law_take : He.DefD := ⟨("_law_take", none), "_law_take", "_law_take", defArgs s_law_take, defBody s_law_take, defScope s_law_take, [], []⟩
def d__law_dance : He.DefD := ⟨("_law_dance", none), "_law_dance", "_law_dance", defArgs s_law_dance, defBody s_law_dance, defScope s_law_dance, [], []⟩
def d__law_called : He.DefD := ⟨("_law_called", none), "_law_called", "_law_called", defArgs s_law_called, defBody s_law_called, defScope s_law_called, [], []⟩
def d__law_number : He.DefD := ⟨("_law_number", none), "_law_number", "_law_number", defArgs s_law_number, defBody s_law_number, defScope s_law_number, [], []⟩
def d__law_says : He.DefD := ⟨("_law_says", none), "_law_says", "_law_says", defArgs s_law_says, defBody s_law_says, defScope s_law_says, [], []⟩
def d__law_divisor : He.DefD := ⟨("_law_divisor", none), "_law_divisor", "_law_divisor", defArgs s_law_divisor, defBody s_law_divisor, defScope s_law_divisor, [], []⟩
def d__law_is_move : He.DefD := ⟨("_law_is_move", none), "_law_is_move", "_law_is_move", defArgs s_law_is_move, defBody s_law_is_move, defScope s_law_is_move, [], []⟩
def d__law_made : He.DefD := ⟨("_law_made", none), "_law_made", "_law_made", defArgs s_law_made, defBody s_law_made, defScope s_law_made, [], []⟩
def d__law_put : He.DefD := ⟨("_law_put", none), "_law_put", "_law_put", defArgs s_law_put, defBody s_law_put, defScope s_law_put, [], []⟩
def d__law_taken : He.DefD := ⟨("_law_taken", none), "_law_taken", "_law_taken", defArgs s_law_taken, defBody s_law_taken, defScope s_law_taken, [], []⟩
def d__law_moves : He.DefD := ⟨("_law_moves", none), "_law_moves", "_law_moves", defArgs s_law_moves, defBody s_law_moves, defScope s_law_moves, [], []⟩
def d__law_near_word : He.DefD := ⟨("_law_near_word", none), "_law_near_word", "_law_near_word", defArgs s_law_near_word, defBody s_law_near_word, defScope s_law_near_word, [], []⟩
def d__law_odd_move : He.DefD := ⟨("_law_odd_move", none), "_law_odd_move", "_law_odd_move", defArgs s_law_odd_move, defBody s_law_odd_move, defScope s_law_odd_move, [], []⟩
def d__law_run : He.DefD := ⟨("_law_run", none), "_law_run", "_law_run", defArgs s_law_run, defBody s_law_run, defScope s_law_run, [], []⟩
def d__law_standard : He.DefD := ⟨("_law_standard", none), "_law_standard", "_law_standard", defArgs s_law_standard, defBody s_law_standard, defScope s_law_standard, [], []⟩
def d__law_diagram : He.DefD := ⟨("_law_diagram", none), "_law_diagram", "_law_diagram", defArgs s_law_diagram, defBody s_law_diagram, defScope s_law_diagram, [], []⟩
def d__law_colouring : He.DefD := ⟨("_law_colouring", none), "_law_colouring", "_law_colouring", defArgs s_law_colouring, defBody s_law_colouring, defScope s_law_colouring, [], []⟩
def d__law_is_colouring : He.DefD := ⟨("_law_is_colouring", none), "_law_is_colouring", "_law_is_colouring", defArgs s_law_is_colouring, defBody s_law_is_colouring, defScope s_law_is_colouring, [], []⟩
def d__law_spoilt : He.DefD := ⟨("_law_spoilt", none), "_law_spoilt", "_law_spoilt", defArgs s_law_spoilt, defBody s_law_spoilt, defScope s_law_spoilt, [], []⟩
def d__law_reading : He.DefD := ⟨("_law_reading", none), "_law_reading", "_law_reading", defArgs s_law_reading, defBody s_law_reading, defScope s_law_reading, [], []⟩
def d__law_leads : He.DefD := ⟨("_law_leads", none), "_law_leads", "_law_leads", defArgs s_law_leads, defBody s_law_leads, defScope s_law_leads, [], []⟩
def d__law_accepted : He.DefD := ⟨("_law_accepted", none), "_law_accepted", "_law_accepted", defArgs s_law_accepted, defBody s_law_accepted, defScope s_law_accepted, [], []⟩
def d__law_other : He.DefD := ⟨("_law_other", none), "_law_other", "_law_other", defArgs s_law_other, defBody s_law_other, defScope s_law_other, [], []⟩
def d__law_papers : He.DefD := ⟨("_law_papers", none), "_law_papers", "_law_papers", defArgs s_law_papers, defBody s_law_papers, defScope s_law_papers, [], []⟩
def d__law_changed : He.DefD := ⟨("_law_changed", none), "_law_changed", "_law_changed", defArgs s_law_changed, defBody s_law_changed, defScope s_law_changed, [], []⟩
def d__law_holds : He.DefD := ⟨("_law_holds", none), "_law_holds", "_law_holds", defArgs s_law_holds, defBody s_law_holds, defScope s_law_holds, [], []⟩
def d__law_single : He.DefD := ⟨("_law_single", none), "_law_single", "_law_single", defArgs s_law_single, defBody s_law_single, defScope s_law_single, [], []⟩
def d_law : He.DefD := ⟨("law", none), "law", "law", defArgs s_law, defBody s_law, defScope s_law, [], []⟩
def dfs : List He.DefD := [d_fraction, d_diagram, d_is_colouring, d_is_plain, d_reading, d_is_move, d_made, d_leads, d_accepts, d__law_tape, d__law_take, d__law_dance, d__law_called, d__law_number, d__law_says, d__law_divisor, d__law_is_move, d__law_made, d__law_put, d__law_taken, d__law_moves, d__law_near_word, d__law_odd_move, d__law_run, d__law_standard, d__law_diagram, d__law_colouring, d__law_is_colouring, d__law_spoilt, d__law_reading, d__law_leads, d__law_accepted, d__law_other, d__law_papers, d__law_changed, d__law_holds, d__law_single, d_law]
def fas : List He.Fa := [.glo "fraction", .glo "diagram", .glo "is_colouring", .glo "is_plain", .glo "reading", .glo "is_move", .glo "made", .glo "leads", .glo "accepts", .glo "_law_tape", .glo "_law_take", .glo "_law_dance", .glo "_law_called", .glo "_law_number", .glo "_law_says", .glo "_law_divisor", .glo "_law_is_move", .glo "_law_made", .glo "_law_put", .glo "_law_taken", .glo "_law_moves", .glo "_law_near_word", .glo "_law_odd_move", .glo "_law_run", .glo "_law_standard", .glo "_law_diagram", .glo "_law_colouring", .glo "_law_is_colouring", .glo "_law_spoilt", .glo "_law_reading", .glo "_law_leads", .glo "_law_accepted", .glo "_law_other", .glo "_law_papers", .glo "_law_changed", .glo "_law_holds", .glo "_law_single", .glo "law", .free "len", .free "abs", .free "int", .free "range", .free "isinstance", .free "tuple", .free "list", .free "str", .free "bool", .free "all", .free "reversed", .exc "BadMove", .exm "BadMove" "BadMove" true, .glo "BadMove", .str "WORD_IN_FRONT" "RTR", .glo "WORDS"]
def tbs : List He.Tab := []
def tfs : List He.Defn := [("is_colouring", none)]
def exs (K : PySem.W.Frag) : Bool := (He.eqO (PySem.W.nsIn K mainGlobals "gcd") (some (some (.builtin "math.gcd"))) && (PySem.W.hasDictIn K (He.ga K "BadMove") && (He.eqO (PySem.W.findIn K (.ref (He.ga K "BadMove")) "__getattribute__") (some (some (.builtin "BaseException.__getattribute__"))) && (He.eqO (PySem.W.findIn K (.ref (He.ga K "BadMove")) "__getattr__") (some none) && (He.eqO (PySem.W.findIn K (.ref (He.ga K "BadMove")) "__class__") (some (some (.builtin "object.__class__"))) && (decide (PySem.W.mroIn K (He.ga K "BadMove") (.type "object") = some true) && wordsB K))))))
abbrev Rw : PySem.W.OpenRow := PySem.W.OpenLaw.row PySem.Challenge.rw_ropedance_k15_papers
abbrev hk : PySem.W.Hook := He.hookX 6 fas dfs tbs tfs exs
def ob (s : PySem.W.SharedT) : He.AlX := He.obsX 6 fas dfs tbs tfs exs (HandSHeadRun.getT s)
theorem ob_eq (s : PySem.W.SharedT) : ob s = hk.obs s.abs := He.obsX_eq (HandSHeadRun.getT_eq s)
theorem head_run (w : World) : HandSHeadRun.RunEqI Rw (PySem.W.view Rw.prog [0, 50]) hk ob 9000 ((["fraction", "diagram", "is_colouring", "is_plain", "reading", "is_move", "made", "leads", "accepts", "_law_tape", "_law_take", "_law_dance", "_law_called", "_law_number", "_law_says", "_law_divisor", "_law_is_move", "_law_made", "_law_put", "_law_taken", "_law_moves", "_law_near_word", "_law_odd_move", "_law_run", "_law_standard", "_law_diagram", "_law_colouring", "_law_is_colouring", "_law_spoilt", "_law_reading"] : List PySem.Str) ++ (["_law_leads", "_law_accepted", "_law_other", "_law_papers", "_law_changed", "_law_holds", "_law_single", "RopeError", "NoFraction", "BadMove", "WORDS", "WORD_IN_FRONT", "_law_same"] : List PySem.Str)) w := by
  unfold HandSHeadRun.RunEqI
  kernel_rfl
theorem fun_of {K : PySem.W.Frag} {d : He.DefD} {f : Addr} {fd : FuncData} {st : Stmt} (h : FunD K d.name d.qual d.params d.body d.scope (d.dvs K) (d.kws K) f fd) (ha : d.params = defArgs st) (hb : d.body = defBody st) (hs : d.scope = defScope st) (h0 : d.dfl = []) (h1 : d.kwd = []) : Fun K d.name d.qual st f fd := by
  obtain ⟨oc, od, dV, kV, doc, pm, an, cdv, ct, osl, e, lk, cd, dfl, kw⟩ := h.ex
  have e0 : d.dvs K = [] := by unfold He.DefD.dvs; rw [h0]; rfl
  rw [e0] at dfl
  have ed : dV = .none := by
    rcases dfl with ⟨_, q⟩ | ⟨q, _⟩
    · exact q
    · exact absurd rfl q
  subst ed
  rw [ha, hb, hs] at e
  exact ⟨⟨oc, od, kV, doc, pm, an, cdv, ct, osl, e, lk, cd⟩, h.kp⟩
theorem spLaw_from (K : PySem.W.Frag) : ∀ (H : Hp) (a : Addr) (ns : List Int), ns.length ≤ 63 → (∀ z ∈ ns, Builtin.Int.intBits z ≤ 1048576) → (∀ p ∈ tfs.map (He.cT K), H p.2 = some (.tbl #[])) → SqL K H a (ns.map V.int) → spLawK K [.ref a] H (fun v _ => v = .bl true) fun _ _ _ => False :=
  fun H a ns hl _ hT hS => ⟨a, ns, rfl, hS, hl, ⟨#[], hT _ (List.mem_map.mpr ⟨("is_colouring", none), List.mem_cons_self .., rfl⟩), trivial⟩, fun _ => rfl⟩
theorem all_facts {P : Program} {w : World} {K : PySem.W.Frag} {h : Heap} {mg : Str → Option Value} {fa : Addr} (X : K.In h) (G : h.Ns mainGlobals mg) (hfa : mg ("law" : Str) = some (.ref fa)) (c : He.SaysX fas dfs tbs tfs exs w h K) :
    ∃ fd : FuncData, (∀ (s : Shared) (v : Value), BindsTo s fd ⟨[v], []⟩ [("script", v)]) ∧ ∀ base : Heap, K.In base → base.Ns mainGlobals mg → (∀ p ∈ tfs.map (He.cT K), LamX.TabB base mg p.1 p.2) → FnOk P w K mg base CX0 10 fa fd ["script"] (spLawK K) := by
  have cd := c.t.d
  obtain ⟨fd0, G0⟩ := cd.def_ 0 (d := d_fraction) rfl
  have F_fraction : Fun K "fraction" "fraction" s_fraction _ fd0 := fun_of G0 rfl rfl rfl rfl rfl
  have m_fraction := He.glo_ok X G (cd.fact 0 (f := .glo "fraction") rfl)
  have b_fraction := F_fraction.binds (ps := ["p", "q"]) fun _ _ _ _ _ _ us hl => match us, hl with | [_, _], _ => rfl
  obtain ⟨fd1, G1⟩ := cd.def_ 1 (d := d_diagram) rfl
  have F_diagram : Fun K "diagram" "diagram" s_diagram _ fd1 := fun_of G1 rfl rfl rfl rfl rfl
  have m_diagram := He.glo_ok X G (cd.fact 1 (f := .glo "diagram") rfl)
  have b_diagram := F_diagram.binds (ps := ["dance"]) fun _ _ _ _ _ _ us hl => match us, hl with | [_], _ => rfl
  obtain ⟨fd2, G2⟩ := cd.def_ 2 (d := d_is_colouring) rfl
  have F_is_colouring : Fun K "is_colouring" "is_colouring" s_is_colouring _ fd2 := fun_of G2 rfl rfl rfl rfl rfl
  have m_is_colouring := He.glo_ok X G (cd.fact 2 (f := .glo "is_colouring") rfl)
  have b_is_colouring := F_is_colouring.binds (ps := ["dance", "colours"]) fun _ _ _ _ _ _ us hl => match us, hl with | [_, _], _ => rfl
  obtain ⟨fd3, G3⟩ := cd.def_ 3 (d := d_is_plain) rfl
  have F_is_plain : Fun K "is_plain" "is_plain" s_is_plain _ fd3 := fun_of G3 rfl rfl rfl rfl rfl
  have m_is_plain := He.glo_ok X G (cd.fact 3 (f := .glo "is_plain") rfl)
  have b_is_plain := F_is_plain.binds (ps := ["colours"]) fun _ _ _ _ _ _ us hl => match us, hl with | [_], _ => rfl
  obtain ⟨fd4, G4⟩ := cd.def_ 4 (d := d_reading) rfl
  have F_reading : Fun K "reading" "reading" s_reading _ fd4 := fun_of G4 rfl rfl rfl rfl rfl
  have m_reading := He.glo_ok X G (cd.fact 4 (f := .glo "reading") rfl)
  have b_reading := F_reading.binds (ps := ["dance", "colours"]) fun _ _ _ _ _ _ us hl => match us, hl with | [_, _], _ => rfl
  obtain ⟨fd5, G5⟩ := cd.def_ 5 (d := d_is_move) rfl
  have F_is_move : Fun K "is_move" "is_move" s_is_move _ fd5 := fun_of G5 rfl rfl rfl rfl rfl
  have m_is_move := He.glo_ok X G (cd.fact 5 (f := .glo "is_move") rfl)
  have b_is_move := F_is_move.binds (ps := ["move"]) fun _ _ _ _ _ _ us hl => match us, hl with | [_], _ => rfl
  obtain ⟨fd6, G6⟩ := cd.def_ 6 (d := d_made) rfl
  have F_made : Fun K "made" "made" s_made _ fd6 := fun_of G6 rfl rfl rfl rfl rfl
  have m_made := He.glo_ok X G (cd.fact 6 (f := .glo "made") rfl)
  have b_made := F_made.binds (ps := ["dance", "move"]) fun _ _ _ _ _ _ us hl => match us, hl with | [_, _], _ => rfl
  obtain ⟨fd7, G7⟩ := cd.def_ 7 (d := d_leads) rfl
  have F_leads : Fun K "leads" "leads" s_leads _ fd7 := fun_of G7 rfl rfl rfl rfl rfl
  have m_leads := He.glo_ok X G (cd.fact 7 (f := .glo "leads") rfl)
  have b_leads := F_leads.binds (ps := ["one", "moves", "other"]) fun _ _ _ _ _ _ us hl => match us, hl with | [_, _, _], _ => rfl
  obtain ⟨fd8, G8⟩ := cd.def_ 8 (d := d_accepts) rfl
  have F_accepts : Fun K "accepts" "accepts" s_accepts _ fd8 := fun_of G8 rfl rfl rfl rfl rfl
  have m_accepts := He.glo_ok X G (cd.fact 8 (f := .glo "accepts") rfl)
  have b_accepts := F_accepts.binds (ps := ["one", "other", "paper"]) fun _ _ _ _ _ _ us hl => match us, hl with | [_, _, _], _ => rfl
  obtain ⟨fd9, G9⟩ := cd.def_ 9 (d := d__law_tape) rfl
  have F__law_tape : Fun K "_law_tape" "_law_tape" s_law_tape _ fd9 := fun_of G9 rfl rfl rfl rfl rfl
  have m__law_tape := He.glo_ok X G (cd.fact 9 (f := .glo "_law_tape") rfl)
  have b__law_tape := F__law_tape.binds (ps := ["script", "k"]) fun _ _ _ _ _ _ us hl => match us, hl with | [_, _], _ => rfl
  obtain ⟨fd10, G10⟩ := cd.def_ 10 (d := d__law_take) rfl
  have F__law_take : Fun K "_law_take" "_law_take" s_law_take _ fd10 := fun_of G10 rfl rfl rfl rfl rfl
  have m__law_take := He.glo_ok X G (cd.fact 10 (f := .glo "_law_take") rfl)
  have b__law_take := F__law_take.binds (ps := ["tape", "many"]) fun _ _ _ _ _ _ us hl => match us, hl with | [_, _], _ => rfl
  obtain ⟨fd11, G11⟩ := cd.def_ 11 (d := d__law_dance) rfl
  have F__law_dance : Fun K "_law_dance" "_law_dance" s_law_dance _ fd11 := fun_of G11 rfl rfl rfl rfl rfl
  have m__law_dance := He.glo_ok X G (cd.fact 11 (f := .glo "_law_dance") rfl)
  have b__law_dance := F__law_dance.binds (ps := ["tape", "most"]) fun _ _ _ _ _ _ us hl => match us, hl with | [_, _], _ => rfl
  obtain ⟨fd12, G12⟩ := cd.def_ 12 (d := d__law_called) rfl
  have F__law_called : Fun K "_law_called" "_law_called" s_law_called _ fd12 := fun_of G12 rfl rfl rfl rfl rfl
  have m__law_called := He.glo_ok X G (cd.fact 12 (f := .glo "_law_called") rfl)
  have b__law_called := F__law_called.binds (ps := ["value", "letter"]) fun _ _ _ _ _ _ us hl => match us, hl with | [_, _], _ => rfl
  obtain ⟨fd13, G13⟩ := cd.def_ 13 (d := d__law_number) rfl
  have F__law_number : Fun K "_law_number" "_law_number" s_law_number _ fd13 := fun_of G13 rfl rfl rfl rfl rfl
  have m__law_number := He.glo_ok X G (cd.fact 13 (f := .glo "_law_number") rfl)
  have b__law_number := F__law_number.binds (ps := ["dance"]) fun _ _ _ _ _ _ us hl => match us, hl with | [_], _ => rfl
  obtain ⟨fd14, G14⟩ := cd.def_ 14 (d := d__law_says) rfl
  have F__law_says : Fun K "_law_says" "_law_says" s_law_says _ fd14 := fun_of G14 rfl rfl rfl rfl rfl
  have m__law_says := He.glo_ok X G (cd.fact 14 (f := .glo "_law_says") rfl)
  have b__law_says := F__law_says.binds (ps := ["told", "due"]) fun _ _ _ _ _ _ us hl => match us, hl with | [_, _], _ => rfl
  obtain ⟨fd15, G15⟩ := cd.def_ 15 (d := d__law_divisor) rfl
  have F__law_divisor : Fun K "_law_divisor" "_law_divisor" s_law_divisor _ fd15 := fun_of G15 rfl rfl rfl rfl rfl
  have m__law_divisor := He.glo_ok X G (cd.fact 15 (f := .glo "_law_divisor") rfl)
  have b__law_divisor := F__law_divisor.binds (ps := ["one", "other"]) fun _ _ _ _ _ _ us hl => match us, hl with | [_, _], _ => rfl
  obtain ⟨fd16, G16⟩ := cd.def_ 16 (d := d__law_is_move) rfl
  have F__law_is_move : Fun K "_law_is_move" "_law_is_move" s_law_is_move _ fd16 := fun_of G16 rfl rfl rfl rfl rfl
  have m__law_is_move := He.glo_ok X G (cd.fact 16 (f := .glo "_law_is_move") rfl)
  have b__law_is_move := F__law_is_move.binds (ps := ["move"]) fun _ _ _ _ _ _ us hl => match us, hl with | [_], _ => rfl
  obtain ⟨fd17, G17⟩ := cd.def_ 17 (d := d__law_made) rfl
  have F__law_made : Fun K "_law_made" "_law_made" s_law_made _ fd17 := fun_of G17 rfl rfl rfl rfl rfl
  have m__law_made := He.glo_ok X G (cd.fact 17 (f := .glo "_law_made") rfl)
  have b__law_made := F__law_made.binds (ps := ["dance", "move"]) fun _ _ _ _ _ _ us hl => match us, hl with | [_, _], _ => rfl
  obtain ⟨fd18, G18⟩ := cd.def_ 18 (d := d__law_put) rfl
  have F__law_put : Fun K "_law_put" "_law_put" s_law_put _ fd18 := fun_of G18 rfl rfl rfl rfl rfl
  have m__law_put := He.glo_ok X G (cd.fact 18 (f := .glo "_law_put") rfl)
  have b__law_put := F__law_put.binds (ps := ["tape", "dance"]) fun _ _ _ _ _ _ us hl => match us, hl with | [_, _], _ => rfl
  obtain ⟨fd19, G19⟩ := cd.def_ 19 (d := d__law_taken) rfl
  have F__law_taken : Fun K "_law_taken" "_law_taken" s_law_taken _ fd19 := fun_of G19 rfl rfl rfl rfl rfl
  have m__law_taken := He.glo_ok X G (cd.fact 19 (f := .glo "_law_taken") rfl)
  have b__law_taken := F__law_taken.binds (ps := ["tape", "dance"]) fun _ _ _ _ _ _ us hl => match us, hl with | [_, _], _ => rfl
  obtain ⟨fd20, G20⟩ := cd.def_ 20 (d := d__law_moves) rfl
  have F__law_moves : Fun K "_law_moves" "_law_moves" s_law_moves _ fd20 := fun_of G20 rfl rfl rfl rfl rfl
  have m__law_moves := He.glo_ok X G (cd.fact 20 (f := .glo "_law_moves") rfl)
  have b__law_moves := F__law_moves.binds (ps := ["tape", "dance", "most"]) fun _ _ _ _ _ _ us hl => match us, hl with | [_, _, _], _ => rfl
  obtain ⟨fd21, G21⟩ := cd.def_ 21 (d := d__law_near_word) rfl
  have F__law_near_word : Fun K "_law_near_word" "_law_near_word" s_law_near_word _ fd21 := fun_of G21 rfl rfl rfl rfl rfl
  have m__law_near_word := He.glo_ok X G (cd.fact 21 (f := .glo "_law_near_word") rfl)
  have b__law_near_word := F__law_near_word.binds (ps := ["tape"]) fun _ _ _ _ _ _ us hl => match us, hl with | [_], _ => rfl
  obtain ⟨fd22, G22⟩ := cd.def_ 22 (d := d__law_odd_move) rfl
  have F__law_odd_move : Fun K "_law_odd_move" "_law_odd_move" s_law_odd_move _ fd22 := fun_of G22 rfl rfl rfl rfl rfl
  have m__law_odd_move := He.glo_ok X G (cd.fact 22 (f := .glo "_law_odd_move") rfl)
  have b__law_odd_move := F__law_odd_move.binds (ps := ["tape", "move"]) fun _ _ _ _ _ _ us hl => match us, hl with | [_, _], _ => rfl
  obtain ⟨fd23, G23⟩ := cd.def_ 23 (d := d__law_run) rfl
  have F__law_run : Fun K "_law_run" "_law_run" s_law_run _ fd23 := fun_of G23 rfl rfl rfl rfl rfl
  have m__law_run := He.glo_ok X G (cd.fact 23 (f := .glo "_law_run") rfl)
  have b__law_run := F__law_run.binds (ps := ["count"]) fun _ _ _ _ _ _ us hl => match us, hl with | [_], _ => rfl
  obtain ⟨fd24, G24⟩ := cd.def_ 24 (d := d__law_standard) rfl
  have F__law_standard : Fun K "_law_standard" "_law_standard" s_law_standard _ fd24 := fun_of G24 rfl rfl rfl rfl rfl
  have m__law_standard := He.glo_ok X G (cd.fact 24 (f := .glo "_law_standard") rfl)
  have b__law_standard := F__law_standard.binds (ps := ["value"]) fun _ _ _ _ _ _ us hl => match us, hl with | [_], _ => rfl
  obtain ⟨fd25, G25⟩ := cd.def_ 25 (d := d__law_diagram) rfl
  have F__law_diagram : Fun K "_law_diagram" "_law_diagram" s_law_diagram _ fd25 := fun_of G25 rfl rfl rfl rfl rfl
  have m__law_diagram := He.glo_ok X G (cd.fact 25 (f := .glo "_law_diagram") rfl)
  have b__law_diagram := F__law_diagram.binds (ps := ["dance"]) fun _ _ _ _ _ _ us hl => match us, hl with | [_], _ => rfl
  obtain ⟨fd26, G26⟩ := cd.def_ 26 (d := d__law_colouring) rfl
  have F__law_colouring : Fun K "_law_colouring" "_law_colouring" s_law_colouring _ fd26 := fun_of G26 rfl rfl rfl rfl rfl
  have m__law_colouring := He.glo_ok X G (cd.fact 26 (f := .glo "_law_colouring") rfl)
  have b__law_colouring := F__law_colouring.binds (ps := ["dance", "first", "second"]) fun _ _ _ _ _ _ us hl => match us, hl with | [_, _, _], _ => rfl
  obtain ⟨fd27, G27⟩ := cd.def_ 27 (d := d__law_is_colouring) rfl
  have F__law_is_colouring : Fun K "_law_is_colouring" "_law_is_colouring" s_law_is_colouring _ fd27 := fun_of G27 rfl rfl rfl rfl rfl
  have m__law_is_colouring := He.glo_ok X G (cd.fact 27 (f := .glo "_law_is_colouring") rfl)
  have b__law_is_colouring := F__law_is_colouring.binds (ps := ["dance", "colours"]) fun _ _ _ _ _ _ us hl => match us, hl with | [_, _], _ => rfl
  obtain ⟨fd28, G28⟩ := cd.def_ 28 (d := d__law_spoilt) rfl
  have F__law_spoilt : Fun K "_law_spoilt" "_law_spoilt" s_law_spoilt _ fd28 := fun_of G28 rfl rfl rfl rfl rfl
  have m__law_spoilt := He.glo_ok X G (cd.fact 28 (f := .glo "_law_spoilt") rfl)
  have b__law_spoilt := F__law_spoilt.binds (ps := ["tape", "colours"]) fun _ _ _ _ _ _ us hl => match us, hl with | [_, _], _ => rfl
  obtain ⟨fd29, G29⟩ := cd.def_ 29 (d := d__law_reading) rfl
  have F__law_reading : Fun K "_law_reading" "_law_reading" s_law_reading _ fd29 := fun_of G29 rfl rfl rfl rfl rfl
  have m__law_reading := He.glo_ok X G (cd.fact 29 (f := .glo "_law_reading") rfl)
  have b__law_reading := F__law_reading.binds (ps := ["dance", "colours"]) fun _ _ _ _ _ _ us hl => match us, hl with | [_, _], _ => rfl
  obtain ⟨fd30, G30⟩ := cd.def_ 30 (d := d__law_leads) rfl
  have F__law_leads : Fun K "_law_leads" "_law_leads" s_law_leads _ fd30 := fun_of G30 rfl rfl rfl rfl rfl
  have m__law_leads := He.glo_ok X G (cd.fact 30 (f := .glo "_law_leads") rfl)
  have b__law_leads := F__law_leads.binds (ps := ["one", "moves", "other"]) fun _ _ _ _ _ _ us hl => match us, hl with | [_, _, _], _ => rfl
  obtain ⟨fd31, G31⟩ := cd.def_ 31 (d := d__law_accepted) rfl
  have F__law_accepted : Fun K "_law_accepted" "_law_accepted" s_law_accepted _ fd31 := fun_of G31 rfl rfl rfl rfl rfl
  have m__law_accepted := He.glo_ok X G (cd.fact 31 (f := .glo "_law_accepted") rfl)
  have b__law_accepted := F__law_accepted.binds (ps := ["one", "other", "paper"]) fun _ _ _ _ _ _ us hl => match us, hl with | [_, _, _], _ => rfl
  obtain ⟨fd32, G32⟩ := cd.def_ 32 (d := d__law_other) rfl
  have F__law_other : Fun K "_law_other" "_law_other" s_law_other _ fd32 := fun_of G32 rfl rfl rfl rfl rfl
  have m__law_other := He.glo_ok X G (cd.fact 32 (f := .glo "_law_other") rfl)
  have b__law_other := F__law_other.binds (ps := ["tape", "dance"]) fun _ _ _ _ _ _ us hl => match us, hl with | [_, _], _ => rfl
  obtain ⟨fd33, G33⟩ := cd.def_ 33 (d := d__law_papers) rfl
  have F__law_papers : Fun K "_law_papers" "_law_papers" s_law_papers _ fd33 := fun_of G33 rfl rfl rfl rfl rfl
  have m__law_papers := He.glo_ok X G (cd.fact 33 (f := .glo "_law_papers") rfl)
  have b__law_papers := F__law_papers.binds (ps := ["tape", "one", "other", "moves"]) fun _ _ _ _ _ _ us hl => match us, hl with | [_, _, _, _], _ => rfl
  obtain ⟨fd34, G34⟩ := cd.def_ 34 (d := d__law_changed) rfl
  have F__law_changed : Fun K "_law_changed" "_law_changed" s_law_changed _ fd34 := fun_of G34 rfl rfl rfl rfl rfl
  have m__law_changed := He.glo_ok X G (cd.fact 34 (f := .glo "_law_changed") rfl)
  have b__law_changed := F__law_changed.binds (ps := ["tape", "paper"]) fun _ _ _ _ _ _ us hl => match us, hl with | [_, _], _ => rfl
  obtain ⟨fd35, G35⟩ := cd.def_ 35 (d := d__law_holds) rfl
  have F__law_holds : Fun K "_law_holds" "_law_holds" s_law_holds _ fd35 := fun_of G35 rfl rfl rfl rfl rfl
  have m__law_holds := He.glo_ok X G (cd.fact 35 (f := .glo "_law_holds") rfl)
  have b__law_holds := F__law_holds.binds (ps := ["one", "other", "paper"]) fun _ _ _ _ _ _ us hl => match us, hl with | [_, _, _], _ => rfl
  obtain ⟨fd36, G36⟩ := cd.def_ 36 (d := d__law_single) rfl
  have F__law_single : Fun K "_law_single" "_law_single" s_law_single _ fd36 := fun_of G36 rfl rfl rfl rfl rfl
  have m__law_single := He.glo_ok X G (cd.fact 36 (f := .glo "_law_single") rfl)
  have b__law_single := F__law_single.binds (ps := ["tape", "one"]) fun _ _ _ _ _ _ us hl => match us, hl with | [_, _], _ => rfl
  obtain ⟨fd37, G37⟩ := cd.def_ 37 (d := d_law) rfl
  have F_law : Fun K "law" "law" s_law _ fd37 := fun_of G37 rfl rfl rfl rfl rfl
  have m_law := He.glo_ok X G (cd.fact 37 (f := .glo "law") rfl)
  have b_law := F_law.binds (ps := ["script"]) fun _ _ _ _ _ _ us hl => match us, hl with | [_], _ => rfl
  have y_len := He.free_ok X G (cd.fact 38 (f := .free "len") rfl)
  have y_abs := He.free_ok X G (cd.fact 39 (f := .free "abs") rfl)
  have y_int := He.free_ok X G (cd.fact 40 (f := .free "int") rfl)
  have y_range := He.free_ok X G (cd.fact 41 (f := .free "range") rfl)
  have y_isinstance := He.free_ok X G (cd.fact 42 (f := .free "isinstance") rfl)
  have y_tuple := He.free_ok X G (cd.fact 43 (f := .free "tuple") rfl)
  have y_list := He.free_ok X G (cd.fact 44 (f := .free "list") rfl)
  have y_str := He.free_ok X G (cd.fact 45 (f := .free "str") rfl)
  have y_bool := He.free_ok X G (cd.fact 46 (f := .free "bool") rfl)
  have y_all := He.free_ok X G (cd.fact 47 (f := .free "all") rfl)
  have y_reversed := He.free_ok X G (cd.fact 48 (f := .free "reversed") rfl)
  have fa0 := cd.fact 49 (f := .exc "BadMove") rfl
  have fa1 := cd.fact 50 (f := .exm "BadMove" "BadMove" true) rfl
  have fa2 := cd.fact 51 (f := .glo "BadMove") rfl
  have fa3 := cd.fact 52 (f := .str "WORD_IN_FRONT" "RTR") rfl
  have fa4 := cd.fact 53 (f := .glo "WORDS") rfl
  have e := hfa.symm.trans m_law
  cases e
  refine ⟨fd37, fun s v => ?_, fun base KB GB TB => ?_⟩
  · obtain ⟨oc, od, kV, doc, pm, an, cdv, ct, osl, e, _⟩ := F_law.ex
    rw [e]
    exact .of_eq rfl
  have mo := c.more
  unfold exs at mo
  obtain ⟨mo1, mo⟩ := He.ba mo
  obtain ⟨mo2, mo⟩ := He.ba mo
  obtain ⟨mo3, mo⟩ := He.ba mo
  obtain ⟨mo4, mo⟩ := He.ba mo
  obtain ⟨mo5, mo⟩ := He.ba mo
  obtain ⟨mo6, mo7⟩ := He.ba mo
  have g_gcd := PySem.W.mg_of X G (He.eqO_ok mo1)
  have ex := He.exc_ok fa0
  have EC : Err K mg "BadMove" (He.ga K "BadMove") := ⟨He.glo_ok X G fa2, ex.1, ex.2.1, ex.2.2.1, ex.2.2.2, mo2, He.eqO_ok mo3, He.eqO_ok mo4, He.eqO_ok mo5, of_decide_eq_true mo6⟩
  have XC := He.exm_ok fa1
  obtain ⟨tF, gF⟩ := He.str_ok X G fa3
  have gW := He.glo_ok X G fa4
  have hW := words_ok mo7
  have D_tape : Dfn P w K mg base "_law_tape" 1 _ (spTape K) := ⟨_, _, ok_tape F__law_tape y_len y_abs y_int, m__law_tape, F__law_tape.kp, b__law_tape⟩
  have D_take : Dfn P w K mg base "_law_take" 1 _ spTake := ⟨_, _, ok_take F__law_take y_int, m__law_take, F__law_take.kp, b__law_take⟩
  have D_dance : Dfn P w K mg base "_law_dance" 2 _ spDance := ⟨_, _, ok_dance F__law_dance D_take y_range, m__law_dance, F__law_dance.kp, b__law_dance⟩
  have D_called : Dfn P w K mg base "_law_called" 1 _ (spCalled K) := ⟨_, _, ok_called F__law_called, m__law_called, F__law_called.kp, b__law_called⟩
  have D_number : Dfn P w K mg base "_law_number" 2 _ (spNumber K) := ⟨_, _, ok_number F__law_number D_called, m__law_number, F__law_number.kp, b__law_number⟩
  have D_says : Dfn P w K mg base "_law_says" 1 _ spSays := ⟨_, _, ok_says F__law_says y_isinstance y_bool, m__law_says, F__law_says.kp, b__law_says⟩
  have D_divisor : Dfn P w K mg base "_law_divisor" 1 _ spDivisor := ⟨_, _, ok_divisor F__law_divisor y_abs y_int, m__law_divisor, F__law_divisor.kp, b__law_divisor⟩
  have D_diagram : Dfn P w K mg base "diagram" 1 _ spDiag := ⟨_, _, ok_diagram F_diagram  , m_diagram, F_diagram.kp, b_diagram⟩
  have D_fraction : Dfn P w K mg base "fraction" 1 _ spFrac := ⟨_, _, ok_frac F_fraction g_gcd, m_fraction, F_fraction.kp, b_fraction⟩
  have D_is_plain : Dfn P w K mg base "is_plain" 1 _ spPlain := ⟨_, _, ok_is_plain F_is_plain y_len , m_is_plain, F_is_plain.kp, b_is_plain⟩
  have TBG : GxR.TabB base mg (He.cT K ("is_colouring", none)).1 (He.cT K ("is_colouring", none)).2 := by
    have t := TB (He.cT K ("is_colouring", none)) (List.mem_map.mpr ⟨("is_colouring", none), List.mem_cons_self .., rfl⟩)
    exact ⟨t.code, t.bm, t.gP⟩
  have codeIs : fd2.code = .ref (He.cT K ("is_colouring", none)).1 := by
    obtain ⟨oc, od, kV, doc, pm, an, cdv, ct, osl, e, lk, cdn⟩ := F_is_colouring.ex
    obtain ⟨x, hx⟩ := He.codeIn_ref cdn
    have hc : fd2.code = .ref x := by rw [e]; exact hx
    rw [hc]
    exact congrArg Value.ref (He.codeOf_eq (p := ("is_colouring", none)) lk hc).symm
  have D_is_colouring : Dfn P w K mg base "is_colouring" 2 _ (spIsCol (He.cT K ("is_colouring", none)).2) := ⟨_, _, ok_is_colouring F_is_colouring codeIs TBG D_diagram y_all y_len, m_is_colouring, F_is_colouring.kp, b_is_colouring⟩
  have D_reading : Dfn P w K mg base "reading" 3 _ (spReading (He.cT K ("is_colouring", none)).2) := ⟨_, _, ok_reading F_reading (D_is_plain.mono (by decide)) D_is_colouring (D_diagram.mono (by decide)) (D_fraction.mono (by decide)) , m_reading, F_reading.kp, b_reading⟩
  have D_law_is_move : Dfn P w K mg base "_law_is_move" 1 _ spIsMove := ⟨_, _, ok_law_is_move F__law_is_move  , m__law_is_move, F__law_is_move.kp, b__law_is_move⟩
  have D_is_move : Dfn P w K mg base "is_move" 1 _ spIsMove := ⟨_, _, ok_is_move F_is_move  gW hW gF, m_is_move, F_is_move.kp, b_is_move⟩
  have D_law_made : Dfn P w K mg base "_law_made" 2 _ spLawMade := ⟨_, _, ok_law_made F__law_made D_law_is_move y_len , m__law_made, F__law_made.kp, b__law_made⟩
  have D_law_put : Dfn P w K mg base "_law_put" 2 _ spPut := ⟨_, _, ok_law_put F__law_put D_take y_len , m__law_put, F__law_put.kp, b__law_put⟩
  have D_law_taken : Dfn P w K mg base "_law_taken" 3 _ spTaken := ⟨_, _, ok_law_taken F__law_taken D_law_put (D_take.mono (by decide)) y_range y_len , m__law_taken, F__law_taken.kp, b__law_taken⟩
  have D_near_word : Dfn P w K mg base "_law_near_word" 2 _ spNear := ⟨_, _, ok_near_word F__law_near_word D_take y_len y_range , m__law_near_word, F__law_near_word.kp, b__law_near_word⟩
  have D_odd_move : Dfn P w K mg base "_law_odd_move" 3 _ spOdd := ⟨_, _, ok_odd_move F__law_odd_move (D_take.mono (by decide)) D_near_word y_len , m__law_odd_move, F__law_odd_move.kp, b__law_odd_move⟩
  have D_law_moves : Dfn P w K mg base "_law_moves" 4 _ spMoves := ⟨_, _, ok_law_moves F__law_moves (D_take.mono (by decide)) (D_law_put.mono (by decide)) D_law_taken (D_law_made.mono (by decide)) y_range y_len , m__law_moves, F__law_moves.kp, b__law_moves⟩
  have D_leads : Dfn P w K mg base "leads" 3 _ spLeadsG := ⟨_, _, ok_leads F_leads  (ok_madeX F_made D_is_move y_len EC) m_made F_made.kp b_made EC.g XC, m_leads, F_leads.kp, b_leads⟩
  have D_law_spoilt : Dfn P w K mg base "_law_spoilt" 2 _ spSpoilt := ⟨_, _, ok_law_spoilt F__law_spoilt D_take y_len y_list , m__law_spoilt, F__law_spoilt.kp, b__law_spoilt⟩
  have D_law_run : Dfn P w K mg base "_law_run" 1 _ spRun := ⟨_, _, ok_law_run F__law_run  , m__law_run, F__law_run.kp, b__law_run⟩
  have D_law_standard : Dfn P w K mg base "_law_standard" 2 _ spStdL := ⟨_, _, ok_law_standard F__law_standard D_law_run , m__law_standard, F__law_standard.kp, b__law_standard⟩
  have D_law_diagram : Dfn P w K mg base "_law_diagram" 1 _ spDiag := ⟨_, _, ok_law_diagram F__law_diagram  , m__law_diagram, F__law_diagram.kp, b__law_diagram⟩
  have D_law_colouring : Dfn P w K mg base "_law_colouring" 2 _ spCol := ⟨_, _, ok_law_colouring F__law_colouring D_law_diagram , m__law_colouring, F__law_colouring.kp, b__law_colouring⟩
  have D_law_is_colouring : Dfn P w K mg base "_law_is_colouring" 2 _ spLawIsCol := ⟨_, _, ok_law_is_colouring F__law_is_colouring D_law_diagram y_len , m__law_is_colouring, F__law_is_colouring.kp, b__law_is_colouring⟩
  have D_law_reading : Dfn P w K mg base "_law_reading" 3 _ spLawReading := ⟨_, _, ok_law_reading F__law_reading D_law_is_colouring (D_law_diagram.mono (by decide)) (D_divisor.mono (by decide)) y_len , m__law_reading, F__law_reading.kp, b__law_reading⟩
  have D_law_leads : Dfn P w K mg base "_law_leads" 3 _ spLeadsG := ⟨_, _, ok_law_leads F__law_leads D_law_made , m__law_leads, F__law_leads.kp, b__law_leads⟩
  have D_accepts : Dfn P w K mg base "accepts" 5 _ (spAcc15 (He.cT K ("is_colouring", none)).2) := ⟨_, _, ok_accepts F_accepts (D_leads.mono (by decide)) (D_reading.mono (by decide)) , m_accepts, F_accepts.kp, b_accepts⟩
  have D_law_accepted : Dfn P w K mg base "_law_accepted" 4 _ spAccd15 := ⟨_, _, ok_law_accepted F__law_accepted D_law_leads D_law_reading , m__law_accepted, F__law_accepted.kp, b__law_accepted⟩
  have D_law_holds : Dfn P w K mg base "_law_holds" 8 _ (spPHolds (He.cT K ("is_colouring", none)).2) := ⟨_, _, ok_law_holds F__law_holds (D_accepts.mono (by decide)) (D_says.mono (by decide)) (D_law_accepted.mono (by decide)) y_tuple y_list , m__law_holds, F__law_holds.kp, b__law_holds⟩
  have D_law_other : Dfn P w K mg base "_law_other" 5 _ spOther := ⟨_, _, ok_law_other F__law_other (D_take.mono (by decide)) (D_dance.mono (by decide)) D_law_moves (D_law_standard.mono (by decide)) (D_number.mono (by decide)) y_len , m__law_other, F__law_other.kp, b__law_other⟩
  have D_law_changed : Dfn P w K mg base "_law_changed" 5 _ spPChanged := ⟨_, _, ok_law_changed F__law_changed (D_take.mono (by decide)) (D_law_spoilt.mono (by decide)) (D_odd_move.mono (by decide)) y_len , m__law_changed, F__law_changed.kp, b__law_changed⟩
  have D_law_papers : Dfn P w K mg base "_law_papers" 3 _ spPPapers := ⟨_, _, ok_law_papers F__law_papers D_dance (D_take.mono (by decide)) D_law_colouring y_reversed , m__law_papers, F__law_papers.kp, b__law_papers⟩
  have D_law_single : Dfn P w K mg base "_law_single" 9 _ (spPSingle (He.cT K ("is_colouring", none)).2) := ⟨_, _, ok_law_single F__law_single (D_odd_move.mono (by decide)) (D_law_taken.mono (by decide)) (D_law_put.mono (by decide)) (D_take.mono (by decide)) D_law_holds y_len , m__law_single, F__law_single.kp, b__law_single⟩
  exact ok_law F_law (D_tape.mono (by decide)) (D_dance.mono (by decide)) (D_law_moves.mono (by decide)) (D_take.mono (by decide)) (D_law_other.mono (by decide)) D_law_single (D_law_papers.mono (by decide)) (D_law_holds.mono (by decide)) (D_law_changed.mono (by decide)) y_range
end Rope
open PySem PySem.W PySem.Calls PyProof.Rows
set_option maxRecDepth 100000 in
set_option maxHeartbeats 0 in
theorem PySem.Challenge.cw_ropedance_k15_papers_holds : PySem.Challenge.rw_ropedance_k15_papers.Holds := by
  w_on; o_law
  refine HandSHeadRun.head_imp (r := OpenLaw.row PySem.Challenge.rw_ropedance_k15_papers) (q := view (OpenLaw.row PySem.Challenge.rw_ropedance_k15_papers).prog [0, 50]) (H := Rope.hk) (ob := Rope.ob) (M := 9000) (loose := ((["fraction", "diagram", "is_colouring", "is_plain", "reading", "is_move", "made", "leads", "accepts", "_law_tape", "_law_take", "_law_dance", "_law_called", "_law_number", "_law_says", "_law_divisor", "_law_is_move", "_law_made", "_law_put", "_law_taken", "_law_moves", "_law_near_word", "_law_odd_move", "_law_run", "_law_standard", "_law_diagram", "_law_colouring", "_law_is_colouring", "_law_spoilt", "_law_reading"] : List PySem.Str) ++ (["_law_leads", "_law_accepted", "_law_other", "_law_papers", "_law_changed", "_law_holds", "_law_single", "RopeError", "NoFraction", "BadMove", "WORDS", "WORD_IN_FRONT", "_law_same"] : List PySem.Str))) (d := HandSHeadRun.topDef (OpenLaw.row PySem.Challenge.rw_ropedance_k15_papers).prog 50) (kwd := []) Rope.ob_eq
    Rope.head_run (by kernel_rfl) (by kernel_rfl) (by kernel_rfl) (by rfl) (by first | assumption | decide +kernel) (by decide +kernel) ⟨rfl, rfl, rfl, rfl, rfl, by decide +kernel⟩ ?hw ?hc
  case hw => w_witness2
  case hc =>
    refine LamX.walk_ofTsE (l := PySem.Challenge.rw_ropedance_k15_papers) (n := 63) (k := 10) (x := "script") (CX := fun _ => L2.CX0) rfl (by decide) (by kernel_rfl) ⟨rfl, by decide, by decide⟩ ?F (fun _ _ _ _ _ z => z)
    intro w mg fa h Y G hmg0
    obtain ⟨K, KX, c⟩ := Y
    have hmg : mg ("law" : PySem.Str) = some (.ref fa) := by
      have e : (HandSHeadRun.topDef (OpenLaw.row PySem.Challenge.rw_ropedance_k15_papers).prog 50).name = ("law" : PySem.Str) := by kernel_rfl
      rw [← e]
      exact hmg0
    obtain ⟨fd, hb, hF⟩ := Rope.all_facts (P := (PySem.Challenge.rw_ropedance_k15_papers).prog) (w := w) KX G hmg c
    refine ⟨K, KX, fd, Rope.tfs.map (He.cT K), Rope.spLawK K, fun p hp => ?_, fun p hp => ?_, fun p hp => ?_, hb, Rope.spLaw_from K, hF⟩
    · obtain ⟨x, hx, rfl⟩ := List.mem_map.mp hp
      exact c.empty x hx
    · obtain ⟨x, hx, rfl⟩ := List.mem_map.mp hp
      exact c.out x hx
    · obtain ⟨x, hx, rfl⟩ := List.mem_map.mp hp
      exact PySem.W.codeHd_of_K KX (c.hd x hx)
