import PyProof.Rows.All
import Wide.All
import OpenK.AllK
import Wide.FinOn
import PyProof.StrBlock2
import HandS.ForMost
import HandS.Wide
import HandS.IsInst
import HandS.Exc
import HandS.ExcOwn
import HandS.ExcCtx
import HandS.ExcIs
import HandS.Hot
import HandS.WordsExc
import HandS.Gcd
import HandS.AnyAll
import HandS.Style
import HandS.More
import HandS.Dict
import HandS.Conv
import KE.KDictDisplayH
import HandS.List
import HandS.TupLe
import HandS.WideBits
import HandS.RevRange
import HandS.Deep
import HandS.Strs
import HandS.Walk
import HandS.Property
import HandS.Words
import HandS.GenList
import HandS.Comp
import HandS.HeadHook4
import HandS.HeadEnd
import HandS.HeadWalk
import HandS.Head0
import HandS.Head1
import HandS.Head2
import HandS.Head3
import PySem.Challenge.RW_ropedance_k19_least_dances
set_option Elab.async false
set_option linter.all false
set_option maxRecDepth 100000
set_option maxHeartbeats 4000000
namespace Rope
open PySem L2


/-! ### texts as lists of codes -/
def S (l : List Nat) : Str := ⟨l.toArray⟩
theorem S_len (l : List Nat) : (S l).length = l.length := by simp [S, Str.length]
theorem S_list (l : List Nat) : (S l).cps.toList = l := by simp [S]
theorem S_size (l : List Nat) : (S l).cps.size = l.length := by simp [S]
theorem S_get (l : List Nat) (i : Nat) : (S l).cps[i]? = l[i]? := by simp [S]
theorem S_inj {l m : List Nat} (h : S l = S m) : l = m := by
  have := congrArg (fun z : Str => z.cps.toList) h
  simpa [S] using this
theorem S_app (l m : List Nat) : S l ++ S m = S (l ++ m) := by
  show Str.append (S l) (S m) = S (l ++ m)
  simp [Str.append, S]
theorem S_mul (l : List Nat) (n : Int) : Txt.mul (S l) n = S (List.replicate n.toNat l).flatten := by
  unfold Txt.mul
  by_cases h1 : n < 1
  · rw [if_pos h1]
    have : n.toNat = 0 := by omega
    rw [this]
    rfl
  · rw [if_neg h1]
    by_cases h2 : (n == 1 || (S l).length == 0) = true
    · rw [if_pos h2]
      simp only [Bool.or_eq_true, beq_iff_eq] at h2
      rcases h2 with h2 | h2
      · subst h2
        show S l = S (List.replicate 1 l).flatten
        simp
      · rw [S_len] at h2
        have : l = [] := List.eq_nil_of_length_eq_zero h2
        subst this
        simp
    · rw [if_neg h2]
      have aux : ∀ (k : Nat) (a : Array Nat), ((List.replicate k (S l).cps).foldl (· ++ ·) a).toList = a.toList ++ (List.replicate k l).flatten := by
        intro k
        induction k with
        | zero => intro a; simp
        | succ k ih =>
          intro a
          rw [List.replicate_succ, List.foldl_cons, ih, List.replicate_succ, List.flatten_cons, Array.toList_append, List.append_assoc, S_list]
      have := aux n.toNat #[]
      unfold S
      congr 1
      apply Array.toList_inj.mp
      rw [show S l = (⟨l.toArray⟩ : Str) from rfl] at this
      rw [this]
      simp
theorem S_cut (l : List Nat) (lo hi : Option Int) : cutS (S l) lo hi = S ((l.drop (HT.sIx l.length 0 lo)).take (HT.sIx l.length l.length hi - HT.sIx l.length 0 lo)) := by
  unfold cutS
  rw [S_len, S_list]
  rfl
theorem S_take (l : List Nat) {m : Int} (h : 0 ≤ m) : cutS (S l) none (some m) = S (l.take m.toNat) := by
  obtain ⟨k, rfl⟩ := Int.eq_ofNat_of_zero_le h
  rw [S_cut, HT.sIx_none, HT.sIx_nat, List.drop_zero, Nat.sub_zero, Int.toNat_natCast]
  congr 1
  by_cases h2 : k ≤ l.length
  · rw [Nat.min_eq_left h2]
  · rw [Nat.min_eq_right (by omega), List.take_of_length_le (Nat.le_refl _), List.take_of_length_le (by omega)]
theorem S_drop (l : List Nat) {m : Int} (h : 0 ≤ m) : cutS (S l) (some m) none = S (l.drop m.toNat) := by
  obtain ⟨k, rfl⟩ := Int.eq_ofNat_of_zero_le h
  rw [S_cut, HT.sIx_none, HT.sIx_nat, Int.toNat_natCast]
  congr 1
  rw [List.take_of_length_le (by simp)]
  by_cases h2 : k ≤ l.length
  · rw [Nat.min_eq_left h2]
  · rw [Nat.min_eq_right (by omega), List.drop_length, List.drop_eq_nil_of_le (by omega)]
/-- a text times an int -/
theorem op_mul_str {X : Cx} : OpR X (binaryOp .Mult) (fun x y H Q => ∃ (l : List Nat) (n : Int), x = .str (S l) ∧ y = .int n ∧ 0 ≤ n ∧ n < 2 ^ 62 ∧ l.length * n.toNat ≤ 16777215 ∧ Q (.str (S (List.replicate n.toNat l).flatten)) H) := by
  intro pins s σ H x y v u Q I rx ry h
  obtain ⟨l, n, rfl, rfl, h0, h1, h2, q⟩ := h
  obtain ⟨t, rfl⟩ := rx
  obtain ⟨t', rfl⟩ := ry
  have e1 : decide (n < -(2 ^ 63 : Int)) = false := decide_eq_false (by omega)
  have e2 : decide (n ≥ 2 ^ 63) = false := decide_eq_false (by omega)
  refine SB.mul ⟨by rw [e1, e2]; rfl, fun z1 z2 => ?_, fun z1 z2 => ?_⟩ fun t' k => ⟨.str _, H, I.tok _, ⟨_, rfl⟩, by rw [S_mul]; exact q⟩
  · rw [S_len]
    have h3 : (l.length : Int) * n ≤ 16777215 := by
      have : ((l.length * n.toNat : Nat) : Int) ≤ 16777215 := Int.ofNat_le.mpr h2
      rw [Int.natCast_mul, Int.toNat_of_nonneg h0] at this
      exact this
    have hn : 0 < n := by omega
    intro hc
    have hc' : (2 ^ 63 - 1) / n < (l.length : Int) := hc
    have := (Int.ediv_lt_iff_lt_mul hn).mp hc'
    omega
  · rw [S_len]
    unfold Builtin.Str.tooLong
    rw [sizeLine_eq]
    exact decide_eq_false (by omega)
/-! ### the calls: a fraction by a letter -/
def called (v : Int × Int) (c : Nat) : Int × Int :=
  if c = 84 then (v.1 + v.2, v.2) else if c = 85 then (v.1 - v.2, v.2) else if 0 < v.1 then (0 - v.2, v.1) else if v.1 < 0 then (v.2, 0 - v.1) else (1, 0)
def run (v : Int × Int) (l : List Nat) : Int × Int := l.foldl called v
theorem run_nil (v : Int × Int) : run v [] = v := rfl
theorem run_app (v : Int × Int) (l m : List Nat) : run v (l ++ m) = run (run v l) m := List.foldl_append
theorem run_take {l : List Nat} {i c : Nat} (v : Int × Int) (h : l[i]? = some c) : run v (l.take (i + 1)) = called (run v (l.take i)) c := by
  rw [List.take_add_one, h, run_app]
  rfl
/-- what a fraction of the laws keeps: q positive or infinite, no common divisor -/
def Good (v : Int × Int) : Prop := (0 < v.2 ∨ v = (1, 0)) ∧ Int.gcd v.1 v.2 = 1
theorem Good.zero : Good (0, 1) := ⟨.inl (by decide), by decide⟩
theorem gcd_add' (p q : Int) : Int.gcd (p + q) q = Int.gcd p q := by
  have := Int.gcd_add_mul_right_left p q 1
  simpa using this
theorem Good.called {v : Int × Int} (h : Good v) (c : Nat) : Good (called v c) := by
  obtain ⟨p, q⟩ := v
  obtain ⟨h1, h2⟩ := h
  simp only at h1 h2
  unfold Rope.called
  by_cases c1 : c = 84
  · rw [if_pos c1]
    refine ⟨?_, ?_⟩
    · rcases h1 with h1 | h1
      · exact .inl h1
      · cases h1; exact .inr rfl
    · show Int.gcd (p + q) q = 1
      rw [gcd_add']; exact h2
  rw [if_neg c1]
  by_cases c2 : c = 85
  · rw [if_pos c2]
    refine ⟨?_, ?_⟩
    · rcases h1 with h1 | h1
      · exact .inl h1
      · cases h1; exact .inr rfl
    · show Int.gcd (p - q) q = 1
      have := gcd_add' (p - q) q
      rw [Int.sub_add_cancel] at this
      rw [← this]; exact h2
  rw [if_neg c2]
  by_cases c3 : 0 < p
  · rw [if_pos (show 0 < (p, q).1 from c3)]
    refine ⟨.inl c3, ?_⟩
    show Int.gcd (0 - q) p = 1
    rw [Int.zero_sub, Int.neg_gcd, Int.gcd_comm]; exact h2
  rw [if_neg (show ¬ 0 < (p, q).1 from c3)]
  by_cases c4 : p < 0
  · rw [if_pos (show (p, q).1 < 0 from c4)]
    refine ⟨.inl (by show 0 < 0 - p; omega), ?_⟩
    show Int.gcd q (0 - p) = 1
    rw [Int.zero_sub, Int.gcd_neg, Int.gcd_comm]; exact h2
  rw [if_neg (show ¬ (p, q).1 < 0 from c4)]
  exact ⟨.inr rfl, by decide⟩
theorem good_run : ∀ (l : List Nat) {v : Int × Int}, Good v → Good (run v l)
  | [], _, h => h
  | c :: r, _, h => good_run r (h.called c)
/-- its size grows by a bit a letter -/
theorem called_size {v : Int × Int} {n : Nat} (h1 : v.1.natAbs ≤ n) (h2 : v.2.natAbs ≤ n) (h0 : 1 ≤ n) (c : Nat) : (called v c).1.natAbs ≤ 2 * n ∧ (called v c).2.natAbs ≤ 2 * n := by
  unfold called
  repeat' split
  all_goals simp only
  all_goals omega
theorem run_size : ∀ (l : List Nat) {v : Int × Int} {n : Nat}, v.1.natAbs ≤ n → v.2.natAbs ≤ n → 1 ≤ n → (run v l).1.natAbs ≤ 2 ^ l.length * n ∧ (run v l).2.natAbs ≤ 2 ^ l.length * n
  | [], v, n, h1, h2, _ => by simpa [run] using ⟨h1, h2⟩
  | c :: r, v, n, h1, h2, h0 => by
    have q := called_size h1 h2 h0 c
    have ih := run_size r q.1 q.2 (by omega)
    have e : 2 ^ (c :: r).length * n = 2 ^ r.length * (2 * n) := by
      rw [List.length_cons, Nat.pow_succ, Nat.mul_assoc]
    rw [e]
    exact ih
/-! ### the divisor -/
theorem gcd_step (x y : Int) : Nat.gcd y.natAbs (x.fmod y).natAbs = Nat.gcd x.natAbs y.natAbs := by
  show Int.gcd y (x.fmod y) = Int.gcd x y
  have e : x.fmod y = x + y * (-(x.fdiv y)) := by
    have := Int.fmod_def x y
    rw [this, Int.mul_neg]
    rfl
  rw [e, Int.gcd_add_mul_left_right, Int.gcd_comm]
theorem fmod_less {x y : Int} (h : y ≠ 0) : (x.fmod y).natAbs < y.natAbs := by
  by_cases h0 : 0 < y
  · rw [Int.fmod_eq_emod_of_nonneg x (by omega)]
    have h1 := Int.emod_nonneg x h
    have h2 := Int.emod_lt_of_pos x h0
    omega
  · have e : x.fmod y = -((-x).fmod (-y)) := by
      have := Int.neg_fmod_neg (a := x) (b := y)
      omega
    rw [e, Int.fmod_eq_emod_of_nonneg _ (by omega)]
    have h1 := Int.emod_nonneg (-x) (b := -y) (by omega)
    have h2 := Int.emod_lt_of_pos (-x) (b := -y) (by omega)
    omega
/-- for letter in text -/
theorem for_str {l : List Nat} {g : TG} {tb : TS} {D : Ends} {σ : L2.St} {H : Hp} (Pv : Nat → L2.St → Hp → Prop) (h0 : Pv 0 σ H)
    (hs : ∀ i c σ H, l[i]? = some c → Pv i σ H → g (.str (S [c])) σ H fun σ2 H2 => tb { D with nx := Pv (i + 1), ct := Pv (i + 1), bk := D.nx } σ2 H2) (hd : ∀ σ H, Pv l.length σ H → D.nx σ H) :
    ∃ W : Nat → Nat → L2.St → Hp → Prop, (∃ m, W 0 m σ H) ∧ ∀ i m σ H, W i m σ H →
      ((Its (S l)).stop i H ∧ D.nx σ H) ∨ ((Its (S l)).go i H ∧ ∃ N : L2.St → Hp → Prop, (∀ σ' H', N σ' H' → ∃ m', m' < m ∧ W (i + 1) m' σ' H') ∧ ∀ x H', (Its (S l)).yld i H x H' → g x σ H' fun σ2 H2 => tb { D with nx := N, ct := N, bk := D.nx } σ2 H2) := by
  refine ⟨fun i m σ H => m = l.length - i ∧ i ≤ l.length ∧ Pv i σ H, ⟨l.length, by simp, Nat.zero_le _, h0⟩, ?_⟩
  rintro i m σ H ⟨rfl, hi, p⟩
  by_cases hlt : i < l.length
  · refine .inr ⟨by show i < (S l).cps.size; rw [S_size]; exact hlt, Pv (i + 1), fun σ' H' p' => ⟨l.length - (i + 1), by omega, rfl, hlt, p'⟩, fun x H' y => ?_⟩
    obtain ⟨e, c, hc, rfl⟩ := y
    subst e
    rw [S_get] at hc
    exact hs i c σ _ hc p
  · have e : i = l.length := by omega
    subst e
    exact .inl ⟨by show (S l).cps.size ≤ l.length; rw [S_size]; exact Nat.le_refl _, hd σ H p⟩

section
open PySem.F HotX
variable {prog : Program} {w : World} {A : Around} {E : Value → Shared → Prop} {s : Shared}
/-- the end of a list's walk while an exception is handled -/
theorem list_end_hot {it l x1 : Addr} {i : Nat} {items : Array Value} {Q : Option Value → Shared → Prop} (hot : HotAt A x1 s.heap) (hne : x1 ≠ it)
    (hit : s.heap.IsListIter it l i) (hl : s.heap.IsList l items) (hx : items[i]? = none)
    (hQ : ∀ h', Heap.ExtBut it s.heap h' → Q none { s with heap := h' }) : wpAny (model prog w) A (pyNext (.ref it)) Q E s := by
  obtain ⟨io, iAt, _, iDat⟩ := id hit
  obtain ⟨lo, lAt, _, ln, lDat⟩ := hl
  obtain ⟨he, xo, xv, xAt, xDat, xCtx⟩ := hot
  have typ := hit.typeIs
  unfold pyNext
  refine wpAny_bind (wpAny_attempt (wpAny_callSpecial?_slot (name := Str.ofString "__next__") typ slot_listiter_next (wpAny_call_entry slot_listiter_next typ entry_listiter_next ?body (args_listiter_next _))))
  -- the list, the place, the items: nothing is left
  show wpAny _ _ (field (.ref it) 0 >>= _) _ _ s; refine wpAny_bind (wpAny_field iAt iDat (x := .ref l) rfl ?_)
  show wpAny _ _ (if (Value.ref l == Value.none) = true then _ else _) _ _ s; rw [if_neg (show ¬ ((Value.ref l == Value.none) = true) from Bool.false_ne_true)]
  show wpAny _ _ (field (.ref it) 1 >>= _) _ _ s; refine wpAny_bind (wpAny_field iAt iDat (x := .int i 0) rfl ?_)
  show wpAny _ _ (seqItems? (.ref l) >>= _) _ _ s; refine wpAny_bind (wpAny_seqItems lAt lDat ?_); simp only [Int.toNat_natCast, hx]
  refine wpAny_bind (wpAny_rule (wpAny_bind (wpAny_setField iAt iDat (by simp) ?stop)))
  -- StopIteration is made and raised on top of the one that is handled
  show wpAny _ _ (newExc (.type "StopIteration") [] >>= _) _ _ _; refine wpAny_bind ?_; simp only [newExc, newTuple]
  refine wpAny_bind (wpAny_newObj_type (wpAny_bind (m := firstArgMember _ _) (wpAny_of_eq (a := Value.none) (by first | rfl | (simp only [firstArgMember]; rfl)) (wpAny_newObj_type ?_ (by size_fits)))) (by size_fits))
  have kept := (Heap.get?_update_other s.heap (Obj.mapFields (·.setIfInBounds 0 .none)) hne.symm).trans xAt
  have far := Heap.lt_size (Heap.get?_push_of_some { cls := .type "tuple", data := .seq #[] } kept)
  refine raiseNew_hot ⟨he, xo, xv, Heap.get?_push_of_some _ (Heap.get?_push_of_some _ kept), xDat, xCtx⟩ (Nat.ne_of_lt far) (Heap.get?_push_size _ rfl) rfl (by first | (simp; done) | (simp; omega) | (simp only [Array.size_append]; simp; omega)) ?_
  refine wpAny_bind (wpAny_isInstance (T := "StopIteration") (b := true) ⟨_, Heap.get?_update_self _ (Heap.get?_push_size _ rfl) rfl, rfl⟩ isSubtype_stop (wpAny_pure (hQ _ fun c u hc e => ?_)))
  have e2 := (Heap.SameBut.update s.heap it (Obj.mapFields (·.setIfInBounds 0 .none))).extBut c u hc e
  have e3 := Heap.get?_push_of_some { cls := .type "tuple", data := .seq #[] } e2
  exact (Heap.get?_update_other _ _ (Nat.ne_of_gt (Heap.lt_size e3))).trans (Heap.get?_push_of_some _ e3)
end
/-- a list walked while an exception is handled -/
theorem walks_list_hot {prog : Program} {w : World} {A : Around} {x1 : Addr} {o1 : Obj} {vs1 : Array Value} (hh : A.handled = some (.ref x1)) (d1 : o1.data = .fields vs1) (c1 : vs1[2]? = some .none) (I ax : Addr) (hne : ax ≠ I) (h1I : x1 ≠ I) (items : Array Value) :
    Walks prog w A I [I, ax, x1] [I] items.size (fun i v => items[i]? = some v) (fun i h => h.IsListIter I ax i ∧ h.IsList ax items ∧ h.get? x1 = some o1) where
  sub := fun b hb => by simp at hb; simp [hb]
  frame := fun _ _ _ st hk => ⟨st.1.at fun o e => hk I (by simp) o e, st.2.1.at fun o e => hk ax (by simp) o e, hk x1 (by simp) _ st.2.2⟩
  item := fun i s Q E hi st hQ => by
    exact wpAny_pyNext_list_item st.1 st.2.1 (x := items[i]) (by simp [hi]) fun h' hit' hs' => hQ _ h' s.toks (by simp [hi]) ⟨hit', st.2.1.extBut hs'.extBut hne, hs'.extBut x1 _ h1I st.2.2⟩ fun b o hb e => hs'.extBut b o (fun h => hb (by simp [h])) e
  done := fun s Q E st hQ => list_end_hot ⟨hh, o1, vs1, st.2.2, d1, c1⟩ h1I st.1 st.2.1 (by simp) fun h' he' => hQ h' s.toks fun b o hb e => he' b o (fun h => hb (by simp [h])) e
  self := fun _ _ _ _ st hQ => wpAny_pyIter_listiter st.1 hQ
section
variable {X : Cx} {a : Addr} {oe : Obj} {cls : Value} {d : Option Addr} {pn : List (Addr × Obj)}
/-- any(list of bools) within an except suite -/
theorem any_hot (hz : L2N.Zn cls d oe) (hf : ∃ vs, oe.data = .fields vs) : CallR (X.suite a ((a, oe) :: pn)) (.builtin "any") (rAny X.K) := fun pins s σ H vs us Q I r ⟨b, bs, ev, hs, q⟩ => by
  subst ev
  obtain ⟨its, rv, hl, _⟩ := Inv.list I hs
  obtain ⟨fv, hd⟩ := hf
  have here := (I.pin (a, oe) (List.mem_append_left _ List.mem_cons_self)).1
  have lt := Heap.lt_size here
  rw [Vals.ref1 r]
  have items := rv.bls
  refine call_any_walk (iter_any hl.isList fun z ez st ne => ?_); subst ez
  refine ⟨_, _, _, _, _, _, _, rfl, walks_list_hot (A := (X.suite a ((a, oe) :: pn)).A.in1) (x1 := a) (o1 := oe) rfl hd (hz.2.2 fv hd) _ b ne (Nat.ne_of_lt lt) its.toArray, ⟨st.1, st.2, Heap.get?_push_of_some _ here⟩, truth_bools items, fun h' tk hk => ?_⟩
  have all : ∀ c u, s.heap.get? c = some u → h'.get? c = some u := fun c u e => hk c u (fun m => by
    rw [List.mem_singleton.mp m] at e
    exact Nat.lt_irrefl _ (Heap.lt_size e)) (Heap.get?_push_of_some _ e)
  refine ⟨.bl (bs.any id), H, I.kept all, ?_, q⟩
  show Value.bool ((List.range its.toArray.size).any fun i => bs.getD i false) = .bool (bs.any id)
  rw [← any_range, items, List.size_toArray, List.length_map]
/-- isinstance(e, c) of the error that the suite holds -/
def rIsF (K : PySem.W.Frag) (D a : Addr) (cls : Value) (d : Option Addr) : List V → Hp → VK → Prop := fun xs H Q => cls = .ref D ∧ d = none ∧ rIsE K D a xs H Q
theorem call_isF {D : Addr} (C : ExcC X.K D) (hz : L2N.Zn cls d oe) (hf : ∃ vs, oe.data = .fields vs) : CallR (X.suite a ((a, oe) :: pn)) (.builtin "isinstance") (rIsF X.K D a cls d) := by
  intro pins s σ H xs us Q I r h
  obtain ⟨rfl, rfl, h⟩ := h
  exact call_isE C hz.zc hf pins s σ H xs us Q I r h
end
theorem takes0N {X : Cx} : L2N.Takes X (fun _ _ _ _ => False) := fun _ _ ⟨_, _, _, _, _, _, _, _, _, _, _, _, _, _, _, _, no⟩ => False.elim no
theorem okX {P : Program} {w : World} {K : PySem.W.Frag} {mg : Str → Option Value} {base : Heap} {x qual : Str} {st : Stmt} {f : Addr} {fd : FuncData} {N ps : List Str} {k : Nat} {sp : Sp} (F : Fun K x qual st f fd) (S : FnScope N ps (defScope st)) (len : ∀ vs H Q E, sp vs H Q E → vs.length = ps.length)
    (hbody : ∀ (cdv : Value) (A : Around) (outer : List Env) (s : Shared) (H : Hp) (vs : List V) (Q : VK) (E : XK), Room k (A.deeper (PyProof.Rows.envOfC qual (defScope st) s.heap.objs.size f cdv)) → sp vs H Q E →
      ∃ t, PSs (cxOf (L2N.CX P w) P w K mg base N qual (defScope st) f cdv A outer s H E) (defBody st) t ∧ t { nx := fun _ H' => Q .non H', rt := Q } (start N vs) H) : FnOk P w K mg base (L2N.CX P w) (k + 1) f fd ps sp := by
  obtain ⟨_, _, _, _, _, _, cdv, _, _, rfl, lk, hcd⟩ := F.ex
  exact fn_of lk hcd S len (hbody cdv)
/-! ### an error class of the program -/
structure Err (K : PySem.W.Frag) (mg : Str → Option Value) (x : Str) (C : Addr) : Prop where
  g : mg x = some (.ref C)
  x : PySem.W.excIn K C [.type "ValueError", .type "Exception", .type "BaseException", .type "object"] "ValueError.__new__" = true
  k : PySem.W.keepIn K (.ref C) = true
  b : PySem.W.subIn K (.ref C) (.type "BaseException") = some true
  t : PySem.W.typeIn K (.ref C) = some (.type "type")
  hd : PySem.W.hasDictIn K C = true
  hg : PySem.W.findIn K (.ref C) "__getattribute__" = some (some (.builtin "BaseException.__getattribute__"))
  hk : PySem.W.findIn K (.ref C) "__getattr__" = some none
  ha : PySem.W.findIn K (.ref C) "__class__" = some (some (.builtin "object.__class__"))
  hm : PySem.W.mroIn K C (.type "object") = some true
theorem Err.c {K : PySem.W.Frag} {mg : Str → Option Value} {x : Str} {C : Addr} (e : Err K mg x C) (hn : PySem.W.specialIn K (.builtin "object.__class__") "__get__" = some (some (.builtin "getset_descriptor.__get__"))) (ht : PySem.W.takesIn K (.builtin "object.__class__") = some true) : ExcC K C :=
  ⟨e.hg, e.hk, e.b, e.hd, e.ha, hn, ht, e.hm⟩
/-- // of great ints, of any sign -/
theorem op_fdivWN {X : Cx} : OpR X (binaryOp .FloorDiv) (rI (fun _ j => j ≠ 0 ∧ j.natAbs.log2 < 9000) fun i j => .int (i.fdiv j)) := opI fun i j _ _ _ _ _ hc q =>
  PyProof.Rows.floordiv_int hc.1 q (.inl (PyProof.noPylong_of_log2 hc.2))

/-! ### text[::-1] -/
theorem rev_pick (l : List Nat) (t : Tok) (a : Tok) : sliceMade (S l) t none none (some (-1, a)) = Made.str (S l.reverse) := by
  have hs : slicePicked (S l) none none (some (-1, a)) = (List.range l.length).reverse := by
    show sliceRange (((S l).length : Int) - 1) (-1) (-1) = _
    rw [S_len, PySem.W.krv_sliceRange, PySem.W.krv_range]
  have hf : ((List.range l.length).reverse.filterMap ((S l).cps[·]?)) = l.reverse := by
    rw [List.filterMap_reverse]
    congr 1
    have : ∀ m : List Nat, (List.range m.length).filterMap (fun i => m[i]?) = m := fun m => by
      induction m with
      | nil => rfl
      | cons c r ih =>
        rw [List.length_cons, List.range_succ_eq_map, List.filterMap_cons, List.filterMap_map]
        show c :: (List.range r.length).filterMap (fun i => r[i]?) = c :: r
        rw [ih]
    have h2 : (fun i => (S l).cps[i]?) = fun i => l[i]? := funext fun i => S_get l i
    rw [h2]
    exact this l
  unfold sliceMade
  rw [hs, hf]
  rfl
def tRevS (te : TE) : TE := fun σ H Q => te σ H fun x H1 => ∃ l : List Nat, x = .str (S l) ∧ l.length ≤ 16777216 ∧ Q (.str (S l.reverse)) H1
theorem pe_revS {X : Cx} {e : Expr} {te : TE} {k : Nat} {p1 p2 p3 pos : Pos} (he : PE X e te) : PE X (.Subscript e (.Slice none none (some (.UnaryOp .USub (.Constant (.int 1) k p1) p2)) p3) pos) (tRevS te) := by
  constructor
  intro pins s σ H Q I hyp
  apply PyProof.Rows.Subscript_
  refine thn (he.run pins s σ H _ I hyp) fun v s1 ⟨x, H1, I1, r1, l, ex, hl, q⟩ => ?_
  subst ex
  obtain ⟨tk, rfl⟩ := r1
  have minus : PO X (some (.UnaryOp .USub (.Constant (.int 1) k p1) p2)) (tPart (tUn (rU fun i => .int (-i)) (tC (.int 1)))) := po_some (pe_un un_neg pe_int)
  apply wpAny_Slice
  refine thn (po_none.run pins s1 σ H1 (fun o G => o = none ∧ G = H1) I1 ⟨rfl, rfl⟩) fun v1 s2 ⟨o1, G1, J1, a1, b1, c1⟩ => ?_
  subst b1; subst c1
  refine thn (po_none.run pins s2 σ G1 (fun o G => o = none ∧ G = G1) J1 ⟨rfl, rfl⟩) fun v2 s3 ⟨o2, G2, J2, a2, b2, c2⟩ => ?_
  subst b2; subst c2
  refine thn (minus.run pins s3 σ G2 (fun o G => o = some (-1) ∧ G = G2) J2 ⟨1, rfl, -1, rfl, rfl, rfl⟩) fun v3 s4 ⟨o3, G3, J3, a3, b3, c3⟩ => ?_
  subst b3; subst c3
  obtain ⟨y1, rfl, g1⟩ := IsPart.raw a1
  obtain ⟨y2, rfl, g2⟩ := IsPart.raw a2
  obtain ⟨y3, rfl, g3⟩ := IsPart.raw a3
  cases y1 with
  | some z => cases g1
  | none =>
  cases y2 with
  | some z => cases g2
  | none =>
  cases y3 with
  | none => cases g3
  | some z =>
  obtain ⟨z1, z2⟩ := z
  have ez : z1 = -1 := Option.some.inj g3
  subst ez
  show wpAny (model X.prog X.w) X.A (PyProof.Rows.subscriptTail e (.Slice none none (some (.UnaryOp .USub (.Constant (.int 1) k p1) p2)) p3) (.str (S l) tk) (.ref s4.heap.objs.size)) (EP X pins σ Q) X.xe { s4 with heap := s4.heap.push { cls := .type "slice", data := .fields #[partValue none, partValue none, partValue (some (-1, z2))] } }
  refine PyProof.Rows.tail_any (ops := [.str (S l) tk, .ref s4.heap.objs.size]) (typeIs_str _ _ _) PySem.F.slot_str_getitem.lookup ?_ (by with_unfolding_all rfl)
  refine wpAny_getItem_str_slice (l := none) (u := none) (st := some (-1, z2)) ⟨_, Heap.get?_push_size _ rfl, rfl, rfl⟩ (by rfl) ?_
  rw [rev_pick]
  exact ⟨by rw [S_len, List.length_reverse, sizeLine_eq]; exact hl, .str _, _, J3.kept (t' := s4.toks + 1) fun b ob w => Heap.get?_push_of_some _ w, ⟨_, rfl⟩, q⟩
/-! ### all(test for x in text), where the test may read what the top has written -/
section
open GxR
variable {X : Cx} {pins : List (Addr × Obj)} {σ : L2.St} {H : Hp} {s : Shared}
def EltG (X : Cx) (scope : Scope) (x : Str) (elt : Expr) (pb : Nat → Bool) : Prop :=
  ∀ (cenv : Env) (A' : Around) (E' : Value → Shared → Prop) (c : Nat) (t : Tok) (z : Shared) (m : Str → Option Value), X.Ok → cenv.scope = scope → cenv.globals = X.env.globals → (∀ b o, X.base.get? b = some o → z.heap.get? b = some o) →
    z.heap.Ns cenv.locals m → m x = some (.str ⟨#[c]⟩ t) → wpAny (model X.prog X.w) A' (eval elt cenv) (fun y z' => y = .bool (pb c) ∧ Keeps z z') E' z
theorem tbl_not {H : Hp} {P : Addr} {ps : Array Value} (hP : H P = some (.tbl ps)) {b : Addr} (h : H b = none) : b ≠ P := fun z => by rw [z, hP] at h; cases h
theorem gen_go {c P : Addr} {elt : Expr} {x : Str} {scope : Scope} {pb : Nat → Bool} {k : Nat} {Q' : Value → Shared → Prop} {a : Str} {o : Obj} {St : Nat → Heap → Prop} {ps : Array Value}
    (hr : Room k X.A) (TB : TabB X.base X.mg c P) (sc : GenS X.env scope x) (hel : EltG X scope x elt pb) (J : L2.Inv X pins σ H s) (hP : H P = some (.tbl ps)) (atP : s.heap.get? P = some { cls := .none, data := .fields ps }) (ltP : P < s.heap.objs.size)
    (W : ∀ A' : Around, A'.handled = none → Walks X.prog X.w A' s.heap.objs.size [s.heap.objs.size] [s.heap.objs.size] a.cps.size (SignAt a) St) (st0 : St 0 (s.heap.push o)) (code : Value) (h3 : Heap) (tk : Nat) (ps' more : Array Value) (em : ps' = ps ++ more)
    (hx : Heap.ExtBut P (s.heap.push o) h3) (hsz : (s.heap.push o).objs.size ≤ h3.objs.size) (h3P : h3.get? P = some { cls := .none, data := .fields ps' }) (ok' : TriplesOk ps'.toList) (lim : (s.heap.push o).NoLimit) (hQ : ∀ g z, Ready X pins σ H P a pb g z → Q' (.ref g) z) :
    wpAny (model X.prog X.w) X.A (builtinsFor X.env.globals X.env.builtins) (fun bi s₄ =>
      ∃ Ia fp wr n₀ Pf St₀ pz F, Value.ref s.heap.objs.size = .ref Ia ∧ (∀ A' : Around, A'.handled = none → Walks X.prog X.w A' Ia fp wr n₀ Pf St₀) ∧ St₀ 0 s₄.heap ∧ (∀ b ∈ fp, b < s₄.heap.objs.size) ∧ s₄.heap.NoLimit ∧ cStatics ∉ wr ∧
        (∀ href : Heap, (∀ b u, s₄.heap.get? b = some u → href.get? b = some u) → QuietGen X.prog X.w (genEnv scope (cloFrom X.env.cells scope.names []) s₄.heap.objs.size code bi X.env) x [] elt (List.range s₄.heap.objs.size) wr Pf pz F href) ∧
        (∀ g h₅ tk gs, gs.bare = true → s₄.heap.objs.size < g → h₅.objs.size = g + 1 → (∀ b u, s₄.heap.get? b = some u → h₅.get? b = some u) →
          WalksS X.prog X.w X.A.in4 g (g :: s₄.heap.objs.size :: List.range s₄.heap.objs.size) (s₄.heap.objs.size :: wr) (GenOnlyQ s₄.gens.size) (passing pz n₀ 0).length (fun j y => ∃ i, (passing pz n₀ 0)[j]? = some i ∧ F i y) (GenAt X.prog X.w X.A.in4 g s₄.gens.size s₄.heap.objs.size (List.range s₄.heap.objs.size) wr pz n₀ F) →
          GenAt X.prog X.w X.A.in4 g s₄.gens.size s₄.heap.objs.size (List.range s₄.heap.objs.size) wr pz n₀ F 0 { s₄ with gens := s₄.gens.push gs, toks := tk, heap := h₅ } → Q' (.ref g) { s₄ with gens := s₄.gens.push gs, toks := tk, heap := h₅ })) X.xe { s with heap := h3, toks := tk } := by
  obtain ⟨bm, ob, q1, q2, q3, q4, q5, q6, q7, q8⟩ := TB.bm
  obtain ⟨cm, cns, cnn⟩ := J.nolimit
  have cP : cStatics ≠ P := fun z => by
    obtain ⟨o2, es, ep, g1, g2, _⟩ := cns
    rw [z, atP] at g1
    cases g1
    cases g2
  have cL : cStatics < s.heap.objs.size := cns.lt
  have big : (s.heap.push o).objs.size = s.heap.objs.size + 1 := Heap.size_push ..
  have kept : ∀ b u, b ≠ P → s.heap.get? b = some u → h3.get? b = some u := fun b u n e => hx b u n (Heap.get?_push_of_some _ e)
  have bases : ∀ b u, X.base.get? b = some u → h3.get? b = some u := fun b u e => kept b u (tbl_not hP (J.bs b u e).2) (J.bk b u e)
  refine wpAny_builtinsFor (m := X.mg) (by rw [J.ok.glob]; exact J.mod.glob.keeps bases) q1 q2 (bases _ _ q5) q6 q7 q8 ?_
  refine ⟨s.heap.objs.size, [s.heap.objs.size], [s.heap.objs.size], a.cps.size, SignAt a, St, fun _ => true, fun i y => ∃ cc, a.cps[i]? = some cc ∧ y = .bool (pb cc), rfl, W, ?_, ?_, lim.extBut hx cP, ?_, ?_, ?_⟩
  · refine (W X.A hr.hd).frame _ _ _ st0 fun b hb u e => hx b u ?_ e
    rw [List.mem_singleton.mp hb]
    exact Nat.ne_of_gt ltP
  · intro b hb
    rw [List.mem_singleton.mp hb]
    exact Nat.lt_of_lt_of_le (by rw [big]; exact Nat.lt_succ_self _) hsz
  · rw [List.mem_singleton]
    exact Nat.ne_of_lt cL
  · intro href hh
    refine ⟨fun A' E' i v s₂ m₂ _ _ _ _ _ => ?_, fun A' E' i v s₂ m₂ _ hv _ hn hm hk => ?_⟩
    · rw [List.forIn_nil]
      exact wpAny_pure ⟨rfl, keeps_refl s₂⟩
    · obtain ⟨cc, u, hcc, rfl⟩ := hv
      refine wpAny_mono (hel _ A' E' cc u s₂ m₂ J.ok rfl rfl (fun b w e => ?_) hn hm) (fun y z r => ⟨⟨cc, hcc, r.1⟩, r.2⟩) fun _ _ e => e
      have lb := Heap.lt_size (J.bk b w e)
      exact hk b (List.mem_range.mpr (Nat.lt_of_lt_of_le (Nat.lt_of_lt_of_le lb (by rw [big]; exact Nat.le_succ _)) hsz)) (by rw [List.mem_singleton]; exact Nat.ne_of_lt lb) w (hh b w (bases b w e))
  · intro g h5 tk5 gs bare _ _ _ W5 at5
    have W6 := W5
    simp only [GxR.passing_true, List.length_range] at W6
    refine hQ g _ ⟨_, _, _, _, _, W6.in4_1, at5, fun j y sj Qj Ej hy hq => ?_, fun z mv => ?_⟩
    · obtain ⟨i, hi, cc, hcc, rfl⟩ := hy
      obtain ⟨_, ei⟩ := List.getElem?_eq_some_iff.mp hi
      rw [List.getElem_range] at ei
      subst ei
      have hq' : Qj (trF pb a.cps.toList j) sj := hq
      rw [trF_some (show a.cps.toList[j]? = some cc by rw [Array.getElem?_toList]; exact hcc)] at hq'
      exact wpAny_truthy_bool hq'
    · have off : ∀ b u, s.heap.get? b = some u → b ∉ h3.objs.size :: [s.heap.objs.size] := fun b u e hb => by
        have l1 := Heap.lt_size e
        have l2 : s.heap.objs.size < h3.objs.size := Nat.lt_of_lt_of_le (by rw [big]; exact Nat.lt_succ_self _) hsz
        rcases List.mem_cons.mp hb with r | r
        · rw [r] at l1; exact absurd (Nat.lt_trans l1 l2) (Nat.lt_irrefl _)
        · rw [List.mem_singleton.mp r] at l1; exact absurd l1 (Nat.lt_irrefl _)
      have five : ∀ b u, h3.get? b = some u → h5.get? b = some u := by assumption
      have L := inv_tab (more := more) (h' := z.heap) (g' := z.gens) (d' := z.drawn) (t' := z.toks) J hP (fun b u n e => mv.heap b u (off b u e) (five b u (kept b u n e))) (by rw [← em]; exact mv.heap P _ (off P _ atP) (five P _ h3P)) (PyProof.Rows.AllBare.movedS (J.bare.push bare) mv)
      rw [sh_eta s z mv.os] at L
      exact ⟨upd H P (.tbl (ps ++ more)), ⟨⟨ps ++ more, upd_same, by rw [← em]; exact ok'⟩, fun b n => upd_ne n⟩, L⟩
theorem gen_signs {c P : Addr} {elt iter : Expr} {x : Str} {px gpos : Pos} {scope : Scope} {pb : Nat → Bool} {te : TE} {k : Nat} {Q' : Value → Shared → Prop} {R : Str → Hp → Prop}
    (hr : Room k X.A) (TB : TabB X.base X.mg c P) (hcode : X.env.code = .ref c) (sc : GenS X.env scope x) (hi : PE X iter te) (hel : EltG X scope x elt pb) (hs : ∀ v, genFold iter X.env v = pure v)
    (I : L2.Inv X pins σ H s) (h : te σ H fun v G => ∃ a : Str, v = .str a ∧ TabG G P ∧ R a G) (hQ : ∀ a G g z, R a G → Ready X pins σ G P a pb g z → Q' (.ref g) z) :
    wpAny (model X.prog X.w) X.A (eval (.GeneratorExp elt [⟨.Name x px, iter, [], 0⟩] scope gpos) X.env) Q' X.xe s := by
  have room : X.A.depth < recursionLimit := by have := hr.dp; omega
  refine wpAny_GeneratorExp_walksQ hr.hd sc.co (closure_ok sc.free) sc.cell sc.dot sc.loc sc.kind room (thn (hi.run pins s σ H _ I h) fun u s1 ⟨v, G, J, rv, a, ev, ⟨ps, hP, ok⟩, hR⟩ => ?_) hs
  subst ev
  obtain ⟨t, rfl⟩ := id rv
  refine wpAny_pyIter_str fun o St W st0 => ?_
  -- the table, the sizes, what is kept
  have atP : s1.heap.get? P = some { cls := .none, data := .fields ps } := J.hok P _ hP
  have ltP : P < s1.heap.objs.size := Heap.lt_size atP
  have atP' : (s1.heap.push o).get? P = some { cls := .none, data := .fields ps } := Heap.get?_push_of_some _ atP
  have cd : PySem.W.CodeHd (s1.heap.push o) c P := TB.code.keeps fun b w e => Heap.get?_push_of_some _ (J.bk b w e)
  have lim : (s1.heap.push o).NoLimit := J.nolimit.push o
  have next : ∀ (code : Value) (h3 : Heap) (tk : Nat) (ps' more : Array Value), ps' = ps ++ more → Heap.ExtBut P (s1.heap.push o) h3 → (s1.heap.push o).objs.size ≤ h3.objs.size → h3.get? P = some { cls := .none, data := .fields ps' } → TriplesOk ps'.toList → _ :=
    fun code h3 tk ps' more em hx hsz h3P ok' => gen_go (elt := elt) hr TB sc hel J hP atP ltP W st0 code h3 tk ps' more em hx hsz h3P ok' lim fun g z rd => hQ a G g z hR rd
  refine ⟨lim, ?_⟩
  cases hf : codeAmong gpos ps.toList with
  | some cv => exact wpAny_genexprCode_hit hcode (cd.code atP' ok) hf (next cv (s1.heap.push o) s1.toks ps #[] (by simp) (Heap.ExtBut.refl _ _) (Nat.le_refl _) atP' ok)
  | none =>
    refine wpAny_genexprCodeX hcode (cd.code atP' ok) (cd.tab atP') hf fun c' h' tk hx hge hlt hco' _ htab' _ => ?_
    obtain ⟨o1, vs, f1, tf, fl, tg, inF, tx, tt, op, _, _, _, _, _, _, _, _, _, htr, _⟩ := hco'
    exact next _ h' tk _ _ rfl hx (Nat.le_trans hge (Nat.le_of_lt hlt)) htab'.2 htr
theorem pe_allG {c P : Addr} {elt iter : Expr} {x : Str} {px p pos gpos : Pos} {scope : Scope} {pb : Nat → Bool} {te : TE} {k : Nat} (hr : Room k X.A) (hg : Gl X "all") (hm : X.mg "all" = none) (TB : TabB X.base X.mg c P) (hcode : X.env.code = .ref c)
    (sc : GenS X.env scope x) (hi : PE X iter te) (hel : EltG X scope x elt pb) (hs : ∀ v, genFold iter X.env v = pure v)
    (he : starEach [.GeneratorExp elt [⟨.Name x px, iter, [], 0⟩] scope gpos] X.env = (false, eval (.GeneratorExp elt [⟨.Name x px, iter, [], 0⟩] scope gpos) X.env) :: starEach [] X.env := by rfl) :
    PE X (.Call (.Name "all" p) [.GeneratorExp elt [⟨.Name x px, iter, [], 0⟩] scope gpos] [] pos) (tAllS P pb te) := by
  constructor
  intro pins s σ H Q I hyp
  have hb : bootBuiltins "all" = some (.builtin "all") := by decide +kernel
  refine wpAny_Call_Name_kw (ld_blt I hg hm hb (PyProof.Rows.callWith_builtin1 ?_ he (by rfl)))
  rw [he]
  show wpAny _ _ (spliced ((false, eval (.GeneratorExp elt [⟨.Name x px, iter, [], 0⟩] scope gpos) X.env) :: backTo pos (starEach [] X.env))) _ _ s
  refine Calls.spliced_cons (gen_signs (R := fun a G => ∀ G', Tabbed P G G' → Q (.bl (a.cps.toList.all pb)) G') hr TB hcode sc hi hel hs I hyp fun a G g z hR rd => Calls.spliced_nil ?_)
  obtain ⟨fp, wr, Gs, F, St, W, st, tr, done⟩ := rd
  refine call_all_walkS (W.self 0 _ _ _ st ⟨g, fp, wr, Gs, _, F, St, _, rfl, W, st, tr, fun z' mv => ?_⟩)
  obtain ⟨G', tb, L⟩ := done z' mv
  refine ⟨.bl _, G', L, rfl, ?_⟩
  rw [all_signs a pb]
  exact hR G' tb
/-- x in D, D a dict that the top has written -/
theorem elt_in {scope : Scope} {x y : Str} {pb : Nat → Bool} {d : Addr} {es : Array DictEntry} {n : Nat} {p1 p2 p3 : Pos} (D : KDict X.K X.w d es n) (gy : X.mg y = some (.ref d)) (hp : ∀ c, ∃ r, PySem.W.nsIn X.K d (S [c]) = some r ∧ r.isSome = pb c)
    (hk : scope.kind = .function) (hl : scope.names.lookup x = some .local) (hy : scope.names.lookup y = some .globalImplicit) (hd : (x == ("__debug__" : Str)) = false := by decide) (hd2 : (y == ("__debug__" : Str)) = false := by decide) :
    EltG X scope x (.Compare (.Name x p1) [.In] [.Name y p2] p3) pb := by
  intro cenv A' E' c t z m ok hs hg hb hn hm
  have kind : cenv.scope.kind = .function := by rw [hs]; exact hk
  refine wpAny_Compare1 (wpAny_Name (wpAny_loadName_local kind (show cenv.scope.names.lookup x = some .local by rw [hs]; exact hl) hn hm ?_) hd)
  refine Calls.Name_function_global kind (show cenv.scope.names.lookup y = some .globalImplicit by rw [hs]; exact hy) (Calls.loadGlobal_global (by rw [hg, ok.glob]; exact ok.mod.glob.keeps hb) gy ?_) hd2
  obtain ⟨r, e1, e2⟩ := hp c
  refine wpAny_in_of (PySem.strKind_is X.prog X.w (S [c]) t) D.low (PySem.W.mapOf_K (prog := X.prog) (ok.mod.kin.keeps hb) D.at_ D.lit) ?_
  rw [PySem.W.find_K D.at_ e1, e2]
  exact ⟨rfl, keeps_tok _ _⟩
end
/-! ### ''.join of texts, comprehensions over a text -/
theorem join_empty (ys : List (List Nat)) : Txt.join (S []) (ys.map S) = S ys.flatten := by
  have go : ∀ (zs : List (List Nat)) (a : Array Nat), ((zs.map S).foldl (fun acc p => acc ++ (S []).cps ++ p.cps) a).toList = a.toList ++ zs.flatten := by
    intro zs
    induction zs with
    | nil => intro a; simp
    | cons z r ih =>
      intro a
      rw [List.map_cons, List.foldl_cons, ih]
      simp [S]
  show Builtin.Str.glued (S []) (ys.map S) = _
  unfold Builtin.Str.glued
  cases ys with
  | nil => rfl
  | cons y r =>
    have := go r (S y).cps
    show (⟨(r.map S).foldl (fun acc p => acc ++ (S []).cps ++ p.cps) (S y).cps⟩ : Str) = _
    unfold S at this ⊢
    congr 1
    apply Array.toList_inj.mp
    rw [this]
    simp
theorem join_signs (l : List Nat) : Txt.join (S []) (l.map fun c => S [c]) = S l := by
  have := join_empty (l.map fun c => [c])
  rw [List.map_map] at this
  rw [show (l.map fun c => S [c]) = l.map (S ∘ fun c => [c]) from rfl, this]
  congr 1
  induction l with
  | nil => rfl
  | cons c r ih => rw [List.map_cons, List.flatten_cons, ih (join_empty _ |>.trans rfl |> fun h => by rw [List.map_map] at h; exact h)]; rfl
theorem sum_ones (l : List Nat) : ((l.map fun c => S [c]).map (·.length)).sum = l.length := by
  induction l with
  | nil => rfl
  | cons c r ih =>
    rw [List.map_cons, List.map_cons, List.sum_cons, ih, S_len, List.length_cons]
    show 1 + r.length = r.length + 1
    omega
theorem lc_str {l : List Nat} {g : TG} {tt : TT} {te : TE} {vs : List Nat} {σ : L2.St} {H1 : Hp} {D : Addr} {Qd : Hp → Prop} (Pv : Nat → Hp → Prop) (h0 : Pv 0 (upd H1 D (.lst [])))
    (hs : ∀ i c H, l[i]? = some c → Pv i H → g (.str (S [c])) (wipe σ vs) H fun σ2 H2 => wipe σ2 vs = wipe σ vs ∧ tt σ2 H2 fun b H3 =>
      if b = true then te σ2 H3 fun y H4 => ∃ acc, H4 D = some (.lst acc) ∧ acc.length < sizeLine ∧ Pv (i + 1) (upd H4 D (.lst (acc ++ [y]))) else Pv (i + 1) H3) (hd : ∀ H, Pv l.length H → Qd H) :
    ∃ W : Nat → Nat → Hp → Prop, (∃ m, W 0 m (upd H1 D (.lst []))) ∧ ∀ i m H, W i m H →
      ((Its (S l)).stop i H ∧ Qd H) ∨ ((Its (S l)).go i H ∧ ∃ Nx : Hp → Prop, (∀ H', Nx H' → ∃ m', m' < m ∧ W (i + 1) m' H') ∧ ∀ x H', (Its (S l)).yld i H x H' → g x (wipe σ vs) H' fun σ2 H2 => wipe σ2 vs = wipe σ vs ∧ tt σ2 H2 fun b H3 =>
        if b = true then te σ2 H3 fun y H4 => ∃ acc, H4 D = some (.lst acc) ∧ acc.length < sizeLine ∧ Nx (upd H4 D (.lst (acc ++ [y]))) else Nx H3) := by
  refine ⟨fun i m H => m = l.length - i ∧ i ≤ l.length ∧ Pv i H, ⟨l.length, by simp, Nat.zero_le _, h0⟩, ?_⟩
  rintro i m H ⟨rfl, hi, p⟩
  by_cases hlt : i < l.length
  · refine .inr ⟨by show i < (S l).cps.size; rw [S_size]; exact hlt, Pv (i + 1), fun H' p' => ⟨l.length - (i + 1), by omega, rfl, hlt, p'⟩, fun x H' y => ?_⟩
    obtain ⟨e, c, hc, rfl⟩ := y
    subst e
    rw [S_get] at hc
    exact hs i c _ hc p
  · have e : i = l.length := by omega
    subst e
    exact .inl ⟨by show (S l).cps.size ≤ l.length; rw [S_size]; exact Nat.le_refl _, hd H p⟩
/-- a def whose code object is told -/
theorem okC {P : Program} {w : World} {K : PySem.W.Frag} {mg : Str → Option Value} {base : Heap} {x qual : Str} {st : Stmt} {f c : Addr} {fd : FuncData} {N ps : List Str} {k : Nat} {sp : Sp} (F : Fun K x qual st f fd) (hc : fd.code = .ref c) (S : FnScope N ps (defScope st)) (len : ∀ vs H Q E, sp vs H Q E → vs.length = ps.length)
    (body : ∀ (A : Around) (outer : List Env) (s : Shared) (H : Hp) (vs : List V) (Q : VK) (E : XK), Room k (A.deeper (PyProof.Rows.envOfC qual (defScope st) s.heap.objs.size f (.ref c))) → sp vs H Q E →
      ∃ t, PSs (cxOf CX0 P w K mg base N qual (defScope st) f (.ref c) A outer s H E).nox (defBody st) t ∧ t { nx := fun _ H' => Q .non H', rt := Q } (start N vs) H) : FnOk P w K mg base CX0 (k + 1) f fd ps sp := by
  obtain ⟨_, _, _, _, _, _, cdv, _, _, rfl, lk, hcd⟩ := F.ex
  have e : cdv = .ref c := hc
  subst e
  refine fn_of lk hcd S len fun A outer s H vs Q E hr h => ?_
  obtain ⟨t, a, b⟩ := body A outer s H vs Q E hr h
  exact ⟨t, a.nox, b⟩

/-! ### a display of one entry whose key is a tuple -/
def tDisp1T (tk tv : TE) : TE := fun σ H Q => ∀ p, H p = none → tk σ (upd H p (.dT [])) fun y H1 => tv σ H1 fun v H2 => H2 p = some (.dT []) ∧ ∃ (k : List Key) (b : Addr) (v' : V), [(y, v)] = [(.ref b, v')] ∧ H2 b = some (.tup (k.map kV)) ∧ Q (.ref p) (upd H2 p (.dT [(k, v')]))
theorem pe_disp1T {X : Cx} {pos : Pos} {ke ve : Expr} {tk tv : TE} (hu : (tupleKind (mixKind X.prog X.w)).room X.A) (hk : PE X ke tk) (hv : PE X ve tv) : PE X (.Dict [some ke] [ve] pos) (tDisp1T tk tv) := by
  constructor
  intro pins s σ H Q I q
  have new := I.hok.fresh (Nat.le_refl s.heap.objs.size)
  have I1 := I.laid (a := s.heap.objs.size) (o := .dT []) (h' := s.heap.push { cls := .type "dict", data := .dict #[] }) (t' := s.toks) (fun b u z => Heap.get?_push_of_some _ z) (Nat.le_refl _) (dt_empty s.heap I.big)
  have hh := (pps_cons (pos := pos) hk hv (pps_nil (X := X))).run pins _ σ _ (fun ps H2 => H2 s.heap.objs.size = some (.dT []) ∧ ∃ (k : List Key) (b : Addr) (v : V), ps = [(.ref b, v)] ∧ H2 b = some (.tup (k.map kV)) ∧ Q (.ref s.heap.objs.size) (upd H2 s.heap.objs.size (.dT [(k, v)]))) I1 (q _ new)
  rw [arm_eval_Dict, zip_pairTrees [some ke] [ve] X.env pos rfl rfl, dictDisplay_pairs _ (by simp [pairTrees]) (by simp [pairTrees])]
  refine wpAny_bind (wpAny_standAt (wpAny_bind (wpAny_subDictH (knd := tupleKind (mixKind X.prog X.w)) hu (by simp [pairTrees]) (thn hh fun ws s2 h2 => ?_))))
  obtain ⟨ps, H2, I2, rel, e, k, b, v, ep, eb, q2⟩ := h2
  subst ep
  cases rel with
  | @cons _ u _ us r1 r2 =>
    cases r2
    obtain ⟨ub, uv⟩ := u
    obtain ⟨r3, r4⟩ := r1
    cases (show ub = Value.ref b from r3)
    obtain ⟨_, hd, xs, r0, dd⟩ := dt_of I2.hok e
    cases r0
    refine ⟨[(k, b, uv)], ⟨rfl, rfl, key_of I2.hok eb, trivial⟩, dd, fun h' tk dd' hs => wpAny_pure ?_⟩
    refine ⟨.ref s.heap.objs.size, _, ?_, rfl, q2⟩
    obtain ⟨o, es, ep, ho, h2, h3, h4, _, h5⟩ := dd'
    refine d_write I2 (by rw [e]; exact True.intro) hs ⟨o, ho⟩ ⟨?_, hd, [(k, b, uv)], ?_, o, es, ep, ho, h2, h3, h4, h5⟩
    · rw [sizeLine_eq]; show 1 ≤ _; omega
    · refine .cons ⟨rfl, ?_, r4⟩ .nil
      show upd H2 s.heap.objs.size (.dT [(k, v)]) b = _
      rw [upd_ne (ne_of eb e (fun z => nomatch z))]
      exact eb
def top (i : Nat) : Stmt := PySem.Challenge.pw_ropedance_k19_least_dances.main.body.getD i (.Pass ⟨0, 0, 0, 0⟩)
abbrev s_after : Stmt := top 4
theorem sc_after : FnScope ["fraction", "dance", "p", "q", "letter"] ["fraction", "dance"] (defScope s_after) := ⟨rfl, rfl, rfl, by decide +kernel, rfl, by decide +kernel, by decide +kernel⟩
abbrev s_turned : Stmt := top 5
theorem sc_turned : FnScope ["p", "q"] ["p", "q"] (defScope s_turned) := ⟨rfl, rfl, rfl, by decide +kernel, rfl, by decide +kernel, by decide +kernel⟩
abbrev s_quotients : Stmt := top 6
theorem sc_quotients : FnScope ["fraction", "p", "q", "parts", "rest"] ["fraction"] (defScope s_quotients) := ⟨rfl, rfl, rfl, by decide +kernel, rfl, by decide +kernel, by decide +kernel⟩
abbrev s_number : Stmt := top 8
theorem sc_number : FnScope ["dance"] ["dance"] (defScope s_number) := ⟨rfl, rfl, rfl, by decide +kernel, rfl, by decide +kernel, by decide +kernel⟩
abbrev s_steps : Stmt := top 10
theorem sc_steps : FnScope ["fraction", "parts"] ["fraction"] (defScope s_steps) := ⟨rfl, rfl, rfl, by decide +kernel, rfl, by decide +kernel, by decide +kernel⟩
abbrev s_runs : Stmt := top 11
theorem sc_runs : FnScope ["fraction", "letters", "k", "part"] ["fraction"] (defScope s_runs) := ⟨rfl, rfl, rfl, by decide +kernel, rfl, by decide +kernel, by decide +kernel⟩
abbrev s_ways_on : Stmt := top 13
theorem sc_ways_on : FnScope ["all_runs", "ways", "at", "_"] ["all_runs"] (defScope s_ways_on) := ⟨rfl, rfl, rfl, by decide +kernel, rfl, by decide +kernel, by decide +kernel⟩
abbrev s_law_tape : Stmt := top 15
theorem sc_law_tape : FnScope ["script", "k", "cell"] ["script", "k"] (defScope s_law_tape) := ⟨rfl, rfl, rfl, by decide +kernel, rfl, by decide +kernel, by decide +kernel⟩
abbrev s_law_take : Stmt := top 16
theorem sc_law_take : FnScope ["tape", "many", "got", "mixed"] ["tape", "many"] (defScope s_law_take) := ⟨rfl, rfl, rfl, by decide +kernel, rfl, by decide +kernel, by decide +kernel⟩
abbrev s_law_called : Stmt := top 17
theorem sc_law_called : FnScope ["value", "letter", "p", "q"] ["value", "letter"] (defScope s_law_called) := ⟨rfl, rfl, rfl, by decide +kernel, rfl, by decide +kernel, by decide +kernel⟩
abbrev s_law_same : Stmt := top 18
theorem sc_law_same : FnScope ["told", "due", "k"] ["told", "due"] (defScope s_law_same) := ⟨rfl, rfl, rfl, by decide +kernel, rfl, by decide +kernel, by decide +kernel⟩
abbrev s_law_levels : Stmt := top 19
theorem sc_law_levels : FnScope ["most", "known", "levels", "turn", "level", "value", "letter", "following"] ["most"] (defScope s_law_levels) := ⟨rfl, rfl, rfl, by decide +kernel, rfl, by decide +kernel, by decide +kernel⟩
abbrev s_law_all : Stmt := top 20
theorem sc_law_all : FnScope ["levels", "value", "count", "found", "turn", "longer", "one", "letter", "following", "dance"] ["levels", "value", "count"] (defScope s_law_all) := ⟨rfl, rfl, rfl, by decide +kernel, rfl, by decide +kernel, by decide +kernel⟩
abbrev s_law_walks : Stmt := top 21
theorem sc_law_walks : FnScope ["least", "due", "begin", "other", "found", "dance", "one"] ["least", "due", "begin", "other"] (defScope s_law_walks) := ⟨rfl, rfl, rfl, by decide +kernel, rfl, by decide +kernel, by decide +kernel⟩
abbrev s_law : Stmt := top 22
theorem sc_law : FnScope ["script", "levels", "k", "tape", "count", "value", "due", "least", "place", "begin", "other"] ["script"] (defScope s_law) := ⟨rfl, rfl, rfl, by decide +kernel, rfl, by decide +kernel, by decide +kernel⟩
/-! ### heaps, tapes, pairs -/
/-- all that was tracked is as it was, but what stands at a -/
def But (a : Addr) (H H' : Hp) : Prop := ∀ b o, b ≠ a → H b = some o → H' b = some o
theorem But.refl (a : Addr) (H : Hp) : But a H H := fun _ _ _ h => h
theorem But.trans {a : Addr} {H H1 H2 : Hp} (x : But a H H1) (y : But a H1 H2) : But a H H2 := fun b o n h => y b o n (x b o n h)
theorem But.of {a : Addr} {H H' : Hp} (x : Same H H') : But a H H' := fun b o _ h => x b o h
theorem But.upd {a : Addr} {H : Hp} {o : HO} : But a H (upd H a o) := fun b u n h => by rw [upd_ne n]; exact h
theorem But.same {a : Addr} {H0 H H' : Hp} (x : But a H H') (s : Same H0 H) (n : H0 a = none) : Same H0 H' := fun b o h => x b o (ne_of_none h n) (s b o h)
theorem same_new {H : Hp} {p : Addr} (h : H p = none) (o : HO) : Same H (L2.upd H p o) := fun b u q => by rw [upd_ne (ne_of_none q h)]; exact q
theorem Same.tup {K : PySem.W.Frag} {H H' : Hp} {a : Addr} {xs : List V} (e : Same H H') (h : SqT K H a xs) : SqT K H' a xs := by
  rcases h with (h | ⟨o, h⟩) | h
  · exact .inl (.inl (e _ _ h))
  · exact .inl (.inr ⟨o, e _ _ h⟩)
  · exact .inr h
def Tape (H : Hp) (a : Addr) : Prop := ∃ (t c s : Int) (b : Bool), H a = some (.lst [.int t, .bl b, .int c, .int s])
theorem Tape.same {H H' : Hp} {a : Addr} (t : Tape H a) (s : Same H H') : Tape H' a := by
  obtain ⟨x, c, y, b, h⟩ := t
  exact ⟨x, c, y, b, s _ _ h⟩
theorem Tape.ne {H : Hp} {a p : Addr} (t : Tape H a) (h : H p = none) : p ≠ a := by
  obtain ⟨x, c, y, b, e⟩ := t
  exact fun z => by rw [z, e] at h; cases h
theorem But.tup {K : PySem.W.Frag} {a : Addr} {H H' : Hp} {p : Addr} {xs : List V} (x : But a H H') (t : Tape H a) (h : SqT K H p xs) : SqT K H' p xs := by
  obtain ⟨y, c, z, b, e⟩ := t
  rcases h with (h | ⟨o, h⟩) | h
  · exact .inl (.inl (x _ _ (ne_of h e (by intro q; cases q)) h))
  · exact .inl (.inr ⟨o, x _ _ (ne_of h e (by intro q; cases q)) h⟩)
  · exact .inr h
/-- a dance: the letters T, U, R -/
def Lets (l : List Nat) : Prop := ∀ c ∈ l, c = 84 ∨ c = 85 ∨ c = 82
theorem atI_mk {α : Type} {xs : List α} {k : Int} (h0 : 0 ≤ k) (h1 : k < (xs.length : Int)) : ∃ v, atI xs k = some v ∧ v ∈ xs := by
  obtain ⟨n, rfl⟩ := Int.eq_ofNat_of_zero_le h0
  have h : n < xs.length := by omega
  exact ⟨xs[n], atI_nat (List.getElem?_eq_getElem h), List.getElem_mem h⟩
theorem atI_ints {ns : List Int} {k : Int} (h0 : 0 ≤ k) (h1 : k < (ns.length : Int)) : ∃ v : Int, atI (ns.map V.int) k = some (.int v) := by
  obtain ⟨v, e, m⟩ := atI_mk (xs := ns.map V.int) h0 (by rw [List.length_map]; exact h1)
  obtain ⟨i, _, rfl⟩ := List.mem_map.mp m
  exact ⟨i, e⟩
/-! ### a def of the text with its promise, ready to be called -/
structure Dfn (P : Program) (w : World) (K : PySem.W.Frag) (mg : Str → Option Value) (base : Heap) (x : Str) (k : Nat) (ps : List Str) (sp : Sp) : Prop where
  ex : ∃ (f : Addr) (fd : FuncData), FnOk P w K mg base CX0 k f fd ps sp ∧ mg x = some (.ref f) ∧ PySem.W.keepIn K (.ref f) = true ∧ Binds K fd ps []
theorem pe_do {X : Cx} {x : Str} {j : Nat} {ps : List Str} {sp : Sp} {e : Expr} {es : List Expr} {t : TA} {p pos : Pos} (D : Dfn X.prog X.w X.K X.mg X.base x j ps sp) (hr : Room j X.A)
    (ha : PA X (e :: es) t) (hg : Gl X x := by rfl) (hdb : (x == ("__debug__" : Str)) = false := by decide) (he : starEach (e :: es) X.env = (false, eval e X.env) :: starEach es X.env := by rfl) (hpl : (backTo pos (starEach es X.env)).any (·.1) = false := by rfl) :
    PE X (.Call (.Name x p) (e :: es) [] pos) (tCall sp [] E0 t) := by
  obtain ⟨f, fd, ok, mg, kp, bd⟩ := D.ex
  exact pe_call ok hr hg mg kp bd .nil pass0 ha hdb he hpl
theorem Dfn.mono {P : Program} {w : World} {K : PySem.W.Frag} {mg : Str → Option Value} {base : Heap} {x : Str} {j k : Nat} {ps : List Str} {sp : Sp} (D : Dfn P w K mg base x j ps sp) (h : j ≤ k) : Dfn P w K mg base x k ps sp := by
  obtain ⟨f, fd, ok, mg, kp, bd⟩ := D.ex
  exact ⟨f, fd, ok.mono h, mg, kp, bd⟩
section
variable {P : Program} {w : World} {K : PySem.W.Frag} {mg : Str → Option Value} {base : Heap} {f : Addr} {fd : FuncData}
/-! ### the tape of a law -/
def spTape (K : PySem.W.Frag) : Sp := fun vs H Q _ => ∃ (a : Addr) (ns : List Int) (k : Int), vs = [.ref a, .int k] ∧ SqL K H a (ns.map V.int) ∧ 0 ≤ k ∧ ∀ p H', Same H H' → H p = none → Tape H' p → Q (.ref p) H'
theorem ok_tape (F : Fun K "_law_tape" "_law_tape" s_law_tape f fd) (ml : mg "len" = none) (ma : mg "abs" = none) (mi : mg "int" = none) : FnOk P w K mg base CX0 1 f fd ["script", "k"] (spTape K) := by
  refine F.ok sc_law_tape (fun vs H Q E h => ?_) (fun cdv A outer s H vs Q E hr h => ?_)
  · obtain ⟨a, ns, k, rfl, _⟩ := h
    rfl
  obtain ⟨a, ns, k, rfl, hS, hk, q⟩ := h
  refine ⟨_, pss_cons (ps_set (i := 2) sc_law_tape.nd rfl (.inl rfl) pe_int)
    (pss_cons (ps_if (pt_cmpR op_lt (pv 1) (pe_callB call_len_seq rfl ml PySem.boot_len (pa_cons (pv 0) pa_nil)) (nomark _))
        (pss_one (ps_set (i := 2) sc_law_tape.nd rfl (.inl rfl) (pe_callB call_abs rfl ma (by decide +kernel) (pa_cons (pe_ix ix_list (pv 0) (pv 1) (fun _ _ => rfl)) pa_nil)))) pss_nil)
    (pss_one (ps_ret (pe_lst (pa_cons (pv 2) (pa_cons (pe_cmpR op_ge (pv 2) (pe_op op_pow pe_int pe_int) (nomark _)) (pa_cons pe_int
      (pa_cons (pe_op op_modN (pe_callTy call_int1 rfl mi (by decide +kernel) (pa_cons (pe_op op_add (pe_op op_mul (pv 2) pe_int) (pv 1)) pa_nil)) pe_int) pa_nil)))))))), ?_⟩
  refine ⟨_, rfl, _, rfl, a, _, rfl, .inl hS, _, _, rfl, rfl, _, rfl, ?_⟩
  refine ite2 (fun c => ?_) (fun c => ?_)
  · have c' : k < (((ns.map V.int).length : Nat) : Int) := of_decide_eq_true c
    rw [List.length_map] at c'
    obtain ⟨v, hv⟩ := atI_ints hk c'
    refine ⟨_, rfl, _, rfl, a, _, _, _, rfl, rfl, hS, hv, _, rfl, ?_⟩
    refine ⟨_, rfl, _, rfl, _, _, rfl, rfl, ⟨by decide, by decide, by decide⟩, _, _, rfl, rfl, _, rfl, _, _, rfl, rfl, .inr ⟨by decide, by decide⟩, _, rfl, _, _, rfl, rfl, .inl ⟨_, rfl, _, _, rfl, rfl, (show (2147483647 : Int) ≠ 0 by decide), ?_⟩⟩
    exact ⟨(by show 4 ≤ sizeLine; decide), fun p hp => q p _ (same_new hp _) hp ⟨_, _, _, _, upd_same⟩⟩
  · refine ⟨_, rfl, _, rfl, _, _, rfl, rfl, ⟨by decide, by decide, by decide⟩, _, _, rfl, rfl, _, rfl, _, _, rfl, rfl, .inr ⟨by decide, by decide⟩, _, rfl, _, _, rfl, rfl, .inl ⟨_, rfl, _, _, rfl, rfl, (show (2147483647 : Int) ≠ 0 by decide), ?_⟩⟩
    exact ⟨(by show 4 ≤ sizeLine; decide), fun p hp => q p _ (same_new hp _) hp ⟨_, _, _, _, upd_same⟩⟩
def spTake : Sp := fun vs H Q _ => ∃ (a : Addr) (m : Int), vs = [.ref a, .int m] ∧ Tape H a ∧ 0 < m ∧ m < 1073741824 ∧ ∀ r H', 0 ≤ r → r < m → But a H H' → Tape H' a → Q (.int r) H'
theorem ok_take (F : Fun K "_law_take" "_law_take" s_law_take f fd) (mi : mg "int" = none) : FnOk P w K mg base CX0 1 f fd ["tape", "many"] spTake := by
  refine F.ok sc_law_take (fun vs H Q E h => ?_) (fun cdv A outer s H vs Q E hr h => ?_)
  · obtain ⟨a, m, rfl, _⟩ := h
    rfl
  obtain ⟨a, m, rfl, ⟨t, c, sd, b, hT⟩, h0, h1, q⟩ := h
  refine ⟨_, pss_cons (ps_if (PW.pt (pw_and (pt_val (pe_ix ix_list (pv 0) pe_int (fun _ _ => rfl))) (pw_and1 (pt_cmpR op_gt (pe_ix ix_list (pv 0) pe_int (fun _ _ => rfl)) pe_int (nomark _)))))
      (pss_cons (ps_set (i := 2) sc_law_take.nd rfl (.inl rfl) (pe_op op_modN (pe_callTy call_int1 rfl mi (by decide +kernel) (pa_cons (pe_ix ix_list (pv 0) pe_int (fun _ _ => rfl)) pa_nil)) (pv 1)))
      (pss_cons (ps_asg (pe_op op_fdivN (pe_ix ix_list (pv 0) pe_int (fun _ _ => rfl)) (pv 1)) (pg_sub (pv 0) pe_int set_list))
      (pss_one (ps_ret (pv 2))))) pss_nil)
    (pss_cons (ps_asg (pe_op op_add (pe_ix ix_list (pv 0) pe_int (fun _ _ => rfl)) pe_int) (pg_sub (pv 0) pe_int set_list))
    (pss_cons (ps_set (i := 3) sc_law_take.nd rfl (.inl rfl) (pe_op op_modN (pe_callTy call_int1 rfl mi (by decide +kernel) (pa_cons (pe_op op_add (pe_op op_add (pe_op op_mul (pe_ix ix_list (pv 0) pe_int (fun _ _ => rfl)) pe_int) (pe_op op_mul (pe_ix ix_list (pv 0) pe_int (fun _ _ => rfl)) pe_int)) pe_int) pa_nil)) pe_int))
    (pss_cons (ps_set (i := 3) sc_law_take.nd rfl (.inl rfl) (pe_op op_modN (pe_callTy call_int1 rfl mi (by decide +kernel) (pa_cons (pe_op op_add (pe_op op_add (pe_op op_mul (pv 3) pe_int) (pe_op op_mul (pe_op op_fdivN (pv 3) pe_int) pe_int)) (pe_ix ix_list (pv 0) pe_int (fun _ _ => rfl))) pa_nil)) pe_int))
    (pss_one (ps_ret (pe_op op_modN (pe_callTy call_int1 rfl mi (by decide +kernel) (pa_cons (pe_op op_fdivN (pv 3) pe_int) pa_nil)) (pv 1))))))), ?_⟩
  have rest : ∀ x : Int, 0 ≤ x.fmod m ∧ x.fmod m < m := fun x => by
    rw [Int.fmod_eq_emod_of_nonneg x (Int.le_of_lt h0)]
    exact ⟨Int.emod_nonneg x (by omega), Int.emod_lt_of_pos x h0⟩
  refine ⟨_, rfl, a, _, _, _, rfl, rfl, SqL.of hT, rfl, b, rfl, ?_⟩
  refine ite2 (fun hb => ?_) (fun hb => ?_)
  · refine ⟨_, rfl, a, _, _, _, rfl, rfl, SqL.of hT, rfl, _, _, rfl, rfl, _, rfl, ?_⟩
    refine ite2 (fun hc => ?_) (fun hc => ?_)
    · refine ⟨_, rfl, a, _, _, _, rfl, rfl, SqL.of hT, rfl, .inl ⟨_, rfl, _, rfl, _, _, rfl, rfl, (show m ≠ 0 by omega), ?_⟩⟩
      refine ⟨_, rfl, a, _, _, _, rfl, rfl, SqL.of hT, rfl, _, rfl, _, _, rfl, rfl, (show m ≠ 0 ∧ m.natAbs < 1073741824 by omega), _, rfl, a, _, _, _, rfl, rfl, hT, rfl, ?_⟩
      exact ⟨_, rfl, q _ _ (rest _).1 (rest _).2 But.upd ⟨_, _, _, _, upd_same⟩⟩
    · refine ⟨_, rfl, a, _, _, _, rfl, rfl, SqL.of hT, rfl, _, _, rfl, rfl, _, rfl, a, _, _, _, rfl, rfl, hT, rfl, ?_⟩
      refine ⟨_, rfl, a, _, _, _, rfl, rfl, SqL.of upd_same, rfl, _, _, rfl, rfl, .inr ⟨by decide, by decide⟩, _, rfl, a, _, _, _, rfl, rfl, SqL.of upd_same, rfl, _, _, rfl, rfl, .inr ⟨by decide, by decide⟩, _, _, rfl, rfl, _, _, rfl, rfl, .inl ⟨_, rfl, _, _, rfl, rfl, (show (2147483647 : Int) ≠ 0 by decide), ?_⟩⟩
      refine ⟨_, rfl, _, _, rfl, rfl, .inr ⟨by decide, by decide⟩, _, rfl, _, _, rfl, rfl, ⟨by decide, by decide⟩, _, _, rfl, rfl, .inr ⟨by decide, by decide⟩, _, _, rfl, rfl, _, rfl, a, _, _, _, rfl, rfl, SqL.of upd_same, rfl, _, _, rfl, rfl, .inl ⟨_, rfl, _, _, rfl, rfl, (show (2147483399 : Int) ≠ 0 by decide), ?_⟩⟩
      exact ⟨_, rfl, _, _, rfl, rfl, ⟨by decide, by decide⟩, .inl ⟨_, rfl, _, rfl, _, _, rfl, rfl, (show m ≠ 0 by omega), q _ _ (rest _).1 (rest _).2 But.upd ⟨_, _, _, _, upd_same⟩⟩⟩
  · refine ⟨_, rfl, a, _, _, _, rfl, rfl, SqL.of hT, rfl, _, _, rfl, rfl, _, rfl, a, _, _, _, rfl, rfl, hT, rfl, ?_⟩
    refine ⟨_, rfl, a, _, _, _, rfl, rfl, SqL.of upd_same, rfl, _, _, rfl, rfl, .inr ⟨by decide, by decide⟩, _, rfl, a, _, _, _, rfl, rfl, SqL.of upd_same, rfl, _, _, rfl, rfl, .inr ⟨by decide, by decide⟩, _, _, rfl, rfl, _, _, rfl, rfl, .inl ⟨_, rfl, _, _, rfl, rfl, (show (2147483647 : Int) ≠ 0 by decide), ?_⟩⟩
    refine ⟨_, rfl, _, _, rfl, rfl, .inr ⟨by decide, by decide⟩, _, rfl, _, _, rfl, rfl, ⟨by decide, by decide⟩, _, _, rfl, rfl, .inr ⟨by decide, by decide⟩, _, _, rfl, rfl, _, rfl, a, _, _, _, rfl, rfl, SqL.of upd_same, rfl, _, _, rfl, rfl, .inl ⟨_, rfl, _, _, rfl, rfl, (show (2147483399 : Int) ≠ 0 by decide), ?_⟩⟩
    exact ⟨_, rfl, _, _, rfl, rfl, ⟨by decide, by decide⟩, .inl ⟨_, rfl, _, rfl, _, _, rfl, rfl, (show m ≠ 0 by omega), q _ _ (rest _).1 (rest _).2 But.upd ⟨_, _, _, _, upd_same⟩⟩⟩
/-! ### dances, fractions -/
theorem six_letters {r : Int} (h0 : 0 ≤ r) (h1 : r < 6) : ∃ c, atI (("TTUURR" : Str)).cps.toList r = some c ∧ (c = 84 ∨ c = 85 ∨ c = 82) := by
  have e : (("TTUURR" : Str)).cps.toList = [84, 84, 85, 85, 82, 82] := by decide +kernel
  rw [e]
  obtain ⟨c, hc, m⟩ := atI_mk (xs := [84, 84, 85, 85, 82, 82]) h0 h1
  refine ⟨c, hc, ?_⟩
  simp at m
  omega
theorem four_sizes {r : Int} (h0 : 0 ≤ r) (h1 : r < 4) : ∃ z : Int, atI [V.int 1, .int 1, .int 3, .int 9] r = some (.int z) ∧ 1 ≤ z ∧ z ≤ 9 := by
  obtain ⟨c, hc, m⟩ := atI_mk (xs := [V.int 1, .int 1, .int 3, .int 9]) h0 h1
  simp at m
  rcases m with rfl | rfl | rfl
  · exact ⟨1, hc, by decide, by decide⟩
  · exact ⟨3, hc, by decide, by decide⟩
  · exact ⟨9, hc, by decide, by decide⟩
theorem e_empty : (("" : Str)) = S [] := by decide +kernel
theorem sizeLine_big : 16777216 ≤ sizeLine := by rw [sizeLine_eq]; decide
theorem fits {n : Nat} (h : n ≤ 16777216) : n ≤ sizeLine := Nat.le_trans h sizeLine_big
end
section
variable {P : Program} {w : World} {K : PySem.W.Frag} {mg : Str → Option Value} {base : Heap} {f : Addr} {fd : FuncData}
/-! ### the same data -/
inductive Dt where
  | int (i : Int) | str (z : Str) | non | tup (xs : List Dt) | lst (xs : List Dt)
/-- v stands for d, in at most n levels -/
def Is (H : Hp) : Nat → V → Dt → Prop
  | _, v, .int i => v = .int i
  | _, v, .str z => v = .str z
  | _, v, .non => v = .non
  | 0, _, .tup _ => False
  | 0, _, .lst _ => False
  | n + 1, v, .tup ds => ∃ (a : Addr) (xs : List V), v = .ref a ∧ H a = some (.tup xs) ∧ xs.length = ds.length ∧ ds.length ≤ 1000000 ∧ ∀ (i : Nat) (x : V) (d : Dt), xs[i]? = some x → ds[i]? = some d → Is H n x d
  | n + 1, v, .lst ds => ∃ (a : Addr) (xs : List V), v = .ref a ∧ H a = some (.lst xs) ∧ xs.length = ds.length ∧ ds.length ≤ 1000000 ∧ ∀ (i : Nat) (x : V) (d : Dt), xs[i]? = some x → ds[i]? = some d → Is H n x d
def spSame : Nat → Sp
  | 0 => fun _ _ _ _ => False
  | n + 1 => fun vs H Q _ => ∃ (x y : V) (d : Dt), vs = [x, y] ∧ Is H n x d ∧ Is H n y d ∧ Q (.bl true) H
theorem ok_same {n : Nat} (F : Fun K "_law_same" "_law_same" s_law_same f fd) (DS : Dfn P w K mg base "_law_same" n ["told", "due"] (spSame n)) (mI : mg "isinstance" = none) (mT : mg "tuple" = none) (mL : mg "list" = none) (ml : mg "len" = none) (mr : mg "range" = none)
    (ms : mg "str" = none) (mi : mg "int" = none) (mb : mg "bool" = none) : FnOk P w K mg base CX0 (n + 1) f fd ["told", "due"] (spSame (n + 1)) := by
  refine F.ok sc_law_same (fun vs H Q E h => ?_) (fun cdv A outer s H vs Q E hr h => ?_)
  · obtain ⟨x, y, d, rfl, _⟩ := h
    rfl
  obtain ⟨x, y, d, rfl, hx, hy, q⟩ := h
  have bT : bootBuiltins "tuple" = some (.type "tuple") := by decide +kernel
  have bL : bootBuiltins "list" = some (.type "list") := by decide +kernel
  have bS : bootBuiltins "str" = some (.type "str") := by decide +kernel
  have bI : bootBuiltins "int" = some (.type "int") := by decide +kernel
  have bB : bootBuiltins "bool" = some (.type "bool") := by decide +kernel
  have bi : bootBuiltins "isinstance" = some (.builtin "isinstance") := by decide +kernel
  refine ⟨_, pss_cons (ps_if (PW.pt (pw_or (pt_val (pe_callB call_isi rfl mI bi (pa_cons (pv 1) (pa_cons (pe_bltn (v := .ty "tuple") rfl mT bT rfl) pa_nil)))) (pw_or1 (pt_val (pe_callB call_isi rfl mI bi (pa_cons (pv 1) (pa_cons (pe_bltn (v := .ty "list") rfl mL bL rfl) pa_nil)))))))
      (pss_cons (ps_if (PW.pt (pw_or (pt_cmpR op_ne (pe_callB call_isi rfl mI bi (pa_cons (pv 1) (pa_cons (pe_bltn (v := .ty "tuple") rfl mT bT rfl) pa_nil))) (pe_callB call_isi rfl mI bi (pa_cons (pv 0) (pa_cons (pe_bltn (v := .ty "tuple") rfl mT bT rfl) pa_nil))) (nomark _))
          (pw_or1 (pt_cmpR op_ne (pe_callB call_isi rfl mI bi (pa_cons (pv 1) (pa_cons (pe_bltn (v := .ty "list") rfl mL bL rfl) pa_nil))) (pe_callB call_isi rfl mI bi (pa_cons (pv 0) (pa_cons (pe_bltn (v := .ty "list") rfl mL bL rfl) pa_nil))) (nomark _)))))
        (pss_one (ps_ret pe_bl)) pss_nil)
      (pss_cons (ps_if (pt_cmpR op_ne (pe_callB call_len_seq rfl ml PySem.boot_len (pa_cons (pv 0) pa_nil)) (pe_callB call_len_seq rfl ml PySem.boot_len (pa_cons (pv 1) pa_nil)) (nomark _)) (pss_one (ps_ret pe_bl)) pss_nil)
      (pss_cons (ps_for PassesOwn.never rfl (pi_range1 rfl mr (pa_cons (pe_callB call_len_seq rfl ml PySem.boot_len (pa_cons (pv 1) pa_nil)) pa_nil)) (pg_name (i := 2) sc_law_same.nd rfl (.inl rfl))
        (pss_one (ps_if (pt_not (pt_val (pe_do DS hr (pa_cons (pe_ix ix_seq (pv 0) (pv 2) (fun _ _ => rfl)) (pa_cons (pe_ix ix_seq (pv 1) (pv 2) (fun _ _ => rfl)) pa_nil))))) (pss_one (ps_ret pe_bl)) pss_nil)))
      (pss_one (ps_ret pe_bl))))) pss_nil)
    (pss_cons (ps_if (pt_cmpR op_isN (pv 1) pe_non (nomark _)) (pss_one (ps_ret (pe_cmpR op_isN (pv 0) pe_non (nomark _)))) pss_nil)
    (pss_cons (ps_if (pt_val (pe_callB call_isi rfl mI bi (pa_cons (pv 1) (pa_cons (pe_bltn (v := .ty "str") rfl ms bS rfl) pa_nil))))
      (pss_one (ps_ret (pe_and (pe_callB call_isi rfl mI bi (pa_cons (pv 0) (pa_cons (pe_bltn (v := .ty "str") rfl ms bS rfl) pa_nil))) (pe_one (pe_cmpR op_eq (pv 0) (pv 1) (nomark _)))))) pss_nil)
    (pss_one (ps_ret (pe_and (pe_callB call_isi rfl mI bi (pa_cons (pv 0) (pa_cons (pe_bltn (v := .ty "int") rfl mi bI rfl) pa_nil)))
      (pe_and (pe_not (pe_callB call_isi rfl mI bi (pa_cons (pv 0) (pa_cons (pe_bltn (v := .ty "bool") rfl mb bB rfl) pa_nil)))) (pe_one (pe_cmpR op_eq (pv 0) (pv 1) (nomark _))))))))), ?_⟩
  have isn : ∀ (a b : String) (r : Bool), kitB a b = some r → PySem.W.kitOne K (.type a) (.type b) = some r := fun a b r h => kit_ty h
  cases d with
  | int i =>
    cases (show x = .int i by cases n <;> exact hx)
    cases (show y = .int i by cases n <;> exact hy)
    refine ⟨_, rfl, _, _, _, _, false, rfl, .ty _, .base (.int _), kit_ty (by decide +kernel), _, rfl, iteF ?_⟩
    refine ⟨_, rfl, _, _, _, _, false, rfl, .ty _, .base (.int _), kit_ty (by decide +kernel), _, rfl, iteF ?_⟩
    refine ⟨_, rfl, rfl, _, rfl, iteF ?_⟩
    refine ⟨_, rfl, _, _, _, _, false, rfl, .ty _, .base (.int _), kit_ty (by decide +kernel), _, rfl, iteF ?_⟩
    refine ⟨_, rfl, _, _, _, _, true, rfl, .ty _, .base (.int _), kit_ty (by decide +kernel), _, rfl, iteT ?_⟩
    refine ⟨_, rfl, _, _, _, _, false, rfl, .ty _, .base (.int _), kit_ty (by decide +kernel), _, rfl, _, rfl, iteT ?_⟩
    refine ⟨_, rfl, _, rfl, rfl, ?_⟩
    rw [decide_eq_true rfl]
    exact q
  | str z =>
    cases (show x = .str z by cases n <;> exact hx)
    cases (show y = .str z by cases n <;> exact hy)
    refine ⟨_, rfl, _, _, _, _, false, rfl, .ty _, .base (.str _), kit_ty (by decide +kernel), _, rfl, iteF ?_⟩
    refine ⟨_, rfl, _, _, _, _, false, rfl, .ty _, .base (.str _), kit_ty (by decide +kernel), _, rfl, iteF ?_⟩
    refine ⟨_, rfl, rfl, _, rfl, iteF ?_⟩
    refine ⟨_, rfl, _, _, _, _, true, rfl, .ty _, .base (.str _), kit_ty (by decide +kernel), _, rfl, iteT ?_⟩
    refine ⟨_, rfl, _, _, _, _, true, rfl, .ty _, .base (.str _), kit_ty (by decide +kernel), _, rfl, iteT ?_⟩
    refine ⟨_, rfl, _, rfl, rfl, ?_⟩
    rw [decide_eq_true rfl]
    exact q
  | non =>
    cases (show x = .non by cases n <;> exact hx)
    cases (show y = .non by cases n <;> exact hy)
    refine ⟨_, rfl, _, _, _, _, false, rfl, .ty _, .base .non, kit_ty (by decide +kernel), _, rfl, iteF ?_⟩
    refine ⟨_, rfl, _, _, _, _, false, rfl, .ty _, .base .non, kit_ty (by decide +kernel), _, rfl, iteF ?_⟩
    exact ⟨_, rfl, rfl, _, rfl, iteT ⟨_, rfl, rfl, q⟩⟩
  | tup ds =>
    cases n with
    | zero => exact hx.elim
    | succ n =>
      obtain ⟨a, xs, rfl, ha, la, ln, ka⟩ := hx
      obtain ⟨b, ys, rfl, hb, lb, _, kb⟩ := hy
      refine ⟨_, rfl, _, _, _, _, true, rfl, .ty _, .base (.tup hb), kit_ty (by decide +kernel), _, rfl, iteT ?_⟩
      refine ⟨_, rfl, _, _, _, _, true, rfl, .ty _, .base (.tup hb), kit_ty (by decide +kernel), _, rfl, _, _, _, _, true, rfl, .ty _, .base (.tup ha), kit_ty (by decide +kernel), rfl, _, rfl, iteF ?_⟩
      refine ⟨_, rfl, _, _, _, _, false, rfl, .ty _, .base (.tup hb), kit_ty (by decide +kernel), _, rfl, _, _, _, _, false, rfl, .ty _, .base (.tup ha), kit_ty (by decide +kernel), rfl, _, rfl, iteF ?_⟩
      refine ⟨_, rfl, a, xs, rfl, .inr (SqT.of ha), _, rfl, b, ys, rfl, .inr (SqT.of hb), rfl, _, rfl, ?_⟩
      rw [show (decide (V.int (xs.length : Int) = V.int (ys.length : Int))) = true from decide_eq_true (by rw [la, lb])]
      refine iteF ?_
      refine ⟨_, rfl, b, ys, rfl, .inr (SqT.of hb), (ys.length : Int), rfl, by omega, by omega, for_range (lo := 0) (n := (ys.length : Int).toNat) (fun i σ H' => H' = H ∧ ∃ v, σ = [some (.ref a), some (.ref b), v]) ⟨rfl, none, rfl⟩ ?_ ?_⟩
      · rintro i σ _ hi ⟨rfl, v, rfl⟩
        have hi1 : i < ys.length := by omega
        have hi2 : i < xs.length := by omega
        have hi3 : i < ds.length := by omega
        refine ⟨_, rfl, _, rfl, .inr (.inl ⟨a, xs, _, _, rfl, rfl, SqT.of ha, at_of (j := i) (by omega) (List.getElem?_eq_getElem hi2), ?_⟩)⟩
        refine ⟨_, rfl, _, rfl, .inr (.inl ⟨b, ys, _, _, rfl, rfl, SqT.of hb, at_of (j := i) (by omega) (List.getElem?_eq_getElem hi1), ?_⟩)⟩
        refine ⟨_, _, ds[i], rfl, ka i _ _ (List.getElem?_eq_getElem hi2) (List.getElem?_eq_getElem hi3), kb i _ _ (List.getElem?_eq_getElem hi1) (List.getElem?_eq_getElem hi3), _, rfl, iteF ⟨rfl, _, rfl⟩⟩
      · rintro σ _ ⟨rfl, v, rfl⟩
        exact q
  | lst ds =>
    cases n with
    | zero => exact hx.elim
    | succ n =>
      obtain ⟨a, xs, rfl, ha, la, ln, ka⟩ := hx
      obtain ⟨b, ys, rfl, hb, lb, _, kb⟩ := hy
      refine ⟨_, rfl, _, _, _, _, false, rfl, .ty _, .base (.lst hb), kit_ty (by decide +kernel), _, rfl, iteF ?_⟩
      refine ⟨_, rfl, _, _, _, _, true, rfl, .ty _, .base (.lst hb), kit_ty (by decide +kernel), _, rfl, iteT ?_⟩
      refine ⟨_, rfl, _, _, _, _, false, rfl, .ty _, .base (.lst hb), kit_ty (by decide +kernel), _, rfl, _, _, _, _, false, rfl, .ty _, .base (.lst ha), kit_ty (by decide +kernel), rfl, _, rfl, iteF ?_⟩
      refine ⟨_, rfl, _, _, _, _, true, rfl, .ty _, .base (.lst hb), kit_ty (by decide +kernel), _, rfl, _, _, _, _, true, rfl, .ty _, .base (.lst ha), kit_ty (by decide +kernel), rfl, _, rfl, iteF ?_⟩
      refine ⟨_, rfl, a, xs, rfl, .inl (SqL.of ha), _, rfl, b, ys, rfl, .inl (SqL.of hb), rfl, _, rfl, ?_⟩
      rw [show (decide (V.int (xs.length : Int) = V.int (ys.length : Int))) = true from decide_eq_true (by rw [la, lb])]
      refine iteF ?_
      refine ⟨_, rfl, b, ys, rfl, .inl (SqL.of hb), (ys.length : Int), rfl, by omega, by omega, for_range (lo := 0) (n := (ys.length : Int).toNat) (fun i σ H' => H' = H ∧ ∃ v, σ = [some (.ref a), some (.ref b), v]) ⟨rfl, none, rfl⟩ ?_ ?_⟩
      · rintro i σ _ hi ⟨rfl, v, rfl⟩
        have hi1 : i < ys.length := by omega
        have hi2 : i < xs.length := by omega
        have hi3 : i < ds.length := by omega
        refine ⟨_, rfl, _, rfl, .inl ⟨a, xs, _, _, rfl, rfl, SqL.of ha, at_of (j := i) (by omega) (List.getElem?_eq_getElem hi2), ?_⟩⟩
        refine ⟨_, rfl, _, rfl, .inl ⟨b, ys, _, _, rfl, rfl, SqL.of hb, at_of (j := i) (by omega) (List.getElem?_eq_getElem hi1), ?_⟩⟩
        refine ⟨_, _, ds[i], rfl, ka i _ _ (List.getElem?_eq_getElem hi2) (List.getElem?_eq_getElem hi3), kb i _ _ (List.getElem?_eq_getElem hi1) (List.getElem?_eq_getElem hi3), _, rfl, iteF ⟨rfl, _, rfl⟩⟩
      · rintro σ _ ⟨rfl, v, rfl⟩
        exact q
theorem none_same : FnOk P w K mg base CX0 0 f fd ["told", "due"] (spSame 0) := by
  have no : ∀ vs H Q E, ¬ spSame 0 vs H Q E := fun vs H Q E h => h
  exact ⟨fun vs H Q E h => absurd h (no vs H Q E), fun A outer s H args us vs Q E _ _ _ _ h => absurd h (no vs H Q E)⟩
end
section
variable {P : Program} {w : World} {K : PySem.W.Frag} {mg : Str → Option Value} {base : Heap} {f : Addr} {fd : FuncData}
theorem sign_eq {c n : Nat} {z : Str} (e : z = S [n]) : (V.str (S [c]) = V.str z) ↔ c = n := by
  subst e
  constructor
  · intro h
    have := S_inj (V.str.inj h)
    simpa using this
  · rintro rfl; rfl
theorem e_T : (("T" : Str)) = S [84] := by decide +kernel
theorem e_U : (("U" : Str)) = S [85] := by decide +kernel
theorem e_R : (("R" : Str)) = S [82] := by decide +kernel
def Tup2 (H : Hp) (t : Addr) (v : Int × Int) : Prop := H t = some (.tup [.int v.1, .int v.2])
def spCalled (K : PySem.W.Frag) : Sp := fun vs H Q _ => ∃ (t : Addr) (v : Int × Int) (c : Nat), vs = [.ref t, .str (S [c])] ∧ Tup2 H t v ∧ ∀ t' H', Same H H' → Tup2 H' t' (called v c) → Q (.ref t') H'
theorem ok_called (F : Fun K "_law_called" "_law_called" s_law_called f fd) : FnOk P w K mg base CX0 1 f fd ["value", "letter"] (spCalled K) := by
  refine F.ok sc_law_called (fun vs H Q E h => ?_) (fun cdv A outer s H vs Q E hr h => ?_)
  · obtain ⟨a, m, c, rfl, _⟩ := h
    rfl
  obtain ⟨t, ⟨p, q'⟩, c, rfl, hT, q⟩ := h
  refine ⟨_, pss_cons (ps_asg (pv 0) (pg_tup (by rfl) (pgs_cons (pg_name (i := 2) sc_law_called.nd rfl (.inl rfl)) (pgs_cons (pg_name (i := 3) sc_law_called.nd rfl (.inl rfl)) pgs_nil))))
    (pss_cons (ps_if (pt_cmpR op_eq (pv 1) pe_str (nomark _)) (pss_one (ps_ret (pe_tup (pa_cons (pe_op op_add (pv 2) (pv 3)) (pa_cons (pv 3) pa_nil))))) pss_nil)
    (pss_cons (ps_if (pt_cmpR op_eq (pv 1) pe_str (nomark _)) (pss_one (ps_ret (pe_tup (pa_cons (pe_op op_sub (pv 2) (pv 3)) (pa_cons (pv 3) pa_nil))))) pss_nil)
    (pss_cons (ps_if (pt_cmpR op_gt (pv 2) pe_int (nomark _)) (pss_one (ps_ret (pe_tup (pa_cons (pe_op op_sub pe_int (pv 3)) (pa_cons (pv 2) pa_nil))))) pss_nil)
    (pss_cons (ps_if (pt_cmpR op_lt (pv 2) pe_int (nomark _)) (pss_one (ps_ret (pe_tup (pa_cons (pv 3) (pa_cons (pe_op op_sub pe_int (pv 2)) pa_nil))))) pss_nil)
    (pss_one (ps_ret (pe_tup (pa_cons pe_int (pa_cons pe_int pa_nil))))))))), ?_⟩
  have two : 2 ≤ sizeLine := fits (by decide)
  refine ⟨_, rfl, t, _, rfl, SqT.of hT, rfl, _, _, rfl, _, _, rfl, rfl, ?_⟩
  refine ⟨_, rfl, rfl, _, rfl, ite2 (fun c1 => ?_) (fun c1 => ?_)⟩
  · have k1 : c = 84 := (sign_eq e_T).mp (of_decide_eq_true c1)
    refine ⟨_, rfl, _, rfl, _, _, rfl, rfl, _, rfl, two, fun n hn => q n _ (same_new hn _) ?_⟩
    unfold Tup2 called
    rw [upd_same, if_pos k1]
  have k1 : ¬ c = 84 := fun z => c1 (decide_eq_true ((sign_eq e_T).mpr z))
  refine ⟨_, rfl, rfl, _, rfl, ite2 (fun c2 => ?_) (fun c2 => ?_)⟩
  · have k2 : c = 85 := (sign_eq e_U).mp (of_decide_eq_true c2)
    refine ⟨_, rfl, _, rfl, _, _, rfl, rfl, _, rfl, two, fun n hn => q n _ (same_new hn _) ?_⟩
    unfold Tup2 called
    rw [upd_same, if_neg k1, if_pos k2]
  have k2 : ¬ c = 85 := fun z => c2 (decide_eq_true ((sign_eq e_U).mpr z))
  refine ⟨_, rfl, _, _, rfl, rfl, _, rfl, ite2 (fun c3 => ?_) (fun c3 => ?_)⟩
  · have k3 : 0 < p := of_decide_eq_true c3
    refine ⟨_, rfl, _, _, rfl, rfl, _, rfl, two, fun n hn => q n _ (same_new hn _) ?_⟩
    unfold Tup2 called
    rw [upd_same, if_neg k1, if_neg k2, if_pos k3]
  have k3 : ¬ 0 < p := fun z => c3 (decide_eq_true z)
  refine ⟨_, rfl, _, _, rfl, rfl, _, rfl, ite2 (fun c4 => ?_) (fun c4 => ?_)⟩
  · have k4 : p < 0 := of_decide_eq_true c4
    refine ⟨_, rfl, _, rfl, _, _, rfl, rfl, two, fun n hn => q n _ (same_new hn _) ?_⟩
    unfold Tup2 called
    rw [upd_same, if_neg k1, if_neg k2, if_neg k3, if_pos k4]
  have k4 : ¬ p < 0 := fun z => c4 (decide_eq_true z)
  refine ⟨two, fun n hn => q n _ (same_new hn _) ?_⟩
  unfold Tup2 called
  rw [upd_same, if_neg k1, if_neg k2, if_neg k3, if_neg k4]
theorem Tup2.same {H H' : Hp} {t : Addr} {v : Int × Int} (h : Tup2 H t v) (s : Same H H') : Tup2 H' t v := s _ _ h
theorem Tup2.but {H H' : Hp} {a t : Addr} {v : Int × Int} (h : Tup2 H t v) (s : But a H H') (tp : Tape H a) : Tup2 H' t v := by
  obtain ⟨y, c, z, b, e⟩ := tp
  exact s _ _ (ne_of h e (by intro q; cases q)) h
end
section
variable {P : Program} {w : World} {K : PySem.W.Frag} {mg : Str → Option Value} {base : Heap} {f : Addr} {fd : FuncData}
/-! ### the program: turned, after -/
def spTurned : Sp := fun vs H Q _ => ∃ p q' : Int, vs = [.int p, .int q'] ∧ ∀ t' H', Same H H' → Tup2 H' t' (called (p, q') 82) → Q (.ref t') H'
theorem ok_turned (F : Fun K "turned" "turned" s_turned f fd) : FnOk P w K mg base CX0 1 f fd ["p", "q"] spTurned := by
  refine F.ok sc_turned (fun vs H Q E h => ?_) (fun cdv A outer s H vs Q E hr h => ?_)
  · obtain ⟨p, q', rfl, _⟩ := h
    rfl
  obtain ⟨p, q', rfl, q⟩ := h
  refine ⟨_, pss_cons (ps_if (pt_cmpR op_eq (pv 0) pe_int (nomark _)) (pss_one (ps_ret (pe_tup (pa_cons pe_int (pa_cons pe_int pa_nil))))) pss_nil)
    (pss_cons (ps_if (pt_cmpR op_lt (pv 0) pe_int (nomark _)) (pss_one (ps_ret (pe_tup (pa_cons (pv 1) (pa_cons (pe_un un_neg (pv 0)) pa_nil))))) pss_nil)
    (pss_one (ps_ret (pe_tup (pa_cons (pe_un un_neg (pv 1)) (pa_cons (pv 0) pa_nil)))))), ?_⟩
  have two : 2 ≤ sizeLine := fits (by decide)
  have e1 : ¬ (82 : Nat) = 84 := by decide
  have e2 : ¬ (82 : Nat) = 85 := by decide
  refine ⟨_, rfl, rfl, _, rfl, ite2 (fun c1 => ?_) (fun c1 => ?_)⟩
  · have k1 : p = 0 := V.int.inj (of_decide_eq_true c1)
    subst k1
    refine ⟨two, fun n hn => q n _ (same_new hn _) ?_⟩
    unfold Tup2 called
    rw [upd_same, if_neg e1, if_neg e2, if_neg (show ¬ (0 : Int) < 0 by decide), if_neg (show ¬ (0 : Int) < 0 by decide)]
  have k1 : ¬ p = 0 := fun z => c1 (decide_eq_true (by rw [z]))
  refine ⟨_, rfl, _, _, rfl, rfl, _, rfl, ite2 (fun c2 => ?_) (fun c2 => ?_)⟩
  · have k2 : p < 0 := of_decide_eq_true c2
    refine ⟨_, rfl, _, rfl, _, rfl, two, fun n hn => q n _ (same_new hn _) ?_⟩
    unfold Tup2 called
    rw [upd_same, if_neg e1, if_neg e2, if_neg (show ¬ (0 : Int) < p by omega), if_pos k2, Int.zero_sub]
  have k2 : ¬ p < 0 := fun z => c2 (decide_eq_true z)
  refine ⟨_, rfl, _, rfl, _, rfl, two, fun n hn => q n _ (same_new hn _) ?_⟩
  unfold Tup2 called
  rw [upd_same, if_neg e1, if_neg e2, if_pos (show (0 : Int) < p by omega), Int.zero_sub]
theorem called_other {v : Int × Int} {c : Nat} (h1 : ¬ c = 84) (h2 : ¬ c = 85) : called v c = called v 82 := by
  unfold called
  rw [if_neg h1, if_neg h2, if_neg (show ¬ (82 : Nat) = 84 by decide), if_neg (show ¬ (82 : Nat) = 85 by decide)]
def spAfter : Sp := fun vs H Q _ => ∃ (t : Addr) (v : Int × Int) (l : List Nat), vs = [.ref t, .str (S l)] ∧ Tup2 H t v ∧ ∀ t' H', Same H H' → Tup2 H' t' (run v l) → Q (.ref t') H'
theorem ok_after (F : Fun K "after" "after" s_after f fd) (DT : Dfn P w K mg base "turned" 1 ["p", "q"] spTurned) : FnOk P w K mg base CX0 2 f fd ["fraction", "dance"] spAfter := by
  refine F.ok sc_after (fun vs H Q E h => ?_) (fun cdv A outer s H vs Q E hr h => ?_)
  · obtain ⟨t, v, l, rfl, _⟩ := h
    rfl
  obtain ⟨t, v, l, rfl, hT, q⟩ := h
  refine ⟨_, pss_cons (ps_asg (pv 0) (pg_tup (by rfl) (pgs_cons (pg_name (i := 2) sc_after.nd rfl (.inl rfl)) (pgs_cons (pg_name (i := 3) sc_after.nd rfl (.inl rfl)) pgs_nil))))
    (pss_cons (ps_for PassesOwn.never rfl (pi_str (pv 1)) (pg_name (i := 4) sc_after.nd rfl (.inl rfl))
      (pss_one (ps_if (pt_cmpR op_eq (pv 4) pe_str (nomark _)) (pss_one (ps_aug (i := 2) sc_after.nd rfl (.inl rfl) (pv 3) ip_add))
        (pss_one (ps_if (pt_cmpR op_eq (pv 4) pe_str (nomark _)) (pss_one (ps_aug (i := 2) sc_after.nd rfl (.inl rfl) (pv 3) ip_sub))
          (pss_one (ps_asg (pe_do DT hr (pa_cons (pv 2) (pa_cons (pv 3) pa_nil))) (pg_tup (by rfl) (pgs_cons (pg_name (i := 2) sc_after.nd rfl (.inl rfl)) (pgs_cons (pg_name (i := 3) sc_after.nd rfl (.inl rfl)) pgs_nil))))))))))
    (pss_one (ps_ret (pe_tup (pa_cons (pv 2) (pa_cons (pv 3) pa_nil)))))), ?_⟩
  refine ⟨_, rfl, t, _, rfl, SqT.of hT, rfl, _, _, rfl, _, _, rfl, rfl, ?_⟩
  refine ⟨_, rfl, _, rfl, for_str (l := l) (fun i σ H' => ∃ (x : Option V), σ = [some (.ref t), some (.str (S l)), some (.int (run v (l.take i)).1), some (.int (run v (l.take i)).2), x] ∧ Same H H') ?_ ?_ ?_⟩
  · exact ⟨none, rfl, Same.refl H⟩
  · rintro i c σ H' hc ⟨x, rfl, sm⟩
    have st := run_take v hc
    generalize run v (l.take i) = u at *
    obtain ⟨p, q'⟩ := u
    refine ⟨_, rfl, rfl, _, rfl, ite2 (fun c1 => ?_) (fun c1 => ?_)⟩
    · have k1 : c = 84 := (sign_eq e_T).mp (of_decide_eq_true c1)
      refine ⟨_, rfl, _, rfl, _, _, rfl, rfl, some (.str (S [c])), ?_, sm⟩
      rw [st]
      unfold called
      rw [if_pos k1]
      rfl
    have k1 : ¬ c = 84 := fun z => c1 (decide_eq_true ((sign_eq e_T).mpr z))
    refine ⟨_, rfl, rfl, _, rfl, ite2 (fun c2 => ?_) (fun c2 => ?_)⟩
    · have k2 : c = 85 := (sign_eq e_U).mp (of_decide_eq_true c2)
      refine ⟨_, rfl, _, rfl, _, _, rfl, rfl, some (.str (S [c])), ?_, sm⟩
      rw [st]
      unfold called
      rw [if_neg k1, if_pos k2]
      rfl
    have k2 : ¬ c = 85 := fun z => c2 (decide_eq_true ((sign_eq e_U).mpr z))
    refine ⟨_, rfl, _, rfl, p, q', rfl, fun t' H2 s2 tt => ?_⟩
    refine ⟨t', _, rfl, SqT.of tt, rfl, _, _, rfl, _, _, rfl, rfl, some (.str (S [c])), ?_, sm.trans s2⟩
    rw [st, called_other k1 k2]
    rfl
  · rintro σ H' ⟨x, rfl, sm⟩
    rw [List.take_of_length_le (Nat.le_refl _)]
    exact ⟨_, rfl, _, rfl, fits (by show 2 ≤ 16777216; decide), fun n hn => q n _ (sm.trans (same_new hn _)) upd_same⟩
end
section
theorem int_is {H : Hp} {n : Nat} {i : Int} : Is H n (.int i) (.int i) := by cases n <;> rfl
theorem str_is {H : Hp} {n : Nat} {z : Str} : Is H n (.str z) (.str z) := by cases n <;> rfl
theorem is_tup {H : Hp} {n : Nat} {a : Addr} {xs : List V} {ds : List Dt} (h : H a = some (.tup xs)) (z : xs.length = ds.length) (m : ds.length ≤ 1000000) (k : ∀ (i : Nat) (x : V) (d : Dt), xs[i]? = some x → ds[i]? = some d → Is H n x d) : Is H (n + 1) (.ref a) (.tup ds) := ⟨a, xs, rfl, h, z, m, k⟩
theorem is_lst {H : Hp} {n : Nat} {a : Addr} {xs : List V} {ds : List Dt} (h : H a = some (.lst xs)) (z : xs.length = ds.length) (m : ds.length ≤ 1000000) (k : ∀ (i : Nat) (x : V) (d : Dt), xs[i]? = some x → ds[i]? = some d → Is H n x d) : Is H (n + 1) (.ref a) (.lst ds) := ⟨a, xs, rfl, h, z, m, k⟩
end
section
theorem dp_tup2 {K : PySem.W.Frag} {H : Hp} {t : Addr} {v : Int × Int} (h : Tup2 H t v) : Dp K H (.ref t) (.tuple [.int v.1, .int v.2]) := .tup (SqT.of h) (.cons (.int _) (.cons (.int _) .nil))
theorem can2 (a b : Int) : PyData.canLay0 (.tuple [.int a, .int b]) = true := by
  simp [PyData.canLay0, PyData.canLayAll0]
theorem sh2 (a b : Int) : SeqAt.shaped (.tuple [.int a, .int b]) = true := by
  unfold SeqAt.shaped
  rw [can2]
  simp [PyData.depth, PyData.depthAll]
theorem eqv2 (v u : Int × Int) : PyData.eqv (.tuple [.int v.1, .int v.2]) (.tuple [.int u.1, .int u.2]) = decide (v = u) := by
  obtain ⟨a, b⟩ := v
  obtain ⟨c, d⟩ := u
  by_cases h1 : a = c <;> by_cases h2 : b = d <;> simp [PyData.eqv, PyData.eqvAll, h1, h2]
end
/-! ### the quotients of a fraction and the number of its steps -/
def QL (p q : Nat) : List Nat := if h : q = 0 then [] else p / q :: QL q (p % q)
termination_by q
decreasing_by exact Nat.mod_lt _ (Nat.pos_of_ne_zero h)
theorem QL_zero (p : Nat) : QL p 0 = [] := by rw [QL]; exact dif_pos rfl
theorem QL_step {p q : Nat} (h : 0 < q) : QL p q = p / q :: QL q (p % q) := by
  conv => lhs; rw [QL]
  exact dif_neg (by omega)
/-- the sum of the quotients and their number -/
def EQ (p q : Nat) : Nat := (QL p q).sum + (QL p q).length
theorem EQ_zero (p : Nat) : EQ p 0 = 0 := by unfold EQ; rw [QL_zero]; rfl
theorem EQ_step {p q : Nat} (h : 0 < q) : EQ p q = p / q + 1 + EQ q (p % q) := by
  unfold EQ
  rw [QL_step h, List.sum_cons, List.length_cons]
  omega
theorem EQ_pos {p q : Nat} (h : 0 < q) : 1 ≤ EQ p q := by
  rw [EQ_step h]
  exact Nat.le_trans (Nat.le_add_left 1 (p / q)) (Nat.le_add_right _ _)
theorem EQ_add {p q : Nat} (h : 0 < q) : EQ (p + q) q = EQ p q + 1 := by
  rw [EQ_step h, EQ_step h, Nat.add_div_right _ h, Nat.add_mod_right]
  omega
theorem EQ_swap {p q : Nat} (h : p < q) : EQ p q = 1 + EQ q p := by
  rw [EQ_step (by omega), Nat.div_eq_of_lt h, Nat.mod_eq_of_lt h]
theorem EQ_half {p q : Nat} (h0 : 0 < p) (h : 2 * p < q) : EQ (q - p) q = EQ p q + 1 := by
  have e : EQ (q - p) q = 1 + EQ q (q - p) := EQ_swap (by omega)
  have e1 : EQ q (q - p) = EQ p (q - p) + 1 := by
    have := EQ_add (p := p) (q := q - p) (by omega)
    rw [show p + (q - p) = q by omega] at this
    exact this
  have e2 : EQ p (q - p) = 1 + EQ (q - p) p := EQ_swap (by omega)
  have e3 : EQ p q = 1 + EQ q p := EQ_swap (by omega)
  have e4 : EQ q p = EQ (q - p) p + 1 := by
    have := EQ_add (p := q - p) (q := p) h0
    rw [show q - p + p = q by omega] at this
    exact this
  omega
theorem EQ_sub {p q : Nat} (h0 : 0 < p) (h : p < q) : EQ (q - p) q = EQ p q + 1 ∨ EQ p q = EQ (q - p) q + 1 ∨ EQ (q - p) q = EQ p q := by
  rcases Nat.lt_trichotomy (2 * p) q with c | c | c
  · exact .inl (EQ_half h0 c)
  · exact .inr (.inr (by rw [show q - p = p by omega]))
  · have := EQ_half (p := q - p) (q := q) (by omega) (by omega)
    rw [show q - (q - p) = p by omega] at this
    exact .inr (.inl this)
/-- the steps of a fraction -/
def stp (v : Int × Int) : Nat := if v.2 = 0 then 1 else EQ v.1.natAbs v.2.natAbs - 1
theorem stp_inf {p : Int} : stp (p, 0) = 1 := if_pos rfl
theorem stp_fin {p q : Int} (h : 0 < q) : stp (p, q) + 1 = EQ p.natAbs q.natAbs := by
  unfold stp
  rw [if_neg (show ¬ (p, q).2 = 0 by show ¬ q = 0; omega)]
  have := EQ_pos (p := p.natAbs) (q := q.natAbs) (by omega)
  show EQ p.natAbs q.natAbs - 1 + 1 = _
  omega
theorem stp_zero : stp (0, 1) = 0 := by
  have := stp_fin (p := 0) (q := 1) (by decide)
  rw [EQ_step (by decide)] at this
  have e : (0 : Int).natAbs % (1 : Int).natAbs = 0 := rfl
  rw [e, EQ_zero] at this
  have : (0 : Int).natAbs / (1 : Int).natAbs = 0 := rfl
  omega
theorem stp_neg (p q : Int) : stp (-p, q) = stp (p, q) := by
  unfold stp
  rw [Int.natAbs_neg]
theorem EQ_one {p q : Nat} (h : 0 < q) (e : EQ p q = 1) : p = 0 := by
  rw [EQ_step h] at e
  generalize hd : p / q = d at e
  have e1 : EQ q (p % q) = 0 := by omega
  have e2 : p / q = 0 := by omega
  have e3 : p % q = 0 := Decidable.byContradiction fun z => by
    have := EQ_pos (p := q) (q := p % q) (by omega)
    omega
  have := Nat.div_add_mod p q
  rw [e2, e3] at this
  omega
theorem stp_eq_zero {v : Int × Int} (g : Good v) (e : stp v = 0) : v = (0, 1) := by
  obtain ⟨p, q⟩ := v
  obtain ⟨h1, h2⟩ := g
  rcases h1 with h1 | h1
  · have h1' : 0 < q := h1
    have := stp_fin (p := p) h1'
    rw [e] at this
    have z := EQ_one (by omega) this.symm
    have hp : p = 0 := Int.natAbs_eq_zero.mp z
    subst hp
    have h2' : Int.gcd 0 q = 1 := h2
    rw [Int.gcd_zero_left] at h2'
    have : q = 1 := by omega
    rw [this]
  · cases h1
    rw [stp_inf] at e
    cases e
theorem stp_twist {p q : Int} : stp (p + q, q) ≤ stp (p, q) + 1 ∧ stp (p, q) ≤ stp (p + q, q) + 1 := by
  by_cases hq : 0 < q
  · have a := stp_fin (p := p) hq
    have b := stp_fin (p := p + q) hq
    rcases Int.lt_or_le p 0 with c | c
    · rcases Int.lt_or_le (-q) p with d | d
      · have e : (p + q).natAbs = q.natAbs - p.natAbs := by omega
        rw [e] at b
        have := EQ_sub (p := p.natAbs) (q := q.natAbs) (by omega) (by omega)
        omega
      · have e : p.natAbs = (p + q).natAbs + q.natAbs := by omega
        rw [e, EQ_add (by omega)] at a
        omega
    · have e : (p + q).natAbs = p.natAbs + q.natAbs := by omega
      rw [e, EQ_add (by omega)] at b
      omega
  · rcases Int.lt_or_le q 0 with c | c
    · have a : stp (p, q) = EQ p.natAbs q.natAbs - 1 := if_neg (show ¬ q = 0 by omega)
      have b : stp (p + q, q) = EQ (p + q).natAbs q.natAbs - 1 := if_neg (show ¬ q = 0 by omega)
      have a1 := EQ_pos (p := p.natAbs) (q := q.natAbs) (by omega)
      have b1 := EQ_pos (p := (p + q).natAbs) (q := q.natAbs) (by omega)
      rcases Int.lt_or_le 0 p with e | e
      · rcases Int.lt_or_le p (-q) with d | d
        · have e : (p + q).natAbs = q.natAbs - p.natAbs := by omega
          rw [e] at b b1
          have := EQ_sub (p := p.natAbs) (q := q.natAbs) (by omega) (by omega)
          omega
        · have e : p.natAbs = (p + q).natAbs + q.natAbs := by omega
          rw [e, EQ_add (by omega)] at a a1
          omega
      · have e : (p + q).natAbs = p.natAbs + q.natAbs := by omega
        rw [e, EQ_add (by omega)] at b b1
        omega
    · have : q = 0 := by omega
      subst this
      rw [stp_inf, stp_inf]
      omega
theorem EQ_turn {p q : Nat} (hp : 0 < p) (hq : 0 < q) : EQ q p = EQ p q + 1 ∨ EQ p q = EQ q p + 1 ∨ EQ p q = EQ q p := by
  rcases Nat.lt_trichotomy p q with c | c | c
  · exact .inr (.inl (by rw [EQ_swap c]; omega))
  · subst c; exact .inr (.inr rfl)
  · exact .inl (by rw [EQ_swap c]; omega)
/-- along each call the steps change by at most one -/
theorem stp_near {v : Int × Int} (g : Good v) (c : Nat) : stp (called v c) ≤ stp v + 1 ∧ stp v ≤ stp (called v c) + 1 := by
  obtain ⟨p, q⟩ := v
  unfold called
  by_cases c1 : c = 84
  · rw [if_pos c1]; exact stp_twist
  rw [if_neg c1]
  by_cases c2 : c = 85
  · rw [if_pos c2]
    have := stp_twist (p := p - q) (q := q)
    rw [Int.sub_add_cancel] at this
    exact ⟨this.2, this.1⟩
  rw [if_neg c2]
  have hq : 0 < q ∨ (p = 1 ∧ q = 0) := by
    rcases g.1 with h | h
    · exact .inl h
    · cases h; exact .inr ⟨rfl, rfl⟩
  by_cases c3 : 0 < p
  · rw [if_pos (show 0 < (p, q).1 from c3)]
    show stp (0 - q, p) ≤ stp (p, q) + 1 ∧ stp (p, q) ≤ stp (0 - q, p) + 1
    have b := stp_fin (p := 0 - q) c3
    rw [show (0 - q).natAbs = q.natAbs by omega] at b
    rcases hq with h | ⟨rfl, rfl⟩
    · have a := stp_fin (p := p) h
      have := EQ_turn (p := p.natAbs) (q := q.natAbs) (by omega) (by omega)
      omega
    · rw [stp_inf]
      rw [EQ_step (by decide)] at b
      have e : (0 : Int).natAbs % (1 : Int).natAbs = 0 := rfl
      rw [e, EQ_zero] at b
      have : (0 : Int).natAbs / (1 : Int).natAbs = 0 := rfl
      omega
  rw [if_neg (show ¬ 0 < (p, q).1 from c3)]
  by_cases c4 : p < 0
  · rw [if_pos (show (p, q).1 < 0 from c4)]
    show stp (q, 0 - p) ≤ stp (p, q) + 1 ∧ stp (p, q) ≤ stp (q, 0 - p) + 1
    have b := stp_fin (p := q) (q := 0 - p) (by omega)
    rw [show (0 - p).natAbs = p.natAbs by omega] at b
    rcases hq with h | ⟨rfl, rfl⟩
    · have a := stp_fin (p := p) h
      have := EQ_turn (p := p.natAbs) (q := q.natAbs) (by omega) (by omega)
      omega
    · omega
  rw [if_neg (show ¬ (p, q).1 < 0 from c4)]
  have hp : p = 0 := by omega
  subst hp
  have z : (0, q) = ((0, 1) : Int × Int) := by
    rcases hq with h | ⟨h, _⟩
    · have h2 : Int.gcd 0 q = 1 := g.2
      rw [Int.gcd_zero_left] at h2
      rw [show q = 1 by omega]
    · cases h
  rw [z, stp_zero, stp_inf]
  omega
/-- for each fraction but 0 one of the calls makes the steps less by one -/
theorem stp_down {v : Int × Int} (g : Good v) (n : v ≠ (0, 1)) : ∃ c, (c = 84 ∨ c = 85 ∨ c = 82) ∧ stp (called v c) + 1 = stp v := by
  obtain ⟨p, q⟩ := v
  have hq : 0 < q ∨ (p = 1 ∧ q = 0) := by
    rcases g.1 with h | h
    · exact .inl h
    · cases h; exact .inr ⟨rfl, rfl⟩
  rcases hq with h | ⟨rfl, rfl⟩
  · have a := stp_fin (p := p) h
    rcases Int.lt_or_le (-q) p with d | d
    · rcases Int.lt_or_le p q with e | e
      · have p0 : p ≠ 0 := fun z => by
          subst z
          have h2 : Int.gcd 0 q = 1 := g.2
          rw [Int.gcd_zero_left] at h2
          exact n (by rw [show q = 1 by omega])
        refine ⟨82, .inr (.inr rfl), ?_⟩
        rw [EQ_swap (show p.natAbs < q.natAbs by omega)] at a
        by_cases c3 : 0 < p
        · have e1 : called (p, q) 82 = (0 - q, p) := by
            unfold called
            rw [if_neg (by decide), if_neg (by decide), if_pos (show 0 < (p, q).1 from c3)]
          rw [e1]
          have b := stp_fin (p := 0 - q) c3
          rw [show (0 - q).natAbs = q.natAbs by omega] at b
          omega
        · have c4 : p < 0 := by omega
          have e1 : called (p, q) 82 = (q, 0 - p) := by
            unfold called
            rw [if_neg (by decide), if_neg (by decide), if_neg (show ¬ 0 < (p, q).1 from c3), if_pos (show (p, q).1 < 0 from c4)]
          rw [e1]
          have b := stp_fin (p := q) (q := 0 - p) (by omega)
          rw [show (0 - p).natAbs = p.natAbs by omega] at b
          omega
      · refine ⟨85, .inr (.inl rfl), ?_⟩
        have e1 : called (p, q) 85 = (p - q, q) := rfl
        rw [e1]
        have b := stp_fin (p := p - q) h
        have e2 : p.natAbs = (p - q).natAbs + q.natAbs := by omega
        rw [e2, EQ_add (by omega)] at a
        omega
    · refine ⟨84, .inl rfl, ?_⟩
      have e1 : called (p, q) 84 = (p + q, q) := rfl
      rw [e1]
      have b := stp_fin (p := p + q) h
      have e2 : p.natAbs = (p + q).natAbs + q.natAbs := by omega
      rw [e2, EQ_add (by omega)] at a
      omega
  · refine ⟨82, .inr (.inr rfl), ?_⟩
    have e1 : called (1, 0) 82 = (0, 1) := rfl
    rw [e1, stp_zero, stp_inf]
theorem stp_run : ∀ (l : List Nat) {v : Int × Int}, Good v → stp (run v l) ≤ stp v + l.length
  | [], _, _ => Nat.le_refl _
  | c :: l, v, g => by
    have a := stp_run l (g.called c)
    have b := (stp_near g c).1
    show stp (run (called v c) l) ≤ _
    rw [List.length_cons]
    omega
/-- the quotients that the program has -/
def quo (v : Int × Int) : List Nat := if v.2 = 0 then [0, 0] else QL v.1.natAbs v.2.natAbs
theorem quo_stp {v : Int × Int} (g : Good v) : (quo v).sum + (quo v).length = stp v + 1 := by
  unfold quo
  by_cases h : v.2 = 0
  · rw [if_pos h]
    unfold stp
    rw [if_pos h]
    rfl
  · rw [if_neg h]
    have h0 : 0 < v.2 := by
      rcases g.1 with h1 | h1
      · exact h1
      · rw [h1] at h; exact absurd rfl h
    exact (stp_fin (p := v.1) h0).symm
theorem QL_len : ∀ (n p q : Nat), q < 2 ^ n → (QL p q).length ≤ 2 * n
  | 0, p, q, h => by
    have : q = 0 := by omega
    subst this
    rw [QL_zero]
    exact Nat.le_refl _
  | n + 1, p, q, h => by
    by_cases q0 : 0 < q
    · rw [QL_step q0, List.length_cons]
      by_cases r0 : 0 < p % q
      · rw [QL_step r0, List.length_cons]
        have l1 := Nat.mod_lt p q0
        have l2 := Nat.mod_lt q r0
        have l3 : q % (p % q) + p % q ≤ q := by
          have e := Nat.div_add_mod q (p % q)
          have : 1 ≤ q / (p % q) := Nat.div_pos (Nat.le_of_lt l1) r0
          have : p % q * 1 ≤ p % q * (q / (p % q)) := Nat.mul_le_mul_left _ this
          omega
        have := QL_len n (p % q) (q % (p % q)) (by rw [Nat.pow_succ] at h; omega)
        omega
      · rw [show p % q = 0 by omega, QL_zero]
        show 0 + 1 ≤ _
        omega
    · rw [show q = 0 by omega, QL_zero]
      exact Nat.zero_le _
theorem quo_len {v : Int × Int} {n : Nat} (h : v.2.natAbs < 2 ^ n) (n0 : 0 < n) : (quo v).length ≤ 2 * n := by
  unfold quo
  split
  · show 2 ≤ _; omega
  · exact QL_len n _ _ h
theorem S_eta (z : Str) : S z.cps.toList = z := by
  cases z
  simp [S]
def tx (l : List Nat) : V := .str (S l)
theorem tx_inj {a b : List Nat} (h : tx a = tx b) : a = b := S_inj (V.str.inj h)
theorem tx_iff {a b : List Nat} : V.str (S a) = V.str (S b) ↔ a = b := ⟨fun h => tx_inj h, fun h => by rw [h]⟩
section
open TL (joinL tl tl_join join_eq split_join)
/-! ### standard dances -/
def nx (p q : Int) : Int := (p / q + 1) * q - p
theorem nx_eq (p q : Int) : nx p q = q - p % q := by
  unfold nx
  have := Int.mul_ediv_add_emod p q
  rw [Int.add_mul, Int.one_mul, Int.mul_comm]
  omega
theorem nx_gcd (p q : Int) : Int.gcd q (nx p q) = Int.gcd p q := by
  unfold nx
  rw [show (p / q + 1) * q - p = -p + q * (p / q + 1) by rw [Int.mul_comm]; omega, Int.gcd_add_mul_left_right, Int.gcd_neg, Int.gcd_comm]
theorem nx_pos {p q : Int} (h : 0 < q) : 0 < nx p q := by
  rw [nx_eq]
  have := Int.emod_lt_of_pos p h
  omega
theorem nx_lt {p q : Int} (h : 1 < q) (g : Int.gcd p q = 1) : nx p q < q := by
  rw [nx_eq]
  have h1 := Int.emod_nonneg p (show q ≠ 0 by omega)
  have h2 : p % q ≠ 0 := fun z => by
    have d : q ∣ p := Int.dvd_of_emod_eq_zero z
    have := Int.gcd_eq_natAbs_right d
    omega
  omega
def rn (b : Int) : List Nat := if b < 0 then List.replicate (-b).toNat 85 else List.replicate b.toNat 84
def bsF : Nat → Int → Int → List Int
  | 0, p, _ => [p]
  | n + 1, p, q => if q ≤ 1 then [p] else bsF n q (nx p q) ++ [p / q + 1]
def bs (p q : Int) : List Int := bsF q.toNat p q
theorem bsF_more : ∀ (n m : Nat) (p q : Int), 0 < q → Int.gcd p q = 1 → q ≤ n → q ≤ m → bsF n p q = bsF m p q
  | 0, _, p, q, h, _, hn, _ => by omega
  | n + 1, 0, p, q, h, _, _, hm => by omega
  | n + 1, m + 1, p, q, h, g, hn, hm => by
    unfold bsF
    by_cases c : q ≤ 1
    · rw [if_pos c, if_pos c]
    · rw [if_neg c, if_neg c, bsF_more n m q (nx p q) (nx_pos h) (by rw [nx_gcd]; exact g) (by have := nx_lt (show 1 < q by omega) g; omega) (by have := nx_lt (show 1 < q by omega) g; omega)]
theorem bs_one (p : Int) : bs p 1 = [p] := rfl
theorem bs_step {p q : Int} (h : 1 < q) (g : Int.gcd p q = 1) : bs p q = bs q (nx p q) ++ [p / q + 1] := by
  have l := nx_lt h g
  have l0 := nx_pos (p := p) (show 0 < q by omega)
  have e : q.toNat = (q.toNat - 1) + 1 := by omega
  have e1 : bs p q = bsF (q.toNat - 1) q (nx p q) ++ [p / q + 1] := by
    unfold bs
    generalize q.toNat - 1 = m at e
    rw [e]
    show (if q ≤ 1 then [p] else bsF m q (nx p q) ++ [p / q + 1]) = _
    rw [if_neg (by omega)]
  rw [e1]
  unfold bs
  rw [bsF_more (q.toNat - 1) (nx p q).toNat q (nx p q) l0 (by rw [nx_gcd]; exact g) (by omega) (by omega)]
theorem bs_ne {p q : Int} : bs p q ≠ [] := by
  unfold bs
  cases q.toNat with
  | zero => intro h; cases h
  | succ n =>
    unfold bsF
    split
    · intro h; cases h
    · intro h; simp at h
def stv (v : Int × Int) : List Nat := if v.2 = 0 then [82] else joinL [82] ((bs v.1 v.2).map rn)
theorem joinL_snoc (S y : List Nat) : ∀ {xs : List (List Nat)}, xs ≠ [] → joinL S (xs ++ [y]) = joinL S xs ++ (S ++ y)
  | [], h => absurd rfl h
  | [x], _ => rfl
  | x :: z :: r, _ => by
    show x ++ (S ++ joinL S ((z :: r) ++ [y])) = (x ++ (S ++ joinL S (z :: r))) ++ (S ++ y)
    rw [joinL_snoc S y (xs := z :: r) (by simp)]
    simp
theorem run_rn (p q b : Int) : run (p, q) (rn b) = (p + b * q, q) := by
  have up : ∀ (n : Nat) (p : Int), run (p, q) (List.replicate n 84) = (p + n * q, q) := by
    intro n
    induction n with
    | zero => intro p; simp [run]
    | succ n ih =>
      intro p
      rw [List.replicate_succ]
      show run (called (p, q) 84) _ = _
      rw [show called (p, q) 84 = (p + q, q) from rfl, ih]
      congr 1
      rw [Int.natCast_add, Int.add_mul, Int.natCast_one, Int.one_mul]
      omega
  have dn : ∀ (n : Nat) (p : Int), run (p, q) (List.replicate n 85) = (p - n * q, q) := by
    intro n
    induction n with
    | zero => intro p; simp [run]
    | succ n ih =>
      intro p
      rw [List.replicate_succ]
      show run (called (p, q) 85) _ = _
      rw [show called (p, q) 85 = (p - q, q) from rfl, ih]
      congr 1
      rw [Int.natCast_add, Int.add_mul, Int.natCast_one, Int.one_mul]
      omega
  unfold rn
  by_cases c : b < 0
  · rw [if_pos c, dn, Int.toNat_of_nonneg (by omega)]
    congr 1
    rw [Int.neg_mul]
    omega
  · rw [if_neg c, up, Int.toNat_of_nonneg (by omega)]
theorem num_bs : ∀ (n : Nat) (p q : Int), 0 < q → Int.gcd p q = 1 → q ≤ n → run (0, 1) (joinL [82] ((bs p q).map rn)) = (p, q)
  | 0, p, q, h, _, hn => by omega
  | n + 1, p, q, h, g, hn => by
    by_cases c : q = 1
    · subst c
      rw [bs_one]
      show run (0, 1) (rn p) = (p, 1)
      rw [run_rn]
      simp
    · have hq : 1 < q := by omega
      have l := nx_lt hq g
      rw [bs_step hq g, List.map_append, List.map_singleton, joinL_snoc [82] _ (fun z => bs_ne (List.map_eq_nil_iff.mp z)), run_app, num_bs n q (nx p q) (nx_pos h) (by rw [nx_gcd]; exact g) (by omega), run_app]
      show run (called (q, nx p q) 82) _ = _
      have e : called (q, nx p q) 82 = (0 - nx p q, q) := by
        unfold called
        rw [if_neg (by decide), if_neg (by decide), if_pos (show 0 < (q, nx p q).1 from h)]
      rw [e, run_rn]
      congr 1
      unfold nx
      omega
theorem num_stv {v : Int × Int} (h : Good v) : run (0, 1) (stv v) = v := by
  obtain ⟨p, q⟩ := v
  obtain ⟨h1, h2⟩ := h
  unfold stv
  by_cases c : q = 0
  · rcases h1 with h1 | h1
    · have : (0 : Int) < q := h1
      omega
    · cases h1
      rfl
  · rw [if_neg (show ¬ (p, q).2 = 0 from c)]
    have h0 : 0 < q := by
      rcases h1 with h1 | h1
      · exact h1
      · cases h1; exact absurd rfl c
    exact num_bs q.toNat p q h0 h2 (by omega)
theorem rn_len (b : Int) : (rn b).length = b.natAbs := by
  unfold rn
  split
  · rw [List.length_replicate]; omega
  · rw [List.length_replicate]; omega
theorem one_le_div {p q : Int} (h : 0 < q) (hp : q ≤ p) : 1 ≤ p / q := Int.le_ediv_of_mul_le h (by omega)
theorem len_in : ∀ (n : Nat) (p q : Int), 0 < q → q < p → Int.gcd p q = 1 → q ≤ n → ((joinL [82] ((bs p q).map rn)).length : Int) ≤ 3 * p
  | 0, p, q, h, _, _, hn => by omega
  | n + 1, p, q, h, hp, g, hn => by
    by_cases c : q = 1
    · subst c
      rw [bs_one]
      show ((rn p).length : Int) ≤ _
      rw [rn_len]
      omega
    · have hq : 1 < q := by omega
      have l := nx_lt hq g
      have l0 := nx_pos (p := p) h
      have ih := len_in n q (nx p q) l0 l (by rw [nx_gcd]; exact g) (by omega)
      rw [bs_step hq g, List.map_append, List.map_singleton, joinL_snoc [82] _ (fun z => bs_ne (List.map_eq_nil_iff.mp z)), List.length_append, List.length_append, rn_len]
      have e := Int.mul_ediv_add_emod p q
      have r0 := Int.emod_lt_of_pos p h
      rw [nx_eq] at l0 l
      have a1 : 1 ≤ p / q := one_le_div h (by omega)
      have m : (p / q - 1) * 1 ≤ (p / q - 1) * q := Int.mul_le_mul_of_nonneg_left (by omega) (by omega)
      have m2 : (p / q - 1) * q = q * (p / q) - q := by rw [Int.sub_mul, Int.one_mul, Int.mul_comm]
      rw [m2, Int.mul_one] at m
      show ((_ + ([82].length + (p / q + 1).natAbs) : Nat) : Int) ≤ _
      have : ([82] : List Nat).length = 1 := rfl
      omega
theorem ediv_abs {p q : Int} (h : 0 < q) : (p / q + 1).natAbs ≤ p.natAbs + 1 := by
  have e := Int.mul_ediv_add_emod p q
  have r0 := Int.emod_lt_of_pos p h
  have r1 := Int.emod_nonneg p (show q ≠ 0 by omega)
  have a := Int.natAbs_ediv_le_natAbs p q.toNat
  rw [Int.toNat_of_nonneg (by omega)] at a
  omega
theorem len_out {p q : Int} (h : 0 < q) (g : Int.gcd p q = 1) : ((joinL [82] ((bs p q).map rn)).length : Int) ≤ p.natAbs + 3 * q + 2 := by
  by_cases c : q = 1
  · subst c
    rw [bs_one]
    show ((rn p).length : Int) ≤ _
    rw [rn_len]
    omega
  · have hq : 1 < q := by omega
    have l := nx_lt hq g
    have l0 := nx_pos (p := p) h
    have ih := len_in q.toNat q (nx p q) l0 l (by rw [nx_gcd]; exact g) (by omega)
    rw [bs_step hq g, List.map_append, List.map_singleton, joinL_snoc [82] _ (fun z => bs_ne (List.map_eq_nil_iff.mp z)), List.length_append, List.length_append, rn_len]
    have := ediv_abs (p := p) h
    have : ([82] : List Nat).length = 1 := rfl
    omega
/-- the runs but the last one -/
theorem bs_two : ∀ (n : Nat) (p q : Int), 0 < q → q < p → Int.gcd p q = 1 → q ≤ n → ∀ b ∈ bs p q, 2 ≤ b
  | 0, p, q, h, _, _, hn => by omega
  | n + 1, p, q, h, hp, g, hn => by
    intro b hb
    by_cases c : q = 1
    · subst c
      rw [bs_one] at hb
      rw [List.mem_singleton.mp hb]
      omega
    · have hq : 1 < q := by omega
      have l := nx_lt hq g
      rw [bs_step hq g] at hb
      rcases List.mem_append.mp hb with hb | hb
      · exact bs_two n q (nx p q) (nx_pos h) l (by rw [nx_gcd]; exact g) (by omega) b hb
      · rw [List.mem_singleton.mp hb]
        have := one_le_div h (show q ≤ p by omega)
        omega
theorem bs_front {p q : Int} (h : 0 < q) (g : Int.gcd p q = 1) : ∀ b ∈ (bs p q).dropLast, 2 ≤ b := by
  intro b hb
  by_cases c : q = 1
  · subst c
    rw [bs_one] at hb
    cases hb
  · have hq : 1 < q := by omega
    rw [bs_step hq g, List.dropLast_concat] at hb
    exact bs_two q.toNat q (nx p q) (nx_pos h) (nx_lt hq g) (by rw [nx_gcd]; exact g) (by have := nx_lt hq g; omega) b hb
/-! ### how great a dance's number is -/
def Grow (n : Nat) (v : Int × Int) : Prop := ∃ k B : Nat, B ^ 3 * 3 ^ k ≤ 3 ^ n ∧ v.2.natAbs ≤ B ∧ v.1.natAbs ≤ (k + 1) * B
theorem cube_three : ∀ k : Nat, (k + 1) ^ 3 ≤ 3 ^ (k + 1)
  | 0 => by decide
  | 1 => by decide
  | 2 => by decide
  | k + 3 => by
    have ih := cube_three (k + 2)
    have e : (3 : Nat) ^ (k + 3 + 1) = 3 * 3 ^ (k + 2 + 1) := by rw [show k + 3 + 1 = (k + 2 + 1) + 1 from rfl, Nat.pow_succ (n := 3) (m := k + 2 + 1), Nat.mul_comm]
    rw [e]
    have h : (k + 3 + 1) ^ 3 ≤ 3 * (k + 2 + 1) ^ 3 := by
      have h1 : (3 * (k + 3 + 1)) ^ 3 ≤ (4 * (k + 2 + 1)) ^ 3 := Nat.pow_le_pow_left (by omega) 3
      rw [Nat.mul_pow, Nat.mul_pow] at h1
      omega
    exact Nat.le_trans h (Nat.mul_le_mul_left 3 ih)
theorem Grow.called {n : Nat} {v : Int × Int} (h : Grow n v) (c : Nat) : Grow (n + 1) (called v c) := by
  obtain ⟨k, B, hb, h2, h1⟩ := h
  have up : B ^ 3 * 3 ^ (k + 1) ≤ 3 ^ (n + 1) := by
    rw [Nat.pow_succ (m := k), Nat.pow_succ (m := n), ← Nat.mul_assoc]
    exact Nat.mul_le_mul_right 3 hb
  have e : (k + 1 + 1) * B = (k + 1) * B + B := by rw [Nat.add_mul (k + 1) 1 B, Nat.one_mul]
  unfold Rope.called
  by_cases c1 : c = 84
  · rw [if_pos c1]
    exact ⟨k + 1, B, up, h2, by rw [e]; show (v.1 + v.2).natAbs ≤ _; omega⟩
  rw [if_neg c1]
  by_cases c2 : c = 85
  · rw [if_pos c2]
    exact ⟨k + 1, B, up, h2, by rw [e]; show (v.1 - v.2).natAbs ≤ _; omega⟩
  rw [if_neg c2]
  have turn : ((k + 1) * B) ^ 3 * 3 ^ 0 ≤ 3 ^ (n + 1) := by
    rw [Nat.pow_zero, Nat.mul_one, Nat.mul_pow]
    exact Nat.le_trans (Nat.mul_le_mul_right _ (cube_three k)) (by rw [Nat.mul_comm]; exact up)
  have hBk : B ≤ (k + 1) * B := by rw [Nat.add_mul, Nat.one_mul]; omega
  by_cases c3 : 0 < v.1
  · rw [if_pos c3]
    exact ⟨0, (k + 1) * B, turn, h1, by show (0 - v.2).natAbs ≤ _; omega⟩
  rw [if_neg c3]
  by_cases c4 : v.1 < 0
  · rw [if_pos c4]
    exact ⟨0, (k + 1) * B, turn, by show (0 - v.1).natAbs ≤ _; omega, by show v.2.natAbs ≤ _; omega⟩
  rw [if_neg c4]
  refine ⟨0, 1, ?_, by show (0 : Int).natAbs ≤ 1; decide, by show (1 : Int).natAbs ≤ (0 + 1) * 1; decide⟩
  exact Nat.pow_pos (by decide)
theorem grow_run : ∀ (l : List Nat) {n : Nat} {v : Int × Int}, Grow n v → Grow (n + l.length) (run v l)
  | [], n, v, h => h
  | c :: r, n, v, h => by
    have := grow_run r (h.called c)
    rw [List.length_cons]
    rw [show n + (r.length + 1) = n + 1 + r.length by omega]
    exact this
theorem grow_cube {n : Nat} {v : Int × Int} (h : Grow n v) : v.1.natAbs ^ 3 ≤ 3 ^ (n + 1) ∧ v.2.natAbs ^ 3 ≤ 3 ^ (n + 1) := by
  obtain ⟨k, B, hb, h2, h1⟩ := h
  have up : B ^ 3 * 3 ^ (k + 1) ≤ 3 ^ (n + 1) := by
    rw [Nat.pow_succ (m := k), Nat.pow_succ (m := n), ← Nat.mul_assoc]
    exact Nat.mul_le_mul_right 3 hb
  have turn : ((k + 1) * B) ^ 3 ≤ 3 ^ (n + 1) := by
    rw [Nat.mul_pow]
    exact Nat.le_trans (Nat.mul_le_mul_right _ (cube_three k)) (by rw [Nat.mul_comm]; exact up)
  have hBk : B ≤ (k + 1) * B := by rw [Nat.add_mul, Nat.one_mul]; omega
  exact ⟨Nat.le_trans (Nat.pow_le_pow_left h1 3) turn, Nat.le_trans (Nat.pow_le_pow_left (Nat.le_trans h2 hBk) 3) turn⟩
/-- small enough to be written out -/
structure Sv (v : Int × Int) : Prop where
  good : Good v
  s1 : v.1.natAbs ≤ 3400000
  s2 : v.2.natAbs ≤ 3400000
theorem cube_small {x : Nat} (h : x ^ 3 ≤ 3 ^ 41) : x ≤ 3400000 := by
  by_cases c : x ≤ 3400000
  · exact c
  · have : (3400001 : Nat) ^ 3 ≤ x ^ 3 := Nat.pow_le_pow_left (by omega) 3
    have e : ¬ (3400001 : Nat) ^ 3 ≤ 3 ^ 41 := by decide +kernel
    exact absurd (Nat.le_trans this h) e
theorem sv_run {l : List Nat} (h : (l.length : Int) ≤ 40) : Sv (run (0, 1) l) := by
  have g := grow_run l (n := 0) (v := (0, 1)) ⟨0, 1, by decide, by decide, by decide⟩
  have q := grow_cube g
  have e : (3 : Nat) ^ (0 + l.length + 1) ≤ 3 ^ 41 := Nat.pow_le_pow_right (by decide) (by omega)
  exact ⟨good_run l Good.zero, cube_small (Nat.le_trans q.1 e), cube_small (Nat.le_trans q.2 e)⟩
theorem stv_len {v : Int × Int} (h : Sv v) : (stv v).length ≤ 14000000 := by
  obtain ⟨p, q⟩ := v
  obtain ⟨⟨h1, h2⟩, s1, s2⟩ := h
  unfold stv
  by_cases c : q = 0
  · rw [if_pos (show (p, q).2 = 0 from c)]
    decide
  · rw [if_neg (show ¬ (p, q).2 = 0 from c)]
    have h0 : 0 < q := by
      rcases h1 with h1 | h1
      · exact h1
      · cases h1; exact absurd rfl c
    have := len_out h0 h2
    simp only at s1 s2 this ⊢
    omega
theorem tl_S (l : List Nat) : tl (S l) = l := S_list l
theorem join_S (xs : List (List Nat)) : Txt.join (S [82]) (xs.map S) = S (joinL [82] xs) := by
  have e := tl_join (S [82]) (xs.map S)
  rw [← join_eq, List.map_map] at e
  have e2 : (tl ∘ S) = id := by funext l; exact tl_S l
  rw [e2, List.map_id, tl_S] at e
  exact (S_eta (Txt.join (S [82]) (xs.map S))).symm.trans (congrArg S e)
theorem sum_S (xs : List (List Nat)) : ((xs.map S).map (·.length)).sum = (xs.map List.length).sum := by
  rw [List.map_map]
  congr 1
theorem le_sum {x : Nat} : ∀ {l : List Nat}, x ∈ l → x ≤ l.sum
  | [], h => by cases h
  | y :: r, h => by
    rw [List.sum_cons]
    rcases List.mem_cons.mp h with rfl | h
    · omega
    · have := le_sum h
      omega
theorem joinL_len : ∀ (xs : List (List Nat)), xs ≠ [] → (joinL [82] xs).length + 1 = (xs.map List.length).sum + xs.length
  | [], h => absurd rfl h
  | [x], _ => by simp [joinL]
  | x :: y :: r, _ => by
    have := joinL_len (y :: r) (by simp)
    show (x ++ ([82] ++ joinL [82] (y :: r))).length + 1 = _
    rw [List.length_append, List.length_append, List.map_cons, List.sum_cons, List.length_cons]
    show x.length + (1 + _) + 1 = x.length + _ + (_ + 1)
    omega
def spRun : Sp := fun vs H Q _ => ∃ b : Int, vs = [.int b] ∧ b.natAbs ≤ 16000000 ∧ Q (.str (S (rn b))) H
def spStd : Sp := fun vs H Q _ => ∃ (t : Addr) (v : Int × Int), vs = [.ref t] ∧ Tup2 H t v ∧ Sv v ∧ ∀ H', Same H H' → Q (.str (S (stv v))) H'
theorem rn_up {b : Int} (h : 0 ≤ b) : (List.replicate b.toNat [84]).flatten = rn b := by
  unfold rn
  rw [if_neg (by omega)]
  induction b.toNat with
  | zero => rfl
  | succ n ih => rw [List.replicate_succ, List.flatten_cons, ih, List.replicate_succ]; rfl
theorem rn_dn {b : Int} (h : b < 0) : (List.replicate (-b).toNat [85]).flatten = rn b := by
  unfold rn
  rw [if_pos h]
  induction (-b).toNat with
  | zero => rfl
  | succ n ih => rw [List.replicate_succ, List.flatten_cons, ih, List.replicate_succ]; rfl
theorem fdiv_pos {p q : Int} (h : 0 < q) : p.fdiv q = p / q := Int.fdiv_eq_ediv_of_nonneg p (by omega)
def spNum : Sp := fun vs H Q _ => ∃ l : List Nat, vs = [.str (S l)] ∧ ∀ t' H', Same H H' → Tup2 H' t' (run (0, 1) l) → Q (.ref t') H'
theorem cut_last (xs : List V) : cutV xs none (some (-1)) = xs.dropLast := by
  unfold cutV
  rw [HT.sIx_none, List.drop_zero, Nat.sub_zero, List.dropLast_eq_take]
  congr 1
  unfold HT.sIx
  show (if (-1 : Int) < 0 then ((-1 : Int) + (xs.length : Int)).toNat else _) = _
  rw [if_pos (by decide)]
  omega
theorem sv_div {p q : Int} (hp : p.natAbs ≤ 400) (hq : q.natAbs ≤ 400) (h0 : 0 < q) : Sv (p / (Int.gcd p q : Int), q / (Int.gcd p q : Int)) := by
  have g0 : 0 < Int.gcd p q := Int.gcd_pos_of_ne_zero_right p (by omega)
  have a : ∀ (x : Int) (g : Nat), (x / (g : Int)).natAbs ≤ x.natAbs := fun x g => Int.natAbs_ediv_le_natAbs x g
  refine ⟨⟨.inl ?_, Int.gcd_ediv_gcd_ediv_gcd g0⟩, Nat.le_trans (a p _) (by omega), Nat.le_trans (a q _) (by omega)⟩
  exact Int.ediv_pos_of_pos_of_dvd h0 (by omega) (Int.gcd_dvd_right _ _)
theorem sv_chain {n : Int} (h0 : 2 ≤ n) (h1 : n ≤ 1000) : Sv (n, n - 1) := by
  refine ⟨⟨.inl (by show 0 < n - 1; omega), ?_⟩, by show n.natAbs ≤ _; omega, by show (n - 1).natAbs ≤ _; omega⟩
  show Int.gcd n (n - 1) = 1
  have := gcd_add' 1 (n - 1)
  rw [show 1 + (n - 1) = n by omega, Int.one_gcd] at this
  exact this
def Vi (H : Hp) (y : V) : Prop := ∃ (t : Addr) (v : Int × Int), y = .ref t ∧ Tup2 H t v ∧ Sv v
theorem Vi.same {H H' : Hp} {y : V} (h : Vi H y) (s : Same H H') : Vi H' y := by
  obtain ⟨t, v, e, a, b⟩ := h
  exact ⟨t, v, e, a.same s, b⟩
theorem rn_no (b : Int) : 82 ∉ rn b := by
  unfold rn
  intro h
  split at h
  · have := (List.mem_replicate.mp h).2; omega
  · have := (List.mem_replicate.mp h).2; omega
theorem rn_T {b : Int} (h : 0 ≤ b) : (List.replicate (rn b).length [84]).flatten = rn b := by
  rw [rn_len, show b.natAbs = b.toNat by omega]
  exact rn_up h
theorem tup2_is {H : Hp} {n : Nat} {t : Addr} {v : Int × Int} (h : Tup2 H t v) : Is H (n + 1) (.ref t) (.tup [.int v.1, .int v.2]) :=
  is_tup h rfl (by show 2 ≤ 1000000; decide) fun i x d hx hd => by
    match i with
    | 0 => cases hx; cases hd; exact int_is
    | 1 => cases hx; cases hd; exact int_is
    | i + 2 => cases hx
def spSmall : Sp := fun vs H Q _ => ∃ (a : Addr), vs = [.ref a] ∧ Tape H a ∧ ∀ (t : Addr) (v : Int × Int) H', Sv v → But a H H' → Tape H' a → Tup2 H' t v → Q (.ref t) H'
end
section
open TL (joinL)
/-! ### the runs of the first least dance -/
def swc (c : Nat) : Nat := if c = 84 then 85 else 84
def al : Nat → List Nat → List (Nat × Nat)
  | _, [] => []
  | c, a :: r => (c, a) :: al (swc c) r
theorem al_len : ∀ (c : Nat) (qs : List Nat), (al c qs).length = qs.length
  | _, [] => rfl
  | c, a :: r => by
    show (al (swc c) r).length + 1 = r.length + 1
    rw [al_len (swc c) r]
theorem swc_swc {c : Nat} (h : c = 84 ∨ c = 85) : swc (swc c) = c := by rcases h with rfl | rfl <;> rfl
theorem swc_or {c : Nat} (h : c = 84 ∨ c = 85) : swc c = 84 ∨ swc c = 85 := by rcases h with rfl | rfl <;> decide
theorem al_get : ∀ (qs : List Nat) (c k : Nat), c = 84 ∨ c = 85 → (al c qs)[k]? = qs[k]?.map fun a => (if k % 2 = 0 then c else swc c, a)
  | [], c, k, _ => by simp [al]
  | a :: r, c, 0, _ => rfl
  | a :: r, c, k + 1, h => by
    show (al (swc c) r)[k]? = r[k]?.map _
    rw [al_get r (swc c) k (swc_or h)]
    have e : (if k % 2 = 0 then swc c else swc (swc c)) = if (k + 1) % 2 = 0 then c else swc c := by
      rw [swc_swc h]
      by_cases p : k % 2 = 0
      · rw [if_pos p, if_neg (by omega)]
      · rw [if_neg p, if_pos (by omega)]
    rw [e]
theorem al_or : ∀ (qs : List Nat) (c : Nat), c = 84 ∨ c = 85 → ∀ p ∈ al c qs, p.1 = 84 ∨ p.1 = 85
  | [], _, _, p, hp => by cases hp
  | a :: r, c, h, p, hp => by
    rcases List.mem_cons.mp hp with rfl | hp
    · exact h
    · exact al_or r (swc c) (swc_or h) p hp
def wd (p : Nat × Nat) : List Nat := List.replicate p.2 p.1
/-- the dance that the runs make -/
def dr (c : Nat) (qs : List Nat) : List Nat := joinL [82] ((al c qs).reverse.map wd)
theorem dr_one (c a : Nat) : dr c [a] = List.replicate a c := rfl
theorem dr_cons (c a : Nat) {r : List Nat} (h : r ≠ []) : dr c (a :: r) = dr (swc c) r ++ ([82] ++ List.replicate a c) := by
  unfold dr
  show joinL [82] (((c, a) :: al (swc c) r).reverse.map wd) = _
  rw [List.reverse_cons, List.map_append, List.map_singleton, joinL_snoc [82] _ (fun z => ?_)]
  · rfl
  · have e := congrArg List.length z
    rw [List.length_map, List.length_reverse, al_len] at e
    exact h (List.length_eq_zero_iff.mp e)
theorem dr_lets : ∀ (qs : List Nat) (c : Nat), c = 84 ∨ c = 85 → Lets (dr c qs)
  | [], _, _ => fun x hx => by cases hx
  | a :: [], c, h => fun x hx => by
    rw [List.eq_of_mem_replicate hx]
    omega
  | a :: b :: r, c, h => fun x hx => by
    rw [dr_cons c a (by simp)] at hx
    rcases List.mem_append.mp hx with hx | hx
    · exact dr_lets (b :: r) (swc c) (swc_or h) x hx
    · rcases List.mem_append.mp hx with hx | hx
      · exact .inr (.inr (List.mem_singleton.mp hx))
      · rw [List.eq_of_mem_replicate hx]
        omega
theorem dr_len : ∀ (qs : List Nat) (c : Nat), qs ≠ [] → (dr c qs).length + 1 = qs.sum + qs.length
  | [], _, h => absurd rfl h
  | a :: [], c, _ => by
    rw [dr_one, List.length_replicate]
    simp
  | a :: b :: r, c, _ => by
    have ih := dr_len (b :: r) (swc c) (by simp)
    rw [dr_cons c a (by simp)]
    simp only [List.length_append, List.length_replicate, List.sum_cons, List.length_cons, List.length_nil] at *
    omega
theorem QL_ne {p q : Nat} (h : 0 < q) : QL p q ≠ [] := by rw [QL_step h]; exact List.cons_ne_nil _ _
theorem run_rep84 : ∀ (a : Nat) (p q : Int), run (p, q) (List.replicate a 84) = (p + a * q, q)
  | 0, p, q => by rw [List.replicate_zero, run_nil]; simp
  | a + 1, p, q => by
    rw [List.replicate_succ]
    show run (p + q, q) _ = _
    rw [run_rep84 a (p + q) q]
    have : p + q + (a : Int) * q = p + ((a + 1 : Nat) : Int) * q := by
      rw [Int.natCast_add, Int.add_mul]
      omega
    rw [this]
theorem run_rep85 : ∀ (a : Nat) (p q : Int), run (p, q) (List.replicate a 85) = (p - a * q, q)
  | 0, p, q => by rw [List.replicate_zero, run_nil]; simp
  | a + 1, p, q => by
    rw [List.replicate_succ]
    show run (p - q, q) _ = _
    rw [run_rep85 a (p - q) q]
    have : p - q - (a : Int) * q = p - ((a + 1 : Nat) : Int) * q := by
      rw [Int.natCast_add, Int.add_mul]
      omega
    rw [this]
theorem run_dr : ∀ (n p q : Nat), q ≤ n → 0 < q → Nat.gcd p q = 1 → run (0, 1) (dr 84 (QL p q)) = ((p : Int), (q : Int)) ∧ run (0, 1) (dr 85 (QL p q)) = (-(p : Int), (q : Int))
  | 0, p, q, h, h0, _ => by omega
  | n + 1, p, q, h, h0, g => by
    rw [QL_step h0]
    by_cases r0 : 0 < p % q
    · have g2 : Nat.gcd q (p % q) = 1 := by
        rw [← g, Nat.gcd_comm p q, Nat.gcd_rec q p, Nat.gcd_comm]
      have ih := run_dr n q (p % q) (by have := Nat.mod_lt p h0; omega) r0 g2
      have dm : (p : Int) = ((p % q : Nat) : Int) + ((p / q : Nat) : Int) * (q : Int) := by
        have := Nat.mod_add_div p q
        rw [Nat.mul_comm] at this
        exact_mod_cast this.symm
      have rp : (0 : Int) < ((p % q : Nat) : Int) := by omega
      have qp : (0 : Int) < (q : Int) := by omega
      rw [dr_cons 84 _ (QL_ne r0), dr_cons 85 _ (QL_ne r0), show swc 84 = 85 from rfl, show swc 85 = 84 from rfl, run_app, run_app, run_app, run_app, ih.1, ih.2]
      have e1 : run (-(q : Int), ((p % q : Nat) : Int)) [82] = (((p % q : Nat) : Int), (q : Int)) := by
        show called (-(q : Int), ((p % q : Nat) : Int)) 82 = _
        unfold called
        rw [if_neg (by decide), if_neg (by decide), if_neg (show ¬ (0 : Int) < -(q : Int) by omega), if_pos (show -(q : Int) < 0 by omega)]
        show (((p % q : Nat) : Int), 0 - -(q : Int)) = _
        rw [show 0 - -(q : Int) = (q : Int) by omega]
      have e2 : run ((q : Int), ((p % q : Nat) : Int)) [82] = (-((p % q : Nat) : Int), (q : Int)) := by
        show called ((q : Int), ((p % q : Nat) : Int)) 82 = _
        unfold called
        rw [if_neg (by decide), if_neg (by decide), if_pos (show (0 : Int) < (q : Int) by omega)]
        show (0 - ((p % q : Nat) : Int), (q : Int)) = _
        rw [Int.zero_sub]
      rw [e1, e2, run_rep84, run_rep85, ← dm]
      refine ⟨rfl, ?_⟩
      have : -((p % q : Nat) : Int) - ((p / q : Nat) : Int) * (q : Int) = -(p : Int) := by omega
      rw [this]
    · have e0 : p % q = 0 := by omega
      have eg : Nat.gcd p q = q := by rw [Nat.gcd_comm, Nat.gcd_rec, e0, Nat.gcd_zero_left]
      have q1 : q = 1 := by omega
      subst q1
      rw [e0, QL_zero, dr_one, dr_one, run_rep84, run_rep85]
      rw [Nat.div_one]
      exact ⟨by simp, by simp⟩
/-- the letter of the first quotient -/
def fl (v : Int × Int) : Nat := if v.1 < 0 then 85 else 84
theorem fl_or (v : Int × Int) : fl v = 84 ∨ fl v = 85 := by
  unfold fl
  split
  · exact .inr rfl
  · exact .inl rfl
/-- the first least dance -/
def dl (v : Int × Int) : List Nat := dr (fl v) (quo v)
theorem run_dl {v : Int × Int} (g : Good v) : run (0, 1) (dl v) = v := by
  obtain ⟨p, q⟩ := v
  rcases g.1 with h | h
  · have h0 : 0 < q := h
    have eq0 : quo (p, q) = QL p.natAbs q.natAbs := if_neg (show ¬ q = 0 by omega)
    have := run_dr q.natAbs p.natAbs q.natAbs (Nat.le_refl _) (by omega) g.2
    unfold dl
    rw [eq0]
    unfold fl
    by_cases c : p < 0
    · rw [if_pos (show (p, q).1 < 0 from c), this.2]
      rw [show -((p.natAbs : Nat) : Int) = p by omega, show ((q.natAbs : Nat) : Int) = q by omega]
    · rw [if_neg (show ¬ (p, q).1 < 0 from c), this.1]
      rw [show ((p.natAbs : Nat) : Int) = p by omega, show ((q.natAbs : Nat) : Int) = q by omega]
  · rw [h]
    rfl
theorem quo_ne {v : Int × Int} (g : Good v) : quo v ≠ [] := by
  unfold quo
  split
  · simp
  · rename_i hne
    refine QL_ne ?_
    rcases g.1 with h | h
    · omega
    · rw [h] at hne; exact absurd rfl hne
theorem len_dl {v : Int × Int} (g : Good v) : (dl v).length = stp v := by
  have h1 := dr_len (quo v) (fl v) (quo_ne g)
  have h2 := quo_stp g
  unfold dl
  omega
theorem lets_dl (v : Int × Int) : Lets (dl v) := dr_lets _ _ (fl_or v)
/-- a list of runs in the heap -/
def Rn (H : Hp) (p : Addr) (ps : List (Nat × Nat)) : Prop := ∃ ts : List Addr, H p = some (.lst (ts.map V.ref)) ∧ ts.length = ps.length ∧ ∀ (i : Nat) (t : Addr) (r : Nat × Nat), ts[i]? = some t → ps[i]? = some r → H t = some (.tup [.str (S [r.1]), .int (r.2 : Int)])
theorem Rn.same {H H' : Hp} {p : Addr} {ps : List (Nat × Nat)} (h : Rn H p ps) (s : Same H H') : Rn H' p ps := by
  obtain ⟨ts, h1, h2, h3⟩ := h
  exact ⟨ts, s _ _ h1, h2, fun i t r ht hr => s _ _ (h3 i t r ht hr)⟩
end
section
open TL (joinL)
/-! ### the least dances, by their ranks -/
/-- in how many ways it goes on behind the first of these runs -/
def wy : List Nat → Nat
  | _ :: n1 :: n2 :: r => wy (n1 :: n2 :: r) + (if n1 = 1 then wy (n2 :: r) else 0)
  | _ => 1
theorem wy_three (n0 n1 n2 : Nat) (r : List Nat) : wy (n0 :: n1 :: n2 :: r) = wy (n1 :: n2 :: r) + (if n1 = 1 then wy (n2 :: r) else 0) := by
  conv => lhs; unfold wy
theorem wy_two (n0 n1 : Nat) : wy [n0, n1] = 1 := rfl
theorem wy_one (n0 : Nat) : wy [n0] = 1 := rfl
theorem wy_pos : ∀ ns : List Nat, 1 ≤ wy ns
  | [] => Nat.le_refl _
  | [_] => Nat.le_refl _
  | [_, _] => Nat.le_refl _
  | n0 :: n1 :: n2 :: r => by
    have := wy_pos (n1 :: n2 :: r)
    rw [wy_three]
    omega
theorem wy_else {n0 n1 k : Nat} {r : List Nat} (h : k < wy (n0 :: n1 :: r)) (c : ¬ k < wy (n1 :: r)) : ∃ n2 r', r = n2 :: r' ∧ n1 = 1 ∧ k - wy (n1 :: r) < wy (n2 :: r') := by
  cases r with
  | nil =>
    rw [wy_two] at h
    rw [wy_one] at c
    exact absurd h c
  | cons n2 r' =>
    rw [wy_three] at h
    by_cases e : n1 = 1
    · rw [if_pos e] at h
      exact ⟨n2, r', rfl, e, by omega⟩
    · rw [if_neg e] at h
      omega
def ns_ (R : List (Nat × Nat)) : List Nat := R.map (·.2)
/-- the least dance of the rank k that these runs give -/
def ld : List (Nat × Nat) → Nat → List Nat
  | [], _ => []
  | [r], _ => wd r
  | r :: s :: R, k => wd r ++ (if k < wy (ns_ (s :: R)) then 82 :: ld (s :: R) k else r.1 :: 82 :: r.1 :: ld R (k - wy (ns_ (s :: R))))
theorem ld_two (r s : Nat × Nat) (R : List (Nat × Nat)) (k : Nat) : ld (r :: s :: R) k = wd r ++ (if k < wy (ns_ (s :: R)) then 82 :: ld (s :: R) k else r.1 :: 82 :: r.1 :: ld R (k - wy (ns_ (s :: R)))) := by
  conv => lhs; unfold ld
theorem ld_one (r : Nat × Nat) (k : Nat) : ld [r] k = wd r := rfl
/-- what stands behind the first run -/
def ldt : List (Nat × Nat) → Nat → List Nat
  | r :: s :: R, k => if k < wy (ns_ (s :: R)) then 82 :: ld (s :: R) k else r.1 :: 82 :: r.1 :: ld R (k - wy (ns_ (s :: R)))
  | _, _ => []
theorem ld_ldt (r : Nat × Nat) (R : List (Nat × Nat)) (k : Nat) : ld (r :: R) k = wd r ++ ldt (r :: R) k := by
  cases R with
  | nil => rw [ld_one]; exact (List.append_nil _).symm
  | cons s R => rw [ld_two]; rfl
theorem wd_len (r : Nat × Nat) : (wd r).length = r.2 := List.length_replicate
/-- as many letters as the runs have, and one between neighbours -/
theorem ld_len : ∀ (n : Nat) (R : List (Nat × Nat)) (k : Nat), R.length ≤ n → R ≠ [] → k < wy (ns_ R) → (ld R k).length + 1 = (ns_ R).sum + R.length
  | 0, [], _, _, h, _ => absurd rfl h
  | 0, _ :: _, _, h, _, _ => by simp at h
  | n + 1, [], _, _, h, _ => absurd rfl h
  | n + 1, [r], k, _, _, _ => by
    rw [ld_one, wd_len]
    simp [ns_]
  | n + 1, r :: s :: R, k, h, _, hk => by
    rw [ld_two, List.length_append, wd_len]
    by_cases c : k < wy (ns_ (s :: R))
    · rw [if_pos c]
      have ih := ld_len n (s :: R) k (by simp only [List.length_cons] at h ⊢; omega) (by simp) c
      have e : (ns_ (r :: s :: R)).sum = r.2 + (ns_ (s :: R)).sum := by simp [ns_]
      rw [e]
      simp only [List.length_cons] at ih ⊢
      omega
    · obtain ⟨n2, r', e1, e2, e3⟩ := wy_else (n0 := r.2) (n1 := s.2) (r := ns_ R) (k := k) hk c
      have hR : R ≠ [] := fun z => by rw [z] at e1; cases e1
      have ih := ld_len n R (k - wy (ns_ (s :: R))) (by simp only [List.length_cons] at h; omega) hR (by rw [e1]; exact e3)
      rw [if_neg c]
      have e : (ns_ (r :: s :: R)).sum = r.2 + (s.2 + (ns_ R).sum) := by simp [ns_]
      rw [e]
      simp only [List.length_cons] at ih ⊢
      omega
/-- neighbours have different letters, T or U -/
def Alt : List (Nat × Nat) → Prop
  | [] => True
  | [r] => r.1 = 84 ∨ r.1 = 85
  | r :: s :: R => (r.1 = 84 ∨ r.1 = 85) ∧ s.1 = swc r.1 ∧ Alt (s :: R)
theorem Alt.head {r : Nat × Nat} {R : List (Nat × Nat)} (h : Alt (r :: R)) : r.1 = 84 ∨ r.1 = 85 := by
  cases R with
  | nil => exact h
  | cons s R => exact h.1
theorem Alt.tail {r : Nat × Nat} {R : List (Nat × Nat)} (h : Alt (r :: R)) : Alt R := by
  cases R with
  | nil => exact trivial
  | cons s R => exact h.2.2
theorem gdL {v : Int × Int} (g : Good v) : 0 < v.2 ∨ (v.1 = 1 ∧ v.2 = 0) := by
  rcases g.1 with h | h
  · exact .inl h
  · rw [h]; exact .inr ⟨rfl, rfl⟩
theorem melt {v : Int × Int} (g : Good v) {c : Nat} (h : c = 84 ∨ c = 85) : run v [c, 82, c] = run v [82, swc c, 82] := by
  obtain ⟨p, q⟩ := v
  have hq := gdL g
  have g2 : Int.gcd p q = 1 := g.2
  have e82 : ∀ u : Int × Int, called u 82 = if 0 < u.1 then (0 - u.2, u.1) else if u.1 < 0 then (u.2, 0 - u.1) else (1, 0) := fun u => rfl
  have e84 : ∀ u : Int × Int, called u 84 = (u.1 + u.2, u.2) := fun u => rfl
  have e85 : ∀ u : Int × Int, called u 85 = (u.1 - u.2, u.2) := fun u => rfl
  have r3 : ∀ a b d, run (p, q) [a, b, d] = called (called (called (p, q) a) b) d := fun _ _ _ => rfl
  have zero : p = 0 → q = 1 := fun z => by
    rw [z, Int.gcd_zero_left] at g2
    rcases hq with k | ⟨k, _⟩
    · have k' : 0 < q := k
      omega
    · have k' : p = 1 := k
      omega
  have hq' : 0 < q ∨ (p = 1 ∧ q = 0) := hq
  have cases3 : ∀ s : Int, (s = 1 ∨ s = -1) → p + s * q = 0 → q = 1 := fun s hs z => by
    rcases hq' with k | ⟨k1, k2⟩
    · have : Int.gcd p q = q.natAbs := by
        rcases hs with rfl | rfl
        · rw [show p = -q by omega, Int.neg_gcd, Int.gcd_self]
        · rw [show p = q by omega, Int.gcd_self]
      omega
    · rw [k1, k2] at z
      omega
  rcases h with rfl | rfl
  · show run (p, q) [84, 82, 84] = run (p, q) [82, 85, 82]
    show called (called (p + q, q) 82) 84 = called (called (called (p, q) 82) 85) 82
    rw [e82 (p + q, q), e82 (p, q)]
    rcases Int.lt_trichotomy p 0 with c1 | c1 | c1
    · have q0 : 0 < q := by rcases hq' with k | ⟨k, _⟩ <;> omega
      rw [if_neg (show ¬ 0 < (p, q).1 by show ¬ 0 < p; omega), if_pos (show (p, q).1 < 0 from c1), e85, e82]
      show called (if 0 < p + q then (0 - q, p + q) else if p + q < 0 then (q, 0 - (p + q)) else (1, 0)) 84 = if 0 < q - (0 - p) then (0 - (0 - p), q - (0 - p)) else if q - (0 - p) < 0 then (0 - p, 0 - (q - (0 - p))) else (1, 0)
      rcases Int.lt_trichotomy (p + q) 0 with d | d | d
      · rw [if_neg (by omega), if_pos d, if_neg (by omega), if_pos (by omega), e84]
        exact Prod.ext (show q + (0 - (p + q)) = 0 - p by omega) (show 0 - (p + q) = 0 - (q - (0 - p)) by omega)
      · rw [if_neg (by omega), if_neg (by omega), if_neg (by omega), if_neg (by omega)]
        rfl
      · rw [if_pos d, if_pos (by omega), e84]
        exact Prod.ext (show 0 - q + (p + q) = 0 - (0 - p) by omega) (show p + q = q - (0 - p) by omega)
    · have q1 := zero c1
      subst c1 q1
      decide
    · rw [if_pos (show 0 < (p, q).1 from c1), e85, e82]
      show called (if 0 < p + q then (0 - q, p + q) else if p + q < 0 then (q, 0 - (p + q)) else (1, 0)) 84 = if 0 < 0 - q - p then (0 - p, 0 - q - p) else if 0 - q - p < 0 then (p, 0 - (0 - q - p)) else (1, 0)
      have q0 : 0 ≤ q := by rcases hq' with k | ⟨_, k⟩ <;> omega
      rw [if_pos (by omega), if_neg (by omega), if_pos (by omega), e84]
      exact Prod.ext (show 0 - q + (p + q) = p by omega) (show p + q = 0 - (0 - q - p) by omega)
  · show run (p, q) [85, 82, 85] = run (p, q) [82, 84, 82]
    show called (called (p - q, q) 82) 85 = called (called (called (p, q) 82) 84) 82
    rw [e82 (p - q, q), e82 (p, q)]
    rcases Int.lt_trichotomy p 0 with c1 | c1 | c1
    · have q0 : 0 < q := by rcases hq' with k | ⟨k, _⟩ <;> omega
      rw [if_neg (show ¬ 0 < (p, q).1 by show ¬ 0 < p; omega), if_pos (show (p, q).1 < 0 from c1), e84, e82]
      show called (if 0 < p - q then (0 - q, p - q) else if p - q < 0 then (q, 0 - (p - q)) else (1, 0)) 85 = if 0 < q + (0 - p) then (0 - (0 - p), q + (0 - p)) else if q + (0 - p) < 0 then (0 - p, 0 - (q + (0 - p))) else (1, 0)
      rw [if_neg (by omega), if_pos (by omega), if_pos (by omega), e85]
      exact Prod.ext (show q - (0 - (p - q)) = 0 - (0 - p) by omega) (show 0 - (p - q) = q + (0 - p) by omega)
    · have q1 := zero c1
      subst c1 q1
      decide
    · rw [if_pos (show 0 < (p, q).1 from c1), e84, e82]
      show called (if 0 < p - q then (0 - q, p - q) else if p - q < 0 then (q, 0 - (p - q)) else (1, 0)) 85 = if 0 < 0 - q + p then (0 - p, 0 - q + p) else if 0 - q + p < 0 then (p, 0 - (0 - q + p)) else (1, 0)
      rcases Int.lt_trichotomy (p - q) 0 with d | d | d
      · rw [if_neg (by omega), if_pos d, if_neg (by omega), if_pos (by omega), e85]
        exact Prod.ext (show q - (0 - (p - q)) = p by omega) (show 0 - (p - q) = 0 - (0 - q + p) by omega)
      · rw [if_neg (by omega), if_neg (by omega), if_neg (by omega), if_neg (by omega)]
        rcases hq' with k | ⟨k1, k2⟩
        · rfl
        · rfl
      · rw [if_pos d, if_pos (by omega), e85]
        exact Prod.ext (show 0 - q - (p - q) = 0 - p by omega) (show p - q = 0 - q + p by omega)
/-- each leads where the first one leads -/
theorem ld_run : ∀ (n : Nat) (R : List (Nat × Nat)) (k : Nat) {v : Int × Int}, R.length ≤ n → Good v → Alt R → k < wy (ns_ R) → run v (ld R k) = run v (ld R 0)
  | 0, [], _, _, _, _, _, _ => rfl
  | 0, _ :: _, _, _, h, _, _, _ => by simp at h
  | n + 1, [], _, _, _, _, _, _ => rfl
  | n + 1, [r], _, _, _, _, _, _ => rfl
  | n + 1, r :: s :: R, k, v, h, g, al, hk => by
    have g1 := good_run (wd r) g
    have w1 := wy_pos (ns_ (s :: R))
    rw [ld_two, ld_two, run_app, run_app, if_pos (show 0 < wy (ns_ (s :: R)) by omega)]
    generalize run v (wd r) = u at g1
    by_cases c : k < wy (ns_ (s :: R))
    · rw [if_pos c]
      show run (called u 82) (ld (s :: R) k) = run (called u 82) (ld (s :: R) 0)
      exact ld_run n (s :: R) k (by simp only [List.length_cons] at h ⊢; omega) (g1.called 82) al.tail c
    · obtain ⟨n2, r', e1, e2, e3⟩ := wy_else (n0 := r.2) (n1 := s.2) (r := ns_ R) (k := k) hk c
      obtain ⟨t, R', rfl⟩ : ∃ t R', R = t :: R' := by
        cases R with
        | nil => cases e1
        | cons t R' => exact ⟨t, R', rfl⟩
      rw [if_neg c]
      have gm := melt g1 al.head
      have e5 : run u (r.1 :: 82 :: r.1 :: ld (t :: R') (k - wy (ns_ (s :: t :: R')))) = run (run u [r.1, 82, r.1]) (ld (t :: R') (k - wy (ns_ (s :: t :: R')))) := rfl
      rw [e5, gm]
      have g3 := good_run [82, swc r.1, 82] g1
      rw [ld_run n (t :: R') _ (by simp only [List.length_cons] at h ⊢; omega) g3 al.tail.tail (by rw [e1]; exact e3)]
      rw [ld_two, if_pos (show 0 < wy (ns_ (t :: R')) by have := wy_pos (ns_ (t :: R')); omega)]
      have es : wd s = [swc r.1] := by
        unfold wd
        rw [e2, al.2.1]
        rfl
      rw [es]
      rfl
theorem ld_lets : ∀ (n : Nat) (R : List (Nat × Nat)) (k : Nat), R.length ≤ n → Alt R → Lets (ld R k)
  | 0, [], _, _, _ => fun c hc => by cases hc
  | 0, _ :: _, _, h, _ => by simp at h
  | n + 1, [], _, _, _ => fun c hc => by cases hc
  | n + 1, [r], _, _, al => fun c hc => by
    rw [ld_one] at hc
    rw [List.eq_of_mem_replicate hc]
    have := al.head
    omega
  | n + 1, r :: s :: R, k, h, al => by
    have hr := al.head
    rw [ld_two]
    have l1 : Lets (wd r) := fun c hc => by
      rw [List.eq_of_mem_replicate hc]
      omega
    have i1 := ld_lets n (s :: R) k (by simp only [List.length_cons] at h ⊢; omega) al.tail
    have i2 := ld_lets n R (k - wy (ns_ (s :: R))) (by simp only [List.length_cons] at h ⊢; omega) al.tail.tail
    intro c hc
    rcases List.mem_append.mp hc with hc | hc
    · exact l1 c hc
    · split at hc
      · rcases List.mem_cons.mp hc with rfl | hc
        · exact .inr (.inr rfl)
        · exact i1 c hc
      · simp only [List.mem_cons] at hc
        rcases hc with rfl | rfl | rfl | hc
        · omega
        · exact .inr (.inr rfl)
        · omega
        · exact i2 c hc
theorem joinL_cons2 (x y : List Nat) (r : List (List Nat)) : joinL [82] (x :: y :: r) = x ++ ([82] ++ joinL [82] (y :: r)) := rfl
theorem ld_zero : ∀ R : List (Nat × Nat), ld R 0 = joinL [82] (R.map wd)
  | [] => rfl
  | [_] => rfl
  | r :: s :: R => by
    have ih := ld_zero (s :: R)
    rw [ld_two, if_pos (show 0 < wy (ns_ (s :: R)) by have := wy_pos (ns_ (s :: R)); omega), ih]
    exact (joinL_cons2 _ _ _).symm
/-- the runs of the least dances of v, from the first to the last -/
def rl (v : Int × Int) : List (Nat × Nat) := (al (fl v) (quo v)).reverse
theorem rl_len (v : Int × Int) : (rl v).length = (quo v).length := by unfold rl; rw [List.length_reverse, al_len]
theorem al_snd : ∀ (qs : List Nat) (c : Nat), (al c qs).map (·.2) = qs
  | [], _ => rfl
  | a :: r, c => by
    show a :: (al (swc c) r).map (·.2) = a :: r
    rw [al_snd r (swc c)]
theorem ns_rl (v : Int × Int) : ns_ (rl v) = (quo v).reverse := by
  unfold ns_ rl
  rw [List.map_reverse, al_snd]
theorem alt_snoc : ∀ (R : List (Nat × Nat)) (r : Nat × Nat), Alt R → (r.1 = 84 ∨ r.1 = 85) → (∀ s, R.getLast? = some s → r.1 = swc s.1) → Alt (R ++ [r])
  | [], r, _, h, _ => h
  | [s], r, hs, h, k => ⟨hs, k s rfl, h⟩
  | s :: t :: R, r, hs, h, k => by
    refine ⟨hs.1, hs.2.1, ?_⟩
    exact alt_snoc (t :: R) r hs.2.2 h (fun u hu => k u (by rw [List.getLast?_cons_cons]; exact hu))
theorem alt_al : ∀ (qs : List Nat) (c : Nat), c = 84 ∨ c = 85 → Alt (al c qs).reverse
  | [], _, _ => trivial
  | a :: r, c, h => by
    show Alt (((c, a) :: al (swc c) r).reverse)
    rw [List.reverse_cons]
    refine alt_snoc _ _ (alt_al r (swc c) (swc_or h)) h (fun s hs => ?_)
    rw [List.getLast?_reverse] at hs
    cases r with
    | nil => cases hs
    | cons b r =>
      have e : s = (swc c, b) := (Option.some.inj hs).symm
      rw [e]
      exact (swc_swc h).symm
theorem alt_rl (v : Int × Int) : Alt (rl v) := alt_al _ _ (fl_or v)
theorem ld_rl_zero (v : Int × Int) : ld (rl v) 0 = dl v := ld_zero _
theorem rl_ne {v : Int × Int} (g : Good v) : rl v ≠ [] := fun z => by
  have := congrArg List.length z
  rw [rl_len] at this
  exact quo_ne g (List.length_eq_zero_iff.mp this)
theorem ld_rl_len {v : Int × Int} (g : Good v) {k : Nat} (h : k < wy (ns_ (rl v))) : (ld (rl v) k).length = stp v := by
  have a := ld_len _ (rl v) k (Nat.le_refl _) (rl_ne g) h
  have b := quo_stp g
  rw [ns_rl, List.sum_reverse, rl_len] at a
  omega
theorem ld_rl_run {v : Int × Int} (g : Good v) {k : Nat} (h : k < wy (ns_ (rl v))) : run (0, 1) (ld (rl v) k) = v := by
  rw [ld_run _ (rl v) k (Nat.le_refl _) Good.zero (alt_rl v) h, ld_rl_zero, run_dl g]
theorem ld_rl_lets (v : Int × Int) (k : Nat) : Lets (ld (rl v) k) := ld_lets _ _ _ (Nat.le_refl _) (alt_rl v)
/-- the list of the ways -/
def wys (ns : List Nat) : List Nat := (List.range ns.length).map fun i => wy (ns.drop i)
theorem wys_len (ns : List Nat) : (wys ns).length = ns.length := by unfold wys; rw [List.length_map, List.length_range]
theorem wys_at {ns : List Nat} {i : Nat} (h : i < ns.length) : (wys ns)[i]? = some (wy (ns.drop i)) := by
  unfold wys
  rw [List.getElem?_map, List.getElem?_range h]
  rfl
end
section
/-! ### the levels of the walk from 0 -/
def inv3 (c : Nat) : Nat := if c = 84 then 85 else if c = 85 then 84 else c
theorem called_inv {v : Int × Int} {c : Nat} (hv : Good v) (hc : c = 84 ∨ c = 85 ∨ c = 82) : called (called v c) (inv3 c) = v := by
  obtain ⟨p, q⟩ := v
  rcases hc with rfl | rfl | rfl
  · show (p + q - q, q) = (p, q)
    rw [Int.add_sub_cancel]
  · show (p - q + q, q) = (p, q)
    rw [Int.sub_add_cancel]
  · have e1 : ∀ u : Int × Int, called u 82 = if 0 < u.1 then (0 - u.2, u.1) else if u.1 < 0 then (u.2, 0 - u.1) else (1, 0) := fun u => rfl
    show called (called (p, q) 82) 82 = (p, q)
    have hq : 0 < q ∨ (p = 1 ∧ q = 0) := by
      rcases hv.1 with h | h
      · exact .inl h
      · cases h; exact .inr ⟨rfl, rfl⟩
    by_cases h1 : 0 < p
    · rw [e1 (p, q), if_pos (show 0 < (p, q).1 from h1), e1]
      rcases hq with hq | ⟨rfl, rfl⟩
      · rw [if_neg (show ¬ 0 < (0 - q, p).1 by show ¬ 0 < 0 - q; omega), if_pos (show (0 - q, p).1 < 0 by show 0 - q < 0; omega)]
        show (p, 0 - (0 - q)) = (p, q)
        rw [show 0 - (0 - q) = q by omega]
      · rfl
    · rw [e1 (p, q), if_neg (show ¬ 0 < (p, q).1 from h1)]
      by_cases h2 : p < 0
      · rw [if_pos (show (p, q).1 < 0 from h2), e1]
        have hq' : 0 < q := by rcases hq with hq | ⟨rfl, rfl⟩; exact hq; omega
        rw [if_pos (show 0 < (q, 0 - p).1 from hq')]
        show (0 - (0 - p), q) = (p, q)
        rw [show 0 - (0 - p) = p by omega]
      · have h3 : p = 0 := by omega
        subst h3
        have h2' : Int.gcd 0 q = 1 := hv.2
        rw [Int.gcd_zero_left] at h2'
        rcases hq with hq | ⟨h, _⟩
        · rw [show q = 1 by omega]; rfl
        · cases h
theorem inv3_mem {c : Nat} (hc : c = 84 ∨ c = 85 ∨ c = 82) : inv3 c = 82 ∨ inv3 c = 84 ∨ inv3 c = 85 := by
  rcases hc with rfl | rfl | rfl
  · exact .inr (.inr rfl)
  · exact .inr (.inl rfl)
  · exact .inl rfl
/-- each fraction but 0 is reached by a call from one with a step less -/
theorem stp_from {v : Int × Int} {n : Nat} (g : Good v) (e : stp v = n + 1) : ∃ (u : Int × Int) (c : Nat), (c = 82 ∨ c = 84 ∨ c = 85) ∧ Good u ∧ stp u = n ∧ called u c = v := by
  have ne : v ≠ (0, 1) := fun z => by rw [z, stp_zero] at e; cases e
  obtain ⟨c, hc, h⟩ := stp_down g ne
  exact ⟨called v c, inv3 c, inv3_mem hc, g.called c, by omega, called_inv g hc⟩
theorem stp_size : ∀ (n : Nat) (v : Int × Int), Good v → stp v = n → v.1.natAbs ≤ 2 ^ n ∧ v.2.natAbs ≤ 2 ^ n
  | 0, v, g, e => by
    rw [stp_eq_zero g e]
    exact ⟨by decide, by decide⟩
  | n + 1, v, g, e => by
    obtain ⟨u, c, _, gu, eu, rfl⟩ := stp_from g e
    have ih := stp_size n u gu eu
    have := called_size ih.1 ih.2 Nat.one_le_two_pow c
    rw [Nat.pow_succ']
    exact this
/-- a level: just the fractions of so many steps, each once -/
structure Lev (k : Nat) (L : List (Int × Int)) : Prop where
  mem : ∀ v, v ∈ L ↔ Good v ∧ stp v = k
  nd : L.Nodup
  len : L.length ≤ 4 ^ k
theorem lev_zero : Lev 0 [(0, 1)] := by
  refine ⟨fun v => ?_, by simp, by decide⟩
  rw [List.mem_singleton]
  constructor
  · rintro rfl; exact ⟨Good.zero, stp_zero⟩
  · rintro ⟨g, e⟩; exact stp_eq_zero g e
/-- what stands in the next level when the first i of L are done, and of the next one the letters before -/
structure Half (n : Nat) (L : List (Int × Int)) (i j : Nat) (M : List (Int × Int)) : Prop where
  mem : ∀ v ∈ M, Good v ∧ stp v = n + 1
  nd : M.Nodup
  len : M.length ≤ 3 * i + j
  done : ∀ (a : Nat) (u : Int × Int) (b c : Nat), L[a]? = some u → ([82, 84, 85] : List Nat)[b]? = some c → (a < i ∨ (a = i ∧ b < j)) → stp (called u c) = n + 1 → called u c ∈ M
theorem Half.start (n : Nat) (L : List (Int × Int)) : Half n L 0 0 [] := ⟨fun v h => by (cases h), by simp, by simp, fun a u b c _ _ h => by omega⟩
theorem Half.turn {n i : Nat} {L M : List (Int × Int)} (h : Half n L i 3 M) : Half n L (i + 1) 0 M := by
  refine ⟨h.mem, h.nd, by have := h.len; omega, fun a u b c ha hb hd e => h.done a u b c ha hb ?_ e⟩
  have : b < 3 := (List.getElem?_eq_some_iff.mp hb).1
  omega
theorem Half.old {n i j c : Nat} {L M : List (Int × Int)} {u : Int × Int} (h : Half n L i j M) (hu : L[i]? = some u) (hc : ([82, 84, 85] : List Nat)[j]? = some c) (k : stp (called u c) = n + 1 → called u c ∈ M) : Half n L i (j + 1) M := by
  refine ⟨h.mem, h.nd, by have := h.len; omega, fun a u' b c' ha hb hd e => ?_⟩
  by_cases z : a = i ∧ b = j
  · obtain ⟨rfl, rfl⟩ := z
    rw [hu] at ha
    rw [hc] at hb
    cases ha; cases hb
    exact k e
  · exact h.done a u' b c' ha hb (by omega) e
theorem Half.new {n i j c : Nat} {L M : List (Int × Int)} {u : Int × Int} (h : Half n L i j M) (hu : L[i]? = some u) (hc : ([82, 84, 85] : List Nat)[j]? = some c) (g : Good (called u c)) (e : stp (called u c) = n + 1) (no : called u c ∉ M) : Half n L i (j + 1) (M ++ [called u c]) := by
  refine ⟨fun v hv => ?_, ?_, by have := h.len; rw [List.length_append]; show _ + 1 ≤ _; omega, fun a u' b c' ha hb hd e' => ?_⟩
  · rcases List.mem_append.mp hv with hv | hv
    · exact h.mem v hv
    · rw [List.mem_singleton.mp hv]; exact ⟨g, e⟩
  · rw [List.nodup_append]
    refine ⟨h.nd, by simp, fun x hx y hy z => ?_⟩
    rw [List.mem_singleton.mp hy] at z
    exact no (z ▸ hx)
  · by_cases z : a = i ∧ b = j
    · obtain ⟨rfl, rfl⟩ := z
      rw [hu] at ha
      rw [hc] at hb
      cases ha; cases hb
      exact List.mem_append_right _ (List.mem_singleton.mpr rfl)
    · exact List.mem_append_left _ (h.done a u' b c' ha hb (by omega) e')
theorem Half.lev {n : Nat} {L M : List (Int × Int)} (l : Lev n L) (h : Half n L L.length 0 M) : Lev (n + 1) M := by
  refine ⟨fun v => ⟨h.mem v, fun ⟨g, e⟩ => ?_⟩, h.nd, ?_⟩
  · obtain ⟨u, c, hc, gu, eu, rfl⟩ := stp_from g e
    obtain ⟨a, ha⟩ := List.getElem?_of_mem ((l.mem u).mpr ⟨gu, eu⟩)
    obtain ⟨b, hb⟩ : ∃ b, ([82, 84, 85] : List Nat)[b]? = some c := by
      rcases hc with rfl | rfl | rfl
      · exact ⟨0, rfl⟩
      · exact ⟨1, rfl⟩
      · exact ⟨2, rfl⟩
    exact h.done a u b c ha hb (.inl (List.getElem?_eq_some_iff.mp ha).1) e
  · have := h.len
    have := l.len
    rw [Nat.pow_succ]
    omega
/-- the keys of the dict of all that is known -/
def kyv (v : Int × Int) : List Key := [Sum.inl v.1, Sum.inl v.2]
theorem kyv_inj {v u : Int × Int} (h : kyv v = kyv u) : v = u := by
  obtain ⟨a, b⟩ := v
  obtain ⟨c, d⟩ := u
  unfold kyv at h
  simp only [List.cons.injEq, Sum.inl.injEq, and_true] at h
  rw [h.1, h.2]
/-- known: all of at most n steps, and M -/
def Kn (n : Nat) (M : List (Int × Int)) (kvs : List (List Key × V)) : Prop := ∀ v, (valV kvs (kyv v)).isSome = true ↔ (Good v ∧ stp v ≤ n) ∨ v ∈ M
theorem kn_zero : Kn 0 [] [(kyv (0, 1), V.int 0)] := by
  intro v
  by_cases e : kyv (0, 1) = kyv v
  · rw [valV_pos e]
    have := kyv_inj e
    subst this
    exact ⟨fun _ => .inl ⟨Good.zero, Nat.le_of_eq stp_zero⟩, fun _ => rfl⟩
  · rw [valV_neg e, valV_nil]
    constructor
    · intro h; cases h
    · rintro (⟨g, h⟩ | h)
      · exact absurd (congrArg kyv (stp_eq_zero g (by omega)).symm) e
      · cases h
theorem Kn.new {n : Nat} {M : List (Int × Int)} {kvs : List (List Key × V)} (h : Kn n M kvs) (v : Int × Int) (y : V) : Kn n (M ++ [v]) (putK kvs (kyv v) y) := by
  intro u
  rw [valV_put]
  by_cases e : kyv u = kyv v
  · rw [if_pos e]
    have := kyv_inj e
    subst this
    exact ⟨fun _ => .inr (List.mem_append_right _ (List.mem_singleton.mpr rfl)), fun _ => rfl⟩
  · rw [if_neg e, h u, List.mem_append, List.mem_singleton]
    constructor
    · rintro (h | h)
      · exact .inl h
      · exact .inr (.inl h)
    · rintro (h | h | h)
      · exact .inl h
      · exact .inr h
      · exact absurd (congrArg kyv h) e
theorem Kn.next {n : Nat} {M : List (Int × Int)} {kvs : List (List Key × V)} (h : Kn n M kvs) (l : Lev (n + 1) M) : Kn (n + 1) [] kvs := by
  intro u
  rw [h u, l.mem u]
  constructor
  · rintro (⟨g, h⟩ | ⟨g, h⟩)
    · exact .inl ⟨g, by omega⟩
    · exact .inl ⟨g, by omega⟩
  · rintro (⟨g, h⟩ | h)
    · by_cases c : stp u ≤ n
      · exact .inl ⟨g, c⟩
      · exact .inr ⟨g, by omega⟩
    · cases h
/-- a list of fractions in the heap -/
def LvAt (H : Hp) (q : Addr) (L : List (Int × Int)) : Prop := ∃ ts : List Addr, H q = some (.lst (ts.map V.ref)) ∧ ts.length = L.length ∧ ∀ (i : Nat) (t : Addr) (v : Int × Int), ts[i]? = some t → L[i]? = some v → Tup2 H t v
theorem LvAt.but {H H' : Hp} {a q : Addr} {L : List (Int × Int)} (h : LvAt H q L) (b : But a H H') (n : q ≠ a) (nt : ∀ o, H a = some o → ∀ xs, o ≠ .tup xs) : LvAt H' q L := by
  obtain ⟨ts, h1, h2, h3⟩ := h
  refine ⟨ts, b _ _ n h1, h2, fun i t v ht hv => b _ _ (fun z => ?_) (h3 i t v ht hv)⟩
  subst z
  exact nt _ (h3 i _ v ht hv) _ rfl
theorem LvAt.same {H H' : Hp} {q : Addr} {L : List (Int × Int)} (h : LvAt H q L) (b : Same H H') : LvAt H' q L := by
  obtain ⟨ts, h1, h2, h3⟩ := h
  exact ⟨ts, b _ _ h1, h2, fun i t v ht hv => b _ _ (h3 i t v ht hv)⟩
theorem LvAt.add {H : Hp} {q t : Addr} {L : List (Int × Int)} {v : Int × Int} {ts : List Addr} (h1 : H q = some (.lst (ts.map V.ref))) (h2 : ts.length = L.length) (h3 : ∀ (i : Nat) (t : Addr) (v : Int × Int), ts[i]? = some t → L[i]? = some v → Tup2 H t v) (T : Tup2 H t v) :
    LvAt (upd H q (.lst (ts.map V.ref ++ [V.ref t]))) q (L ++ [v]) := by
  refine ⟨ts ++ [t], by rw [upd_same, List.map_append]; rfl, by rw [List.length_append, List.length_append, h2]; rfl, fun i t' v' ht hv => ?_⟩
  have key : ∀ t v, Tup2 H t v → Tup2 (upd H q (.lst (ts.map V.ref ++ [V.ref t']))) t v := fun t v T => by
    unfold Tup2
    rw [upd_ne (ne_of T h1 (fun z => nomatch z))]
    exact T
  have key2 : ∀ t0 v, Tup2 H t0 v → Tup2 (upd H q (.lst (ts.map V.ref ++ [V.ref t]))) t0 v := fun t0 v T => by
    unfold Tup2
    rw [upd_ne (ne_of T h1 (fun z => nomatch z))]
    exact T
  by_cases c : i < ts.length
  · rw [List.getElem?_append_left c] at ht
    rw [List.getElem?_append_left (by omega)] at hv
    exact key2 _ _ (h3 i t' v' ht hv)
  · rw [List.getElem?_append_right (by omega)] at ht
    rw [List.getElem?_append_right (by omega)] at hv
    have e1 : i = ts.length := by
      have := (List.getElem?_eq_some_iff.mp ht).1
      have : i - ts.length < 1 := this
      omega
    subst e1
    rw [Nat.sub_self] at ht
    rw [h2, Nat.sub_self] at hv
    cases ht; cases hv
    exact key2 _ _ T
theorem atI_end {α : Type} {xs : List α} {y : α} : atI (xs ++ [y]) (-1) = some y := by
  unfold atI ixN
  rw [if_neg (by decide), List.length_append, if_pos (by show -((xs.length + 1 : Nat) : Int) ≤ -1; omega)]
  show (xs ++ [y])[((-1 : Int) + ((xs.length + 1 : Nat) : Int)).toNat]? = some y
  rw [show ((-1 : Int) + ((xs.length + 1 : Nat) : Int)).toNat = xs.length by omega, List.getElem?_append_right (Nat.le_refl _), Nat.sub_self]
  rfl
end
section
variable {P : Program} {w : World} {K : PySem.W.Frag} {mg : Str → Option Value} {base : Heap} {f : Addr} {fd : FuncData}
theorem ok_num (F : Fun K "number" "number" s_number f fd) (D_after : Dfn P w K mg base "after" 2 ["fraction", "dance"] spAfter)  : FnOk P w K mg base CX0 3 f fd ["dance"] spNum := by
  refine F.ok sc_number (fun vs H Q E h => ?_) (fun cdv A outer s H vs Q E hr h => ?_)
  · obtain ⟨l, rfl, q⟩ := h
    rfl
  obtain ⟨l, rfl, q⟩ := h
  refine ⟨_, (pss_one (ps_ret (pe_do D_after hr (pa_cons (pe_tup (pa_cons pe_int (pa_cons pe_int pa_nil))) (pa_cons (pv 0) pa_nil))))), ?_⟩
  exact ⟨fits (by decide), fun p hp => ⟨_, rfl, p, (0, 1), l, rfl, upd_same, fun t' H' sm tt => q t' H' ((same_new hp _).trans sm) tt⟩⟩
end
def spQuo (K : PySem.W.Frag) : Sp := fun vs H Q _ => ∃ (t : Addr) (v : Int × Int), vs = [.ref t] ∧ Tup2 H t v ∧ Good v ∧ v.1.natAbs < 2 ^ 8000 ∧ v.2.natAbs < 2 ^ 8000 ∧ ∀ a H', Same H H' → H a = none → H' a = some (.lst (((quo v).map Int.ofNat).map V.int)) → Q (.ref a) H'
def spSteps : Sp := fun vs H Q _ => ∃ (t : Addr) (v : Int × Int), vs = [.ref t] ∧ Tup2 H t v ∧ Good v ∧ v.1.natAbs < 2 ^ 8000 ∧ v.2.natAbs < 2 ^ 8000 ∧ ∀ H', Same H H' → Q (.int (stp v)) H'
theorem same_upd {H0 G : Hp} {a : Addr} {o : HO} (s : Same H0 G) (n : H0 a = none) : Same H0 (upd G a o) := fun b u h => by rw [upd_ne (ne_of_none h n)]; exact s b u h
theorem sum_nat : ∀ l : List Nat, ((l.map Int.ofNat).sum : Int) = ((l.sum : Nat) : Int)
  | [] => rfl
  | a :: l => by
    rw [List.map_cons, List.sum_cons, List.sum_cons, sum_nat l]
    rfl
section
variable {P : Program} {w : World} {K : PySem.W.Frag} {mg : Str → Option Value} {base : Heap} {f : Addr} {fd : FuncData}
theorem ok_quotients (F : Fun K "quotients" "quotients" s_quotients f fd) (y_abs : mg "abs" = none)  : FnOk P w K mg base CX0 1 f fd ["fraction"] (spQuo K) := by
  refine F.ok sc_quotients (fun vs H Q E h => ?_) (fun cdv A outer s H vs Q E hr h => ?_)
  · obtain ⟨t, v, rfl, hT, g, z1, z2, q⟩ := h
    rfl
  obtain ⟨t, v, rfl, hT, g, z1, z2, q⟩ := h
  refine ⟨_, (pss_cons (ps_asg (pv 0) (pg_tup (by rfl) (pgs_cons (pg_name (i := 1) sc_quotients.nd rfl (.inl rfl)) (pgs_cons (pg_name (i := 2) sc_quotients.nd rfl (.inl rfl)) pgs_nil))))
    (pss_cons (ps_if (pt_cmpR op_eq (pv 2) pe_int (nomark _)) (pss_one (ps_ret (pe_lst (pa_cons pe_int (pa_cons pe_int pa_nil))))) pss_nil)
    (pss_cons (ps_set (i := 3) sc_quotients.nd rfl (.inl rfl) (pe_lst pa_nil))
    (pss_cons (ps_set (i := 4) sc_quotients.nd rfl (.inl rfl) (pe_callB call_abs rfl y_abs (by decide +kernel) (pa_cons (pv 1) pa_nil)))
    (pss_cons (ps_while PassesOwn.never (pt_cmpR op_gt (pv 2) pe_int (nomark _)) (pss_cons (ps_expr (pe_bm PySem.F.plainAttrs_list PySem.F.slot_list_append PySem.F.type_list_append mt_append (pv 3) (pa_cons (pe_op op_fdivW (pv 4) (pv 2)) pa_nil)))
    (pss_one (ps_par (i := 4) (j := 2) (by rfl) sc_quotients.nd rfl rfl (by decide) rfl rfl (pa_cons (pv 2) (pa_cons (pe_op op_modN (pv 4) (pv 2)) pa_nil)) (by rfl)))))
    (pss_one (ps_ret (pv 3)))))))), ?_⟩
  obtain ⟨p, q'⟩ := v
  refine ⟨_, rfl, t, _, rfl, SqT.of hT, rfl, _, _, rfl, _, _, rfl, rfl, ?_⟩
  refine ⟨_, rfl, rfl, _, rfl, ite2 (fun c => ?_) (fun c => ?_)⟩
  · have k : q' = 0 := V.int.inj (of_decide_eq_true c)
    subst k
    refine ⟨fits (by decide), fun a ha => q a _ (same_new ha _) ha ?_⟩
    rw [upd_same]
    rfl
  have k : ¬ q' = 0 := fun z => c (decide_eq_true (congrArg V.int z))
  have h0 : 0 < q' := by
    rcases g.1 with h1 | h1
    · exact h1
    · cases h1; exact absurd rfl k
  have eq0 : quo (p, q') = QL p.natAbs q'.natAbs := if_neg k
  have ql := quo_len (v := (p, q')) (n := 8000) z2 (by decide)
  rw [eq0] at q ql
  refine ⟨fits (by decide), fun pa hpa => ⟨_, rfl, _, rfl, ?_⟩⟩
  have e2 : (if p < 0 then -p else p) = (p.natAbs : Int) := by split <;> omega
  rw [e2]
  refine while_by (fun σ G => ∃ (x y : Nat) (cs : List Nat), σ = [some (.ref t), some (.int p), some (.int (y : Int)), some (.ref pa), some (.int (x : Int))] ∧ Same H G ∧ G pa = some (.lst ((cs.map Int.ofNat).map V.int)) ∧ QL p.natAbs q'.natAbs = cs ++ QL x y ∧ y < 2 ^ 8000) (fun σ _ => match σ with | [_, _, some (.int b), _, _] => b.natAbs | _ => 0) ⟨p.natAbs, q'.natAbs, [], by rw [Int.natAbs_of_nonneg (Int.le_of_lt h0)]; rfl, same_new hpa _, upd_same, rfl, z2⟩ ?_ ?_
  · rintro σ G ⟨x, y, cs, rfl, sm, hG, ej, yb⟩
    refine ⟨_, rfl, _, _, rfl, rfl, _, rfl, ite2 (fun c1 => ?_) (fun c1 => ?_)⟩
    · have y0 : 0 < y := by
        have : (0 : Int) < (y : Int) := of_decide_eq_true c1
        omega
      have gd := wide_div (i := (x : Int)) (j := (y : Int)) (b := 8000) (by omega) (by rw [Int.natAbs_natCast]; exact yb) (by decide) (by decide)
      have lc : cs.length + 1 ≤ 16000 := by
        rw [ej, QL_step y0, List.length_append, List.length_cons] at ql
        omega
      refine ⟨_, rfl, .inl ⟨rfl, _, SqL.of hG⟩, _, rfl, _, rfl, _, _, rfl, rfl, gd, pa, _, _, rfl, rfl, hG, Nat.lt_of_lt_of_le (show ((cs.map Int.ofNat).map V.int).length < 16777216 by rw [List.length_map, List.length_map]; omega) sizeLine_big, ?_⟩
      refine ⟨_, rfl, _, rfl, _, rfl, _, _, rfl, rfl, (show (y : Int) ≠ 0 by omega), _, _, rfl, ⟨y, x % y, cs ++ [x / y], ?_, same_upd sm hpa, ?_, ?_, Nat.lt_trans (Nat.mod_lt _ y0) yb⟩, ?_⟩
      · have em : ((x : Int).fmod (y : Int)) = ((x % y : Nat) : Int) := by
          rw [Int.fmod_eq_emod_of_nonneg _ (Int.natCast_nonneg y)]
          rfl
        rw [← em]
        rfl
      · rw [upd_same, List.map_append, List.map_append]
        rfl
      · rw [ej, QL_step y0, List.append_assoc]
        rfl
      · show ((x : Int).fmod (y : Int)).natAbs < (y : Int).natAbs
        exact fmod_less (by omega)
    · have y0 : y = 0 := by
        have : ¬ (0 : Int) < (y : Int) := fun z => c1 (decide_eq_true z)
        omega
      subst y0
      rw [QL_zero, List.append_nil] at ej
      rw [ej] at q
      exact ⟨_, rfl, q pa G sm hpa hG⟩
  · rintro σ H' Q1 Q2 hm ⟨v, e, i, j, e1, e2, b, e3, qq⟩
    exact ⟨v, e, i, j, e1, e2, b, e3, hm _ _ qq⟩
end
section
variable {P : Program} {w : World} {K : PySem.W.Frag} {mg : Str → Option Value} {base : Heap} {f : Addr} {fd : FuncData}
theorem ok_steps (F : Fun K "steps" "steps" s_steps f fd) (D_quotients : Dfn P w K mg base "quotients" 1 ["fraction"] (spQuo K)) (y_sum : mg "sum" = none) (y_len : mg "len" = none)  : FnOk P w K mg base CX0 2 f fd ["fraction"] spSteps := by
  refine F.ok sc_steps (fun vs H Q E h => ?_) (fun cdv A outer s H vs Q E hr h => ?_)
  · obtain ⟨t, v, rfl, hT, g, z1, z2, q⟩ := h
    rfl
  obtain ⟨t, v, rfl, hT, g, z1, z2, q⟩ := h
  refine ⟨_, (pss_cons (ps_set (i := 1) sc_steps.nd rfl (.inl rfl) (pe_do D_quotients hr (pa_cons (pv 0) pa_nil)))
    (pss_one (ps_ret (pe_op op_sub (pe_op op_add (pe_callB (cr_sum rfl) rfl y_sum (by decide +kernel) (pa_cons (pv 1) pa_nil)) (pe_callB call_len_seq rfl y_len PySem.boot_len (pa_cons (pv 1) pa_nil))) pe_int)))), ?_⟩
  refine ⟨_, rfl, t, v, rfl, hT, g, z1, z2, fun a H' sm na ha => ?_⟩
  refine ⟨_, rfl, a, _, rfl, SqL.of ha, _, rfl, a, _, rfl, .inl (SqL.of ha), _, _, rfl, rfl, _, _, rfl, rfl, ?_⟩
  rw [sum_nat, List.length_map, List.length_map]
  have := quo_stp g
  have e : ((quo v).sum : Int) + ((quo v).length : Int) - 1 = (stp v : Int) := by omega
  show Q (.int (((quo v).sum : Int) + ((quo v).length : Int) - 1)) H'
  rw [e]
  exact q H' sm
end
theorem lc_enum {K : PySem.W.Frag} {a : Addr} {xs : List V} {g : TG} {tt : TT} {te : TE} {vs : List Nat} {σ : L2.St} {H1 : Hp} {D : Addr} {Qd : Hp → Prop} (Pv : Nat → Hp → Prop) (h0 : Pv 0 (upd H1 D (.lst []))) (hl : ∀ i H, i ≤ xs.length → Pv i H → SqL K H a xs)
    (hs : ∀ i x H T, xs[i]? = some x → Pv i H → H T = none → g (.ref T) (wipe σ vs) (upd H T (.tup [.int (i : Nat), x])) fun σ2 H2 => wipe σ2 vs = wipe σ vs ∧ tt σ2 H2 fun b H3 =>
      if b = true then te σ2 H3 fun y H4 => ∃ acc, H4 D = some (.lst acc) ∧ acc.length < sizeLine ∧ Pv (i + 1) (upd H4 D (.lst (acc ++ [y]))) else Pv (i + 1) H3) (hd : ∀ H, Pv xs.length H → Qd H) :
    ∃ W : Nat → Nat → Hp → Prop, (∃ m, W 0 m (upd H1 D (.lst []))) ∧ ∀ i m H, W i m H →
      ((Ite K a).stop i H ∧ Qd H) ∨ ((Ite K a).go i H ∧ ∃ Nx : Hp → Prop, (∀ H', Nx H' → ∃ m', m' < m ∧ W (i + 1) m' H') ∧ ∀ x H', (Ite K a).yld i H x H' → g x (wipe σ vs) H' fun σ2 H2 => wipe σ2 vs = wipe σ vs ∧ tt σ2 H2 fun b H3 =>
        if b = true then te σ2 H3 fun y H4 => ∃ acc, H4 D = some (.lst acc) ∧ acc.length < sizeLine ∧ Nx (upd H4 D (.lst (acc ++ [y]))) else Nx H3) := by
  refine ⟨fun j n G => n = xs.length - j ∧ j ≤ xs.length ∧ Pv j G, ⟨xs.length, by simp, Nat.zero_le _, h0⟩, ?_⟩
  rintro j n G ⟨rfl, hj, p⟩
  have at_ := hl j G hj p
  by_cases c : j < xs.length
  · refine .inr ⟨⟨xs, xs[j], at_, by simp [c]⟩, Pv (j + 1), fun G' p' => ⟨xs.length - (j + 1), by omega, rfl, c, p'⟩, fun x G' y => ?_⟩
    obtain ⟨T, z, rfl, hT, rfl, e⟩ := y
    exact hs j z G T (e xs at_) p hT
  · have e : j = xs.length := by omega
    subst e
    exact .inl ⟨⟨xs, at_, Nat.le_refl _⟩, hd G p⟩
abbrev rtup (r : Nat × Nat) : HO := .tup [.str (S [r.1]), .int (r.2 : Int)]
theorem rn_add {G : Hp} {D u : Addr} {ts : List Addr} {ps : List (Nat × Nat)} {r : Nat × Nat} (hG : G D = some (.lst (ts.map V.ref))) (tv : ∀ (j : Nat) (u : Addr) (r : Nat × Nat), ts[j]? = some u → ps[j]? = some r → G u = some (rtup r)) (hr : ps[ts.length]? = some r) (T : G u = some (rtup r)) :
    ∀ (j : Nat) (u' : Addr) (r' : Nat × Nat), (ts ++ [u])[j]? = some u' → ps[j]? = some r' → (upd G D (.lst (ts.map V.ref ++ [V.ref u]))) u' = some (rtup r') := by
  intro j u' r' hu' hr'
  have key : G u' = some (rtup r') := by
    by_cases c : j < ts.length
    · rw [List.getElem?_append_left c] at hu'
      exact tv j u' r' hu' hr'
    · have e : j = ts.length := by
        have := (List.getElem?_eq_some_iff.mp hu').1
        rw [List.length_append] at this
        have : ([u] : List Addr).length = 1 := rfl
        omega
      subst e
      rw [List.getElem?_append_right (Nat.le_refl _), Nat.sub_self] at hu'
      cases hu'
      rw [hr] at hr'
      cases hr'
      exact T
  rw [upd_ne (ne_of key hG (fun z => nomatch z))]
  exact key
theorem rn_rev {G : Hp} {p : Addr} {ts : List Addr} {ps : List (Nat × Nat)} (hp : G p = some (.lst (ts.map V.ref).reverse)) (hl : ts.length = ps.length) (tv : ∀ (j : Nat) (u : Addr) (r : Nat × Nat), ts[j]? = some u → ps[j]? = some r → G u = some (rtup r)) : Rn G p ps.reverse := by
  refine ⟨ts.reverse, by rw [hp, List.map_reverse], by rw [List.length_reverse, List.length_reverse, hl], fun i t r ht hr => ?_⟩
  have hi : i < ts.length := by
    have := (List.getElem?_eq_some_iff.mp ht).1
    rw [List.length_reverse] at this
    exact this
  rw [List.getElem?_reverse hi] at ht
  rw [List.getElem?_reverse (by omega), ← hl] at hr
  exact tv _ t r ht hr
def spRuns : Sp := fun vs H Q _ => ∃ (t : Addr) (v : Int × Int), vs = [.ref t] ∧ Tup2 H t v ∧ Good v ∧ v.1.natAbs < 2 ^ 8000 ∧ v.2.natAbs < 2 ^ 8000 ∧ ∀ a H', Same H H' → H a = none → Rn H' a (al (fl v) (quo v)).reverse → Q (.ref a) H'
theorem e_UT3 : (("UT" : Str)) = S [85, 84] := by decide +kernel
theorem e_TU3 : (("TU" : Str)) = S [84, 85] := by decide +kernel
theorem pick_fl {c : Nat} (h : c = 84 ∨ c = 85) (i : Nat) : atI [c, swc c] ((i % 2 : Nat) : Int) = some (if i % 2 = 0 then c else swc c) := by
  have : i % 2 = 0 ∨ i % 2 = 1 := by omega
  rcases this with e | e
  · rw [e]; rfl
  · rw [e]; rfl
theorem run_two (l : List Nat) : (run (0, 1) l).1.natAbs ≤ 2 ^ l.length ∧ (run (0, 1) l).2.natAbs ≤ 2 ^ l.length := by
  have := run_size l (v := (0, 1)) (n := 1) (by decide) (by decide) (Nat.le_refl _)
  rw [Nat.mul_one] at this
  exact this
theorem run_small {l : List Nat} (h : l.length ≤ 7000) : (run (0, 1) l).1.natAbs < 2 ^ 8000 ∧ (run (0, 1) l).2.natAbs < 2 ^ 8000 := by
  have e : 2 ^ l.length < 2 ^ 8000 := Nat.pow_lt_pow_right (by decide) (by omega)
  exact ⟨Nat.lt_of_le_of_lt (run_two l).1 e, Nat.lt_of_le_of_lt (run_two l).2 e⟩
theorem flat_one (c n : Nat) : (List.replicate n [c]).flatten = List.replicate n c := by simp
theorem sum_wd (ps : List (Nat × Nat)) : ((ps.map wd).map List.length).sum = (ps.map (·.2)).sum := by
  congr 1
  rw [List.map_map]
  apply List.map_congr_left
  intro p _
  show (List.replicate p.2 p.1).length = p.2
  rw [List.length_replicate]
theorem al_two : ∀ (qs : List Nat) (c : Nat), (al c qs).map (·.2) = qs
  | [], _ => rfl
  | a :: r, c => by
    show a :: (al (swc c) r).map (·.2) = a :: r
    rw [al_two r (swc c)]
section
variable {P : Program} {w : World} {K : PySem.W.Frag} {mg : Str → Option Value} {base : Heap} {f : Addr} {fd : FuncData}
theorem ok_runs (F : Fun K "runs" "runs" s_runs f fd) (D_quotients : Dfn P w K mg base "quotients" 1 ["fraction"] (spQuo K)) (y_enumerate : mg "enumerate" = none)  : FnOk P w K mg base CX0 2 f fd ["fraction"] spRuns := by
  refine F.ok sc_runs (fun vs H Q E h => ?_) (fun cdv A outer s H vs Q E hr h => ?_)
  · obtain ⟨t, v, rfl, hT, g, z1, z2, q⟩ := h
    rfl
  obtain ⟨t, v, rfl, hT, g, z1, z2, q⟩ := h
  refine ⟨_, (pss_cons (ps_set (i := 1) sc_runs.nd rfl (.inr rfl) (pe_ifExp (pt_cmpR op_lt (pe_ix ix_tup (pv 0) pe_int (fun _ _ => rfl)) pe_int (nomark _)) pe_str pe_str))
    (pss_one (ps_ret (pe_revL (pe_lc (own := [("k", 2), ("part", 3)]) (g := (gTup K 2 (gCons (gName 2) (gCons (gName 3) gNil)))) (tt := tYes) (by rfl) sc_runs.nd (pi_enum rfl y_enumerate (pa_cons (pe_do D_quotients hr (pa_cons (pv 0) pa_nil)) pa_nil)) (blkOk_by (own := [("k", 2), ("part", 3)]) (N := ["fraction", "letters", "k", "part"]) (sc := defScope s_runs) (by decide +kernel)) (fun _ _ _ _ _ => pg_tup (by rfl) (pgs_cons (pg_name (i := 2) sc_runs.nd rfl (.inl rfl)) (pgs_cons (pg_name (i := 3) sc_runs.nd rfl (.inl rfl)) pgs_nil))) (fun _ _ _ _ _ => pts_nil) (fun _ _ _ _ _ => (pe_tup (pa_cons (pe_ix ix_str (pv 1) (pe_op op_odd (pv 2) pe_int) (fun _ _ => rfl)) (pa_cons (pv 3) pa_nil))))))))), ?_⟩
  rw [e_UT3, e_TU3]
  have two : 2 ≤ sizeLine := fits (by decide)
  refine ⟨_, rfl, t, _, _, _, rfl, rfl, SqT.of hT, rfl, _, _, rfl, rfl, _, rfl, ite2 (fun k => ?A) (fun k => ?B)⟩
  case A =>
    have hc : (85 = 84 ∨ 85 = 85) ∧ fl v = 85 := ⟨.inr rfl, if_pos (of_decide_eq_true k)⟩
    rw [show S [85, 84] = S [85, swc 85] from rfl]
    obtain ⟨hc, hf⟩ := hc
    rw [hf] at q
    refine ⟨_, rfl, t, v, rfl, hT, g, z1, z2, fun a H1 s1 na ha => ⟨a, _, rfl, SqL.of ha, fun D hD => lc_enum (K := K) (a := a) (xs := ((quo v).map Int.ofNat).map V.int) (fun i G => Same H1 G ∧ ∃ ts : List Addr, G D = some (.lst (ts.map V.ref)) ∧ ts.length = i ∧ ∀ (j : Nat) (u : Addr) (r : Nat × Nat), ts[j]? = some u → (al 85 (quo v))[j]? = some r → G u = some (rtup r)) ⟨same_new hD _, [], upd_same, rfl, fun j u r hu => by cases hu⟩ ?_ ?_ ?_⟩⟩
    · rintro i G _ ⟨sG, _⟩
      exact SqL.of (sG _ _ ha)
    · rintro i x G T hx ⟨sG, ts, hG, tl, tv⟩ hT2
      rw [List.getElem?_map, List.getElem?_map] at hx
      cases hq : (quo v)[i]? with
      | none => rw [hq] at hx; cases hx
      | some b =>
        rw [hq] at hx
        cases hx
        have hi : i < (quo v).length := (List.getElem?_eq_some_iff.mp hq).1
        have ql := quo_len z2 (by decide)
        refine ⟨T, _, rfl, SqT.of upd_same, rfl, _, _, rfl, _, _, rfl, rfl, rfl, ?_⟩
        refine ⟨_, rfl, _, rfl, i, rfl, rfl, S [85, swc 85], _, _, rfl, rfl, fits (by decide +kernel), pick_fl hc i, _, rfl, two, fun u hu => ?_⟩
        have S2 : Same G (upd (upd G T (.tup [V.int (i : Nat), V.int (Int.ofNat b)])) u (.tup [.str (S [if i % 2 = 0 then 85 else swc 85]), V.int (Int.ofNat b)])) := (same_new hT2 _).trans (same_new hu _)
        refine ⟨_, S2 _ _ hG, Nat.lt_of_lt_of_le (show (ts.map V.ref).length < 16777216 by rw [List.length_map]; omega) sizeLine_big, fun x o hx => ?_, ts ++ [u], by rw [upd_same, List.map_append]; rfl, by rw [List.length_append, tl]; rfl, rn_add (r := (if i % 2 = 0 then 85 else swc 85, b)) (S2 _ _ hG) (fun j u' r' h1 h2 => S2 _ _ (tv j u' r' h1 h2)) (by rw [tl, al_get _ _ _ hc, hq]; rfl) upd_same⟩
        rw [upd_ne (ne_of_none hx hD)]
        exact S2 _ _ (sG _ _ hx)
    · rintro G ⟨sG, ts, hG, tl, tv⟩
      rw [List.length_map, List.length_map] at tl
      refine ⟨D, _, rfl, SqL.of hG, fun rp hrp => ?_⟩
      have S3 := same_new hrp (.lst (ts.map V.ref).reverse)
      have hn : H rp = none := by
        cases e : H rp with
        | none => rfl
        | some o =>
          have := (s1.trans sG) _ _ e
          rw [hrp] at this
          cases this
      exact q rp _ ((s1.trans sG).trans S3) hn (rn_rev upd_same (by rw [tl, al_len]) (fun j u r h1 h2 => S3 _ _ (tv j u r h1 h2)))
  case B =>
    have hc : (84 = 84 ∨ 84 = 85) ∧ fl v = 84 := ⟨.inl rfl, if_neg (fun z => k (decide_eq_true z))⟩
    rw [show S [84, 85] = S [84, swc 84] from rfl]
    obtain ⟨hc, hf⟩ := hc
    rw [hf] at q
    refine ⟨_, rfl, t, v, rfl, hT, g, z1, z2, fun a H1 s1 na ha => ⟨a, _, rfl, SqL.of ha, fun D hD => lc_enum (K := K) (a := a) (xs := ((quo v).map Int.ofNat).map V.int) (fun i G => Same H1 G ∧ ∃ ts : List Addr, G D = some (.lst (ts.map V.ref)) ∧ ts.length = i ∧ ∀ (j : Nat) (u : Addr) (r : Nat × Nat), ts[j]? = some u → (al 84 (quo v))[j]? = some r → G u = some (rtup r)) ⟨same_new hD _, [], upd_same, rfl, fun j u r hu => by cases hu⟩ ?_ ?_ ?_⟩⟩
    · rintro i G _ ⟨sG, _⟩
      exact SqL.of (sG _ _ ha)
    · rintro i x G T hx ⟨sG, ts, hG, tl, tv⟩ hT2
      rw [List.getElem?_map, List.getElem?_map] at hx
      cases hq : (quo v)[i]? with
      | none => rw [hq] at hx; cases hx
      | some b =>
        rw [hq] at hx
        cases hx
        have hi : i < (quo v).length := (List.getElem?_eq_some_iff.mp hq).1
        have ql := quo_len z2 (by decide)
        refine ⟨T, _, rfl, SqT.of upd_same, rfl, _, _, rfl, _, _, rfl, rfl, rfl, ?_⟩
        refine ⟨_, rfl, _, rfl, i, rfl, rfl, S [84, swc 84], _, _, rfl, rfl, fits (by decide +kernel), pick_fl hc i, _, rfl, two, fun u hu => ?_⟩
        have S2 : Same G (upd (upd G T (.tup [V.int (i : Nat), V.int (Int.ofNat b)])) u (.tup [.str (S [if i % 2 = 0 then 84 else swc 84]), V.int (Int.ofNat b)])) := (same_new hT2 _).trans (same_new hu _)
        refine ⟨_, S2 _ _ hG, Nat.lt_of_lt_of_le (show (ts.map V.ref).length < 16777216 by rw [List.length_map]; omega) sizeLine_big, fun x o hx => ?_, ts ++ [u], by rw [upd_same, List.map_append]; rfl, by rw [List.length_append, tl]; rfl, rn_add (r := (if i % 2 = 0 then 84 else swc 84, b)) (S2 _ _ hG) (fun j u' r' h1 h2 => S2 _ _ (tv j u' r' h1 h2)) (by rw [tl, al_get _ _ _ hc, hq]; rfl) upd_same⟩
        rw [upd_ne (ne_of_none hx hD)]
        exact S2 _ _ (sG _ _ hx)
    · rintro G ⟨sG, ts, hG, tl, tv⟩
      rw [List.length_map, List.length_map] at tl
      refine ⟨D, _, rfl, SqL.of hG, fun rp hrp => ?_⟩
      have S3 := same_new hrp (.lst (ts.map V.ref).reverse)
      have hn : H rp = none := by
        cases e : H rp with
        | none => rfl
        | some o =>
          have := (s1.trans sG) _ _ e
          rw [hrp] at this
          cases this
      exact q rp _ ((s1.trans sG).trans S3) hn (rn_rev upd_same (by rw [tl, al_len]) (fun j u r h1 h2 => S3 _ _ (tv j u r h1 h2)))
end
abbrev s_L__init__ : Stmt := inClass (top 12) 0
theorem sc_L__init__ : FnScope ["self", "fraction"] ["self", "fraction"] (defScope s_L__init__) := ⟨rfl, rfl, rfl, by decide +kernel, rfl, by decide +kernel, by decide +kernel⟩
abbrev s_Ldance_count : Stmt := inClass (top 12) 1
theorem sc_Ldance_count : FnScope ["self"] ["self"] (defScope s_Ldance_count) := ⟨rfl, rfl, rfl, by decide +kernel, rfl, by decide +kernel, by decide +kernel⟩
abbrev s_Ldance : Stmt := inClass (top 12) 2
theorem sc_Ldance : FnScope ["self", "rank", "letter", "many", "words", "at"] ["self", "rank"] (defScope s_Ldance) := ⟨rfl, rfl, rfl, by decide +kernel, rfl, by decide +kernel, by decide +kernel⟩
abbrev s_Lrank_of : Stmt := inClass (top 12) 3
theorem sc_Lrank_of : FnScope ["self", "dance", "rank", "at", "behind"] ["self", "dance"] (defScope s_Lrank_of) := ⟨rfl, rfl, rfl, by decide +kernel, rfl, by decide +kernel, by decide +kernel⟩
abbrev s_Ldances : Stmt := inClass (top 12) 4
section
open PySem PySem.Spec PyProof.Rows
variable {X : Cx}
/-- xs[i] for xs[i] += .. -/
theorem pget_at : PGet X (fun o i H Q => ∃ (p : Addr) (xs : List V) (k : Nat) (z : V), o = V.ref p ∧ i = .int (k : Int) ∧ SqL X.K H p xs ∧ xs[k]? = some z ∧ Q z H) := by
  intro pins s σ H o i ov iv Q I rx ry h
  obtain ⟨p, xs, k, z, rfl, rfl, hq, he, q⟩ := h
  cases rx
  obtain ⟨t, rfl⟩ := ry
  obtain ⟨its, r, pl, hz⟩ := I.list hq
  obtain ⟨w, ew, rw'⟩ := r.get he
  have hl := r.length
  have hn := line63
  have kl := (List.getElem?_eq_some_iff.mp he).1
  exact wpAny_getItem_list pl.isList (by omega) (by omega) (by rw [Int.toNat_natCast]; simpa using ew) ⟨z, H, I, rw', q⟩
end
section
open TL
theorem tl_S' (l : List Nat) : tl (S l) = l := S_list l
theorem join_E (xs : List (List Nat)) : Txt.join (S []) (xs.map S) = S xs.flatten := by
  have jf : ∀ xs : List (List Nat), TL.joinL [] xs = xs.flatten := by
    intro xs
    induction xs with
    | nil => rfl
    | cons x r ih =>
      cases r with
      | nil => simp [TL.joinL]
      | cons y r =>
        show x ++ ([] ++ TL.joinL [] (y :: r)) = _
        rw [ih]
        rfl
  have e := tl_join (S []) (xs.map S)
  rw [← join_eq, List.map_map] at e
  have e2 : (tl ∘ S) = id := by funext l; exact tl_S' l
  rw [e2, List.map_id, tl_S', jf] at e
  exact (S_eta (Txt.join (S []) (xs.map S))).symm.trans (congrArg S e)
/-- the fields of an object of the class -/
def lf (t r w : Addr) : List (Str × V) := putF "ways" (.ref w) (putF "runs" (.ref r) (putF "fraction" (.ref t) []))
theorem n_wr : ¬ (("ways" : Str) = "runs") := by decide +kernel
theorem n_wf : ¬ (("ways" : Str) = "fraction") := by decide +kernel
theorem n_rf : ¬ (("runs" : Str) = "fraction") := by decide +kernel
theorem lf_ways (t r w : Addr) : (lf t r w).lookup ("ways" : Str) = some (.ref w) := by
  unfold lf
  rw [lookup_putF, if_pos rfl]
theorem lf_runs (t r w : Addr) : (lf t r w).lookup ("runs" : Str) = some (.ref r) := by
  unfold lf
  rw [lookup_putF, if_neg (Ne.symm n_wr), lookup_putF, if_pos rfl]
theorem lf_frac (t r w : Addr) : (lf t r w).lookup ("fraction" : Str) = some (.ref t) := by
  unfold lf
  rw [lookup_putF, if_neg (Ne.symm n_wf), lookup_putF, if_neg (Ne.symm n_rf), lookup_putF, if_pos rfl]
theorem lf_no (t r w : Addr) {x : Str} (h1 : ¬ x = "ways") (h2 : ¬ x = "runs") (h3 : ¬ x = "fraction") : (lf t r w).lookup x = none := by
  unfold lf
  rw [lookup_putF, if_neg h1]
  rw [lookup_putF, if_neg h2]
  rw [lookup_putF, if_neg h3]
  all_goals rfl
def nint (ns : List Nat) : List V := ns.map fun n : Nat => V.int (n : Int)
/-- at p stands the object of v -/
def LdAt (C : Addr) (H : Hp) (p : Addr) (v : Int × Int) : Prop := ∃ (dx t r w : Addr), H p = some (.ins C dx (lf t r w)) ∧ Tup2 H t v ∧ Rn H r (rl v) ∧ H w = some (.lst (nint (wys (ns_ (rl v)))))
theorem LdAt.same {C : Addr} {H H' : Hp} {p : Addr} {v : Int × Int} (h : LdAt C H p v) (s : Same H H') : LdAt C H' p v := by
  obtain ⟨dx, t, r, w, h1, h2, h3, h4⟩ := h
  exact ⟨dx, t, r, w, s _ _ h1, h2.same s, h3.same s, s _ _ h4⟩
structure TxL (K : PySem.W.Frag) (mg : Str → Option Value) (C : Addr) : Prop where
  cl : Cls K C
  nF : NoAttr K C "fraction"
  nR : NoAttr K C "runs"
  nW : NoAttr K C "ways"
  mgC : mg "LeastDances" = some (.ref C)
structure MDfnL (P : Program) (w : World) (K : PySem.W.Frag) (mg : Str → Option Value) (base : Heap) (C : Addr) (m : Str) (k : Nat) (ps : List Str) (sp : Sp) : Prop where
  ex : ∃ g fd, FnOk P w K mg base CX0 k g fd ps sp ∧ Binds K fd ps [] ∧ Meth K C m g
def spWaysOn : Sp := fun vs H Q _ => ∃ (a : Addr) (R : List (Nat × Nat)), vs = [.ref a] ∧ Rn H a R ∧ 1 ≤ R.length ∧ R.length ≤ 100000 ∧ ∀ p H', Same H H' → H p = none → H' p = some (.lst (nint (wys (ns_ R)))) → Q (.ref p) H'
def spInitL (C : Addr) : Sp := fun vs H Q _ => ∃ (H0 : Hp) (p t dx : Addr) (v : Int × Int), vs = [.ref p, .ref t] ∧ Same H0 H ∧ H0 p = none ∧ H p = some (.ins C dx []) ∧ Tup2 H t v ∧ t ≠ p ∧ Good v ∧ stp v ≤ 2000 ∧ ∀ H' : Hp, Same H0 H' → LdAt C H' p v → Q .non H'
def spCountL (C : Addr) : Sp := fun vs H Q _ => ∃ (p : Addr) (v : Int × Int), vs = [.ref p] ∧ LdAt C H p v ∧ Good v ∧ Q (.int (wy (ns_ (rl v)) : Nat)) H
def spDanceL (C : Addr) : Sp := fun vs H Q _ => ∃ (p : Addr) (v : Int × Int) (k : Nat), vs = [.ref p, .int (k : Int)] ∧ LdAt C H p v ∧ Good v ∧ stp v ≤ 2000 ∧ k < wy (ns_ (rl v)) ∧ ∀ H', Same H H' → Q (.str (S (ld (rl v) k))) H'
def spRankL (C : Addr) : Sp := fun vs H Q _ => ∃ (p : Addr) (v : Int × Int) (k : Nat), vs = [.ref p, .str (S (ld (rl v) k))] ∧ LdAt C H p v ∧ Good v ∧ stp v ≤ 2000 ∧ k < wy (ns_ (rl v)) ∧ ∀ H', Same H H' → Q (.int (k : Int)) H'
theorem stp8 {v : Int × Int} (g : Good v) (h : stp v ≤ 7000) : v.1.natAbs < 2 ^ 8000 ∧ v.2.natAbs < 2 ^ 8000 := by
  have := stp_size _ v g rfl
  have e : 2 ^ stp v < 2 ^ 8000 := Nat.pow_lt_pow_right (by decide) (by omega)
  exact ⟨Nat.lt_of_le_of_lt this.1 e, Nat.lt_of_le_of_lt this.2 e⟩
theorem rl_fit {v : Int × Int} (g : Good v) : 1 ≤ (rl v).length ∧ (rl v).length ≤ stp v + 1 ∧ (ns_ (rl v)).sum ≤ stp v := by
  have a := quo_stp g
  have b := rl_ne g
  have c : 0 < (rl v).length := List.length_pos_iff.mpr b
  have d : (ns_ (rl v)).sum = (quo v).sum := by rw [ns_rl, List.sum_reverse]
  have e := rl_len v
  omega
theorem ns_len (R : List (Nat × Nat)) : (ns_ R).length = R.length := List.length_map ..
theorem ns_drop (R : List (Nat × Nat)) (i : Nat) : ns_ (R.drop i) = (ns_ R).drop i := List.map_drop ..
theorem nint_len (ns : List Nat) : (nint ns).length = ns.length := List.length_map ..
theorem nint_at {ns : List Nat} {i n : Nat} (h : ns[i]? = some n) : (nint ns)[i]? = some (V.int (n : Int)) := by
  unfold nint
  rw [List.getElem?_map, h]
  rfl
/-- the ways as they stand after k turns -/
def wyk (ns : List Nat) (k : Nat) : List Nat := (List.range ns.length).map fun i => if ns.length - 2 - k ≤ i then wy (ns.drop i) else 1
theorem wyk_len (ns : List Nat) (k : Nat) : (wyk ns k).length = ns.length := by unfold wyk; rw [List.length_map, List.length_range]
theorem wyk_at {ns : List Nat} {k i : Nat} (h : i < ns.length) : (wyk ns k)[i]? = some (if ns.length - 2 - k ≤ i then wy (ns.drop i) else 1) := by
  unfold wyk
  rw [List.getElem?_map, List.getElem?_range h]
  rfl
theorem wy_short : ∀ {ns : List Nat}, ns.length ≤ 2 → wy ns = 1
  | [], _ => rfl
  | [_], _ => rfl
  | [_, _], _ => rfl
  | _ :: _ :: _ :: _, h => by simp at h
theorem wyk_zero (ns : List Nat) : wyk ns 0 = List.replicate ns.length 1 := by
  apply List.ext_getElem?
  intro i
  by_cases h : i < ns.length
  · rw [wyk_at h, List.getElem?_replicate, if_pos h]
    split
    · rw [wy_short (by rw [List.length_drop]; omega)]
    · rfl
  · rw [List.getElem?_eq_none (by rw [wyk_len]; omega), List.getElem?_eq_none (by rw [List.length_replicate]; omega)]
theorem wyk_end (ns : List Nat) {k : Nat} (h : ns.length ≤ k + 2) : wyk ns k = wys ns := by
  unfold wyk wys
  apply List.map_congr_left
  intro i _
  rw [if_pos (by omega)]
theorem wyk_set {ns : List Nat} {k : Nat} (h : k + 3 ≤ ns.length) : (wyk ns k).set (ns.length - 3 - k) (wy (ns.drop (ns.length - 3 - k))) = wyk ns (k + 1) := by
  apply List.ext_getElem?
  intro i
  by_cases hi : i < ns.length
  · rw [List.getElem?_set, wyk_at hi, wyk_at hi, wyk_len]
    by_cases e : ns.length - 3 - k = i
    · rw [if_pos e, if_pos (by omega), if_pos (by omega), e]
    · rw [if_neg e]
      by_cases c : ns.length - 2 - k ≤ i
      · rw [if_pos c, if_pos (by omega)]
      · rw [if_neg c, if_neg (by omega)]
  · rw [List.getElem?_eq_none (by rw [List.length_set, wyk_len]; omega), List.getElem?_eq_none (by rw [wyk_len]; omega)]
theorem wy_drop {ns : List Nat} {j n1 : Nat} (h : j + 3 ≤ ns.length) (h1 : ns[j + 1]? = some n1) : wy (ns.drop j) = wy (ns.drop (j + 1)) + (if n1 = 1 then wy (ns.drop (j + 2)) else 0) := by
  have e0 : ns.drop j = ns[j] :: ns.drop (j + 1) := List.drop_eq_getElem_cons (by omega)
  have e1 : ns.drop (j + 1) = n1 :: ns.drop (j + 2) := by
    rw [List.drop_eq_getElem_cons (show j + 1 < ns.length by omega)]
    congr 1
    exact (List.getElem?_eq_some_iff.mp h1).2
  have e2 : ns.drop (j + 2) = ns[j + 2] :: ns.drop (j + 3) := List.drop_eq_getElem_cons (by omega)
  rw [e0, e1, e2, wy_three, ← e2]
theorem ns_at {R : List (Nat × Nat)} {i : Nat} {r : Nat × Nat} (h : R[i]? = some r) : (ns_ R)[i]? = some r.2 := by
  unfold ns_
  rw [List.getElem?_map, h]
  rfl
theorem ixN_nat {n k : Nat} (h : k < n) : ixN n (k : Int) = some k := by
  unfold ixN
  rw [if_pos (by omega), if_pos (by omega)]
  rfl
end
section
variable {P : Program} {w : World} {K : PySem.W.Frag} {mg : Str → Option Value} {base : Heap} {f : Addr} {fd : FuncData}
theorem ok_ways_on (F : Fun K "ways_on" "ways_on" s_ways_on f fd) (y_range : mg "range" = none) (y_len : mg "len" = none)  : FnOk P w K mg base CX0 1 f fd ["all_runs"] spWaysOn := by
  refine F.ok sc_ways_on (fun vs H Q E h => ?_) (fun cdv A outer s H vs Q E hr h => ?_)
  · obtain ⟨a, R, rfl, hR, r1, rz, q⟩ := h
    rfl
  obtain ⟨a, R, rfl, hR, r1, rz, q⟩ := h
  refine ⟨_, (pss_cons (ps_setLc (i := 1) (own := [("_", 3)]) (g := (gName 3)) (tt := tYes) (by rfl) sc_ways_on.nd rfl rfl (sw_true rfl rfl rfl (by decide +kernel)) (pi_list (pv 0)) (blkOk_by (own := [("_", 3)]) (N := ["all_runs", "ways", "at", "_"]) (sc := defScope s_ways_on) (by decide +kernel)) (fun _ _ _ _ _ => pg_name (i := 3) sc_ways_on.nd rfl (Or.inl rfl)) (fun _ _ _ _ _ => pts_nil) (fun _ _ _ _ _ => pe_int))
    (pss_cons (ps_for PassesOwn.never rfl (pi_range3 rfl y_range (pa_cons (pe_op op_sub (pe_callB call_len_seq rfl y_len PySem.boot_len (pa_cons (pv 0) pa_nil)) pe_int) (pa_cons (pe_un un_neg pe_int) (pa_cons (pe_un un_neg pe_int) pa_nil)))) (pg_name (i := 2) sc_ways_on.nd rfl (.inl rfl))
    (pss_cons (ps_asg (pe_ix ix_list (pv 1) (pe_op op_add (pv 2) pe_int) (fun _ _ => rfl)) (pg_sub (pv 1) (pv 2) set_list))
    (pss_one (ps_if (pt_cmpR op_eq (pe_ix ix_tup (pe_ix ix_list (pv 0) (pe_op op_add (pv 2) pe_int) (fun _ _ => rfl)) pe_int (fun _ _ => rfl)) pe_int (nomark _)) (pss_one (ps_augS (pv 1) (pv 2) pget_at (pe_ix ix_list (pv 1) (pe_op op_add (pv 2) pe_int) (fun _ _ => rfl)) ip_add set_list)) pss_nil))))
    (pss_one (ps_ret (pv 1))))), ?_⟩
  obtain ⟨ts, ha, tl, tv⟩ := hR
  have nl := ns_len R
  refine ⟨_, rfl, a, rfl, ⟨_, SqL.of ha⟩, fun D hD => lc_list (K := K) (a := a) (xs := ts.map V.ref) (fun i G => Same H G ∧ G D = some (.lst (nint (List.replicate i 1)))) ⟨same_new hD _, upd_same⟩ ?_ ?_ ?_⟩
  · rintro i G _ ⟨sG, _⟩
    exact SqL.of (sG _ _ ha)
  · rintro i x G hx ⟨sG, hG⟩
    have hi : i < ts.length := by
      have := (List.getElem?_eq_some_iff.mp hx).1
      rw [List.length_map] at this
      exact this
    refine ⟨rfl, _, hG, Nat.lt_of_lt_of_le (show (nint (List.replicate i 1)).length < 16777216 by rw [nint_len, List.length_replicate]; omega) sizeLine_big, same_upd sG hD, ?_⟩
    rw [upd_same, List.replicate_succ']
    unfold nint
    rw [List.map_append]
    rfl
  · rintro G ⟨sG, hG⟩
    rw [List.length_map, tl, ← nl, ← wyk_zero] at hG
    have ha' := sG _ _ ha
    have step := RgC.neg (i := ((R.length : Nat) : Int) - 3) (j := -1) (by omega) (by omega) (by omega) (by omega)
    rw [show (((R.length : Nat) : Int) - 3 - -1).toNat = R.length - 2 by omega] at step
    have el : ((ts.map V.ref).length : Int) = ((R.length : Nat) : Int) := by rw [List.length_map, tl]
    refine ⟨_, rfl, a, _, rfl, .inl (SqL.of ha'), ?_⟩
    rw [el]
    refine ⟨_, _, rfl, rfl, _, rfl, _, rfl, _, _, _, R.length - 2, rfl, step, for_rangeC (fun i σ F => ∃ (x2 : Option V), σ = [some (.ref a), some (.ref D), x2, none] ∧ Same H F ∧ F D = some (.lst (nint (wyk (ns_ R) i)))) ?_ ?_ ?_⟩
    · exact ⟨_, rfl, sG, hG⟩
    · rintro i σ F hi ⟨x2, rfl, sF, hF⟩
      obtain ⟨j, hj⟩ : ∃ j : Nat, j = R.length - 3 - i := ⟨_, rfl⟩
      have ek : (((R.length : Nat) : Int) - 3 + (i : Int) * -1) = (j : Int) := by omega
      rw [ek]
      have j3 : j + 3 ≤ (ns_ R).length := by omega
      have wl := wyk_len (ns_ R) i
      have ag := wyk_at (ns := ns_ R) (k := i) (i := j + 1) (by omega)
      rw [if_pos (by omega)] at ag
      obtain ⟨r', hr1⟩ : ∃ r', R[j + 1]? = some r' := ⟨_, List.getElem?_eq_getElem (by omega)⟩
      obtain ⟨u, hu1⟩ : ∃ u, ts[j + 1]? = some u := ⟨_, List.getElem?_eq_getElem (by omega)⟩
      have T := sF _ _ (tv (j + 1) u r' hu1 hr1)
      have wd_ := wy_drop (ns := ns_ R) (j := j) j3 (ns_at hr1)
      have ws := wyk_set (ns := ns_ R) (k := i) (by omega)
      rw [show (ns_ R).length - 3 - i = j by omega] at ws
      have ha2 := sF _ _ ha
      have e1 : ((j : Int) + 1) = ((j + 1 : Nat) : Int) := rfl
      refine ⟨_, rfl, _, rfl, _, _, rfl, rfl, D, _, _, _, rfl, rfl, SqL.of hF, at_of (j := j + 1) e1 (nint_at ag), _, rfl, _, rfl, D, _, _, j, rfl, rfl, hF, ixN_nat (by rw [nint_len, wl]; omega), ?_⟩
      have nF := nint_at (ns := (wyk (ns_ R) i)) (i := j) (n := wy ((ns_ R).drop (j + 1)))
      have ns1 : (nint (wyk (ns_ R) i)).set j (V.int ((wy ((ns_ R).drop (j + 1)) : Nat) : Int)) = nint ((wyk (ns_ R) i).set j (wy ((ns_ R).drop (j + 1)))) := by
        unfold nint
        rw [List.map_set]
      rw [ns1]
      have s1 := same_upd (o := .lst (nint ((wyk (ns_ R) i).set j (wy ((ns_ R).drop (j + 1)))))) sF hD
      have h1 : (upd F D (.lst (nint ((wyk (ns_ R) i).set j (wy ((ns_ R).drop (j + 1))))))) D = some (.lst (nint ((wyk (ns_ R) i).set j (wy ((ns_ R).drop (j + 1)))))) := upd_same
      have ha3 : (upd F D (.lst (nint ((wyk (ns_ R) i).set j (wy ((ns_ R).drop (j + 1))))))) a = some (.lst (ts.map V.ref)) := s1 _ _ ha
      have T3 := s1 _ _ (tv (j + 1) u r' hu1 hr1)
      generalize upd F D (.lst (nint ((wyk (ns_ R) i).set j (wy ((ns_ R).drop (j + 1)))))) = F1 at *
      refine ⟨_, rfl, _, rfl, _, _, rfl, rfl, a, _, _, _, rfl, rfl, SqL.of ha3, at_of (j := j + 1) e1 (by rw [List.getElem?_map, hu1]; rfl), u, _, _, _, rfl, rfl, SqT.of T3, rfl, rfl, _, rfl, ite2 (fun c => ?_) (fun c => ?_)⟩
      · have c1 : r'.2 = 1 := by
          have : ((r'.2 : Nat) : Int) = 1 := V.int.inj (of_decide_eq_true c)
          omega
        rw [if_pos c1] at wd_
        have ag2 : ((wyk (ns_ R) i).set j (wy ((ns_ R).drop (j + 1))))[j + 2]? = some (wy ((ns_ R).drop (j + 2))) := by
          rw [List.getElem?_set, if_neg (by omega), wyk_at (by omega), if_pos (by omega)]
        have ag0 : ((wyk (ns_ R) i).set j (wy ((ns_ R).drop (j + 1))))[j]? = some (wy ((ns_ R).drop (j + 1))) := by
          rw [List.getElem?_set, if_pos rfl, if_pos (by rw [wl]; omega)]
        refine ⟨_, rfl, _, rfl, D, _, j, _, rfl, rfl, SqL.of h1, nint_at ag0, _, rfl, _, rfl, _, _, rfl, rfl, D, _, _, _, rfl, rfl, SqL.of h1, at_of (j := j + 2) rfl (nint_at ag2), _, _, rfl, rfl, D, _, _, j, rfl, rfl, h1, ixN_nat (by rw [nint_len, List.length_set, wl]; omega), ?_⟩
        refine ⟨_, rfl, same_upd s1 hD, ?_⟩
        rw [upd_same, ← ws, wd_]
        unfold nint
        rw [List.map_set, List.set_set, List.map_set]
        rfl
      · have c1 : r'.2 ≠ 1 := fun z => c (decide_eq_true (by rw [z]; rfl))
        rw [if_neg c1] at wd_
        refine ⟨_, rfl, s1, ?_⟩
        rw [h1, ← ws, wd_]
        rfl
    · rintro σ F ⟨x2, rfl, sF, hF⟩
      rw [wyk_end _ (by omega)] at hF
      exact ⟨_, rfl, q D F sF hD hF⟩
end
section
variable {P : Program} {w : World} {K : PySem.W.Frag} {mg : Str → Option Value} {base : Heap} {f : Addr} {fd : FuncData}
theorem ok_L__init__ {C : Addr} (F : Fun K "__init__" "LeastDances.__init__" s_L__init__ f fd) (T : TxL K mg C) (D_runs : Dfn P w K mg base "runs" 2 ["fraction"] spRuns) (D_ways_on : Dfn P w K mg base "ways_on" 2 ["all_runs"] spWaysOn)  : FnOk P w K mg base CX0 3 f fd ["self", "fraction"] (spInitL C) := by
  refine F.ok sc_L__init__ (fun vs H Q E h => ?_) (fun cdv A outer s H vs Q E hr h => ?_)
  · obtain ⟨H0, p, t, dx, v, rfl, s0, p0, hp, hT, ntp, g, zs, q⟩ := h
    rfl
  obtain ⟨H0, p, t, dx, v, rfl, s0, p0, hp, hT, ntp, g, zs, q⟩ := h
  refine ⟨_, (pss_cons (ps_fld (pv 0) (pv 1) rfl)
    (pss_cons (ps_fld (pv 0) (pe_do D_runs hr (pa_cons (pv 1) pa_nil)) rfl)
    (pss_one (ps_fld (pv 0) (pe_do D_ways_on hr (pa_cons (pe_fld (pv 0) rfl) pa_nil)) rfl)))), ?_⟩
  have b8 := stp8 g (by omega)
  have rf := rl_fit g
  refine ⟨_, rfl, _, rfl, p, C, dx, [], rfl, hp, T.cl, T.nF, (by show 0 < 1000; decide), ?_⟩
  have s1 : Same H0 (upd H p (.ins C dx (putF "fraction" (.ref t) []))) := same_upd s0 p0
  have h1 : (upd H p (.ins C dx (putF "fraction" (.ref t) []))) p = some (.ins C dx (putF "fraction" (.ref t) [])) := upd_same
  have T1 : Tup2 (upd H p (.ins C dx (putF "fraction" (.ref t) []))) t v := by unfold Tup2; rw [upd_ne ntp]; exact hT
  generalize upd H p (.ins C dx (putF "fraction" (.ref t) [])) = H1 at *
  refine ⟨_, rfl, t, v, rfl, T1, g, b8.1, b8.2, fun r H2 s2 nr hr => ?_⟩
  have hr' : Rn H2 r (rl v) := hr
  have h2 := s2 _ _ h1
  have npr : p ≠ r := fun z => by rw [← z, h1] at nr; cases nr
  refine ⟨_, rfl, p, C, dx, _, rfl, h2, T.cl, T.nR, (by show 1 < 1000; decide), ?_⟩
  have keep2 : ∀ (H' : Hp) (o : HO) (b : Addr) (u : HO), b ≠ p → H' b = some u → (upd H' p o) b = some u := fun H' o b u n h => by rw [upd_ne n]; exact h
  have tupp : ∀ (H' : Hp) (a : Addr) (xs : List V) (fs : List (Str × V)), H' p = some (.ins C dx fs) → H' a = some (.tup xs) → a ≠ p := fun H' a xs fs e1 e2 z => by rw [z, e1] at e2; cases e2
  have R3 : Rn (upd H2 p (.ins C dx (putF "runs" (.ref r) (putF "fraction" (.ref t) [])))) r (rl v) := by
    obtain ⟨ts, e1, e2, e3⟩ := hr'
    exact ⟨ts, keep2 _ _ _ _ npr.symm e1, e2, fun i u x h1' h2' => keep2 _ _ _ _ (tupp _ _ _ _ h2 (e3 i u x h1' h2')) (e3 i u x h1' h2')⟩
  have T3 : Tup2 (upd H2 p (.ins C dx (putF "runs" (.ref r) (putF "fraction" (.ref t) [])))) t v := keep2 _ _ _ _ ntp (T1.same s2)
  have s3 : Same H0 (upd H2 p (.ins C dx (putF "runs" (.ref r) (putF "fraction" (.ref t) [])))) := same_upd (s1.trans s2) p0
  have h3 : (upd H2 p (.ins C dx (putF "runs" (.ref r) (putF "fraction" (.ref t) [])))) p = some (.ins C dx (putF "runs" (.ref r) (putF "fraction" (.ref t) []))) := upd_same
  generalize upd H2 p (.ins C dx (putF "runs" (.ref r) (putF "fraction" (.ref t) []))) = H3 at *
  have lr : (putF "runs" (.ref r) (putF "fraction" (.ref t) [])).lookup ("runs" : Str) = some (V.ref r) := by rw [lookup_putF, if_pos rfl]
  refine ⟨_, rfl, p, C, dx, _, _, rfl, h3, T.cl, T.nR, lr, r, rl v, rfl, R3, rf.1, by omega, fun w' H4 s4 nw hw => ?_⟩
  have h4 := s4 _ _ h3
  have npw : p ≠ w' := fun z => by rw [← z, h3] at nw; cases nw
  refine ⟨_, rfl, p, C, dx, _, rfl, h4, T.cl, T.nW, (by show 2 < 1000; decide), ?_⟩
  have R4 := R3.same s4
  refine q _ (same_upd (s3.trans s4) p0) ⟨dx, t, r, w', upd_same, keep2 _ _ _ _ ntp (T3.same s4), ?_, keep2 _ _ _ _ npw.symm hw⟩
  obtain ⟨ts, e1, e2, e3⟩ := R4
  exact ⟨ts, keep2 _ _ _ _ npr.symm e1, e2, fun i u x h1' h2' => keep2 _ _ _ _ (tupp _ _ _ _ h4 (e3 i u x h1' h2')) (e3 i u x h1' h2')⟩
end
section
variable {P : Program} {w : World} {K : PySem.W.Frag} {mg : Str → Option Value} {base : Heap} {f : Addr} {fd : FuncData}
theorem ok_Ldance_count {C : Addr} (F : Fun K "dance_count" "LeastDances.dance_count" s_Ldance_count f fd) (T : TxL K mg C)   : FnOk P w K mg base CX0 1 f fd ["self"] (spCountL C) := by
  refine F.ok sc_Ldance_count (fun vs H Q E h => ?_) (fun cdv A outer s H vs Q E hr h => ?_)
  · obtain ⟨p, v, rfl, ob, g, q⟩ := h
    rfl
  obtain ⟨p, v, rfl, ob, g, q⟩ := h
  refine ⟨_, (pss_one (ps_ret (pe_ix ix_list (pe_fld (pv 0) rfl) pe_int (fun _ _ => rfl)))), ?_⟩
  obtain ⟨dx, t, r, w', hp, hT, hR, hw⟩ := ob
  have rf := rl_fit g
  have e0 : (nint (wys (ns_ (rl v))))[0]? = some (V.int ((wy (ns_ (rl v)) : Nat) : Int)) := nint_at (by rw [wys_at (by rw [ns_len]; omega)]; rfl)
  exact ⟨_, rfl, p, C, dx, _, _, rfl, hp, T.cl, T.nW, lf_ways _ _ _, w', _, _, _, rfl, rfl, SqL.of hw, at_of (j := 0) rfl e0, q⟩
end
section
variable {P : Program} {w : World} {K : PySem.W.Frag} {mg : Str → Option Value} {base : Heap} {f : Addr} {fd : FuncData}
theorem ok_Ldance {C : Addr} (F : Fun K "dance" "LeastDances.dance" s_Ldance f fd) (T : TxL K mg C) (y_len : mg "len" = none) {pr gg : Addr} {fdC : FuncData} (PR : PropOf K C "dance_count" pr gg) (GC : FnOk P w K mg base CX0 1 gg fdC ["self"] (spCountL C)) (bC : Binds K fdC ["self"] []) : FnOk P w K mg base CX0 3 f fd ["self", "rank"] (spDanceL C) := by
  refine F.ok sc_Ldance (fun vs H Q E h => ?_) (fun cdv A outer s H vs Q E hr h => ?_)
  · obtain ⟨p, v, k, rfl, ob, g, zs, hk, q⟩ := h
    rfl
  obtain ⟨p, v, k, rfl, ob, g, zs, hk, q⟩ := h
  refine ⟨_, (pss_cons (ps_if (PW.pt (pw_or (pt_cmpR op_lt (pv 1) pe_int (nomark _)) (pw_or1 (pt_cmpR op_ge (pv 1) (pe_prop (pv 0) T.cl PR GC (hr.mono (by decide)) bC .nil pass0 rfl) (nomark _))))) (pss_one ps_never) pss_nil)
    (pss_cons (ps_asg (pe_ix ix_list (pe_fld (pv 0) rfl) pe_int (fun _ _ => rfl)) (pg_tup (by rfl) (pgs_cons (pg_name (i := 2) sc_Ldance.nd rfl (.inl rfl)) (pgs_cons (pg_name (i := 3) sc_Ldance.nd rfl (.inl rfl)) pgs_nil))))
    (pss_cons (ps_set (i := 4) sc_Ldance.nd rfl (.inl rfl) (pe_lst (pa_cons (pe_op op_mul_str (pv 2) (pv 3)) pa_nil)))
    (pss_cons (ps_set (i := 5) sc_Ldance.nd rfl (.inl rfl) pe_int)
    (pss_cons (ps_while PassesOwn.never (pt_cmpR op_lt (pe_op op_add (pv 5) pe_int) (pe_callB call_len_seq rfl y_len PySem.boot_len (pa_cons (pe_fld (pv 0) rfl) pa_nil)) (nomark _)) (pss_cons (ps_if (pt_cmpR op_lt (pv 1) (pe_ix ix_list (pe_fld (pv 0) rfl) (pe_op op_add (pv 5) pe_int) (fun _ _ => rfl)) (nomark _)) (pss_cons (ps_aug (i := 5) sc_Ldance.nd rfl (.inl rfl) pe_int ip_add)
    (pss_one (ps_expr (pe_bm PySem.F.plainAttrs_list PySem.F.slot_list_append PySem.F.type_list_append mt_append (pv 4) (pa_cons pe_str pa_nil))))) (pss_cons (ps_aug (i := 1) sc_Ldance.nd rfl (.inl rfl) (pe_ix ix_list (pe_fld (pv 0) rfl) (pe_op op_add (pv 5) pe_int) (fun _ _ => rfl)) ip_sub)
    (pss_cons (ps_aug (i := 5) sc_Ldance.nd rfl (.inl rfl) pe_int ip_add)
    (pss_one (ps_expr (pe_bm PySem.F.plainAttrs_list PySem.F.slot_list_append PySem.F.type_list_append mt_append (pv 4) (pa_cons (pe_op op_add_str (pe_op op_add_str (pv 2) pe_str) (pv 2)) pa_nil)))))))
    (pss_cons (ps_asg (pe_ix ix_list (pe_fld (pv 0) rfl) (pv 5) (fun _ _ => rfl)) (pg_tup (by rfl) (pgs_cons (pg_name (i := 2) sc_Ldance.nd rfl (.inl rfl)) (pgs_cons (pg_name (i := 3) sc_Ldance.nd rfl (.inl rfl)) pgs_nil))))
    (pss_one (ps_expr (pe_bm PySem.F.plainAttrs_list PySem.F.slot_list_append PySem.F.type_list_append mt_append (pv 4) (pa_cons (pe_op op_mul_str (pv 2) (pv 3)) pa_nil)))))))
    (pss_one (ps_ret (pe_join pe_str (pv 4))))))))), ?_⟩
  obtain ⟨dx, t, r, w', hp, hT, hR, hw⟩ := id ob
  obtain ⟨ts, hr, tl, tv⟩ := id hR
  have rf := rl_fit g
  have one : 1 ≤ sizeLine := fits (by decide)
  have big : ∀ x ∈ rl v, x.2 ≤ 2000 := fun x hx => by
    have m : x.2 ∈ ns_ (rl v) := List.mem_map.mpr ⟨x, hx, rfl⟩
    have := le_sum m
    omega
  have alt := alt_rl v
  have ld0 := ld_rl_len g hk
  have wl := wys_len (ns_ (rl v))
  have nl := ns_len (rl v)
  generalize hRR : rl v = R at *
  refine ⟨_, rfl, _, _, rfl, rfl, _, rfl, ite2 (fun c => absurd (of_decide_eq_true c) (by omega)) (fun _ => ?_)⟩
  refine ⟨_, rfl, _, rfl, p, dx, _, rfl, hp, p, v, rfl, ob, g, _, _, rfl, rfl, _, rfl, ?_⟩
  rw [hRR]
  refine ite2 (fun c => absurd (of_decide_eq_true c) (by omega)) (fun _ => ?_)
  obtain ⟨x0, R', rfl⟩ : ∃ x0 R', R = x0 :: R' := by
    cases R with
    | nil => exact absurd rf.1 (by decide)
    | cons x R' => exact ⟨x, R', rfl⟩
  obtain ⟨u0, hu0⟩ : ∃ u0, ts[0]? = some u0 := ⟨_, List.getElem?_eq_getElem (by omega)⟩
  have T0 := tv 0 u0 x0 hu0 rfl
  refine ⟨_, rfl, p, C, dx, _, _, rfl, hp, T.cl, T.nR, lf_runs _ _ _, r, _, _, _, rfl, rfl, SqL.of hr, at_of (j := 0) rfl (by rw [List.getElem?_map, hu0]; rfl), ?_⟩
  refine ⟨u0, _, rfl, SqT.of T0, rfl, _, _, rfl, _, _, rfl, rfl, ?_⟩
  have b0 := big x0 List.mem_cons_self
  refine ⟨_, rfl, _, rfl, [x0.1], (x0.2 : Int), rfl, rfl, by omega, by omega, by rw [Int.toNat_natCast]; show 1 * x0.2 ≤ _; omega, ?_⟩
  rw [Int.toNat_natCast, flat_one]
  refine ⟨one, fun wp hwp => ?_⟩
  have s1 := same_new hwp (.lst [V.str (S (List.replicate x0.2 x0.1))])
  refine while_by (fun σ G => ∃ (at_ k' : Nat) (x : Nat × Nat) (R'' : List (Nat × Nat)) (Ws : List (List Nat)), σ = [some (.ref p), some (.int (k' : Int)), some (.str (S [x.1])), some (.int (x.2 : Int)), some (.ref wp), some (.int (at_ : Int))] ∧ Same H G ∧ G wp = some (.lst ((Ws.map S).map V.str)) ∧ (x0 :: R').drop at_ = x :: R'' ∧ k' < wy (ns_ (x :: R'')) ∧ Ws.flatten ++ ldt (x :: R'') k' = ld (x0 :: R') k ∧ Ws.length ≤ 2 * at_ + 1) (fun σ _ => match σ with | [_, _, _, _, _, some (.int a)] => (5000 - a).toNat | _ => 0) ⟨0, k, x0, R', [wd x0], rfl, s1, upd_same, rfl, hk, by rw [ld_ldt]; simp, Nat.le_refl _⟩ ?_ ?_
  · rintro σ G ⟨a, k', x, R'', Ws, rfl, sG, hG, ed, hk', ew, zw⟩
    have hp' := sG _ _ hp
    have hr' := sG _ _ hr
    have hw' := sG _ _ hw
    have ela : a + (x :: R'').length = (x0 :: R').length := by
      have := congrArg List.length ed
      rw [List.length_drop] at this
      have h2 : (x :: R'').length = R''.length + 1 := rfl
      omega
    have e1 : ((a : Int) + 1) = ((a + 1 : Nat) : Int) := rfl
    refine ⟨_, rfl, _, _, rfl, rfl, _, rfl, p, C, dx, _, _, rfl, hp', T.cl, T.nR, lf_runs _ _ _, r, _, rfl, .inl (SqL.of hr'), _, _, rfl, rfl, _, rfl, ite2 (fun c => ?_) (fun c => ?_)⟩
    · have c' : a + 1 < (x0 :: R').length := by
        have : (a : Int) + 1 < ((ts.map V.ref).length : Int) := of_decide_eq_true c
        rw [List.length_map, tl] at this
        omega
      obtain ⟨y, R3, rfl⟩ : ∃ y R3, R'' = y :: R3 := by
        cases R'' with
        | nil =>
          have : ([x] : List (Nat × Nat)).length = 1 := rfl
          omega
        | cons y R3 => exact ⟨y, R3, rfl⟩
      have ed1 : (x0 :: R').drop (a + 1) = y :: R3 := by
        have := congrArg (List.drop 1) ed
        rw [List.drop_drop] at this
        exact this
      have ew1 : (nint (wys (ns_ (x0 :: R'))))[a + 1]? = some (V.int ((wy (ns_ (y :: R3)) : Nat) : Int)) := nint_at (by rw [wys_at (by omega), ← ns_drop, ed1])
      have ldte : ldt (x :: y :: R3) k' = if k' < wy (ns_ (y :: R3)) then 82 :: ld (y :: R3) k' else x.1 :: 82 :: x.1 :: ld R3 (k' - wy (ns_ (y :: R3))) := rfl
      refine ⟨_, rfl, _, rfl, p, C, dx, _, _, rfl, hp', T.cl, T.nW, lf_ways _ _ _, _, rfl, _, _, rfl, rfl, w', _, _, _, rfl, rfl, SqL.of hw', at_of (j := a + 1) e1 ew1, _, _, rfl, rfl, _, rfl, ite2 (fun c2 => ?A) (fun c2 => ?B)⟩
      case' A =>
        have c2' : k' < wy (ns_ (y :: R3)) := by
          have : (k' : Int) < ((wy (ns_ (y :: R3)) : Nat) : Int) := of_decide_eq_true c2
          omega
        rw [if_pos c2'] at ldte
        refine ⟨_, rfl, _, _, rfl, rfl, _, rfl, .inl ⟨rfl, _, SqL.of hG⟩, wp, _, _, rfl, rfl, hG, Nat.lt_of_lt_of_le (show ((Ws.map S).map V.str).length < 16777216 by rw [List.length_map, List.length_map]; omega) sizeLine_big, ?_⟩
        rw [e_R]
        have s2 := same_upd (o := .lst ((Ws.map S).map V.str ++ [V.str (S [82])])) sG hwp
        have hG2 : (upd G wp (.lst ((Ws.map S).map V.str ++ [V.str (S [82])]))) wp = some (.lst (((Ws ++ [[82]]).map S).map V.str)) := by rw [upd_same, List.map_append, List.map_append]; rfl
        have ew2 : (Ws ++ [[82]]).flatten ++ ld (y :: R3) k' = ld (x0 :: R') k := by
          rw [← ew, ldte, List.flatten_append, List.append_assoc]
          rfl
        have kk : k' < wy (ns_ (y :: R3)) := c2'
        have edn := ed1
        have zw2 : (Ws ++ [[82]]).length ≤ 2 * a + 2 := by rw [List.length_append]; show Ws.length + 1 ≤ _; omega
        have al : a + 1 < ts.length := by omega
        generalize upd G wp (.lst ((Ws.map S).map V.str ++ [V.str (S [82])])) = G2 at *
        generalize Ws ++ [[82]] = W2 at hG2 ew2 zw2
        obtain ⟨an, han⟩ : ∃ an : Nat, an = a + 1 := ⟨_, rfl⟩
        have e2 : ((a : Int) + 1) = (an : Int) := by omega
        have zw3 : W2.length ≤ 2 * an := by omega
        have lan : a < an := by omega
        rw [← han] at edn al
        dsimp only
        rw [e2]
        generalize k' = kn at kk ew2 ⊢
        generalize y = yn at kk ew2 edn
        generalize R3 = Rn3 at kk ew2 edn
      case' B =>
        have c2' : ¬ k' < wy (ns_ (y :: R3)) := fun z => c2 (decide_eq_true (by omega))
        rw [if_neg c2'] at ldte
        obtain ⟨n2, r', f1, f2, f3⟩ := wy_else (n0 := x.2) (n1 := y.2) (r := ns_ R3) (k := k') hk' c2'
        obtain ⟨z, R4, rfl⟩ : ∃ z R4, R3 = z :: R4 := by
          cases R3 with
          | nil => cases f1
          | cons z R4 => exact ⟨z, R4, rfl⟩
        have kk : k' - wy (ns_ (y :: z :: R4)) < wy (ns_ (z :: R4)) := by rw [← f1] at f3; exact f3
        have edn : (x0 :: R').drop (a + 2) = z :: R4 := by
          have := congrArg (List.drop 1) ed1
          rw [List.drop_drop] at this
          exact this
        refine ⟨_, rfl, _, rfl, p, C, dx, _, _, rfl, hp', T.cl, T.nW, lf_ways _ _ _, _, rfl, _, _, rfl, rfl, w', _, _, _, rfl, rfl, SqL.of hw', at_of (j := a + 1) e1 ew1, _, _, rfl, rfl, ?_⟩
        refine ⟨_, rfl, _, _, rfl, rfl, _, rfl, .inl ⟨rfl, _, SqL.of hG⟩, _, rfl, _, _, rfl, rfl, by rw [e_R, S_len, S_len]; exact fits (by show 1 + 1 ≤ 16777216; decide), ?_⟩
        rw [e_R, S_app]
        refine ⟨_, rfl, _, _, rfl, rfl, by rw [S_len, S_len]; exact fits (by show 2 + 1 ≤ 16777216; decide), ?_⟩
        rw [S_app]
        refine ⟨wp, _, _, rfl, rfl, hG, Nat.lt_of_lt_of_le (show ((Ws.map S).map V.str).length < 16777216 by rw [List.length_map, List.length_map]; omega) sizeLine_big, ?_⟩
        have s2 := same_upd (o := .lst ((Ws.map S).map V.str ++ [V.str (S ([x.1] ++ [82] ++ [x.1]))])) sG hwp
        have hG2 : (upd G wp (.lst ((Ws.map S).map V.str ++ [V.str (S ([x.1] ++ [82] ++ [x.1]))]))) wp = some (.lst (((Ws ++ [[x.1] ++ [82] ++ [x.1]]).map S).map V.str)) := by rw [upd_same, List.map_append, List.map_append]; rfl
        have ew2 : (Ws ++ [[x.1] ++ [82] ++ [x.1]]).flatten ++ ld (z :: R4) (k' - wy (ns_ (y :: z :: R4))) = ld (x0 :: R') k := by
          rw [← ew, ldte, List.flatten_append, List.append_assoc]
          rfl
        have zw2 : (Ws ++ [[x.1] ++ [82] ++ [x.1]]).length ≤ 2 * a + 2 := by rw [List.length_append]; show Ws.length + 1 ≤ _; omega
        have al : a + 2 < ts.length := by
          have h2 : (x :: y :: z :: R4).length = R4.length + 3 := rfl
          omega
        generalize upd G wp (.lst ((Ws.map S).map V.str ++ [V.str (S ([x.1] ++ [82] ++ [x.1]))])) = G2 at *
        generalize Ws ++ [[x.1] ++ [82] ++ [x.1]] = W2 at hG2 ew2 zw2
        obtain ⟨an, han⟩ : ∃ an : Nat, an = a + 2 := ⟨_, rfl⟩
        have e2 : ((a : Int) + 2) = (an : Int) := by omega
        have zw3 : W2.length ≤ 2 * an := by omega
        have lan : a < an := by omega
        rw [← han] at edn al
        have ek : (k' : Int) - ((wy (ns_ (y :: z :: R4)) : Nat) : Int) = ((k' - wy (ns_ (y :: z :: R4)) : Nat) : Int) := by omega
        dsimp only
        rw [e2, ek]
        generalize k' - wy (ns_ (y :: z :: R4)) = kn at kk ew2 ⊢
        generalize z = yn at kk ew2 edn
        generalize R4 = Rn3 at kk ew2 edn
      all_goals
        obtain ⟨u, hu⟩ : ∃ u, ts[an]? = some u := ⟨_, List.getElem?_eq_getElem al⟩
        have hxn : (x0 :: R')[an]? = some yn := by
          have := congrArg (fun l => l[0]?) edn
          simpa using this
        have Tu := s2 _ _ (tv an u yn hu hxn)
        have bn := big yn (List.mem_of_getElem? hxn)
        refine ⟨_, rfl, p, C, dx, _, _, rfl, s2 _ _ hp, T.cl, T.nR, lf_runs _ _ _, _, rfl, r, _, _, _, rfl, rfl, SqL.of (s2 _ _ hr), at_of (j := an) rfl (by rw [List.getElem?_map, hu]; rfl), ?_⟩
        refine ⟨u, _, rfl, SqT.of Tu, rfl, _, _, rfl, _, _, rfl, rfl, ?_⟩
        refine ⟨_, rfl, .inl ⟨rfl, _, SqL.of hG2⟩, _, rfl, _, rfl, [yn.1], (yn.2 : Int), rfl, rfl, by omega, by omega, by rw [Int.toNat_natCast]; show 1 * yn.2 ≤ _; omega, ?_⟩
        rw [Int.toNat_natCast, flat_one]
        refine ⟨wp, _, _, rfl, rfl, hG2, Nat.lt_of_lt_of_le (show ((W2.map S).map V.str).length < 16777216 by rw [List.length_map, List.length_map]; omega) sizeLine_big, ?_⟩
        refine ⟨⟨an, kn, yn, Rn3, W2 ++ [wd yn], rfl, same_upd s2 hwp, by rw [upd_same, List.map_append, List.map_append]; rfl, edn, kk, by rw [← ew2, ld_ldt, List.flatten_append, List.append_assoc]; simp, by rw [List.length_append]; show W2.length + 1 ≤ _; omega⟩, ?_⟩
        show (5000 - (an : Int)).toNat < (5000 - (a : Int)).toNat
        omega
    · have c' : ¬ a + 1 < (x0 :: R').length := fun z => c (decide_eq_true (by rw [List.length_map, tl]; omega))
      have r0 : R'' = [] := by
        cases R'' with
        | nil => rfl
        | cons y R3 =>
          have h2 : (x :: y :: R3).length = R3.length + 2 := rfl
          omega
      subst r0
      have ew' : Ws.flatten = ld (x0 :: R') k := by
        rw [← ew]
        exact (List.append_nil _).symm
      have fl : (Ws.map List.length).sum = (ld (x0 :: R') k).length := by rw [← ew', List.length_flatten]
      refine ⟨⟨_, rfl⟩, _, rfl, S [], wp, Ws.map S, e_empty ▸ rfl, rfl, .inl (SqL.of hG), ?_, ?_⟩
      · rw [List.map_map, S_len, List.length_map]
        have e3 : (List.map (Str.length ∘ S) Ws).sum = (Ws.map List.length).sum := by
          congr 1
        rw [e3, fl]
        show _ + _ * 0 ≤ 16777216
        omega
      · rw [join_E, ew']
        exact q G sG
  · rintro σ H' Q1 Q2 hm ⟨v0, f0, i1, j1, f1, f1', v2, f2, a1, a2, a3, a4, a5, a6, a7, a8, a9, a10, b1, b2, b3, b4, i3, j3, f3, f3', b, e3, qq⟩
    exact ⟨v0, f0, i1, j1, f1, f1', v2, f2, a1, a2, a3, a4, a5, a6, a7, a8, a9, a10, b1, b2, b3, b4, i3, j3, f3, f3', b, e3, hm _ _ qq⟩
end
section
variable {P : Program} {w : World} {K : PySem.W.Frag} {mg : Str → Option Value} {base : Heap} {f : Addr} {fd : FuncData}
theorem ok_Lrank_of {C : Addr} (F : Fun K "rank_of" "LeastDances.rank_of" s_Lrank_of f fd) (T : TxL K mg C) (D_num : Dfn P w K mg base "number" 3 ["dance"] spNum) (D_steps : Dfn P w K mg base "steps" 3 ["fraction"] spSteps) (y_len : mg "len" = none)  : FnOk P w K mg base CX0 4 f fd ["self", "dance"] (spRankL C) := by
  refine F.ok sc_Lrank_of (fun vs H Q E h => ?_) (fun cdv A outer s H vs Q E hr h => ?_)
  · obtain ⟨p, v, k, rfl, ob, g, zs, hk, q⟩ := h
    rfl
  obtain ⟨p, v, k, rfl, ob, g, zs, hk, q⟩ := h
  refine ⟨_, (pss_cons (ps_if (PW.pt (pw_or (pt_cmpR op_ne (pe_callB call_len_str rfl y_len PySem.boot_len (pa_cons (pv 1) pa_nil)) (pe_do D_steps hr (pa_cons (pe_fld (pv 0) rfl) pa_nil)) (nomark _)) (pw_or1 (pt_cmpR (op_neD hr.units) (pe_do D_num hr (pa_cons (pv 1) pa_nil)) (pe_fld (pv 0) rfl) (nomark _))))) (pss_one ps_never) pss_nil)
    (pss_cons (ps_set (i := 2) sc_Lrank_of.nd rfl (.inl rfl) pe_int)
    (pss_cons (ps_set (i := 3) sc_Lrank_of.nd rfl (.inl rfl) pe_int)
    (pss_cons (ps_set (i := 4) sc_Lrank_of.nd rfl (.inl rfl) (pe_ix ix_tup (pe_ix ix_list (pe_fld (pv 0) rfl) pe_int (fun _ _ => rfl)) pe_int (fun _ _ => rfl)))
    (pss_cons (ps_while PassesOwn.never (pt_cmpR op_lt (pe_op op_add (pv 3) pe_int) (pe_callB call_len_seq rfl y_len PySem.boot_len (pa_cons (pe_fld (pv 0) rfl) pa_nil)) (nomark _)) (pss_cons (ps_if (pt_cmpR op_eq (pe_ix ix_str (pv 1) (pv 4) (fun _ _ => rfl)) pe_str (nomark _)) (pss_cons (ps_aug (i := 3) sc_Lrank_of.nd rfl (.inl rfl) pe_int ip_add)
    (pss_one (ps_aug (i := 4) sc_Lrank_of.nd rfl (.inl rfl) pe_int ip_add))) (pss_cons (ps_aug (i := 2) sc_Lrank_of.nd rfl (.inl rfl) (pe_ix ix_list (pe_fld (pv 0) rfl) (pe_op op_add (pv 3) pe_int) (fun _ _ => rfl)) ip_add)
    (pss_cons (ps_aug (i := 3) sc_Lrank_of.nd rfl (.inl rfl) pe_int ip_add)
    (pss_one (ps_aug (i := 4) sc_Lrank_of.nd rfl (.inl rfl) pe_int ip_add)))))
    (pss_one (ps_aug (i := 4) sc_Lrank_of.nd rfl (.inl rfl) (pe_ix ix_tup (pe_ix ix_list (pe_fld (pv 0) rfl) (pv 3) (fun _ _ => rfl)) pe_int (fun _ _ => rfl)) ip_add))))
    (pss_one (ps_ret (pv 2)))))))), ?_⟩
  obtain ⟨dx, t, r, w', hp0, hT0, hR0, hw0⟩ := id ob
  have b8 := stp8 g (by omega)
  have rf := rl_fit g
  have alt := alt_rl v
  have ld0 := ld_rl_len g hk
  have run0 := ld_rl_run g hk
  have wl := wys_len (ns_ (rl v))
  have nl := ns_len (rl v)
  have al_ := fun x (hx : x ∈ rl v) => al_or (quo v) (fl v) (fl_or v) x (List.mem_reverse.mp hx)
  generalize hd : ld (rl v) k = d at *
  have dz : (S d).length ≤ sizeLine := by rw [S_len]; exact fits (by omega)
  refine ⟨_, rfl, _, rfl, dz, _, rfl, p, C, dx, _, _, rfl, hp0, T.cl, T.nF, lf_frac _ _ _, t, v, rfl, hT0, g, b8.1, b8.2, fun H1 s1 => ⟨rfl, _, rfl, ?_⟩⟩
  rw [S_len, ld0, decide_eq_true rfl]
  refine iteF ?_
  refine ⟨_, rfl, d, rfl, fun t1 H2 s2 T1 => ⟨_, rfl, p, C, dx, _, _, rfl, s2 _ _ (s1 _ _ hp0), T.cl, T.nF, lf_frac _ _ _, _, _, dp_tup2 T1, dp_tup2 ((hT0.same s1).same s2), sh2 _ _, sh2 _ _, ?_⟩⟩
  rw [eqv2, decide_eq_true run0]
  refine ⟨_, rfl, iteF ?_⟩
  have S2 := s1.trans s2
  have hp := S2 _ _ hp0
  have hw := S2 _ _ hw0
  obtain ⟨ts, hr, tl, tv⟩ := hR0.same S2
  generalize hRR : rl v = R at *
  obtain ⟨x0, R', rfl⟩ : ∃ x0 R', R = x0 :: R' := by
    cases R with
    | nil => exact absurd rf.1 (by decide)
    | cons x R' => exact ⟨x, R', rfl⟩
  obtain ⟨u0, hu0⟩ : ∃ u0, ts[0]? = some u0 := ⟨_, List.getElem?_eq_getElem (by omega)⟩
  have T0 := tv 0 u0 x0 hu0 rfl
  refine ⟨_, rfl, p, C, dx, _, _, rfl, hp, T.cl, T.nR, lf_runs _ _ _, r, _, _, _, rfl, rfl, SqL.of hr, at_of (j := 0) rfl (by rw [List.getElem?_map, hu0]; rfl), u0, _, _, _, rfl, rfl, SqT.of T0, rfl, ?_⟩
  refine while_by (fun σ G => G = H2 ∧ ∃ (a k' rk b : Nat) (x : Nat × Nat) (R'' : List (Nat × Nat)), σ = [some (.ref p), some (.str (S d)), some (.int (rk : Int)), some (.int (a : Int)), some (.int (b : Int))] ∧ rk + k' = k ∧ (x0 :: R').drop a = x :: R'' ∧ k' < wy (ns_ (x :: R'')) ∧ d.drop b = ldt (x :: R'') k') (fun σ _ => match σ with | [_, _, _, some (.int a), _] => (5000 - a).toNat | _ => 0) ⟨rfl, 0, k, 0, x0.2, x0, R', rfl, by omega, rfl, hk, ?_⟩ ?_ ?_
  · rw [← hd, ld_ldt, List.drop_append_of_le_length (by rw [wd_len]; exact Nat.le_refl _), List.drop_eq_nil_of_le (by rw [wd_len]; exact Nat.le_refl _), List.nil_append]
  · rintro σ _ ⟨rfl, a, k', rk, b, x, R'', rfl, ek, ed, hk', edr⟩
    have ela : a + (x :: R'').length = (x0 :: R').length := by
      have := congrArg List.length ed
      rw [List.length_drop] at this
      have h2 : (x :: R'').length = R''.length + 1 := rfl
      omega
    have e1 : ((a : Int) + 1) = ((a + 1 : Nat) : Int) := rfl
    have hx0 : (x0 :: R')[a]? = some x := by
      have := congrArg (fun l => l[0]?) ed
      simpa using this
    have xl := al_ x (List.mem_of_getElem? hx0)
    refine ⟨_, rfl, _, _, rfl, rfl, _, rfl, p, C, dx, _, _, rfl, hp, T.cl, T.nR, lf_runs _ _ _, r, _, rfl, .inl (SqL.of hr), _, _, rfl, rfl, _, rfl, ite2 (fun c => ?_) (fun c => ?_)⟩
    · have c' : a + 1 < (x0 :: R').length := by
        have : (a : Int) + 1 < ((ts.map V.ref).length : Int) := of_decide_eq_true c
        rw [List.length_map, tl] at this
        omega
      obtain ⟨y, R3, rfl⟩ : ∃ y R3, R'' = y :: R3 := by
        cases R'' with
        | nil =>
          have : ([x] : List (Nat × Nat)).length = 1 := rfl
          omega
        | cons y R3 => exact ⟨y, R3, rfl⟩
      have ed1 : (x0 :: R').drop (a + 1) = y :: R3 := by
        have := congrArg (List.drop 1) ed
        rw [List.drop_drop] at this
        exact this
      have ew1 : (nint (wys (ns_ (x0 :: R'))))[a + 1]? = some (V.int ((wy (ns_ (y :: R3)) : Nat) : Int)) := nint_at (by rw [wys_at (by omega), ← ns_drop, ed1])
      have ldte : ldt (x :: y :: R3) k' = if k' < wy (ns_ (y :: R3)) then 82 :: ld (y :: R3) k' else x.1 :: 82 :: x.1 :: ld R3 (k' - wy (ns_ (y :: R3))) := rfl
      rw [ldte] at edr
      by_cases c2 : k' < wy (ns_ (y :: R3))
      · rw [if_pos c2] at edr
        have hc : d[b]? = some 82 := by
          have := congrArg (fun l => l[0]?) edr
          simpa using this
        have hcs : (S d).cps.toList[b]? = some 82 := by rw [S_list]; exact hc
        have edn : d.drop (b + 1 + y.2) = ldt (y :: R3) k' := by
          have := congrArg (List.drop (1 + y.2)) edr
          rw [List.drop_drop] at this
          rw [show b + 1 + y.2 = b + (1 + y.2) by omega, this, show 1 + y.2 = y.2 + 1 by omega, List.drop_succ_cons, ld_ldt, List.drop_append_of_le_length (by rw [wd_len]; exact Nat.le_refl _), List.drop_eq_nil_of_le (by rw [wd_len]; exact Nat.le_refl _), List.nil_append]
        have al : a + 1 < ts.length := by omega
        obtain ⟨u, hu⟩ : ∃ u, ts[a + 1]? = some u := ⟨_, List.getElem?_eq_getElem al⟩
        have hxn : (x0 :: R')[a + 1]? = some y := by
          have := congrArg (fun l => l[0]?) ed1
          simpa using this
        have Tu := tv (a + 1) u y hu hxn
        refine ⟨_, rfl, _, rfl, _, _, 82, rfl, rfl, dz, atI_nat hcs, rfl, _, rfl, ?_⟩
        rw [show decide (V.str ⟨#[82]⟩ = V.str "R") = true from decide_eq_true ((sign_eq e_R).mpr rfl)]
        refine iteT ⟨_, rfl, _, _, rfl, rfl, _, rfl, _, _, rfl, rfl, ?_⟩
        refine ⟨_, rfl, _, rfl, p, C, dx, _, _, rfl, hp, T.cl, T.nR, lf_runs _ _ _, _, rfl, r, _, _, _, rfl, rfl, SqL.of hr, at_of (j := a + 1) e1 (by rw [List.getElem?_map, hu]; rfl), u, _, _, _, rfl, rfl, SqT.of Tu, rfl, _, _, rfl, rfl, ⟨rfl, a + 1, k', rk, b + 1 + y.2, y, R3, rfl, ek, ed1, c2, edn⟩, ?_⟩
        show (5000 - ((a : Int) + 1)).toNat < (5000 - (a : Int)).toNat
        omega
      · rw [if_neg c2] at edr
        obtain ⟨n2, r', f1, f2, f3⟩ := wy_else (n0 := x.2) (n1 := y.2) (r := ns_ R3) (k := k') hk' c2
        obtain ⟨z, R4, rfl⟩ : ∃ z R4, R3 = z :: R4 := by
          cases R3 with
          | nil => cases f1
          | cons z R4 => exact ⟨z, R4, rfl⟩
        have kk : k' - wy (ns_ (y :: z :: R4)) < wy (ns_ (z :: R4)) := by rw [← f1] at f3; exact f3
        have ed2 : (x0 :: R').drop (a + 2) = z :: R4 := by
          have := congrArg (List.drop 1) ed1
          rw [List.drop_drop] at this
          exact this
        have hc : d[b]? = some x.1 := by
          have := congrArg (fun l => l[0]?) edr
          simpa using this
        have hcs : (S d).cps.toList[b]? = some x.1 := by rw [S_list]; exact hc
        have edn : d.drop (b + 3 + z.2) = ldt (z :: R4) (k' - wy (ns_ (y :: z :: R4))) := by
          have := congrArg (List.drop (3 + z.2)) edr
          rw [List.drop_drop] at this
          rw [show b + 3 + z.2 = b + (3 + z.2) by omega, this, show 3 + z.2 = z.2 + 1 + 1 + 1 by omega, List.drop_succ_cons, List.drop_succ_cons, List.drop_succ_cons, ld_ldt, List.drop_append_of_le_length (by rw [wd_len]; exact Nat.le_refl _), List.drop_eq_nil_of_le (by rw [wd_len]; exact Nat.le_refl _), List.nil_append]
        have al : a + 2 < ts.length := by
          have h2 : (x :: y :: z :: R4).length = R4.length + 3 := rfl
          omega
        obtain ⟨u, hu⟩ : ∃ u, ts[a + 2]? = some u := ⟨_, List.getElem?_eq_getElem al⟩
        have hxn : (x0 :: R')[a + 2]? = some z := by
          have := congrArg (fun l => l[0]?) ed2
          simpa using this
        have Tu := tv (a + 2) u z hu hxn
        refine ⟨_, rfl, _, rfl, _, _, x.1, rfl, rfl, dz, atI_nat hcs, rfl, _, rfl, ?_⟩
        rw [show decide (V.str ⟨#[x.1]⟩ = V.str "R") = false from decide_eq_false (fun zz => by have := (sign_eq e_R).mp zz; omega)]
        refine iteF ⟨_, rfl, _, rfl, p, C, dx, _, _, rfl, hp, T.cl, T.nW, lf_ways _ _ _, _, rfl, _, _, rfl, rfl, w', _, _, _, rfl, rfl, SqL.of hw, at_of (j := a + 1) e1 ew1, _, _, rfl, rfl, ?_⟩
        refine ⟨_, rfl, _, _, rfl, rfl, _, rfl, _, _, rfl, rfl, ?_⟩
        refine ⟨_, rfl, _, rfl, p, C, dx, _, _, rfl, hp, T.cl, T.nR, lf_runs _ _ _, _, rfl, r, _, _, _, rfl, rfl, SqL.of hr, at_of (j := a + 2) rfl (by rw [List.getElem?_map, hu]; rfl), u, _, _, _, rfl, rfl, SqT.of Tu, rfl, _, _, rfl, rfl, ⟨rfl, a + 2, k' - wy (ns_ (y :: z :: R4)), rk + wy (ns_ (y :: z :: R4)), b + 3 + z.2, z, R4, rfl, by omega, ed2, kk, edn⟩, ?_⟩
        show (5000 - ((a : Int) + 2)).toNat < (5000 - (a : Int)).toNat
        omega
    · have c' : ¬ a + 1 < (x0 :: R').length := fun z => c (decide_eq_true (by rw [List.length_map, tl]; omega))
      have r0 : R'' = [] := by
        cases R'' with
        | nil => rfl
        | cons y R3 =>
          have h2 : (x :: y :: R3).length = R3.length + 2 := rfl
          omega
      subst r0
      have w1 : wy (ns_ [x]) = 1 := rfl
      have : rk = k := by omega
      subst this
      exact ⟨_, rfl, q _ S2⟩
  · rintro σ H' Q1 Q2 hm ⟨v0, f0, i1, j1, f1, f1', v2, f2, a1, a2, a3, a4, a5, a6, a7, a8, a9, a10, b1, b2, b3, b4, i3, j3, f3, f3', b, e3, qq⟩
    exact ⟨v0, f0, i1, j1, f1, f1', v2, f2, a1, a2, a3, a4, a5, a6, a7, a8, a9, a10, b1, b2, b3, b4, i3, j3, f3, f3', b, e3, hm _ _ qq⟩
end
/-! ### how many ways lead to a fraction: a step back at a time -/
theorem wy_head (a b : Nat) (r : List Nat) : wy (a :: r) = wy (b :: r) := by
  match r with
  | [] => rfl
  | [c] => rfl
  | c :: d :: s => rw [wy_three, wy_three]
def pw (v : Int × Int) : Nat := wy (quo v)
theorem pw_pos (v : Int × Int) : 1 ≤ pw v := wy_pos _
theorem quo_fin {p q : Int} (h : 0 < q) : quo (p, q) = QL p.natAbs q.natAbs := if_neg (by show ¬ q = 0; omega)
/-- from one on, only the call that brings it nearer to 0 -/
theorem ql_sub {p q : Nat} (h0 : 0 < q) (h : q ≤ p) : wy (QL (p - q) q) = wy (QL p q) := by
  rw [QL_step h0, QL_step h0, Nat.mod_eq_sub_mod h]
  exact wy_head _ _ _
/-- below one: turned, and where it is over a half, the call that brings it over 0 -/
theorem ql_turn {p q : Nat} (h0 : 0 < p) (h : p < q) (co : Nat.gcd p q = 1) : wy (QL p q) = wy (QL q p) + if q < 2 * p then wy (QL (q - p) q) else 0 := by
  have hq : 0 < q := by omega
  have e0 : QL p q = 0 :: QL q p := by rw [QL_step hq, Nat.div_eq_of_lt h, Nat.mod_eq_of_lt h]
  have e1 : QL q p = q / p :: QL p (q % p) := QL_step h0
  by_cases c : q < 2 * p
  · rw [if_pos c]
    have d1 : q / p = 1 := by
      refine Nat.div_eq_of_lt_le (by omega) (by omega)
    have m1 : q % p = q - p := by
      have := Nat.div_add_mod q p
      rw [d1] at this
      omega
    have r0 : 0 < q - p := by omega
    have e2 : QL p (q - p) = p / (q - p) :: QL (q - p) (p % (q - p)) := QL_step r0
    have e3 : QL (q - p) q = 0 :: QL q (q - p) := by rw [QL_step hq, Nat.div_eq_of_lt (by omega), Nat.mod_eq_of_lt (by omega)]
    have e4 : QL q (q - p) = q / (q - p) :: QL (q - p) (q % (q - p)) := QL_step r0
    have m2 : q % (q - p) = p % (q - p) := by
      rw [Nat.mod_eq_sub_mod (show q - p ≤ q by omega), show q - (q - p) = p by omega]
    have d2 : q / (q - p) = p / (q - p) + 1 := by
      rw [Nat.div_eq_sub_div r0 (show q - p ≤ q by omega), show q - (q - p) = p by omega]
    have big : 1 ≤ p / (q - p) := (Nat.one_le_div_iff r0).mpr (by omega)
    rw [e0, e1, d1, m1, e2, wy_three, if_pos rfl, e3, e4, m2, d2]
    congr 1
    generalize QL (q - p) (p % (q - p)) = R
    match R with
    | [] => rfl
    | x :: s => rw [wy_three 0 (p / (q - p) + 1) x s, if_neg (by omega), Nat.add_zero]; exact wy_head _ _ _
  · rw [if_neg c, Nat.add_zero, e0, e1]
    generalize QL p (q % p) = R
    have d1 : q / p ≠ 1 := fun e => by
      have h1 := Nat.div_add_mod q p
      have h2 := Nat.mod_lt q h0
      rw [e] at h1
      have : q = 2 * p ∨ 2 * p < q := by omega
      omega
    match R with
    | [] => rfl
    | x :: s => rw [wy_three, if_neg d1, Nat.add_zero]
/-- what a call gives that brings it a step nearer -/
def tm (v : Int × Int) (c : Nat) : Nat := if stp (called v c) + 1 = stp v then pw (called v c) else 0
theorem tm_yes {v : Int × Int} {c : Nat} (h : stp (called v c) + 1 = stp v) : tm v c = pw (called v c) := if_pos h
theorem tm_no {v : Int × Int} {c : Nat} (h : stp (called v c) + 1 ≠ stp v) : tm v c = 0 := if_neg h
theorem c_turn_pos {p q : Int} (h : 0 < p) : called (p, q) 82 = (0 - q, p) := by
  unfold called
  rw [if_neg (by decide), if_neg (by decide), if_pos (show 0 < (p, q).1 from h)]
theorem c_turn_neg {p q : Int} (h : p < 0) : called (p, q) 82 = (q, 0 - p) := by
  unfold called
  rw [if_neg (by decide), if_neg (by decide), if_neg (show ¬ 0 < (p, q).1 by show ¬ 0 < p; omega), if_pos (show (p, q).1 < 0 from h)]
/-- turned: the stp and the ways of it, by the sizes alone -/
theorem turn_stp {p q : Int} (h : p ≠ 0) : stp (called (p, q) 82) + 1 = EQ q.natAbs p.natAbs := by
  rcases Int.lt_or_le 0 p with c | c
  · rw [c_turn_pos c]
    have b := stp_fin (p := 0 - q) c
    rwa [show (0 - q).natAbs = q.natAbs by omega] at b
  · have c2 : p < 0 := by omega
    rw [c_turn_neg c2]
    have b := stp_fin (p := q) (q := 0 - p) (by omega)
    rwa [show (0 - p).natAbs = p.natAbs by omega] at b
theorem turn_pw {p q : Int} (h : p ≠ 0) : pw (called (p, q) 82) = wy (QL q.natAbs p.natAbs) := by
  unfold pw
  rcases Int.lt_or_le 0 p with c | c
  · rw [c_turn_pos c, quo_fin c, show (0 - q).natAbs = q.natAbs by omega]
  · have c2 : p < 0 := by omega
    rw [c_turn_neg c2, quo_fin (by omega), show (0 - p).natAbs = p.natAbs by omega]
theorem EQ_same {p q : Nat} (h0 : 0 < p) (h : q = 2 * p) : EQ (q - p) q = EQ p q := by rw [show q - p = p by omega]
/-- the ways of a fraction: those of the fractions one step nearer -/
theorem pw_rec {v : Int × Int} (g : Good v) (n : v ≠ (0, 1)) : pw v = tm v 82 + tm v 84 + tm v 85 := by
  obtain ⟨p, q⟩ := v
  have hq : 0 < q ∨ (p = 1 ∧ q = 0) := by
    rcases g.1 with h | h
    · exact .inl h
    · cases h; exact .inr ⟨rfl, rfl⟩
  rcases hq with h | ⟨rfl, rfl⟩
  · have a := stp_fin (p := p) h
    have co : Nat.gcd p.natAbs q.natAbs = 1 := g.2
    have s84 := stp_fin (p := p + q) h
    have s85 := stp_fin (p := p - q) h
    have e84 : called (p, q) 84 = (p + q, q) := rfl
    have e85 : called (p, q) 85 = (p - q, q) := rfl
    have p84 : pw (p + q, q) = wy (QL (p + q).natAbs q.natAbs) := by unfold pw; rw [quo_fin h]
    have p85 : pw (p - q, q) = wy (QL (p - q).natAbs q.natAbs) := by unfold pw; rw [quo_fin h]
    have pv : pw (p, q) = wy (QL p.natAbs q.natAbs) := by unfold pw; rw [quo_fin h]
    have qn : 0 < q.natAbs := by omega
    have p0 : p ≠ 0 := fun z => by
      subst z
      have h2 : Int.gcd 0 q = 1 := g.2
      rw [Int.gcd_zero_left] at h2
      exact n (by rw [show q = 1 by omega])
    have t1 := turn_stp (q := q) p0
    have t2 := turn_pw (q := q) p0
    by_cases big : q.natAbs ≤ p.natAbs
    · -- from one on
      have no82 : tm (p, q) 82 = 0 := tm_no (by
        intro z
        have z2 : EQ q.natAbs p.natAbs + 1 = EQ p.natAbs q.natAbs := by omega
        by_cases e : q.natAbs = p.natAbs
        · rw [e] at z2; omega
        · have := EQ_swap (show q.natAbs < p.natAbs by omega)
          omega)
      rcases Int.lt_or_le p 0 with c | c
      · have y : tm (p, q) 84 = pw (p, q) := by
          have e : p.natAbs = (p + q).natAbs + q.natAbs := by omega
          have k := EQ_add (p := (p + q).natAbs) qn
          rw [← e] at k
          rw [tm_yes (by rw [e84]; omega), e84, p84, pv, show (p + q).natAbs = p.natAbs - q.natAbs by omega]
          exact ql_sub qn big
        have x : tm (p, q) 85 = 0 := tm_no (by
          rw [e85]
          have e : (p - q).natAbs = p.natAbs + q.natAbs := by omega
          rw [e, EQ_add qn] at s85
          omega)
        rw [no82, y, x]; omega
      · have y : tm (p, q) 85 = pw (p, q) := by
          have e : p.natAbs = (p - q).natAbs + q.natAbs := by omega
          have k := EQ_add (p := (p - q).natAbs) qn
          rw [← e] at k
          rw [tm_yes (by rw [e85]; omega), e85, p85, pv, show (p - q).natAbs = p.natAbs - q.natAbs by omega]
          exact ql_sub qn big
        have x : tm (p, q) 84 = 0 := tm_no (by
          rw [e84]
          have e : (p + q).natAbs = p.natAbs + q.natAbs := by omega
          rw [e, EQ_add qn] at s84
          omega)
        rw [no82, y, x]; omega
    · -- below one
      have sm : p.natAbs < q.natAbs := by omega
      have pn : 0 < p.natAbs := by omega
      have y82 : tm (p, q) 82 = wy (QL q.natAbs p.natAbs) := by
        have := EQ_swap sm
        rw [tm_yes (by omega), t2]
      have hrec := ql_turn pn sm co
      have near : ∀ r : Nat, r = q.natAbs - p.natAbs → (EQ r q.natAbs + 1 = EQ p.natAbs q.natAbs ↔ q.natAbs < 2 * p.natAbs) := fun r hr => by
        subst hr
        by_cases c1 : 2 * p.natAbs < q.natAbs
        · have := EQ_half pn c1
          omega
        · by_cases c2 : q.natAbs = 2 * p.natAbs
          · have := EQ_same pn c2
            omega
          · have k := EQ_half (p := q.natAbs - p.natAbs) (q := q.natAbs) (by omega) (by omega)
            rw [show q.natAbs - (q.natAbs - p.natAbs) = p.natAbs by omega] at k
            omega
      have fin : ∀ r : Nat, r = q.natAbs - p.natAbs → (if EQ r q.natAbs + 1 = EQ p.natAbs q.natAbs then wy (QL r q.natAbs) else 0) = if q.natAbs < 2 * p.natAbs then wy (QL (q.natAbs - p.natAbs) q.natAbs) else 0 := fun r hr => by
        by_cases c : q.natAbs < 2 * p.natAbs
        · rw [if_pos c, if_pos ((near r hr).mpr c), hr]
        · rw [if_neg c, if_neg (fun z => c ((near r hr).mp z))]
      rcases Int.lt_or_le p 0 with c | c
      · have x : tm (p, q) 85 = 0 := tm_no (by
          rw [e85]
          have e : (p - q).natAbs = p.natAbs + q.natAbs := by omega
          rw [e, EQ_add qn] at s85
          omega)
        have y : tm (p, q) 84 = if q.natAbs < 2 * p.natAbs then wy (QL (q.natAbs - p.natAbs) q.natAbs) else 0 := by
          rw [← fin _ (show (p + q).natAbs = q.natAbs - p.natAbs by omega)]
          unfold tm
          rw [e84, p84, ← s84, ← a]
          by_cases z : stp (p + q, q) + 1 = stp (p, q)
          · rw [if_pos z, if_pos (by omega)]
          · rw [if_neg z, if_neg (by omega)]
        rw [y82, x, y, pv, hrec]
        omega
      · have x : tm (p, q) 84 = 0 := tm_no (by
          rw [e84]
          have e : (p + q).natAbs = p.natAbs + q.natAbs := by omega
          rw [e, EQ_add qn] at s84
          omega)
        have y : tm (p, q) 85 = if q.natAbs < 2 * p.natAbs then wy (QL (q.natAbs - p.natAbs) q.natAbs) else 0 := by
          rw [← fin _ (show (p - q).natAbs = q.natAbs - p.natAbs by omega)]
          unfold tm
          rw [e85, p85, ← s85, ← a]
          by_cases z : stp (p - q, q) + 1 = stp (p, q)
          · rw [if_pos z, if_pos (by omega)]
          · rw [if_neg z, if_neg (by omega)]
        rw [y82, x, y, pv, hrec, Nat.add_zero]
  · have a1 : stp ((1 : Int), (0 : Int)) = 1 := stp_inf
    have b1 : tm (1, 0) 82 = pw (0, 1) := tm_yes (by
      show stp (0, 1) + 1 = stp (1, 0)
      rw [stp_zero, a1])
    have b2 : tm (1, 0) 84 = 0 := tm_no (by
      show stp (1 + 0, 0) + 1 ≠ stp (1, 0)
      rw [stp_inf, a1]; decide)
    have b3 : tm (1, 0) 85 = 0 := tm_no (by
      show stp (1 - 0, 0) + 1 ≠ stp (1, 0)
      rw [stp_inf, a1]; decide)
    have c1 : pw (1, 0) = 1 := rfl
    have c2 : pw (0, 1) = 1 := by
      unfold pw
      rw [quo_fin (by decide)]
      show wy (QL 0 1) = 1
      rw [QL_step (by decide), show 0 % 1 = 0 from rfl, QL_zero]
      rfl
    rw [b1, b2, b3, c1, c2]
/-- the call that brings it nearer to 0 by a twist -/
def tw (v : Int × Int) : Int × Int := if 0 < v.1 then (v.1 - v.2, v.2) else (v.1 + v.2, v.2)
def rv (v : Int × Int) : Int × Int := called v 82
def cd (v : Int × Int) (c : Nat) : Prop := stp (called v c) + 1 = stp v
instance (v : Int × Int) (c : Nat) : Decidable (cd v c) := inferInstanceAs (Decidable (_ = _))
theorem cd_big {p q : Int} (h : 0 < q) (big : q.natAbs ≤ p.natAbs) (g : Good (p, q)) : ¬ cd (p, q) 82 ∧ (cd (p, q) 85 ↔ 0 < p) ∧ (cd (p, q) 84 ↔ p < 0) := by
  have a := stp_fin (p := p) h
  have qn : 0 < q.natAbs := by omega
  have s84 := stp_fin (p := p + q) h
  have s85 := stp_fin (p := p - q) h
  have t1 := turn_stp (p := p) (q := q) (by omega)
  unfold cd
  refine ⟨fun z => ?_, ?_, ?_⟩
  · have z2 : EQ q.natAbs p.natAbs + 1 = EQ p.natAbs q.natAbs := by omega
    by_cases e : q.natAbs = p.natAbs
    · rw [e] at z2; omega
    · have := EQ_swap (show q.natAbs < p.natAbs by omega)
      omega
  · show stp (p - q, q) + 1 = stp (p, q) ↔ _
    rcases Int.lt_or_le p 0 with c | c
    · have e : (p - q).natAbs = p.natAbs + q.natAbs := by omega
      rw [e, EQ_add qn] at s85
      omega
    · have e : p.natAbs = (p - q).natAbs + q.natAbs := by omega
      have k := EQ_add (p := (p - q).natAbs) qn
      rw [← e] at k
      omega
  · show stp (p + q, q) + 1 = stp (p, q) ↔ _
    rcases Int.lt_or_le p 0 with c | c
    · have e : p.natAbs = (p + q).natAbs + q.natAbs := by omega
      have k := EQ_add (p := (p + q).natAbs) qn
      rw [← e] at k
      omega
    · have e : (p + q).natAbs = p.natAbs + q.natAbs := by omega
      rw [e, EQ_add qn] at s84
      omega
theorem near_half {a b : Nat} (pn : 0 < a) (sm : a < b) : EQ (b - a) b + 1 = EQ a b ↔ b < 2 * a := by
  by_cases c1 : 2 * a < b
  · have := EQ_half pn c1
    omega
  · by_cases c2 : b = 2 * a
    · have := EQ_same pn c2
      omega
    · have k := EQ_half (p := b - a) (q := b) (by omega) (by omega)
      rw [show b - (b - a) = a by omega] at k
      omega
theorem cd_small {p q : Int} (h : 0 < q) (p0 : p ≠ 0) (sm : p.natAbs < q.natAbs) : cd (p, q) 82 ∧ (cd (p, q) 85 ↔ 0 < p ∧ q.natAbs < 2 * p.natAbs) ∧ (cd (p, q) 84 ↔ p < 0 ∧ q.natAbs < 2 * p.natAbs) := by
  have a := stp_fin (p := p) h
  have qn : 0 < q.natAbs := by omega
  have pn : 0 < p.natAbs := by omega
  have s84 := stp_fin (p := p + q) h
  have s85 := stp_fin (p := p - q) h
  have t1 := turn_stp (p := p) (q := q) p0
  have nh := near_half pn sm
  unfold cd
  refine ⟨?_, ?_, ?_⟩
  · have := EQ_swap sm
    omega
  · show stp (p - q, q) + 1 = stp (p, q) ↔ _
    rcases Int.lt_or_le p 0 with c | c
    · have e : (p - q).natAbs = p.natAbs + q.natAbs := by omega
      rw [e, EQ_add qn] at s85
      omega
    · rw [show (p - q).natAbs = q.natAbs - p.natAbs by omega] at s85
      omega
  · show stp (p + q, q) + 1 = stp (p, q) ↔ _
    rcases Int.lt_or_le p 0 with c | c
    · rw [show (p + q).natAbs = q.natAbs - p.natAbs by omega] at s84
      omega
    · have e : (p + q).natAbs = p.natAbs + q.natAbs := by omega
      rw [e, EQ_add qn] at s84
      omega
/-- the fractions one step nearer, in the order in which the law asks -/
def dn (v : Int × Int) : List (Int × Int) := ([82, 85, 84].filter fun c => decide (cd v c)).map (called v)
theorem dn_big {v : Int × Int} (g : Good v) (h : 0 < v.2) (big : v.2.natAbs ≤ v.1.natAbs) : dn v = [tw v] := by
  obtain ⟨p, q⟩ := v
  obtain ⟨a, b, c⟩ := cd_big h big g
  have p0 : p ≠ 0 := fun z => by have big : q.natAbs ≤ p.natAbs := big; have h : 0 < q := h; omega
  unfold dn tw
  rcases Int.lt_or_le 0 p with k | k
  · rw [if_pos (show 0 < (p, q).1 from k)]
    simp [List.filter, a, b.mpr k, show ¬ cd (p, q) 84 from fun z => by have := c.mp z; omega]
    rfl
  · rw [if_neg (show ¬ 0 < (p, q).1 by show ¬ 0 < p; omega)]
    simp [List.filter, a, c.mpr (show p < 0 by omega), show ¬ cd (p, q) 85 from fun z => by have := b.mp z; omega]
    rfl
theorem dn_small {v : Int × Int} (h : 0 < v.2) (p0 : v.1 ≠ 0) (sm : v.1.natAbs < v.2.natAbs) : dn v = rv v :: (if v.2.natAbs < 2 * v.1.natAbs then [tw v] else []) := by
  obtain ⟨p, q⟩ := v
  obtain ⟨a, b, c⟩ := cd_small h p0 sm
  have p0 : p ≠ 0 := p0
  unfold dn tw rv
  by_cases hf : q.natAbs < 2 * p.natAbs
  · rw [if_pos (show (p, q).2.natAbs < 2 * (p, q).1.natAbs from hf)]
    rcases Int.lt_or_le 0 p with k | k
    · rw [if_pos (show 0 < (p, q).1 from k)]
      simp [List.filter, a, b.mpr ⟨k, hf⟩, show ¬ cd (p, q) 84 from fun z => by have := (c.mp z).1; omega]
      rfl
    · rw [if_neg (show ¬ 0 < (p, q).1 by show ¬ 0 < p; omega)]
      simp [List.filter, a, c.mpr ⟨by omega, hf⟩, show ¬ cd (p, q) 85 from fun z => by have := (b.mp z).1; omega]
      rfl
  · rw [if_neg (show ¬ (p, q).2.natAbs < 2 * (p, q).1.natAbs from hf)]
    simp [List.filter, a, show ¬ cd (p, q) 85 from fun z => hf (b.mp z).2, show ¬ cd (p, q) 84 from fun z => hf (c.mp z).2]
theorem dn_inf : dn (1, 0) = [(0, 1)] := by
  have a1 : stp ((1 : Int), (0 : Int)) = 1 := stp_inf
  have a : cd (1, 0) 82 := by
    show stp (0, 1) + 1 = stp (1, 0)
    rw [stp_zero, a1]
  have b : ¬ cd (1, 0) 84 := by
    show ¬ stp (1 + 0, 0) + 1 = stp (1, 0)
    rw [stp_inf, a1]; decide
  have c : ¬ cd (1, 0) 85 := by
    show ¬ stp (1 - 0, 0) + 1 = stp (1, 0)
    rw [stp_inf, a1]; decide
  unfold dn
  simp [List.filter, a, b, c]
  rfl
/-- the ways by the fractions one step nearer -/
theorem pw_dn {v : Int × Int} (g : Good v) (n : v ≠ (0, 1)) : pw v = ((dn v).map pw).sum := by
  rw [pw_rec g n]
  unfold dn tm
  by_cases a : cd v 82 <;> by_cases b : cd v 85 <;> by_cases c : cd v 84 <;>
    simp [List.filter, a, b, c, show (stp (called v 82) + 1 = stp v) = cd v 82 from rfl, show (stp (called v 85) + 1 = stp v) = cd v 85 from rfl, show (stp (called v 84) + 1 = stp v) = cd v 84 from rfl] <;> omega
/-! ### the law's levels: fractions with their numbers -/
abbrev Lw := List ((Int × Int) × Nat)
def bump : Lw → Int × Int → Nat → Lw
  | [], k, n => [(k, n)]
  | e :: d, k, n => if e.1 = k then (k, e.2 + n) :: d else e :: bump d k n
theorem bump_nil (k : Int × Int) (n : Nat) : bump [] k n = [(k, n)] := rfl
theorem bump_same (k : Int × Int) (a n : Nat) (d : Lw) : bump ((k, a) :: d) k n = (k, a + n) :: d := by
  unfold bump
  exact if_pos rfl
theorem bump_other {e k : Int × Int} (h : e ≠ k) (a n : Nat) (d : Lw) : bump ((e, a) :: d) k n = (e, a) :: bump d k n := by
  conv => lhs; unfold bump
  exact if_neg h
def sumP (d : Lw) : Nat := (d.map fun e => e.2 * pw e.1).sum
theorem sumP_bump : ∀ (d : Lw) (k : Int × Int) (n : Nat), sumP (bump d k n) = sumP d + n * pw k
  | [], k, n => by simp [bump, sumP]
  | e :: d, k, n => by
    unfold bump
    by_cases h : e.1 = k
    · rw [if_pos h]
      unfold sumP
      rw [List.map_cons, List.map_cons, List.sum_cons, List.sum_cons]
      show (e.2 + n) * pw k + _ = e.2 * pw e.1 + _ + n * pw k
      rw [h, Nat.add_mul]
      omega
    · rw [if_neg h]
      have ih := sumP_bump d k n
      unfold sumP at ih ⊢
      rw [List.map_cons, List.map_cons, List.sum_cons, List.sum_cons, ih]
      omega
def spread (d : Lw) (x : (Int × Int) × Nat) : Lw := (dn x.1).foldl (fun d k => bump d k x.2) d
def nextL (lv : Lw) : Lw := lv.foldl spread []
theorem sumP_spread (d : Lw) (x : (Int × Int) × Nat) (g : Good x.1) (n : x.1 ≠ (0, 1)) : sumP (spread d x) = sumP d + x.2 * pw x.1 := by
  rw [pw_dn g n]
  unfold spread
  generalize dn x.1 = ks
  induction ks generalizing d with
  | nil => simp
  | cons k r ih =>
    rw [List.foldl_cons, ih, sumP_bump, List.map_cons, List.sum_cons, Nat.mul_add]
    omega
theorem sumP_next {lv : Lw} (h : ∀ x ∈ lv, Good x.1 ∧ x.1 ≠ (0, 1)) : sumP (nextL lv) = sumP lv := by
  have go : ∀ (lv d : Lw), (∀ x ∈ lv, Good x.1 ∧ x.1 ≠ (0, 1)) → sumP (lv.foldl spread d) = sumP d + sumP lv := by
    intro lv
    induction lv with
    | nil => intro d _; simp [sumP]
    | cons x r ih =>
      intro d h
      obtain ⟨g, n⟩ := h x List.mem_cons_self
      rw [List.foldl_cons, ih _ fun y hy => h y (List.mem_cons_of_mem _ hy), sumP_spread d x g n]
      have e : sumP (x :: r) = x.2 * pw x.1 + sumP r := by unfold sumP; rw [List.map_cons, List.sum_cons]
      omega
  have := go lv [] h
  unfold nextL
  rw [this]
  simp [sumP]
/-- a fraction between a half and one -/
def Mid (u : Int × Int) : Prop := 0 < u.2 ∧ u.1 ≠ 0 ∧ u.1.natAbs < u.2.natAbs ∧ u.2.natAbs < 2 * u.1.natAbs
theorem mid_facts {u : Int × Int} (g : Good u) (m : Mid u) : dn (rv u) = [tw (rv u)] ∧ dn (tw u) = [rv (tw u)] ∧ dn (rv (tw u)) = [rv (tw (rv u))] ∧
    dn (tw (rv u)) = rv (tw (rv u)) :: (if (tw (rv u)).2.natAbs < 2 * (tw (rv u)).1.natAbs then [tw (tw (rv u))] else []) ∧ tw (rv u) ≠ rv (tw u) ∧ rv u ≠ tw u ∧
    (Good (tw (rv u)) → (tw (rv u)).2.natAbs < 2 * (tw (rv u)).1.natAbs → Mid (tw (rv u))) := by
  obtain ⟨p, q⟩ := u
  obtain ⟨hq, p0, sm, hf⟩ := m
  have hq : 0 < q := hq
  have p0 : p ≠ 0 := p0
  have sm : p.natAbs < q.natAbs := sm
  have hf : q.natAbs < 2 * p.natAbs := hf
  have gr : Good (rv (p, q)) := g.called 82
  rcases Int.lt_or_le 0 p with c | c
  · have e1 : rv (p, q) = (0 - q, p) := c_turn_pos c
    have e2 : tw (p, q) = (p - q, q) := if_pos c
    have e3 : tw (0 - q, p) = (0 - q + p, p) := if_neg (show ¬ 0 < (0 - q, p).1 by show ¬ 0 < 0 - q; omega)
    have e4 : rv (p - q, q) = (q, 0 - (p - q)) := c_turn_neg (by omega)
    have e5 : tw (q, 0 - (p - q)) = (q - (0 - (p - q)), 0 - (p - q)) := if_pos hq
    have e6 : rv (0 - q + p, p) = (p, 0 - (0 - q + p)) := c_turn_neg (by omega)
    have gt : Good (rv (p - q, q)) := by
      have : Good (called (p, q) 85) := g.called 85
      exact Good.called this 82
    rw [e1] at gr
    rw [e4] at gt
    rw [e1, e2, e3, e4, e6]
    refine ⟨?_, ?_, ?_, ?_, ?_, ?_, fun _ h => ⟨by show 0 < p; omega, by show 0 - q + p ≠ 0; omega, by show (0 - q + p).natAbs < p.natAbs; omega, h⟩⟩
    · rw [dn_big gr (show 0 < p from c) (by show p.natAbs ≤ (0 - q).natAbs; omega), e3]
    · rw [dn_small (v := (p - q, q)) hq (by show p - q ≠ 0; omega) (by show (p - q).natAbs < q.natAbs; omega), if_neg (by show ¬ q.natAbs < 2 * (p - q).natAbs; omega), e4]
    · rw [dn_big gt (by show 0 < 0 - (p - q); omega) (by show (0 - (p - q)).natAbs ≤ q.natAbs; omega), e5]
      congr 2 <;> omega
    · rw [dn_small (v := (0 - q + p, p)) c (by show 0 - q + p ≠ 0; omega) (by show (0 - q + p).natAbs < p.natAbs; omega), e6]
    · intro z
      have := (Prod.mk.inj z).1
      omega
    · intro z
      have := (Prod.mk.inj z).1
      omega
  · have c2 : p < 0 := by omega
    have e1 : rv (p, q) = (q, 0 - p) := c_turn_neg c2
    have e2 : tw (p, q) = (p + q, q) := if_neg (show ¬ 0 < (p, q).1 by show ¬ 0 < p; omega)
    have e3 : tw (q, 0 - p) = (q - (0 - p), 0 - p) := if_pos hq
    have e4 : rv (p + q, q) = (0 - q, p + q) := c_turn_pos (by omega)
    have e5 : tw (0 - q, p + q) = (0 - q + (p + q), p + q) := if_neg (show ¬ 0 < (0 - q, p + q).1 by show ¬ 0 < 0 - q; omega)
    have e6 : rv (q - (0 - p), 0 - p) = (0 - (0 - p), q - (0 - p)) := c_turn_pos (by omega)
    have gt : Good (rv (p + q, q)) := by
      have : Good (called (p, q) 84) := g.called 84
      exact Good.called this 82
    rw [e1] at gr
    rw [e4] at gt
    rw [e1, e2, e3, e4, e6]
    refine ⟨?_, ?_, ?_, ?_, ?_, ?_, fun _ h => ⟨by show 0 < 0 - p; omega, by show q - (0 - p) ≠ 0; omega, by show (q - (0 - p)).natAbs < (0 - p).natAbs; omega, h⟩⟩
    · rw [dn_big gr (by show 0 < 0 - p; omega) (by show (0 - p).natAbs ≤ q.natAbs; omega), e3]
    · rw [dn_small (v := (p + q, q)) hq (by show p + q ≠ 0; omega) (by show (p + q).natAbs < q.natAbs; omega), if_neg (by show ¬ q.natAbs < 2 * (p + q).natAbs; omega), e4]
    · rw [dn_big gt (by show 0 < p + q; omega) (by show (p + q).natAbs ≤ (0 - q).natAbs; omega), e5]
      congr 2 <;> omega
    · rw [dn_small (v := (q - (0 - p), 0 - p)) (by show 0 < 0 - p; omega) (by show q - (0 - p) ≠ 0; omega) (by show (q - (0 - p)).natAbs < (0 - p).natAbs; omega), e6]
    · intro z
      have := (Prod.mk.inj z).1
      omega
    · intro z
      have := (Prod.mk.inj z).1
      omega
/-- the forms that a level has -/
inductive Lf : Lw → Prop
  | one (u : Int × Int) (n : Nat) : Lf [(u, n)]
  | two (u : Int × Int) (n m : Nat) : Good u → Mid u → Lf [(rv u, n), (tw u, m)]
  | far (u : Int × Int) (n m : Nat) : Good u → Mid u → Lf [(tw (rv u), n), (rv (tw u), m)]
theorem Lf.len {lv : Lw} (h : Lf lv) : lv.length ≤ 2 := by cases h <;> simp
theorem Lf.nodup {lv : Lw} (h : Lf lv) : (lv.map (·.1)).Nodup := by
  cases h with
  | one u n => simp
  | two u n m g k =>
    have := (mid_facts g k).2.2.2.2.2.1
    simp [this]
  | far u n m g k =>
    have := (mid_facts g k).2.2.2.2.1
    simp [this]
theorem Lf.next {lv : Lw} (h : Lf lv) (ok : ∀ x ∈ lv, Good x.1 ∧ x.1 ≠ (0, 1)) : Lf (nextL lv) := by
  cases h with
  | one u n =>
    obtain ⟨g, nz⟩ := ok (u, n) List.mem_cons_self
    have e : nextL [(u, n)] = spread [] (u, n) := rfl
    rw [e]
    unfold spread
    rcases gdL g with hq | ⟨h1, h2⟩
    · by_cases big : u.2.natAbs ≤ u.1.natAbs
      · rw [dn_big g hq big]
        exact .one _ _
      · have p0 : u.1 ≠ 0 := fun z => by
          obtain ⟨p, q⟩ := u
          have z : p = 0 := z
          subst z
          have h2 : Int.gcd 0 q = 1 := g.2
          rw [Int.gcd_zero_left] at h2
          have hq : 0 < q := hq
          exact nz (by rw [show q = 1 by omega])
        have sm : u.1.natAbs < u.2.natAbs := by omega
        rw [show dn (u, n).1 = _ from dn_small hq p0 sm]
        by_cases hf : u.2.natAbs < 2 * u.1.natAbs
        · rw [if_pos hf]
          have m : Mid u := ⟨hq, p0, sm, hf⟩
          have ne := (mid_facts g m).2.2.2.2.2.1
          show Lf (bump (bump [] (rv u) n) (tw u) n)
          rw [bump_nil, bump_other ne, bump_nil]
          exact .two u n n g m
        · rw [if_neg hf]
          exact .one _ _
    · have eu : u = (1, 0) := by
        obtain ⟨p, q⟩ := u
        exact Prod.ext h1 h2
      rw [eu, dn_inf]
      exact .one _ _
  | two u n m g k =>
    obtain ⟨f1, f2, _, _, f5, _, _⟩ := mid_facts g k
    have e : nextL [(rv u, n), (tw u, m)] = spread (spread [] (rv u, n)) (tw u, m) := rfl
    rw [e]
    unfold spread
    rw [show dn (rv u, n).1 = [tw (rv u)] from f1, show dn (tw u, m).1 = [rv (tw u)] from f2]
    show Lf (bump (bump [] (tw (rv u)) n) (rv (tw u)) m)
    rw [bump_nil, bump_other f5, bump_nil]
    exact .far u n m g k
  | far u n m g k =>
    obtain ⟨_, _, f3, f4, _, _, f7⟩ := mid_facts g k
    have gx := (ok (tw (rv u), n) List.mem_cons_self).1
    have e : nextL [(tw (rv u), n), (rv (tw u), m)] = spread (spread [] (tw (rv u), n)) (rv (tw u), m) := rfl
    rw [e]
    unfold spread
    rw [show dn (rv (tw u), m).1 = [rv (tw (rv u))] from f3, show dn (tw (rv u), n).1 = _ from f4]
    by_cases hf : (tw (rv u)).2.natAbs < 2 * (tw (rv u)).1.natAbs
    · rw [if_pos hf]
      have mx := f7 gx hf
      have ne := (mid_facts gx mx).2.2.2.2.2.1
      show Lf (bump (bump (bump [] (rv (tw (rv u))) n) (tw (tw (rv u))) n) (rv (tw (rv u))) m)
      have e1 : bump (bump [] (rv (tw (rv u))) n) (tw (tw (rv u))) n = [(rv (tw (rv u)), n), (tw (tw (rv u)), n)] := by
        rw [bump_nil, bump_other ne, bump_nil]
      rw [e1, bump_same]
      exact .two _ _ _ gx mx
    · rw [if_neg hf]
      show Lf (bump (bump [] (rv (tw (rv u))) n) (rv (tw (rv u))) m)
      rw [bump_nil, bump_same]
      exact .one _ _
/-! ### the levels one after another -/
theorem bump_key : ∀ (d : Lw) (k : Int × Int) (n : Nat) (y : (Int × Int) × Nat), y ∈ bump d k n → y.1 = k ∨ ∃ e ∈ d, e.1 = y.1
  | [], k, n, y, h => by
    rw [bump_nil, List.mem_singleton] at h
    exact .inl (by rw [h])
  | e :: d, k, n, y, h => by
    obtain ⟨e1, e2⟩ := e
    by_cases c : e1 = k
    · subst c
      rw [bump_same] at h
      rcases List.mem_cons.mp h with h | h
      · exact .inl (by rw [h])
      · exact .inr ⟨y, List.mem_cons_of_mem _ h, rfl⟩
    · rw [bump_other c] at h
      rcases List.mem_cons.mp h with h | h
      · exact .inr ⟨(e1, e2), List.mem_cons_self, by rw [h]⟩
      · rcases bump_key d k n y h with h | ⟨z, h1, h2⟩
        · exact .inl h
        · exact .inr ⟨z, List.mem_cons_of_mem _ h1, h2⟩
theorem next_key {lv : Lw} {y : (Int × Int) × Nat} (h : y ∈ nextL lv) : ∃ x ∈ lv, y.1 ∈ dn x.1 := by
  have inner : ∀ (ks : List (Int × Int)) (n : Nat) (d : Lw), (∀ y, y ∈ ks.foldl (fun d k => bump d k n) d → y.1 ∈ ks ∨ ∃ e ∈ d, e.1 = y.1) := by
    intro ks n
    induction ks with
    | nil => intro d y h; exact .inr ⟨y, h, rfl⟩
    | cons k r ih =>
      intro d y h
      rw [List.foldl_cons] at h
      rcases ih _ y h with h | ⟨e, h1, h2⟩
      · exact .inl (List.mem_cons_of_mem _ h)
      · rcases bump_key d k n e h1 with h3 | ⟨z, h3, h4⟩
        · exact .inl (by rw [← h2, h3]; exact List.mem_cons_self)
        · exact .inr ⟨z, h3, h4.trans h2⟩
  have go : ∀ (lv d : Lw) (y : (Int × Int) × Nat), y ∈ lv.foldl spread d → (∃ x ∈ lv, y.1 ∈ dn x.1) ∨ ∃ e ∈ d, e.1 = y.1 := by
    intro lv
    induction lv with
    | nil => intro d y h; exact .inr ⟨y, h, rfl⟩
    | cons x r ih =>
      intro d y h
      rw [List.foldl_cons] at h
      rcases ih _ y h with ⟨z, h1, h2⟩ | ⟨e, h1, h2⟩
      · exact .inl ⟨z, List.mem_cons_of_mem _ h1, h2⟩
      · rcases inner _ _ _ e h1 with h3 | ⟨z, h3, h4⟩
        · exact .inl ⟨x, List.mem_cons_self, by rw [← h2]; exact h3⟩
        · exact .inr ⟨z, h3, h4.trans h2⟩
  rcases go lv [] y h with h | ⟨e, h1, _⟩
  · exact h
  · cases h1
theorem dn_facts {v u : Int × Int} (g : Good v) (h : u ∈ dn v) : Good u ∧ stp u + 1 = stp v := by
  unfold dn at h
  obtain ⟨c, hc, rfl⟩ := List.mem_map.mp h
  have k := of_decide_eq_true (List.mem_filter.mp hc).2
  exact ⟨g.called c, k⟩
def lvk (v : Int × Int) : Nat → Lw
  | 0 => [(v, 1)]
  | j + 1 => nextL (lvk v j)
structure LvOk (v : Int × Int) (j : Nat) (lv : Lw) : Prop where
  f : Lf lv
  g : ∀ x ∈ lv, Good x.1 ∧ stp x.1 + j = stp v
  s : sumP lv = pw v
theorem LvOk.nz {v : Int × Int} {j : Nat} {lv : Lw} (h : LvOk v j lv) (k : j < stp v) : ∀ x ∈ lv, Good x.1 ∧ x.1 ≠ (0, 1) := fun x hx => ⟨(h.g x hx).1, fun z => by
  have := (h.g x hx).2
  rw [z, stp_zero] at this
  omega⟩
theorem lvk_ok {v : Int × Int} (g : Good v) : ∀ j, j ≤ stp v → LvOk v j (lvk v j)
  | 0, _ => ⟨.one v 1, fun x hx => by rw [List.mem_singleton.mp hx]; exact ⟨g, rfl⟩, by simp [lvk, sumP]⟩
  | j + 1, h => by
    have ih := lvk_ok g j (by omega)
    have nz := ih.nz (by omega)
    refine ⟨ih.f.next nz, fun x hx => ?_, (sumP_next nz).trans ih.s⟩
    obtain ⟨y, hy, hm⟩ := next_key hx
    have a := ih.g y hy
    have b := dn_facts a.1 hm
    exact ⟨b.1, by omega⟩
theorem lvk_end {v : Int × Int} (g : Good v) : lvk v (stp v) = [((0, 1), pw v)] := by
  have h := lvk_ok g (stp v) (Nat.le_refl _)
  have all : ∀ x ∈ lvk v (stp v), x.1 = (0, 1) := fun x hx => stp_eq_zero (h.g x hx).1 (by have := (h.g x hx).2; omega)
  have nd := h.f.nodup
  have s := h.s
  generalize lvk v (stp v) = lv at all nd s h
  have p1 : pw (0, 1) = 1 := by
    unfold pw
    rw [quo_fin (by decide)]
    show wy (QL 0 1) = 1
    rw [QL_step (by decide), show 0 % 1 = 0 from rfl, QL_zero]
    rfl
  match lv, h.f with
  | [], f => cases f
  | [(u, n)], _ =>
    have e : u = (0, 1) := all (u, n) List.mem_cons_self
    subst e
    have : sumP [((0, 1), n)] = n := by simp [sumP, p1]
    rw [← s, this]
  | (u, n) :: (w, m) :: r, _ =>
    have e : u = (0, 1) := all (u, n) List.mem_cons_self
    have e2 : w = (0, 1) := all (w, m) (List.mem_cons_of_mem _ List.mem_cons_self)
    rw [e, e2] at nd
    simp at nd
/-! ### the least dances stand in the order of texts -/
theorem app_lt {x y : List Nat} (h : x < y) : ∀ a : List Nat, a ++ x < a ++ y
  | [] => h
  | c :: r => List.cons_lt_cons_iff.mpr (.inr ⟨rfl, app_lt h r⟩)
theorem ld_lt : ∀ (n : Nat) (R : List (Nat × Nat)) (k k' : Nat), R.length ≤ n → Alt R → k < k' → k' < wy (ns_ R) → ld R k < ld R k'
  | _, [], k, k', _, _, h, h2 => by
    have : wy (ns_ []) = 1 := rfl
    omega
  | _, [r], k, k', _, _, h, h2 => by
    have : wy (ns_ [r]) = 1 := rfl
    omega
  | 0, r :: s :: R, k, k', h0, _, _, _ => by simp at h0
  | n + 1, r :: s :: R, k, k', h0, al, h, h2 => by
    rw [ld_two, ld_two]
    refine app_lt ?_ _
    have a2 := al.tail
    have h0' : (s :: R).length ≤ n := by simp at h0 ⊢; omega
    have hw : ns_ (r :: s :: R) = r.2 :: s.2 :: ns_ R := rfl
    by_cases c : k < wy (ns_ (s :: R))
    · rw [if_pos c]
      by_cases c2 : k' < wy (ns_ (s :: R))
      · rw [if_pos c2]
        exact List.cons_lt_cons_iff.mpr (.inr ⟨rfl, ld_lt n (s :: R) k k' h0' a2 h c2⟩)
      · rw [if_neg c2]
        refine List.cons_lt_cons_iff.mpr (.inl ?_)
        rcases al.head with e | e <;> omega
    · have c2 : ¬ k' < wy (ns_ (s :: R)) := by omega
      rw [if_neg c, if_neg c2]
      rw [hw] at h2
      obtain ⟨n2, r', e1, e2, e3⟩ := wy_else h2 c2
      have lt2 : k' - wy (ns_ (s :: R)) < wy (ns_ R) := by rw [e1]; exact e3
      refine List.cons_lt_cons_iff.mpr (.inr ⟨rfl, List.cons_lt_cons_iff.mpr (.inr ⟨rfl, List.cons_lt_cons_iff.mpr (.inr ⟨rfl, ?_⟩)⟩)⟩)
      exact ld_lt n R _ _ (by simp at h0' ⊢; omega) a2.tail (by omega) lt2
/-! ### turned round, the runs give as many ways -/
theorem wy_snoc : ∀ (n : Nat) (l : List Nat) (a b c : Nat), l.length ≤ n → wy (l ++ [a, b, c]) = wy (l ++ [a, b]) + if b = 1 then wy (l ++ [a]) else 0
  | _, [], a, b, c, _ => by
    show wy [a, b, c] = wy [a, b] + _
    rw [wy_three]
    rfl
  | _, [x], a, b, c, _ => by
    show wy [x, a, b, c] = wy [x, a, b] + if b = 1 then wy [x, a] else 0
    rw [wy_three, wy_three, wy_three, wy_two, wy_two, wy_one, wy_two, wy_one]
    omega
  | 0, x :: y :: l, a, b, c, h => by simp at h
  | n + 1, x :: y :: l, a, b, c, h => by
    have h1 : (y :: l).length ≤ n := by simp at h ⊢; omega
    have i1 := wy_snoc n (y :: l) a b c h1
    have i2 := wy_snoc n l a b c (by simp at h1; omega)
    have e : ∀ t : List Nat, t ≠ [] → wy (x :: y :: (l ++ t)) = wy (y :: (l ++ t)) + if y = 1 then wy (l ++ t) else 0 := fun t ht => by
      cases k : l ++ t with
      | nil => exact absurd (List.append_eq_nil_iff.mp k).2 ht
      | cons z r => exact wy_three x y z r
    show wy (x :: y :: (l ++ [a, b, c])) = wy (x :: y :: (l ++ [a, b])) + if b = 1 then wy (x :: y :: (l ++ [a])) else 0
    rw [e _ (by simp), e _ (by simp), e _ (by simp)]
    have i1 : wy (y :: (l ++ [a, b, c])) = wy (y :: (l ++ [a, b])) + if b = 1 then wy (y :: (l ++ [a])) else 0 := i1
    rw [i1, i2]
    by_cases hb : b = 1 <;> by_cases hy : y = 1 <;> simp [hb, hy] <;> omega
theorem wy_rev : ∀ (n : Nat) (l : List Nat), l.length ≤ n → wy l.reverse = wy l
  | _, [], _ => rfl
  | _, [a], _ => rfl
  | _, [a, b], _ => rfl
  | 0, a :: b :: c :: r, h => by simp at h
  | n + 1, a :: b :: c :: r, h => by
    have i1 := wy_rev n (b :: c :: r) (by simp at h ⊢; omega)
    have i2 := wy_rev n (c :: r) (by simp at h ⊢; omega)
    rw [List.reverse_cons, List.reverse_cons] at i1
    rw [List.reverse_cons] at i2
    rw [List.reverse_cons, List.reverse_cons, List.reverse_cons, wy_three]
    have s := wy_snoc _ r.reverse c b a (Nat.le_refl _)
    have e1 : r.reverse ++ [c] ++ [b] ++ [a] = r.reverse ++ [c, b, a] := by simp
    have e2 : r.reverse ++ [c] ++ [b] = r.reverse ++ [c, b] := by simp
    rw [e1, s, ← e2, i1, i2]
theorem wy_rl (v : Int × Int) : wy (ns_ (rl v)) = pw v := by
  rw [ns_rl]
  exact wy_rev _ _ (Nat.le_refl _)
/-! ### there is no other least dance -/
def da : Nat → Int × Int → List (List Nat)
  | 0, _ => [[]]
  | n + 1, v => ([82, 85, 84].filter fun c => decide (cd v c)).flatMap fun c => (da n (called v c)).map fun l => l ++ [inv3 c]
theorem da_len : ∀ (n : Nat) {v : Int × Int}, Good v → stp v = n → (da n v).length = pw v
  | 0, v, g, e => by
    have := stp_eq_zero g e
    subst this
    have p1 : pw (0, 1) = 1 := by
      unfold pw
      rw [quo_fin (by decide)]
      show wy (QL 0 1) = 1
      rw [QL_step (by decide), show 0 % 1 = 0 from rfl, QL_zero]
      rfl
    rw [p1]; rfl
  | n + 1, v, g, e => by
    have nz : v ≠ (0, 1) := fun z => by rw [z, stp_zero] at e; omega
    rw [pw_dn g nz]
    unfold da dn
    rw [List.length_flatMap, List.map_map]
    congr 1
    refine List.map_congr_left fun c hc => ?_
    have k : stp (called v c) + 1 = stp v := of_decide_eq_true (List.mem_filter.mp hc).2
    rw [List.length_map, da_len n (g.called c) (by omega)]
    rfl
theorem inv3_inv {c : Nat} (h : c = 84 ∨ c = 85 ∨ c = 82) : inv3 (inv3 c) = c := by rcases h with rfl | rfl | rfl <;> rfl
theorem da_all : ∀ (n : Nat) (l : List Nat) {v : Int × Int}, Good v → stp v = n → Lets l → l.length = n → run (0, 1) l = v → l ∈ da n v
  | 0, l, v, g, e, hl, h, hr => by
    rw [List.length_eq_zero_iff.mp h]
    exact List.mem_singleton.mpr rfl
  | n + 1, l, v, g, e, hl, h, hr => by
    obtain ⟨l', c, rfl⟩ : ∃ l' c, l = l' ++ [c] := by
      have ne : l ≠ [] := fun z => by rw [z] at h; simp at h
      exact ⟨l.dropLast, l.getLast ne, (List.dropLast_concat_getLast ne).symm⟩
    rw [List.length_append] at h
    have h : l'.length = n := by simpa using h
    have hc : c = 84 ∨ c = 85 ∨ c = 82 := hl c (by simp)
    have hl' : Lets l' := fun x hx => hl x (by simp [hx])
    rw [run_app] at hr
    have hr : called (run (0, 1) l') c = v := hr
    have gu : Good (run (0, 1) l') := by
      have go : ∀ (m : List Nat) (w : Int × Int), Good w → Good (run w m) := by
        intro m
        induction m with
        | nil => intro w k; exact k
        | cons x r ih => intro w k; exact ih _ (k.called x)
      exact go l' _ Good.zero
    have s1 := stp_run l' Good.zero
    rw [stp_zero, h] at s1
    have s2 := (stp_near gu c).1
    rw [hr, e] at s2
    have su : stp (run (0, 1) l') = n := by omega
    have back : called v (inv3 c) = run (0, 1) l' := by rw [← hr]; exact called_inv gu hc
    have ih := da_all n l' gu su hl' h rfl
    unfold da
    refine List.mem_flatMap.mpr ⟨inv3 c, List.mem_filter.mpr ⟨?_, decide_eq_true ?_⟩, ?_⟩
    · rcases inv3_mem hc with k | k | k <;> rw [k] <;> simp
    · unfold cd
      rw [back, su, e]
    · rw [back, inv3_inv hc]
      exact List.mem_map.mpr ⟨l', ih, rfl⟩
theorem full_of {α : Type} [DecidableEq α] : ∀ (A B : List α), A.Nodup → (∀ x ∈ A, x ∈ B) → B.length ≤ A.length → ∀ x ∈ B, x ∈ A
  | [], B, _, _, h, x, hx => by
    have : B = [] := List.length_eq_zero_iff.mp (by simpa using h)
    rw [this] at hx; cases hx
  | a :: A, B, nd, sub, h, x, hx => by
    have ha := sub a List.mem_cons_self
    have nd2 := List.nodup_cons.mp nd
    by_cases e : x = a
    · rw [e]; exact List.mem_cons_self
    · refine List.mem_cons_of_mem _ (full_of A (B.erase a) nd2.2 (fun y hy => ?_) ?_ x ((List.mem_erase_of_ne e).mpr hx))
      · have ne : y ≠ a := fun z => nd2.1 (by rw [← z]; exact hy)
        exact (List.mem_erase_of_ne ne).mpr (sub y (List.mem_cons_of_mem _ hy))
      · rw [List.length_erase_of_mem ha]
        simp at h
        omega
theorem ld_all {v : Int × Int} (g : Good v) {l : List Nat} (hl : Lets l) (h : l.length = stp v) (hr : run (0, 1) l = v) : ∃ k, k < pw v ∧ ld (rl v) k = l := by
  have lt : ∀ k k', k < k' → k' < pw v → ld (rl v) k < ld (rl v) k' := fun k k' a b => ld_lt _ (rl v) k k' (Nat.le_refl _) (alt_rl v) a (by rw [wy_rl]; exact b)
  have key := full_of ((List.range (pw v)).map (ld (rl v))) (da (stp v) v) ?_ ?_ ?_ l (da_all _ l g rfl hl h hr)
  · obtain ⟨k, hk, e⟩ := List.mem_map.mp key
    exact ⟨k, List.mem_range.mp hk, e⟩
  · rw [List.nodup_iff_pairwise_ne, List.pairwise_map]
    refine List.Pairwise.imp_of_mem (fun {a b} ha hb hab => ?_) (List.pairwise_lt_range (n := pw v))
    intro z
    have := lt a b hab (List.mem_range.mp hb)
    rw [z] at this
    exact List.lt_irrefl _ this
  · intro x hx
    obtain ⟨k, hk, rfl⟩ := List.mem_map.mp hx
    have hk := List.mem_range.mp hk
    have hk2 : k < wy (ns_ (rl v)) := by rw [wy_rl]; exact hk
    exact da_all _ _ g rfl (ld_rl_lets v k) (ld_rl_len g hk2) (ld_rl_run g hk2)
  · rw [List.length_map, List.length_range, da_len _ g rfl]
    exact Nat.le_refl _
theorem e_RTU : (("RTU" : Str)) = S [82, 84, 85] := by decide +kernel
/-- the list of the levels -/
def Lvs (H : Hp) (p : Addr) (n : Nat) : Prop := ∃ ps : List Addr, H p = some (.lst (ps.map V.ref)) ∧ ps.length = n + 1 ∧ (∀ q ∈ ps, q ≠ p) ∧ ∀ (k : Nat) (q : Addr), ps[k]? = some q → ∃ M, LvAt H q M ∧ Lev k M
def spLevels : Sp := fun vs H Q _ => ∃ m : Int, vs = [.int m] ∧ 0 ≤ m ∧ m ≤ 9 ∧ ∀ p H', Same H H' → Lvs H' p m.toNat → Q (.ref p) H'
theorem four_le {n : Nat} (h : n ≤ 9) : 4 ^ n ≤ 262144 := Nat.le_trans (Nat.pow_le_pow_right (by decide) h) (by decide)
theorem last_ref {ps : List Addr} {n : Nat} (h : ps.length = n + 1) : ∃ q, ps[n]? = some q ∧ atI (ps.map V.ref) (-1) = some (V.ref q) := by
  have hn : n < ps.length := by omega
  refine ⟨ps[n], List.getElem?_eq_getElem hn, ?_⟩
  have e : ps.map V.ref = (ps.take n).map V.ref ++ [V.ref ps[n]] := by
    conv => lhs; rw [← List.take_append_drop n ps, List.drop_eq_getElem_cons hn, List.map_append, List.map_cons, List.drop_eq_nil_of_le (by omega)]
    rfl
  rw [e]
  exact atI_end
section
variable {P : Program} {w : World} {K : PySem.W.Frag} {mg : Str → Option Value} {base : Heap} {f : Addr} {fd : FuncData}
theorem ok__law_levels (F : Fun K "_law_levels" "_law_levels" s_law_levels f fd) (D_called : Dfn P w K mg base "_law_called" 1 ["value", "letter"] (spCalled K)) (y_range : mg "range" = none)  : FnOk P w K mg base CX0 2 f fd ["most"] spLevels := by
  refine F.ok sc_law_levels (fun vs H Q E h => ?_) (fun cdv A outer s H vs Q E hr h => ?_)
  · obtain ⟨m, rfl, m0, m9, q⟩ := h
    rfl
  obtain ⟨m, rfl, m0, m9, q⟩ := h
  have hu := hu_of hr
  refine ⟨_, (pss_cons (ps_set (i := 1) sc_law_levels.nd rfl (.inl rfl) (pe_disp1T (Nat.lt_of_succ_lt hu ) (pe_tup (pa_cons pe_int (pa_cons pe_int pa_nil))) pe_int))
    (pss_cons (ps_set (i := 2) sc_law_levels.nd rfl (.inl rfl) (pe_lst (pa_cons (pe_lst (pa_cons (pe_tup (pa_cons pe_int (pa_cons pe_int pa_nil))) pa_nil)) pa_nil)))
    (pss_cons (ps_for PassesOwn.never rfl (pi_range1 rfl y_range (pa_cons (pv 0) pa_nil)) (pg_name (i := 3) sc_law_levels.nd rfl (.inl rfl))
    (pss_cons (ps_set (i := 4) sc_law_levels.nd rfl (.inl rfl) (pe_lst pa_nil))
    (pss_cons (ps_for PassesOwn.never rfl (pi_list (pe_ix ix_list (pv 2) (pe_un un_neg pe_int) (fun _ _ => rfl))) (pg_name (i := 5) sc_law_levels.nd rfl (.inl rfl))
    (pss_one (ps_for PassesOwn.never rfl (pi_str pe_str) (pg_name (i := 6) sc_law_levels.nd rfl (.inl rfl))
    (pss_cons (ps_set (i := 7) sc_law_levels.nd rfl (.inl rfl) (pe_do D_called hr (pa_cons (pv 5) (pa_cons (pv 6) pa_nil))))
    (pss_one (ps_if (pt_cmp (pc_dnotin hu (pv 7) (pv 1))) (pss_cons (ps_dput hu (pv 1) (pv 7) (pe_op op_add (pv 3) pe_int) rfl)
    (pss_one (ps_expr (pe_bm PySem.F.plainAttrs_list PySem.F.slot_list_append PySem.F.type_list_append mt_append (pv 4) (pa_cons (pv 7) pa_nil))))) pss_nil))))))
    (pss_one (ps_expr (pe_bm PySem.F.plainAttrs_list PySem.F.slot_list_append PySem.F.type_list_append mt_append (pv 2) (pa_cons (pv 4) pa_nil)))))))
    (pss_one (ps_ret (pv 2)))))), ?_⟩
  have two : 2 ≤ sizeLine := fits (by decide)
  have one : 1 ≤ sizeLine := fits (by decide)
  have zero : 0 ≤ sizeLine := Nat.zero_le _
  refine fun dp hdp => ⟨two, fun t1 ht1 => ⟨?_, kyv (0, 1), t1, .int 0, rfl, upd_same, ?_⟩⟩
  · rw [upd_ne (ne_of_none upd_same ht1), upd_same]
  have hp1 : t1 ≠ dp := fun z => by rw [z, upd_same] at ht1; cases ht1
  have S3 : Same H (upd (upd (upd H dp (.dT [])) t1 (.tup [.int 0, .int 1])) dp (.dT [(kyv (0, 1), V.int 0)])) := same_upd (same_upd (same_new hdp _) (by rw [upd_ne hp1] at ht1; exact ht1)) hdp
  have eD : (upd (upd (upd H dp (.dT [])) t1 (.tup [.int 0, .int 1])) dp (.dT [(kyv (0, 1), V.int 0)])) dp = some (.dT [(kyv (0, 1), V.int 0)]) := upd_same
  generalize upd (upd (upd H dp (.dT [])) t1 (.tup [.int 0, .int 1])) dp (.dT [(kyv (0, 1), V.int 0)]) = G3 at *
  refine ⟨two, fun t2 ht2 => ⟨one, fun q0 hq0 => ⟨one, fun lp hlp => ?_⟩⟩⟩
  have eT : (upd G3 t2 (.tup [V.int 0, .int 1])) t2 = some (.tup [V.int 0, .int 1]) := upd_same
  have s1 : Same G3 (upd G3 t2 (.tup [V.int 0, .int 1])) := same_new ht2 _
  generalize upd G3 t2 (.tup [V.int 0, .int 1]) = G4 at *
  have eQ : (upd G4 q0 (.lst [V.ref t2])) q0 = some (.lst [V.ref t2]) := upd_same
  have s2 : Same G4 (upd G4 q0 (.lst [V.ref t2])) := same_new hq0 _
  generalize upd G4 q0 (.lst [V.ref t2]) = G5 at *
  have eL : (upd G5 lp (.lst [V.ref q0])) lp = some (.lst [V.ref q0]) := upd_same
  have s3 : Same G5 (upd G5 lp (.lst [V.ref q0])) := same_new hlp _
  have nql : q0 ≠ lp := fun z => by rw [← z, eQ] at hlp; cases hlp
  generalize upd G5 lp (.lst [V.ref q0]) = G6 at *
  have nlp : H lp = none := by
    cases e : H lp with
    | none => rfl
    | some o =>
      have := (S3.trans (s1.trans s2)) _ _ e
      rw [hlp] at this
      cases this
  have S6 : Same H G6 := S3.trans (s1.trans (s2.trans s3))
  refine ⟨_, rfl, m, rfl, by omega, by omega, for_range (lo := 0) (n := m.toNat) (fun n σ G => ∃ (x3 x4 x5 x6 x7 : Option V) (ps : List Addr) (kvs : List (List Key × V)), σ = [some (.int m), some (.ref dp), some (.ref lp), x3, x4, x5, x6, x7] ∧ Same H G ∧ G dp = some (.dT kvs) ∧ Kn n [] kvs ∧ kvs.length ≤ 4 ^ n ∧ G lp = some (.lst (ps.map V.ref)) ∧ ps.length = n + 1 ∧ (∀ q ∈ ps, q ≠ lp) ∧ ∀ (k : Nat) (q : Addr), ps[k]? = some q → ∃ M, LvAt G q M ∧ Lev k M) ?_ ?_ ?_⟩
  · refine ⟨_, _, _, _, _, [q0], _, rfl, S6, (s1.trans (s2.trans s3)) _ _ eD, kn_zero, by decide, eL, rfl, fun q hq => by rw [List.mem_singleton.mp hq]; exact nql, fun k q hk => ?_⟩
    have : k = 0 := by
      have := (List.getElem?_eq_some_iff.mp hk).1
      have : k < 1 := this
      omega
    subst this
    cases hk
    refine ⟨[(0, 1)], ⟨[t2], s3 _ _ eQ, rfl, fun i t v ht hv => ?_⟩, lev_zero⟩
    have : i = 0 := by
      have := (List.getElem?_eq_some_iff.mp ht).1
      have : i < 1 := this
      omega
    subst this
    cases ht; cases hv
    exact (s2.trans s3) _ _ eT
  · rintro n σ G hn ⟨x3, x4, x5, x6, x7, ps, kvs, rfl, SG, hD, kn, kl, hL, pl, pn, lv⟩
    have n9 : n ≤ 9 := by omega
    have f4 := four_le n9
    refine ⟨zero, fun vp hvp => ?_⟩
    obtain ⟨q, hq, aq⟩ := last_ref pl
    obtain ⟨M0, hM0, lM0⟩ := lv n q hq
    have hM0' := hM0
    obtain ⟨ts, tq, tl, tv⟩ := hM0
    have ndq : q ≠ dp := ne_of tq hD (fun z => nomatch z)
    have s0 : Same G (upd G vp (.lst [])) := same_new hvp _
    refine ⟨_, rfl, _, rfl, lp, _, _, _, rfl, rfl, SqL.of (s0 _ _ hL), aq, q, rfl, ⟨_, SqL.of (s0 _ _ tq)⟩, for_list (K := K) (a := q) (xs := ts.map V.ref) (fun i σ F => ∃ (x5 x6 x7 : Option V) (M : List (Int × Int)) (kvs : List (List Key × V)), σ = [some (.int m), some (.ref dp), some (.ref lp), some (.int (0 + (n : Int))), some (.ref vp), x5, x6, x7] ∧ But dp G F ∧ F dp = some (.dT kvs) ∧ Kn n M kvs ∧ kvs.length ≤ 4 ^ n + M.length ∧ LvAt F vp M ∧ Half n M0 i 0 M) ?_ ?_ ?_ ?_⟩
    · exact ⟨_, _, _, [], kvs, rfl, But.of s0, s0 _ _ hD, kn, kl, ⟨[], upd_same, rfl, fun i t v ht => by cases ht⟩, Half.start _ _⟩
    · rintro i σ F _ ⟨x5, x6, x7, M, kvs, _, bF, _⟩
      exact SqL.of (bF _ _ ndq tq)
    · rintro i x σ F hx ⟨x5, x6, x7, M, kvs, rfl, bF, hD1, kn1, kl1, lv1, hf1⟩
      rw [List.getElem?_map] at hx
      have hi : i < ts.length := by
        cases e : ts[i]? with
        | none => rw [e] at hx; cases hx
        | some t => exact (List.getElem?_eq_some_iff.mp e).1
      have hti : ts[i]? = some ts[i] := List.getElem?_eq_getElem hi
      rw [hti] at hx
      cases hx
      have hi2 : i < M0.length := by omega
      have hui : M0[i]? = some M0[i] := List.getElem?_eq_getElem hi2
      generalize ts[i] = t at hti ⊢
      generalize M0[i] = u at hui
      have Tt := tv i t u hti hui
      have nt : t ≠ dp := ne_of Tt hD (fun z => nomatch z)
      have gu := ((lM0.mem u).mp (List.mem_of_getElem? hui))
      have ml := lM0.len
      rw [e_RTU]
      refine ⟨_, rfl, for_str (l := [82, 84, 85]) (fun j σ F => ∃ (x6 x7 : Option V) (M : List (Int × Int)) (kvs : List (List Key × V)), σ = [some (.int m), some (.ref dp), some (.ref lp), some (.int (0 + (n : Int))), some (.ref vp), some (.ref t), x6, x7] ∧ But dp G F ∧ F dp = some (.dT kvs) ∧ Kn n M kvs ∧ kvs.length ≤ 4 ^ n + M.length ∧ LvAt F vp M ∧ Half n M0 i j M) ?_ ?_ ?_⟩
      · exact ⟨_, _, M, kvs, rfl, bF, hD1, kn1, kl1, lv1, hf1⟩
      · rintro j c σ F1 hc ⟨x6, x7, M1, kvs1, rfl, bF1, hD2, kn2, kl2, lv2, hf2⟩
        have hj : j < 3 := (List.getElem?_eq_some_iff.mp hc).1
        have hml := hf2.len
        refine ⟨_, rfl, _, rfl, t, u, c, rfl, bF1 _ _ nt Tt, fun t' F2 s2 T2 => ?_⟩
        have gc := gu.1.called c
        have near := (stp_near gu.1 c).1
        refine ⟨_, rfl, _, rfl, dp, _, rfl, DGet.t (k := kyv (called u c)) (s2 _ _ hD2) T2, _, rfl, ite2 (fun c1 => ?_) (fun c1 => ?_)⟩
        · have no : ¬ (valV kvs1 (kyv (called u c))).isSome = true := by
            intro z
            rw [z] at c1
            cases c1
          rw [kn2 (called u c)] at no
          have e1 : stp (called u c) = n + 1 := by
            have : ¬ stp (called u c) ≤ n := fun z => no (.inl ⟨gc, z⟩)
            omega
          have notin : called u c ∉ M1 := fun z => no (.inr z)
          refine ⟨_, rfl, _, _, rfl, rfl, _, rfl, _, rfl, dp, _, rfl, DPut.t (k := kyv (called u c)) (s2 _ _ hD2) T2 (Nat.lt_of_lt_of_le (show kvs1.length < 16777216 by omega) sizeLine_big), ?_⟩
          obtain ⟨tsM, hV, vl, vt⟩ := lv2
          have nvd : vp ≠ dp := ne_of (s2 _ _ hV) (s2 _ _ hD2) (fun z => nomatch z)
          have hV3 : (upd F2 dp (.dT (putK kvs1 (kyv (called u c)) (V.int (0 + (n : Int) + 1))))) vp = some (.lst (tsM.map V.ref)) := by
            rw [upd_ne nvd]; exact s2 _ _ hV
          refine ⟨_, rfl, .inl ⟨rfl, _, SqL.of hV3⟩, _, rfl, vp, _, _, rfl, rfl, hV3, Nat.lt_of_lt_of_le (show (tsM.map V.ref).length < 16777216 by rw [List.length_map]; omega) sizeLine_big, ?_⟩
          have tk : ∀ (b : Addr) (v : Int × Int), Tup2 F2 b v → Tup2 (upd F2 dp (.dT (putK kvs1 (kyv (called u c)) (V.int (0 + (n : Int) + 1))))) b v := fun b v T => by
            unfold Tup2
            rw [upd_ne (ne_of T (s2 _ _ hD2) (fun z => nomatch z))]
            exact T
          refine ⟨_, _, M1 ++ [called u c], putK kvs1 (kyv (called u c)) (V.int (0 + (n : Int) + 1)), rfl, fun b o hb h => ?_, ?_, Kn.new kn2 _ _, ?_, LvAt.add hV3 vl (fun a t2 v2 ha hv2 => tk _ _ (s2 _ _ (vt a t2 v2 ha hv2))) (tk _ _ T2), hf2.new hui hc gc e1 notin⟩
          · rw [upd_ne (ne_of_none h hvp), upd_ne hb]
            exact s2 _ _ (bF1 _ _ hb h)
          · rw [upd_ne (Ne.symm nvd), upd_same]
          · have := length_putK kvs1 (kyv (called u c)) (V.int (0 + (n : Int) + 1))
            rw [List.length_append]
            show _ ≤ 4 ^ n + (M1.length + 1)
            omega
        · have yes : (valV kvs1 (kyv (called u c))).isSome = true := by
            cases e : (valV kvs1 (kyv (called u c))).isSome with
            | true => rfl
            | false => rw [e] at c1; exact absurd rfl c1
          rw [kn2 (called u c)] at yes
          refine ⟨_, _, M1, kvs1, rfl, bF1.trans (But.of s2), s2 _ _ hD2, kn2, kl2, lv2.same s2, hf2.old hui hc (fun e => ?_)⟩
          rcases yes with ⟨_, y⟩ | y
          · omega
          · exact y
      · rintro σ F1 ⟨x6, x7, M1, kvs1, rfl, bF1, hD2, kn2, kl2, lv2, hf2⟩
        exact ⟨_, _, _, M1, kvs1, rfl, bF1, hD2, kn2, kl2, lv2, hf2.turn⟩
    · rintro σ F ⟨x5, x6, x7, M, kvs1, rfl, bF, hD1, kn1, kl1, lv1, hf1⟩
      have ndl : lp ≠ dp := ne_of hL hD (fun z => nomatch z)
      have hL1 := bF _ _ ndl hL
      have nvl : vp ≠ lp := fun z => by rw [z, hL] at hvp; cases hvp
      rw [List.length_map, tl] at hf1
      have lM := hf1.lev lM0
      have ml := lM0.len
      have hml := hf1.len
      refine ⟨_, rfl, .inl ⟨rfl, _, SqL.of hL1⟩, _, rfl, lp, _, _, rfl, rfl, hL1, Nat.lt_of_lt_of_le (show (ps.map V.ref).length < 16777216 by rw [List.length_map]; omega) sizeLine_big, ?_⟩
      have lk : ∀ (r : Addr) (M2 : List (Int × Int)), r ≠ lp → LvAt F r M2 → LvAt (upd F lp (.lst (ps.map V.ref ++ [V.ref vp]))) r M2 := fun r M2 hr h => h.but But.upd hr (fun o ho xs z => by rw [hL1] at ho; cases ho; cases z)
      have SF : Same H F := fun b o hb => by
        by_cases z : b = dp
        · subst z; rw [hb] at hdp; cases hdp
        · exact bF _ _ z (SG _ _ hb)
      refine ⟨_, _, _, _, _, ps ++ [vp], kvs1, rfl, same_upd SF nlp, by rw [upd_ne (Ne.symm ndl)]; exact hD1, kn1.next lM, by rw [Nat.pow_succ]; omega, by rw [upd_same, List.map_append]; rfl, by rw [List.length_append, pl]; rfl, fun r hr => ?_, fun k r hk => ?_⟩
      · rcases List.mem_append.mp hr with hr | hr
        · exact pn r hr
        · rw [List.mem_singleton.mp hr]; exact nvl
      · by_cases c : k < ps.length
        · rw [List.getElem?_append_left c] at hk
          obtain ⟨M2, h2, l2⟩ := lv k r hk
          exact ⟨M2, lk r M2 (pn r (List.mem_of_getElem? hk)) (h2.but bF (fun z => by subst z; obtain ⟨_, h5, _⟩ := h2; rw [hD] at h5; cases h5) (fun o ho xs z => by rw [hD] at ho; cases ho; cases z)), l2⟩
        · rw [List.getElem?_append_right (by omega)] at hk
          have e1 : k = n + 1 := by
            have := (List.getElem?_eq_some_iff.mp hk).1
            have : k - ps.length < 1 := this
            omega
          subst e1
          rw [pl, Nat.sub_self] at hk
          cases hk
          exact ⟨M, lk vp M nvl lv1, lM⟩
  · rintro σ G ⟨x3, x4, x5, x6, x7, ps, kvs, rfl, SG, hD, kn, kl, hL, pl, pn, lv⟩
    exact ⟨_, rfl, q lp G SG ⟨ps, hL, pl, pn, lv⟩⟩
end
/-! what a run does not wake stays: generators that sleep are put out of reach, and stand as they were -/
section


def pz : GenState → GenState
  | .suspended _ l c p fs cl => .suspended (fun _ => .unsupported "") l c p fs cl
  | .fresh c => .fresh c
  | .running => .running
  | .finished => .finished
def slp : GenState → Bool
  | .suspended .. => true
  | _ => false
def isRet : Frame → Bool
  | .gen .. => false
  | .ret .. => true
def gOk : GenState → Bool
  | .suspended _ _ _ _ fs _ => fs.all isRet
  | _ => true
def eOk : End → Bool
  | .susp _ _ _ _ _ _ fs => fs.all isRet
  | .ret _ => true
structure Fj (G z : Array GenState) : Prop where
  sz : G.size ≤ z.size
  fz : ∀ (i : Nat) (x : GenState), G[i]? = some x → slp x = true → z[i]? = some (pz x)
  ok : ∀ (i : Nat) (y : GenState), z[i]? = some y → (∀ x, G[i]? = some x → slp x = false) → gOk y = true
def one1 (G : Array GenState) (i : Nat) (y : GenState) : GenState := match G[i]? with
  | some x => if slp x = true then x else y
  | none => y
def bk (G z : Array GenState) : Array GenState := z.mapIdx (one1 G)
def back (G : Array GenState) (s : Shared) : Shared := { s with gens := bk G s.gens }
theorem bk_get (G z : Array GenState) (i : Nat) : (bk G z)[i]? = z[i]?.map (one1 G i) := by
  unfold bk
  rw [Array.getElem?_mapIdx]
theorem bk_size (G z : Array GenState) : (bk G z).size = z.size := by unfold bk; rw [Array.size_mapIdx]
def Fro (G : Array GenState) (g : Nat) : Prop := ∃ x, G[g]? = some x ∧ slp x = true
theorem one1_fro {G : Array GenState} {i : Nat} {x y : GenState} (h : G[i]? = some x) (k : slp x = true) : one1 G i y = x := by
  unfold one1
  rw [h]
  show (if slp x = true then x else y) = x
  rw [if_pos k]
theorem one1_not {G : Array GenState} {i : Nat} {y : GenState} (h : ¬ Fro G i) : one1 G i y = y := by
  unfold one1
  cases e : G[i]? with
  | none => rfl
  | some x =>
    show (if slp x = true then x else y) = y
    rw [if_neg fun k => h ⟨x, e, k⟩]
theorem not_fro {G : Array GenState} {i : Nat} (h : ¬ Fro G i) : ∀ x, G[i]? = some x → slp x = false := fun x e => by
  cases k : slp x with
  | false => rfl
  | true => exact absurd ⟨x, e, k⟩ h
theorem Fj.push {G z : Array GenState} (J : Fj G z) {y : GenState} (k : gOk y = true) : Fj G (z.push y) := by
  refine ⟨by rw [Array.size_push]; have := J.sz; omega, fun i x h k => ?_, fun i y' h n => ?_⟩
  · have := J.fz i x h k
    rw [Array.getElem?_push]
    have l : i < z.size := (Array.getElem?_eq_some_iff.mp this).1
    rw [if_neg (by omega)]
    exact this
  · rw [Array.getElem?_push] at h
    split at h
    · cases h; exact k
    · exact J.ok i y' h n
theorem bk_push {G z : Array GenState} (J : Fj G z) (y : GenState) : bk G (z.push y) = (bk G z).push y := by
  apply Array.ext_getElem?
  intro i
  rw [bk_get, Array.getElem?_push, Array.getElem?_push, bk_size, bk_get]
  by_cases e : i = z.size
  · rw [if_pos e, if_pos e]
    have n : ¬ Fro G i := fun ⟨x, h, _⟩ => by
      have := (Array.getElem?_eq_some_iff.mp h).1
      have := J.sz
      omega
    show some (one1 G i y) = _
    rw [one1_not n]
  · rw [if_neg e, if_neg e]
theorem Fj.set {G z : Array GenState} (J : Fj G z) {g : Nat} (n : ¬ Fro G g) {y : GenState} (k : gOk y = true) : Fj G (z.setIfInBounds g y) := by
  refine ⟨by rw [Array.size_setIfInBounds]; exact J.sz, fun i x h k => ?_, fun i y' h m => ?_⟩
  · have ne : g ≠ i := fun e => n (e ▸ ⟨x, h, k⟩)
    rw [Array.getElem?_setIfInBounds_ne ne]
    exact J.fz i x h k
  · by_cases e : g = i
    · subst e
      rw [Array.getElem?_setIfInBounds] at h
      rw [if_pos rfl] at h
      split at h
      · cases h; exact k
      · cases h
    · rw [Array.getElem?_setIfInBounds_ne e] at h
      exact J.ok i y' h m
theorem bk_set {G z : Array GenState} {g : Nat} (n : ¬ Fro G g) (y : GenState) : bk G (z.setIfInBounds g y) = (bk G z).setIfInBounds g y := by
  apply Array.ext_getElem?
  intro i
  rw [bk_get, Array.getElem?_setIfInBounds, Array.getElem?_setIfInBounds, bk_size, bk_get]
  by_cases e : g = i
  · rw [if_pos e, if_pos e]
    subst e
    split
    · show some (one1 G g y) = _
      rw [one1_not n]
    · rfl
  · rw [if_neg e, if_neg e]
theorem back_set {G : Array GenState} {s : Shared} {g : Nat} (n : ¬ Fro G g) (y : GenState) : back G (s.setGen g y) = (back G s).setGen g y := by
  unfold back Shared.setGen
  rw [bk_set n]
theorem Fj.awake {G z : Array GenState} (J : Fj G z) {g : Nat} {y : GenState} (h : z[g]? = some y) (k : slp y = false) : ¬ Fro G g := fun ⟨x, e, hx⟩ => by
  have := J.fz g x e hx
  rw [h] at this
  cases this
  cases x <;> simp [slp, pz] at hx k
theorem back_at {G : Array GenState} {s : Shared} {g : Nat} {y : GenState} (n : ¬ Fro G g) (h : s.gens[g]? = some y) : (back G s).gens[g]? = some y := by
  show (bk G s.gens)[g]? = _
  rw [bk_get, h]
  show some (one1 G g y) = _
  rw [one1_not n]
theorem split_ok : ∀ fs : List Frame, fs.all isRet = true → splitAtGen fs = none
  | [], _ => rfl
  | .gen .. :: _, h => by simp [isRet] at h
  | .ret .. :: r, h => by
    have := split_ok r (by simpa [isRet] using h)
    show (splitAtGen r).map _ = none
    rw [this]
    rfl
theorem no_unsup {M : Model} {Γ : Ctx} {p : Pos} {t : Sem PySem.Fin} {fs : List Frame} {s s' : Shared} {e : End} (h : Runs M Γ p t fs s e s') : ∀ w, t ≠ .unsupported w := by
  induction h with
  | segRet _ _ ih _ => exact ih
  | segGen _ _ ih _ => exact ih
  | segSuspOut _ _ ih => exact ih
  | segSuspGen _ _ _ _ ih _ => exact ih
  | _ => intro w z; cases z
theorem end_ok {e : End} (h : eOk e = true) : gOk e.genState = true := by
  cases e with
  | ret r => rfl
  | susp v g l k c p fs => exact h
theorem seen_back {G : Array GenState} {s : Shared} (J : Fj G s.gens) {g : Nat} {st : GenState} (q : s.gens[g]? = some st) : ∃ st', (back G s).gens[g]? = some st' ∧ st'.seen = st.seen := by
  refine ⟨one1 G g st, ?_, ?_⟩
  · show (bk G s.gens)[g]? = _
    rw [bk_get, q]
    rfl
  · by_cases f : Fro G g
    · obtain ⟨x, h, k⟩ := f
      rw [one1_fro h k]
      have := J.fz g x h k
      rw [q] at this
      cases this
      cases x <;> rfl
    · rw [one1_not f]
theorem push_back {G : Array GenState} {s : Shared} (J : Fj G s.gens) {y : GenState} : back G { s with gens := s.gens.push y } = { back G s with gens := (back G s).gens.push y } := by
  unfold back
  rw [bk_push J]
theorem back_size (G : Array GenState) (s : Shared) : (back G s).gens.size = s.gens.size := bk_size _ _
theorem fz_stuck {M : Model} {Γ : Ctx} {p p0 : Pos} {G : Array GenState} {s s1 s2 : Shared} (J : Fj G s.gens) {g : Nat} {k0 : Resume → Sem PySem.Fin} {l0 : List Value} {c0 : Code} {fs : List Frame} {cl : Bool} {r : Resume} {e : End}
    (q : s.gens[g]? = some (.suspended k0 l0 c0 p0 fs cl)) (h : Runs M Γ p (k0 r) fs s1 e s2) : ¬ Fro G g := fun ⟨x, hx, k⟩ => by
  have := J.fz _ x hx k
  rw [q] at this
  cases x with
  | suspended k2 l2 c2 p2 f2 cl2 =>
    injection this with z
    injection z with z1 z2 z3 z4 z5 z6
    subst z1
    exact absurd rfl (no_unsup h "")
  | _ => cases k
theorem runs_bk {M : Model} {Γ : Ctx} {p : Pos} {t : Sem PySem.Fin} {fs : List Frame} {s s' : Shared} {e : End} (h : Runs M Γ p t fs s e s') :
    ∀ G : Array GenState, Fj G s.gens → fs.all isRet = true → Fj G s'.gens ∧ eOk e = true ∧ Runs M Γ p t fs (back G s) e (back G s') := by
  induction h with
  | done => exact fun G J _ => ⟨J, rfl, .done⟩
  | raise => exact fun G J _ => ⟨J, rfl, .raise⟩
  | again q _ ih => intro G J F; obtain ⟨a, b, c⟩ := ih G J rfl; exact ⟨a, b, .again q c⟩
  | rule _ ih => intro G J F; obtain ⟨a, b, c⟩ := ih G J rfl; exact ⟨a, b, .rule c⟩
  | «at» _ ih => intro G J F; obtain ⟨a, b, c⟩ := ih G J rfl; exact ⟨a, b, .at c⟩
  | load q _ ih => intro G J F; obtain ⟨a, b, c⟩ := ih G J rfl; exact ⟨a, b, .load q c⟩
  | update q _ ih => intro G J F; obtain ⟨a, b, c⟩ := ih G J rfl; exact ⟨a, b, .update q c⟩
  | loadIfAlive _ ih => intro G J F; obtain ⟨a, b, c⟩ := ih G J rfl; exact ⟨a, b, .loadIfAlive c⟩
  | point _ ih => intro G J F; obtain ⟨a, b, c⟩ := ih G J rfl; exact ⟨a, b, .point c⟩
  | alloc _ ih => intro G J F; obtain ⟨a, b, c⟩ := ih G J rfl; exact ⟨a, b, .alloc c⟩
  | fresh _ ih => intro G J F; obtain ⟨a, b, c⟩ := ih G J rfl; exact ⟨a, b, .fresh c⟩
  | ask _ ih => intro G J F; obtain ⟨a, b, c⟩ := ih G J rfl; exact ⟨a, b, .ask c⟩
  | choose n _ ih => intro G J F; obtain ⟨a, b, c⟩ := ih G J rfl; exact ⟨a, b, .choose n c⟩
  | os _ ih => intro G J F; obtain ⟨a, b, c⟩ := ih G J rfl; exact ⟨a, b, .os c⟩
  | handled _ ih => intro G J F; obtain ⟨a, b, c⟩ := ih G J rfl; exact ⟨a, b, .handled c⟩
  | stack _ ih => intro G J F; obtain ⟨a, b, c⟩ := ih G J rfl; exact ⟨a, b, .stack c⟩
  | thread _ ih => intro G J F; obtain ⟨a, b, c⟩ := ih G J rfl; exact ⟨a, b, .thread c⟩
  | genState q _ ih =>
    intro G J F
    obtain ⟨a, b, c⟩ := ih G J rfl
    obtain ⟨st', e1, e2⟩ := seen_back J q
    exact ⟨a, b, .genState e1 (by rw [e2]; exact c)⟩
  | newGen _ ih =>
    intro G J F
    obtain ⟨a, b, c⟩ := ih G (J.push rfl) rfl
    rw [push_back J] at c
    exact ⟨a, b, .newGen (by rw [back_size]; exact c)⟩
  | call _ _ ih1 ih2 =>
    intro G J F
    obtain ⟨a, _, c⟩ := ih1 G J rfl
    obtain ⟨a2, b2, c2⟩ := ih2 G a rfl
    exact ⟨a2, b2, .call c c2⟩
  | callSusp _ ih =>
    intro G J F
    obtain ⟨a, b, c⟩ := ih G J rfl
    refine ⟨a, ?_, .callSusp c⟩
    show List.all (_ ++ [_]) isRet = true
    rw [List.all_append, show List.all _ isRet = true from b]
    rfl
  | yield => exact fun G J _ => ⟨J, rfl, .yield⟩
  | resumeFresh q _ qt _ ih1 ih2 =>
    intro G J F
    have n := J.awake q rfl
    obtain ⟨a, b, c⟩ := ih1 G (J.set n rfl) rfl
    obtain ⟨a2, b2, c2⟩ := ih2 G (a.set n (end_ok b)) rfl
    rw [back_set n] at c c2
    exact ⟨a2, b2, .resumeFresh (back_at n q) c qt c2⟩
  | resumeSuspended q h1 qt _ ih1 ih2 =>
    intro G J F
    have n := fz_stuck J q h1
    obtain ⟨a, b, c⟩ := ih1 G (J.set n rfl) (J.ok _ _ q (not_fro n))
    obtain ⟨a2, b2, c2⟩ := ih2 G (a.set n (end_ok b)) rfl
    rw [back_set n] at c c2
    exact ⟨a2, b2, .resumeSuspended (back_at n q) c qt c2⟩
  | resumeJustStarted q nv _ ih =>
    intro G J F
    obtain ⟨a, b, c⟩ := ih G J rfl
    exact ⟨a, b, .resumeJustStarted (back_at (J.awake q rfl) q) nv c⟩
  | resumeThrowFresh q _ ih =>
    intro G J F
    have n := J.awake q rfl
    obtain ⟨a, b, c⟩ := ih G (J.set n rfl) rfl
    rw [back_set n] at c
    exact ⟨a, b, .resumeThrowFresh (back_at n q) c⟩
  | resumeRunning q _ ih =>
    intro G J F
    obtain ⟨a, b, c⟩ := ih G J rfl
    exact ⟨a, b, .resumeRunning (back_at (J.awake q rfl) q) c⟩
  | resumeFinished q _ ih =>
    intro G J F
    obtain ⟨a, b, c⟩ := ih G J rfl
    exact ⟨a, b, .resumeFinished (back_at (J.awake q rfl) q) c⟩
  | segRet _ _ ih1 ih2 =>
    intro G J F
    obtain ⟨a, _, c⟩ := ih1 G J rfl
    obtain ⟨a2, b2, c2⟩ := ih2 G a (by simpa [isRet] using F)
    exact ⟨a2, b2, .segRet c c2⟩
  | segGen _ _ _ _ => intro G J F; simp [isRet] at F
  | segSuspOut q _ ih =>
    intro G J F
    obtain ⟨a, b, c⟩ := ih G J rfl
    refine ⟨a, ?_, .segSuspOut q c⟩
    show List.all (_ ++ _) isRet = true
    rw [List.all_append, show List.all _ isRet = true from b, F]
    rfl
  | segSuspGen q _ _ _ _ _ =>
    intro G J F
    rw [split_ok _ F] at q
    cases q
theorem wakes_bk {M : Model} {Γ : Ctx} {p : Pos} {g : Nat} {r : Resume} {s s' : Shared} {res : GenResult} {G : Array GenState} (J : Fj G s.gens) (h : Wakes M Γ p g r s res s') : Fj G s'.gens ∧ Wakes M Γ p g r (back G s) res (back G s') := by
  unfold Wakes at h
  cases q : s.gens[g]? with
  | none => rw [q] at h; exact h.elim
  | some st =>
    rw [q] at h
    cases st with
    | fresh c =>
      have n := J.awake q rfl
      unfold Wakes
      rw [back_at n q]
      cases r with
      | send v =>
        cases v with
        | none =>
          obtain ⟨e1, s1, hr, qt, er, rfl⟩ := h
          obtain ⟨a, b, c⟩ := runs_bk hr G (J.set n rfl) rfl
          rw [back_set n] at c
          exact ⟨a.set n (end_ok b), e1, _, c, qt, er, back_set n _⟩
        | _ => obtain ⟨er, rfl⟩ := h; exact ⟨J, er, rfl⟩
      | throw x =>
        obtain ⟨er, rfl⟩ := h
        exact ⟨J.set n rfl, er, back_set n _⟩
    | suspended k0 l0 c0 p0 fs cl =>
      obtain ⟨e1, s1, hr, qt, er, rfl⟩ := h
      have n := fz_stuck J q hr
      obtain ⟨a, b, c⟩ := runs_bk hr G (J.set n rfl) (J.ok _ _ q (not_fro n))
      rw [back_set n] at c
      unfold Wakes
      rw [back_at n q]
      exact ⟨a.set n (end_ok b), e1, _, c, qt, er, back_set n _⟩
    | running =>
      obtain ⟨er, rfl⟩ := h
      unfold Wakes
      rw [back_at (J.awake q rfl) q]
      exact ⟨J, er, rfl⟩
    | finished =>
      obtain ⟨er, rfl⟩ := h
      unfold Wakes
      rw [back_at (J.awake q rfl) q]
      exact ⟨J, er, rfl⟩
theorem wp_bk {α : Type} (M : Model) (Γ : Ctx) (G : Array GenState) (t : Sem α) : ∀ (Q : α → Pos → Shared → Prop) (E : Value → Pos → Shared → Prop) (p : Pos) (s : Shared), Fj G s.gens → PySem.Sem.wp M Γ t Q E p s →
    PySem.Sem.wp M Γ t (fun a p' s' => ∃ z, s' = back G z ∧ Fj G z.gens ∧ Q a p' z) (fun e p' s' => ∃ z, s' = back G z ∧ Fj G z.gens ∧ E e p' z) p (back G s) := by
  induction t with
  | pure a => intro Q E p s J h; exact ⟨s, rfl, J, h⟩
  | raise e => intro Q E p s J h; exact ⟨s, rfl, J, h⟩
  | unsupported _ => intro Q E p s _ h; exact h
  | finish _ => intro Q E p s _ h; exact h
  | rule _ k ih => intro Q E p s J h; exact ih () Q E p s J h
  | «at» p' k ih => intro Q E p s J h; exact ih () Q E p' s J h
  | load a _ k ih => intro Q E p s J h; obtain ⟨o, ho, h⟩ := h; exact ⟨o, ho, ih o Q E p s J h⟩
  | update a _ f k ih => intro Q E p s J h; exact ⟨h.1, ih () Q E p { s with heap := s.heap.update a f } J h.2⟩
  | loadIfAlive a k ih => intro Q E p s J h; exact ih _ Q E p s J h
  | point _ k ih => intro Q E p s J h; exact ih () Q E p s J h
  | register _ _ => intro Q E p s _ h; exact h
  | alloc o k ih => intro Q E p s J h; exact ih _ Q E p { s with heap := s.heap.push o } J h
  | fresh k ih => intro Q E p s J h; exact ih _ Q E p { s with toks := s.toks + 1 } J h
  | ask k ih => intro Q E p s J h; exact ih _ Q E p s J h
  | choose src m k ih => intro Q E p s J h; exact ⟨h.1, ih _ Q E p { s with drawn := s.drawn.bump src } J h.2⟩
  | os q _ k ih => intro Q E p s J h; exact ih _ Q E p { s with os := (Os.step s.os q).1 } J h
  | call c hd _ _ k ih =>
    intro Q E p s J h
    obtain ⟨r, s', hr, h⟩ := h
    obtain ⟨a, _, c2⟩ := runs_bk hr G J rfl
    exact ⟨r, back G s', c2, ih r Q E p s' a h⟩
  | handled own k ih => intro Q E p s J h; exact ih _ Q E p s J h
  | genState g k ih =>
    intro Q E p s J h
    obtain ⟨st, q, h⟩ := h
    obtain ⟨st', e1, e2⟩ := seen_back J q
    exact ⟨st', e1, by rw [e2]; exact ih _ Q E p s J h⟩
  | newGen c k ih =>
    intro Q E p s J h
    have := ih _ Q E p { s with gens := s.gens.push (.fresh c) } (J.push rfl) h
    rw [push_back J] at this
    show PySem.Sem.wp M Γ (k (back G s).gens.size) _ _ p { back G s with gens := (back G s).gens.push (.fresh c) }
    rw [back_size]
    exact this
  | resume g r _ k ih =>
    intro Q E p s J h
    obtain ⟨res, s', hw, h⟩ := h
    obtain ⟨a, b⟩ := wakes_bk J hw
    exact ⟨res, back G s', b, ih res Q E p s' a h⟩
  | yield _ _ _ _ => intro Q E p s _ h; exact h
  | stack k ih => intro Q E p s J h; exact ih _ Q E p s J h
  | fork _ _ => intro Q E p s _ h; exact h
  | thread k ih => intro Q E p s J h; exact ih _ Q E p s J h
  | await _ _ _ _ _ => intro Q E p s _ h; exact h
/-- s is f with its sleeping generators as they were when f began -/
def Fz (G : Array GenState) (s f : Shared) : Prop := s = back G f ∧ Fj G f.gens
theorem wpAny_fz {α : Type} {M : Model} {A : Around} {t : Sem α} {Q : α → Shared → Prop} {E : Value → Shared → Prop} {G : Array GenState} {s f : Shared} (z : Fz G s f) (h : wpAny M A t Q E f) :
    wpAny M A t (fun a s' => ∃ f', Fz G s' f' ∧ Q a f') (fun e s' => ∃ f', Fz G s' f' ∧ E e f') s := by
  obtain ⟨rfl, J⟩ := z
  refine wpAny_mono (fun Γ p hΓ => wp_bk M Γ G t _ _ p f J (h Γ p hΓ) : wpAny M A t (fun a s' => ∃ z, s' = back G z ∧ Fj G z.gens ∧ Q a z) (fun e s' => ∃ z, s' = back G z ∧ Fj G z.gens ∧ E e z) (back G f)) (fun _ _ ⟨z, a, b, c⟩ => ⟨z, ⟨a, b⟩, c⟩) fun _ _ ⟨z, a, b, c⟩ => ⟨z, ⟨a, b⟩, c⟩
theorem Fz.start (s : Shared) : Fz s.gens s { s with gens := s.gens.map pz } := by
  have get : ∀ i, (s.gens.map pz)[i]? = s.gens[i]?.map pz := fun i => Array.getElem?_map
  refine ⟨?_, by rw [Array.size_map]; exact Nat.le_refl _, fun i x h k => ?_, fun i y h n => ?_⟩
  · unfold back
    have : bk s.gens (s.gens.map pz) = s.gens := by
      apply Array.ext_getElem?
      intro i
      rw [bk_get, get]
      cases e : s.gens[i]? with
      | none => rfl
      | some x =>
        show some (one1 s.gens i (pz x)) = some x
        by_cases f : Fro s.gens i
        · obtain ⟨y, h, k⟩ := f
          rw [one1_fro h k]
          rw [e] at h
          cases h
          rfl
        · rw [one1_not f]
          have := not_fro f x e
          cases x <;> first | rfl | cases this
    show s = { s with gens := bk s.gens (s.gens.map pz) }
    rw [this]
  · show (s.gens.map pz)[i]? = _
    rw [get, h]
    rfl
  · have h : (s.gens.map pz)[i]? = some y := h
    rw [get] at h
    cases e : s.gens[i]? with
    | none => rw [e] at h; cases h
    | some x =>
      rw [e] at h
      have h : pz x = y := Option.some.inj h
      have := n x e
      subst h
      cases x <;> first | rfl | cases this
theorem Fz.at {G : Array GenState} {s f : Shared} (z : Fz G s f) {g : Nat} {x : GenState} (h : G[g]? = some x) (k : slp x = true) : s.gens[g]? = some x := by
  obtain ⟨rfl, J⟩ := z
  show (bk G f.gens)[g]? = _
  rw [bk_get, J.fz g x h k]
  show some (one1 G g (pz x)) = _
  rw [one1_fro h k]
theorem Fz.bare {G : Array GenState} {s f : Shared} (z : Fz G s f) (hG : PyProof.Rows.AllBare G) (hf : PyProof.Rows.AllBare f.gens) : PyProof.Rows.AllBare s.gens := by
  obtain ⟨rfl, J⟩ := z
  intro y hy
  obtain ⟨i, hi, e⟩ := Array.mem_iff_getElem.mp hy
  have h : (bk G f.gens)[i]? = some y := by rw [← e]; exact Array.getElem?_eq_getElem hi
  rw [bk_get] at h
  cases q : f.gens[i]? with
  | none => rw [q] at h; cases h
  | some u =>
    rw [q] at h
    have h : one1 G i u = y := Option.some.inj h
    by_cases w : Fro G i
    · obtain ⟨x, hx, k⟩ := w
      rw [one1_fro hx k] at h
      subst h
      exact hG _ (Array.mem_of_getElem? hx)
    · rw [one1_not w] at h
      subst h
      exact hf _ (Array.mem_of_getElem? q)
theorem pz_bare {x : GenState} : (pz x).bare = x.bare := by cases x <;> rfl
theorem Fz.start_bare {s : Shared} (h : PyProof.Rows.AllBare s.gens) : PyProof.Rows.AllBare (s.gens.map pz) := fun y hy => by
  obtain ⟨x, hx, rfl⟩ := Array.mem_map.mp hy
  rw [pz_bare]
  exact h x hx
end
/-! a generator that sleeps and is woken by the frame that made it: what it keeps, what it wants -/
section
open PySem PySem.Spec PyProof.Rows GenW
/-- where it stands: the objects that it reads (as they are by Hg), its frame, its own object, the frames below, the module's objects -/
structure GP where
  ds : List Addr
  Hg : Hp
  L : Addr
  a : Addr
  outer : List Env
  base : Heap
structure Clo (ds : List Addr) (H : Hp) : Prop where
  kind : ∀ a ∈ ds, ∀ o, H a = some o → (∃ xs, o = .lst xs) ∨ (∃ xs, o = .tup xs) ∨ (∃ p, o = .own p) ∨ (∃ C dx fs, o = .ins C dx fs ∧ dx ∈ ds)
  bk : ∀ a b, H b = some (.own a) → b ∈ ds → a ∈ ds
structure GP.Ok (gp : GP) : Prop where
  clo : Clo gp.ds gp.Hg
  out : ∀ b, b ∉ gp.ds → gp.Hg b = none
  dd : ∀ b ∈ gp.ds, ∃ o, gp.Hg b = some o
  dL : gp.L ∉ gp.ds
  dF : ∀ b ∈ frs gp.outer, b ∉ gp.ds
  dB : ∀ b o, gp.base.get? b = some o → b ∉ gp.ds
  bL : gp.base.objs.size ≤ gp.L
  fL : ∀ b ∈ frs gp.outer, b < gp.L
/-- between s₀, where it is woken, and s, where it sleeps again -/
structure KpW (P : Program) (w : World) (gp : GP) (s₀ s : Shared) : Prop where
  os : s.os = s₀.os
  bare : AllBare s.gens
  keep : ∀ b o, s₀.heap.get? b = some o → b ∉ gp.ds → b ≠ gp.L → b ∉ frs gp.outer → s.heap.get? b = some o
  slot : ∀ b o, s₀.heap.get? b = some o → b ∈ frs gp.outer → ∃ sl, s.heap.get? b = some { o with slots := sl }
  there : ∀ b o, s₀.heap.get? b = some o → ∃ o', s.heap.get? b = some o'
  ds : ∃ H', HOk P w H' s.heap ∧ ∀ b ∈ gp.ds, ∀ o, gp.Hg b = some o → H' b = some o
/-- between s, where it sleeps, and s', where it is woken -/
structure Wk (P : Program) (w : World) (gp : GP) (s s' : Shared) : Prop where
  os : s'.os = s.os
  bare : AllBare s'.gens
  keep : ∀ b o, b = gp.L ∨ b = gp.a → s.heap.get? b = some o → s'.heap.get? b = some o
  hok : HOk P w gp.Hg s'.heap
  bs : ∀ b o, gp.base.get? b = some o → s'.heap.get? b = some o
  funs : s'.heap.FunFrames gp.base gp.outer
/-- all that stands is tracked, to the letter, but what changes -/
def hw (gp : GP) (h : Heap) : Hp := fun b => if b ∈ gp.ds then gp.Hg b else if b = gp.L ∨ b ∈ frs gp.outer ∨ (gp.base.get? b).isSome = true then none else (h.get? b).map fun o => HO.ext fun h' => h'.get? b = some o
theorem hw_ds {gp : GP} {h : Heap} {b : Addr} (k : b ∈ gp.ds) : hw gp h b = gp.Hg b := if_pos k
theorem hw_none {gp : GP} {h : Heap} {b : Addr} (n : b ∉ gp.ds) (k : b = gp.L ∨ b ∈ frs gp.outer ∨ (gp.base.get? b).isSome = true) : hw gp h b = none := by
  unfold hw
  rw [if_neg n, if_pos k]
theorem hw_ext {gp : GP} {h : Heap} {b : Addr} {o : Obj} (n : b ∉ gp.ds) (k : ¬ (b = gp.L ∨ b ∈ frs gp.outer ∨ (gp.base.get? b).isSome = true)) (e : h.get? b = some o) : hw gp h b = some (HO.ext fun h' => h'.get? b = some o) := by
  unfold hw
  rw [if_neg n, if_neg k, e]
  rfl
/-- an object of these kinds, by another abstract heap -/
theorem obj_by {P : Program} {w : World} {H H2 H3 : Hp} {h h2 : Heap} {a : Addr} {o : HO} {ds : List Addr} (k : (∃ xs, o = .lst xs) ∨ (∃ xs, o = .tup xs) ∨ (∃ p, o = .own p) ∨ (∃ C dx fs, o = .ins C dx fs ∧ dx ∈ ds)) (x : ObjOk P w H h a o) (y : ObjOk P w H2 h2 a o)
    (c : ∀ dx ∈ ds, H2 dx = some (.own a) → H3 dx = some (.own a)) : ObjOk P w H3 h a o := by
  rcases k with ⟨xs, rfl⟩ | ⟨xs, rfl⟩ | ⟨p, rfl⟩ | ⟨C, dx, fs, rfl, hd⟩
  · exact x
  · exact x
  · exact x
  · obtain ⟨_, r⟩ := x
    exact ⟨c dx hd y.1, r⟩
theorem hw_ok {P : Program} {w : World} {gp : GP} (ok : gp.Ok) {h : Heap} (k : HOk P w gp.Hg h) : HOk P w (hw gp h) h := by
  intro b o e
  by_cases m : b ∈ gp.ds
  · rw [hw_ds m] at e
    exact obj_by (ok.clo.kind b m o e) (k b o e) (k b o e) fun dx hd q => by rw [hw_ds hd]; exact q
  · by_cases z : b = gp.L ∨ b ∈ frs gp.outer ∨ (gp.base.get? b).isSome = true
    · rw [hw_none m z] at e; cases e
    · cases q : h.get? b with
      | none =>
        unfold hw at e
        rw [if_neg m, if_neg z, q] at e
        cases e
      | some u =>
        rw [hw_ext m z q] at e
        cases e
        exact ⟨q, ⟨u, q⟩, fun h1 h2 e1 k => k u e1⟩
def cutS (s : Shared) (n : Nat) : Shared := { s with heap := { s.heap with objs := (s.heap.objs.toList.take n).toArray } }
theorem cut_get (s : Shared) (n b : Nat) : (cutS s n).heap.get? b = if b < n then s.heap.get? b else none := by
  have e : (cutS s n).heap.objs[b]? = if b < n then s.heap.objs[b]? else none := by
    show (s.heap.objs.toList.take n).toArray[b]? = _
    rw [List.getElem?_toArray, List.getElem?_take, Array.getElem?_toList]
  unfold Heap.get?
  rw [e]
  by_cases k : b < n
  · rw [if_pos k, if_pos k]
  · rw [if_neg k, if_neg k]
theorem cut_size (s : Shared) (n : Nat) : (cutS s n).heap.objs.size ≤ n := by
  show (s.heap.objs.toList.take n).toArray.size ≤ n
  rw [List.size_toArray, List.length_take]
  omega
def cg (P : Program) (w : World) (K : PySem.W.Frag) (mg : Str → Option Value) (gp : GP) (N : List Str) (env : Env) (A : Around) (s : Shared) : Cx where
  prog := P
  w := w
  K := K
  mg := mg
  base := gp.base
  A := A
  N := N
  s_0 := cutS s gp.L
  H_0 := hw gp s.heap
  env := env
  outer := gp.outer
  stack := env :: gp.outer
  ex := []
  calm := true
  fn := fun _ => true
  pn := []
  xe := fun _ _ => False
/-- what stands of the generator's frame, once and for all -/
structure GE (K : PySem.W.Frag) (mg : Str → Option Value) (gp : GP) (env : Env) (A : Around) : Prop where
  mod : Mod K mg gp.base
  kind : env.scope.kind = .function
  glob : env.globals = mainGlobals
  blt : env.builtins = builtinsNs
  loc : env.locals = gp.L
  fr : env.frame = some gp.L
  cells : env.cells = []
  nocell : ∀ x, env.kindOf x ≠ some .cell ∧ env.kindOf x ≠ some .free
  hd : A.handled = none
  frames : A.frames = some (env :: gp.outer)
theorem fun_mem {h h' base : Heap} : ∀ {l : List Env}, h.FunFrames base l → (∀ b ∈ frs l, ∀ o, h.get? b = some o → ∃ sl, h'.get? b = some { o with slots := sl }) → h'.FunFrames base l
  | [], _, _ => trivial
  | env :: l, f, k => by
    obtain ⟨hk, ⟨L, o, hf, hn, ho, hd⟩, hr⟩ := f
    obtain ⟨sl, e⟩ := k L (List.mem_filterMap.mpr ⟨env, List.mem_cons_self, hf⟩) o ho
    refine ⟨hk, ⟨L, _, hf, hn, e, hd⟩, fun_mem hr fun b hb => k b ?_⟩
    obtain ⟨e2, h2, q⟩ := List.mem_filterMap.mp hb
    exact List.mem_filterMap.mpr ⟨e2, List.mem_cons_of_mem _ h2, q⟩
theorem fun_cut {s : Shared} {gp : GP} (ok : gp.Ok) (f : s.heap.FunFrames gp.base gp.outer) : (cutS s gp.L).heap.FunFrames gp.base gp.outer :=
  fun_mem f fun b m o e => ⟨o.slots, by rw [cut_get, if_pos (ok.fL b m)]; exact e⟩
/-- its frame's names, at s -/
def LocG (N : List Str) (env : Env) (L : Addr) (σ : L2.St) (s : Shared) : Prop := ∃ m, s.heap.Ns L m ∧ ∀ (i : Nat) (x : Str) (v : V), N[i]? = some x → σ[i]? = some (some v) → Vis env.scope x → ∃ u, RelV v u ∧ Look env s.heap m x u
section
variable {P : Program} {w : World} {K : PySem.W.Frag} {mg : Str → Option Value} {gp : GP} {N : List Str} {env : Env} {A : Around} {s s' : Shared} {σ : L2.St} {H : Hp}
theorem LocG.move (ge : GE K mg gp env A) (x : LocG N env gp.L σ s) (k : ∀ o, s.heap.get? gp.L = some o → s'.heap.get? gp.L = some o) : LocG N env gp.L σ s' := by
  obtain ⟨m, hn, hl⟩ := x
  refine ⟨m, hn.at' k, fun i x v e1 e2 e3 => ?_⟩
  obtain ⟨u, r, l⟩ := hl i x v e1 e2 e3
  refine ⟨u, r, ?_⟩
  rcases l with l | ⟨c, _⟩
  · exact .inl l
  · exact absurd c (fun z => z.elim (ge.nocell x).1 (ge.nocell x).2)
/-- woken: the state is one of ours -/
theorem inv_wake (ge : GE K mg gp env A) (ok : gp.Ok) (hok : HOk P w gp.Hg s.heap) (bs : ∀ b o, gp.base.get? b = some o → s.heap.get? b = some o) (funs : s.heap.FunFrames gp.base gp.outer) (bare : AllBare s.gens) (loc : LocG N env gp.L σ s) (len : σ.length = N.length) :
    Inv (cg P w K mg gp N env A s) [] σ (hw gp s.heap) s := by
  have nc : ∀ x c, (cg P w K mg gp N env A s).env.cells.lookup x = some c → False := fun x c e => by
    have e : env.cells.lookup x = some c := e
    rw [ge.cells] at e
    cases e
  have cutk : ∀ b o, (cutS s gp.L).heap.get? b = some o → s.heap.get? b = some o := fun b o e => by
    rw [cut_get] at e
    split at e
    · exact e
    · cases e
  have bL : ∀ b o, gp.base.get? b = some o → b < gp.L := fun b o e => Nat.lt_of_lt_of_le (Heap.lt_size e) ok.bL
  have lt : gp.L < s.heap.objs.size := let ⟨_, hn, _⟩ := loc; hn.lt
  refine ⟨⟨ge.mod, ge.kind, ge.glob, ge.blt, ?_, fun x y c e => (nc x c e).elim, fun x h => ?_, fun x c _ e => (nc x c e).elim, fun _ => ge.hd, ge.frames, .inr ⟨rfl, ?_⟩, (fun b z => nomatch z), fun b o e => ⟨?_, ?_⟩, ?_, (fun b o _ z => nomatch z), (fun b z => nomatch z), fun_cut ok funs, fun b m => ?_⟩,
    rfl, bare, ⟨fun b o e _ _ _ => cutk b o e, fun b o e _ _ _ => ⟨o.slots, cutk b o e⟩, fun b o _ n _ => n, fun b o e _ => ⟨o, cutk b o e⟩, fun _ _ e => e, fun _ _ _ e => e, fun b ps e => ⟨#[], by rw [show hw gp s.heap b = some (HO.tbl ps) from e]; simp⟩⟩, ?_, fun x c e => (nc x c e).elim, ?_, fun x c e => (nc x c e).elim, (fun p hp => nomatch hp), hw_ok ok hok, len⟩
  · show (cutS s gp.L).heap.objs.size ≤ env.locals
    rw [ge.loc]
    exact cut_size s gp.L
  · exact h.elim (fun z => absurd z (ge.nocell x).1) (fun z => absurd z (ge.nocell x).2)
  · show env.frame = some env.locals
    rw [ge.loc]
    exact ge.fr
  · show (cutS s gp.L).heap.get? b = some o
    rw [cut_get, if_pos (bL b o e)]
    exact bs b o e
  · exact hw_none (ok.dB b o e) (.inr (.inr (by rw [show gp.base.get? b = some o from e]; rfl)))
  · refine Nat.le_trans ok.bL ?_
    have l1 : (cutS s gp.L).heap.objs.size = min gp.L s.heap.objs.size := by
      show (s.heap.objs.toList.take gp.L).toArray.size = _
      rw [List.size_toArray, List.length_take, Array.length_toList]
    show gp.L ≤ (cutS s gp.L).heap.objs.size
    rw [l1]
    exact Nat.le_min.mpr ⟨Nat.le_refl _, Nat.le_of_lt lt⟩
  · exact hw_none (ok.dF b m) (.inr (.inl m))
  · show ∃ m, s.heap.Ns env.locals m ∧ _
    rw [ge.loc]
    exact loc
  · show hw gp s.heap env.locals = none
    rw [ge.loc]
    exact hw_none ok.dL (.inl rfl)
/-- from the waking on, what was is kept -/
theorem kp_of (ge : GE K mg gp env A) (ok : gp.Ok) {s₀ : Shared} (I : Inv (cg P w K mg gp N env A s₀) [] σ H s) (sm : Same (hw gp s₀.heap) H) (bs : ∀ b o, gp.base.get? b = some o → s₀.heap.get? b = some o) (h0 : HOk P w gp.Hg s₀.heap) : KpW P w gp s₀ s := by
  have fu : Un (frs gp.outer) [] (hw gp s₀.heap) H (cutS s₀ gp.L).heap s.heap := I.base
  have keep : ∀ b o, s₀.heap.get? b = some o → b ∉ gp.ds → b ≠ gp.L → b ∉ frs gp.outer → s.heap.get? b = some o := fun b o e n1 n2 n3 => by
    by_cases z : (gp.base.get? b).isSome = true
    · obtain ⟨u, hu⟩ := Option.isSome_iff_exists.mp z
      have e2 := bs b u hu
      rw [e] at e2
      cases e2
      exact I.bk b o hu
    · have t := sm b _ (hw_ext n1 (fun q => q.elim n2 fun q => q.elim n3 z) e)
      exact (I.hok b _ t).1
  have slot : ∀ b o, s₀.heap.get? b = some o → b ∈ frs gp.outer → ∃ sl, s.heap.get? b = some { o with slots := sl } := fun b o e m =>
    fu.slot b o (by rw [cut_get, if_pos (ok.fL b m)]; exact e) (hw_none (ok.dF b m) (.inr (.inl m))) m (fun z => nomatch z)
  have dsk : ∀ b ∈ gp.ds, ∀ o, gp.Hg b = some o → H b = some o := fun b m o e => sm b o (by rw [hw_ds m]; exact e)
  refine ⟨I.os, I.bare, keep, slot, fun b o e => ?_, H, I.hok, dsk⟩
  by_cases m : b ∈ gp.ds
  · obtain ⟨u, q⟩ := ok.dd b m
    have x := I.hok b u (dsk b m u q)
    rcases ok.clo.kind b m u q with ⟨xs, rfl⟩ | ⟨xs, rfl⟩ | ⟨p, rfl⟩ | ⟨C, dx, fs, rfl, _⟩
    · obtain ⟨_, _, _, _, e⟩ := x
      exact ⟨_, e⟩
    · obtain ⟨_, _, _, ob, e, _⟩ := x
      exact ⟨_, e⟩
    · obtain ⟨ob, e⟩ := x
      exact ⟨_, e⟩
    · obtain ⟨_, _, _, e, _⟩ := x
      exact ⟨_, e⟩
  · by_cases z : b = gp.L
    · obtain ⟨m', ⟨ob, _, _, e2, _⟩, _⟩ := I.loc
      have e2 : s.heap.get? env.locals = some ob := e2
      rw [ge.loc] at e2
      exact ⟨ob, by rw [z]; exact e2⟩
    · by_cases f : b ∈ frs gp.outer
      · obtain ⟨sl, x⟩ := slot b o e f
        exact ⟨_, x⟩
      · exact ⟨o, keep b o e m z f⟩
end
section
variable {X : Cx} {pins : List (Addr × Obj)} {σ : L2.St} {H : Hp} {s s0 s1 : Shared} {gp : GP}
/-- the frame that woke it goes on -/
theorem after_kp (ok : gp.Ok) (I : Inv X pins σ H s) (hst : X.stack = gp.outer) (kp : KpW X.prog X.w gp s0 s1) (hs : s0.heap = s.heap) (ho : s0.os = s.os) (ag : ∀ b ∈ gp.ds, H b = gp.Hg b) (hL : H gp.L = none)
    (exL : (gp.L ∈ X.ex ∨ X.s_0.heap.objs.size ≤ gp.L) ∧ gp.L ≠ X.env.locals ∧ (∀ x c, X.env.cells.lookup x = some c → c ≠ gp.L) ∧ ∀ p ∈ X.pn ++ pins, p.1 ≠ gp.L) : Inv X pins σ H s1 := by
  have nd : ∀ b, H b = none → b ∉ gp.ds := fun b n m => by
    obtain ⟨o, q⟩ := ok.dd b m
    rw [← ag b m, n] at q
    cases q
  refine I.call' (ch := [gp.L]) (kp.os.trans ho) ⟨fun b o e n nf nx => ?_, fun b o e n m nx => ?_, fun b o _ n _ => n, fun b o e _ => kp.there b o (by rw [hs]; exact e), fun _ _ e => e, fun _ _ _ e => e, fun b ps e => ⟨#[], by rw [e]; simp⟩⟩ (fun b o e => ?_) kp.bare fun b hb => by
    rw [List.mem_singleton.mp hb]
    exact exL
  · exact kp.keep b o (by rw [hs]; exact e) (nd b n) (fun z => nx (List.mem_singleton.mpr z)) (by rw [← hst]; exact nf)
  · exact kp.slot b o (by rw [hs]; exact e) (by rw [← hst]; exact m)
  · by_cases m : b ∈ gp.ds
    · obtain ⟨H', hk, hd⟩ := kp.ds
      have q : gp.Hg b = some o := by rw [← ag b m]; exact e
      exact obj_by (ok.clo.kind b m o q) (hk b o (hd b m o q)) (I.hok b o e) fun _ _ z => z
    · refine (I.hok b o e).stay (fun c u hc q => ?_) (fun _ z => z) fun _ _ z => z
      have tr : ∃ u, H c = some u := hc.elim (fun z => ⟨o, by rw [z]; exact e⟩) fun z => ⟨_, z⟩
      obtain ⟨u', tr⟩ := tr
      refine kp.keep c u (by rw [hs]; exact q) (fun z => ?_) (fun z => ?_) (fun z => ?_)
      · rcases hc with y | y
        · exact m (by rw [← y]; exact z)
        · exact m (ok.clo.bk b c (by rw [← ag c z]; exact y) z)
      · rw [z, hL] at tr; cases tr
      · rw [I.stkFree c (by rw [hst]; exact z)] at tr; cases tr
/-- it may be woken -/
theorem wk_of (ok : gp.Ok) (I : Inv X pins σ H s1) (hst : X.stack = gp.outer) (hb : X.base = gp.base) (ag : ∀ b ∈ gp.ds, H b = gp.Hg b) (os : s1.os = s.os) (keep : ∀ b o, b = gp.L ∨ b = gp.a → s.heap.get? b = some o → s1.heap.get? b = some o) : Wk X.prog X.w gp s s1 := by
  refine ⟨os, I.bare, keep, fun b o e => ?_, fun b o e => I.bk b o (by rw [hb]; exact e), by rw [← hst, ← hb]; exact I.stack⟩
  by_cases m : b ∈ gp.ds
  · have x := I.hok b o (by rw [ag b m]; exact e)
    exact obj_by (ok.clo.kind b m o e) x x fun dx hd q => by rw [← ag dx hd]; exact q
  · rw [ok.out b m] at e
    cases e
theorem Wk.run {P : Program} {w : World} (x : Wk P w gp s s1) (g : Nat) : Wk P w gp s (s1.setGen g .running) := ⟨x.os, allBare_setGen x.bare rfl, x.keep, x.hok, x.bs, x.funs⟩
end
/-! ### next(generator) -/
/-- the rest of its run, where there is one -/
def GoesOn (M : Model) (A : Around) (R : GenEnd) (Y : Protocol) : Nat → GenState → Resume → Shared → Prop
  | 0 => fun _ _ _ => False
  | m + 1 => fun gs r s => gs.Goes M A R Y m r s
section
variable {M : Model}
theorem resume_slp {A : Around} {R : GenEnd} {Y : Protocol} {n : Nat} {E : Value → Shared → Prop} {s : Shared} {g : Nat} {gs : GenState} {r : Resume} {l : List Value} {α : Type} {k : GenResult → Sem α} {Q : α → Shared → Prop} (at_ : s.gens[g]? = some gs) (goes : gs.Goes M A R Y n r (s.setGen g .running))
    (fin : ∀ x s1, R n (s.setGen g .running) x s1 → wpAny M A (k (End.ret x).result) Q E (s1.setGen g .finished))
    (out : ∀ v s1 gs', gs'.bare = true → slp gs' = true → Y (n - 1) (s.setGen g .running) v s1 (GoesOn M A R Y n gs') → wpAny M A (k (.yielded v)) Q E (s1.setGen g gs')) :
    wpAny M A (.resume g r l k) Q E s := by
  intro Γ p hΓ
  rw [Sem.wp_resume]
  have woken : ∀ c, (Γ.wake c p).Woken A := fun c => hΓ.wake c p
  have both : ∀ e1 s1, SegEnd R Y n (Seg.next M A R Y n) (s.setGen g .running) e1 s1 → e1.quiet = true ∧ PySem.Sem.wp M Γ (k e1.result) (fun a _ s' => Q a s') (fun e _ s' => E e s') p (s1.setGen g e1.genState) := by
    intro e1 s1 he
    cases e1 with
    | ret x => exact ⟨rfl, fin x s1 he Γ p hΓ⟩
    | susp v g0 l0 k0 c0 p0 fs0 =>
      refine ⟨he.1, out v s1 _ (End.bare_of_quiet he.1) rfl ?_ Γ p hΓ⟩
      cases n with
      | zero => exact he.2
      | succ m => exact he.2
  cases gs with
  | running => exact False.elim goes
  | finished => exact False.elim goes
  | fresh c =>
    obtain ⟨rfl, h⟩ := goes
    obtain ⟨e1, s1, run, he⟩ := seg_iff.mp h (Γ.wake c p) p rfl (woken c)
    obtain ⟨b1, b2⟩ := both e1 s1 he
    refine ⟨_, _, ?_, b2⟩
    unfold Wakes
    rw [at_]
    exact ⟨e1, s1, run, b1, rfl, rfl⟩
  | suspended k0 l0 c0 p0 fs0 cl =>
    obtain ⟨e1, s1, run, he⟩ := seg_iff.mp goes (Γ.wake c0 p) p0 rfl (woken c0)
    obtain ⟨b1, b2⟩ := both e1 s1 he
    refine ⟨_, _, ?_, b2⟩
    unfold Wakes
    rw [at_]
    exact ⟨e1, s1, run, b1, rfl, rfl⟩
end
section
variable {P : Program} {w : World} {A : Around} {E : Value → Shared → Prop} {s : Shared}
theorem next_slp {a : Addr} {g n : Nat} {gs : GenState} {F : Nat → Shared → Shared → Prop} {Y : Protocol} {Q : Option Value → Shared → Prop} (calm : A.handled = none) (nl : s.heap.NoLimit) (room : A.depth < recursionLimit) (ig : s.heap.IsGen a g) (at_ : s.gens[g]? = some gs)
    (goes : gs.Goes (model P w) A.in1 (fun n s₀ r s₁ => (r = .ok (.ret .none) ∨ r = .ok .next) ∧ F n s₀ s₁) Y n (.send .none) (s.setGen g .running))
    (out : ∀ v s1 gs', gs'.bare = true → slp gs' = true → Y (n - 1) (s.setGen g .running) v s1 (GoesOn (model P w) A.in1 (fun n s₀ r s₁ => (r = .ok (.ret .none) ∨ r = .ok .next) ∧ F n s₀ s₁) Y n gs') → Q (some v) (s1.setGen g gs'))
    (fin : ∀ s1, F n (s.setGen g .running) s1 → ∀ h', (∀ b o, s1.heap.get? b = some o → h'.get? b = some o) → Q none { s1.setGen g .finished with heap := h' }) :
    wpAny (model P w) A (pyNext (.ref a)) Q E s := by
  unfold pyNext
  refine wpAny_bind (wpAny_attempt (wpAny_callSpecial?_slot (name := Str.ofString "__next__") ig.typeIs slot_gen_next (wpAny_call_entry slot_gen_next ig.typeIs entry_gen_next ?_ (args_gen_next _))))
  show wpAny _ A.in1 (Builtin.Generator.genWake (.ref a) (.send .none)) _ _ s
  unfold Builtin.Generator.genWake
  refine wpAny_bind (wpAny_holding (wpAny_genNumber ig (wpAny_bind (wpAny_genState at_ ?_))))
  cases gs with
  | running => exact False.elim goes
  | finished => exact False.elim goes
  | _ =>
    refine wpAny_bind (wpAny_roomToWake nl room ?_)
    show wpAny _ A.in1 (.resume g (.send .none) [] _) _ _ s
    refine resume_slp at_ goes (fun x s1 hx => ?_) (fun v s1 gs' hb hk hv => ?_)
    · obtain ⟨hr, hp⟩ := hx
      have res : End.result (.ret x) = .returned .none := by rcases hr with hr | hr <;> rw [hr] <;> rfl
      rw [res]
      show wpAny _ A.in1 (newExc (.type "StopIteration") [] >>= _) _ _ _
      refine wpAny_bind ?_
      simp only [newExc, newTuple]
      refine wpAny_bind (wpAny_newObj_type ?_ (by size_fits))
      refine wpAny_bind (m := firstArgMember _ _) (wpAny_of_eq (a := Value.none) (by first | rfl | (simp only [firstArgMember]; rfl)) ?_)
      refine wpAny_newObj_type ?_ (by size_fits)
      simp only [raiseNew]
      refine wpAny_bind (wpAny_bind (wpAny_handled ?_))
      first | rw [show A.in1.handled = none from calm] | rw [calm]
      refine wpAny_throw ?_
      refine wpAny_bind (wpAny_isInstance (T := "StopIteration") (b := true) ⟨_, Heap.get?_push_size _ rfl, rfl⟩ isSubtype_stop ?_)
      exact wpAny_pure (fin s1 hp _ fun b o hb => Heap.get?_push_of_some _ (Heap.get?_push_of_some _ hb))
    · exact wpAny_pure ⟨v, rfl, wpAny_pure (out v s1 gs' hb hk hv)⟩
end
end
/-! dances(start), a generator method: the least dances of v from the rank on, one each time that it is woken -/
section
open PySem PySem.Spec PyProof.Rows GenW
def wTst : Expr := match defBody s_Ldances with
  | [_, .While t _ _ _] => t
  | _ => .Name "" ⟨0, 0, 0, 0⟩
def wBdy : List Stmt := match defBody s_Ldances with
  | [_, .While _ b _ _] => b
  | _ => []
theorem sc_Ldances : GScope ["self", "start", "rank"] ["self", "start"] (defScope s_Ldances) := ⟨rfl, rfl, rfl, by decide +kernel, rfl, by decide +kernel, by decide +kernel⟩
abbrev envD (L f : Addr) (cdv : Value) : Env := envOfC "LeastDances.dances" (defScope s_Ldances) L f cdv
abbrev ND : List Str := ["self", "start", "rank"]
def itD (v : Int × Int) (k : Nat) : V := .str (S (ld (rl v) k))
def totD (v : Int × Int) : Nat := wy (ns_ (rl v))
def FD (P : Program) (w : World) (gp : GP) : Nat → Shared → Shared → Prop := fun n s₀ s₁ => n = 0 ∧ KpW P w gp s₀ s₁
def RD (P : Program) (w : World) (gp : GP) : GenEnd := fun n s₀ r s₁ => (r = .ok (.ret .none) ∨ r = .ok .next) ∧ FD P w gp n s₀ s₁
def YD (P : Program) (w : World) (gp : GP) (v : Int × Int) : Protocol := fun n s₀ u s kap => ∃ k, totD v = k + n + 1 ∧ RelV (itD v k) u ∧ KpW P w gp s₀ s ∧ (∃ o, s.heap.get? gp.L = some o ∧ ∀ c, o.data ≠ .cell c) ∧ ∀ s', Wk P w gp s s' → kap (.send .none) s'
theorem nocell_D (L f : Addr) (cdv : Value) : ∀ x, (envD L f cdv).kindOf x ≠ some .cell ∧ (envD L f cdv).kindOf x ≠ some .free := fun x => by
  have h : ∀ y ∈ (defScope s_Ldances).names, y.2 ≠ .cell ∧ y.2 ≠ .free := by decide +kernel
  exact ⟨fun z => (h _ (PySem.mem_of_lookup z)).1 rfl, fun z => (h _ (PySem.mem_of_lookup z)).2 rfl⟩
section
variable {P : Program} {w : World} {K : PySem.W.Frag} {mg : Str → Option Value} {gp : GP} {f : Addr} {cdv : Value} {A : Around} {C : Addr} {p : Addr} {v : Int × Int} {g1 g2 pr : Addr} {fd1 fd2 : FuncData}
theorem ge_D (mod : Mod K mg gp.base) (hd : A.handled = none) (fr : A.frames = some gp.outer) : GE K mg gp (envD gp.L f cdv) (A.deeper (envD gp.L f cdv)) :=
  ⟨mod, rfl, rfl, rfl, rfl, rfl, rfl, nocell_D _ _ _, hd, Around.frames_deeper fr⟩
theorem frame_no_cell {s : Shared} {m : Str → Option Value} {L : Addr} (h : s.heap.Ns L m) : ∃ o, s.heap.get? L = some o ∧ ∀ c, o.data ≠ .cell c := by
  obtain ⟨o, es, ep, ho, hd, _⟩ := h
  exact ⟨o, ho, fun c z => by rw [hd] at z; cases z⟩
/-- the loop of its body -/
theorem loop_D (T : TxL K mg C) (MD : Meth K C "dance" g1) (GD : FnOk P w K mg gp.base CX0 3 g1 fd1 ["self", "rank"] (spDanceL C)) (BD : Binds K fd1 ["self", "rank"] []) (PR : PropOf K C "dance_count" pr g2) (GC : FnOk P w K mg gp.base CX0 1 g2 fd2 ["self"] (spCountL C)) (BC : Binds K fd2 ["self"] [])
    (mod : Mod K mg gp.base) (hr : Room 4 A) (fr : A.frames = some gp.outer) (ok : gp.Ok) (ob : LdAt C gp.Hg p v) (gv : Good v) (zs : stp v ≤ 2000) (st : Int) {c0 : Code} {kk : Result → Sem PySem.Fin} {l kp : List Value} {pp : Pos} (hov : A.over c0 [] = A.deeper (envD gp.L f cdv))
    (hend : ∀ n s₀ s, FD P w gp n s₀ s → Seg (model P w) A (RD P w gp) (YD P w gp v) n s₀ c0 (kk (.ok .next)) [] s) :
    ∀ (m k : Nat) (s₀ s : Shared) (H : Hp), m = totD v - k → HOk P w gp.Hg s₀.heap → (∀ b o, gp.base.get? b = some o → s₀.heap.get? b = some o) → Inv (cg P w K mg gp ND (envD gp.L f cdv) (A.deeper (envD gp.L f cdv)) s₀) [] [some (.ref p), some (.int st), some (.int (k : Int))] H s → Same (hw gp s₀.heap) H →
      Seg (model P w) A (RD P w gp) (YD P w gp v) m s₀ (.whileLoop wTst wBdy [] (envD gp.L f cdv)) ((model P w).den (.whileLoop wTst wBdy [] (envD gp.L f cdv))) (.ret kk none false l c0 pp kp :: []) s := by
  have ge := ge_D (f := f) (cdv := cdv) mod hr.hd fr
  have hr3 := hr.deeper (envD gp.L f cdv)
  have over : A.over (.whileLoop wTst wBdy [] (envD gp.L f cdv)) (.ret kk none false l c0 pp kp :: []) = A.deeper (envD gp.L f cdv) := (over_loop rfl rfl).trans hov
  have ldk : ∀ {s₀ : Shared} {H : Hp}, Same (hw gp s₀.heap) H → LdAt C H p v := fun {s₀ H} sm => by
    have tr : ∀ b o, gp.Hg b = some o → H b = some o := fun b o e => by
      by_cases m : b ∈ gp.ds
      · exact sm b o (by rw [hw_ds m]; exact e)
      · rw [ok.out b m] at e; cases e
    exact ob.same tr
  intro m
  induction m with
  | zero =>
    intro k s₀ s H hm hok bs I sm
    refine seg_whileLoop ?_
    rw [over]
    have o1 := ldk sm
    obtain ⟨dx, t, r, w', hp, _⟩ := id o1
    refine wpAny_mono ((show PT (cg P w K mg gp ND (envD gp.L f cdv) (A.deeper (envD gp.L f cdv)) s₀) wTst _ from (pt_cmpR op_lt (pv 2) (pe_prop (pv 0) T.cl PR GC (hr3.mono (by decide)) BC .nil pass0 rfl) (nomark _))).run [] s _ H (fun b H' => b = false ∧ H' = H) I
      ⟨_, rfl, _, rfl, p, dx, _, rfl, hp, p, v, rfl, o1, gv, _, _, rfl, rfl, _, rfl, decide_eq_false (by unfold totD at hm; omega), rfl⟩) (fun b s1 hb => ?_) fun x s1 hx => False.elim hx
    obtain ⟨H1, I1, rfl, rfl⟩ := hb
    rw [if_neg Bool.false_ne_true]
    refine seg_execs_nil ?_
    exact seg_leaf (.ok .next) (hend 0 s₀ s1 ⟨rfl, kp_of ge ok I1 sm bs hok⟩)
  | succ m ih =>
    intro k s₀ s H hm hok bs I sm
    refine seg_whileLoop ?_
    rw [over]
    have o1 := ldk sm
    obtain ⟨dx, t, r, w', hp, _⟩ := id o1
    refine wpAny_mono ((show PT (cg P w K mg gp ND (envD gp.L f cdv) (A.deeper (envD gp.L f cdv)) s₀) wTst _ from (pt_cmpR op_lt (pv 2) (pe_prop (pv 0) T.cl PR GC (hr3.mono (by decide)) BC .nil pass0 rfl) (nomark _))).run [] s _ H (fun b H' => b = true ∧ H' = H) I
      ⟨_, rfl, _, rfl, p, dx, _, rfl, hp, p, v, rfl, o1, gv, _, _, rfl, rfl, _, rfl, decide_eq_true (by unfold totD at hm; omega), rfl⟩) (fun b s1 hb => ?_) fun x s1 hx => False.elim hx
    obtain ⟨H1, I1, rfl, rfl⟩ := hb
    rw [if_pos rfl]
    have kt : k < wy (ns_ (rl v)) := by unfold totD at hm; omega
    refine seg_execs_cons (seg_Expr_Yield rfl rfl rfl ?_)
    rw [over]
    refine wpAny_mono ((pe_meth (X := cg P w K mg gp ND (envD gp.L f cdv) (A.deeper (envD gp.L f cdv)) s₀) (pv 0) T.cl MD GD hr3 BD .nil pass0 (pa_cons (pv 2) pa_nil)).run [] s1 _ H1 (fun x H' => x = itD v k ∧ Same H1 H') I1
      ⟨_, rfl, p, dx, _, rfl, hp, lf_no _ _ _ (by decide +kernel) (by decide +kernel) (by decide +kernel), _, rfl, p, v, k, rfl, o1, gv, zs, kt, fun H' s' => ⟨rfl, s'⟩⟩) (fun u s2 hu => ?_) fun x s2 hx => False.elim hx
    obtain ⟨x, H2, I2, rx, rfl, sm2⟩ := hu
    intro kap hk
    have lc : LocG ND (envD gp.L f cdv) gp.L _ s2 := I2.loc
    refine ⟨k, by omega, rx, kp_of ge ok I2 (sm.trans sm2) bs hok, (let ⟨mm, hn, _⟩ := lc; frame_no_cell hn), fun s3 wk => hk .none s3 ?_⟩
    have I3 := inv_wake (A := A.deeper (envD gp.L f cdv)) (N := ND) ge ok wk.hok wk.bs wk.funs wk.bare (lc.move ge fun o e => wk.keep _ _ (.inl rfl) e) rfl
    show Seg _ _ _ _ m s3 _ _ _ s3
    refine seg_execs_cons (seg_wrap ?_)
    rw [over]
    refine wpAny_mono ((ps_aug (X := cg P w K mg gp ND (envD gp.L f cdv) (A.deeper (envD gp.L f cdv)) s3) (i := 2) sc_Ldances.nd rfl (.inl rfl) pe_int ip_add).run [] s3 _ _ { nx := fun σ' H' => σ' = [some (.ref p), some (.int st), some (.int ((k + 1 : Nat) : Int))] ∧ H' = hw gp s3.heap, rt := fun _ _ => False } I3
      ⟨_, rfl, _, _, rfl, rfl, rfl, rfl⟩) (fun fl s4 hf => ?_) fun x s4 hx => False.elim hx
    cases fl with
    | next =>
      obtain ⟨σ4, H4, I4, rfl, rfl⟩ := hf
      exact seg_again rfl (ih (k + 1) s3 s4 _ (by omega) wk.hok wk.bs I4 (Same.refl _))
    | brk => obtain ⟨_, _, _, q⟩ := hf; exact False.elim q
    | cont => obtain ⟨_, _, _, q⟩ := hf; exact False.elim q
    | ret u => obtain ⟨_, _, _, _, _, q⟩ := hf; exact False.elim q
/-- its run from the first waking on -/
theorem seg_D (T : TxL K mg C) (MD : Meth K C "dance" g1) (GD : FnOk P w K mg gp.base CX0 3 g1 fd1 ["self", "rank"] (spDanceL C)) (BD : Binds K fd1 ["self", "rank"] []) (PR : PropOf K C "dance_count" pr g2) (GC : FnOk P w K mg gp.base CX0 1 g2 fd2 ["self"] (spCountL C)) (BC : Binds K fd2 ["self"] [])
    (mod : Mod K mg gp.base) (hr : Room 4 A) (fr : A.frames = some gp.outer) (ok : gp.Ok) (ob : LdAt C gp.Hg p v) (gv : Good v) (zs : stp v ≤ 2000) (k : Nat) {s : Shared} (hok : HOk P w gp.Hg s.heap) (bs : ∀ b o, gp.base.get? b = some o → s.heap.get? b = some o) (funs : s.heap.FunFrames gp.base gp.outer) (bare : AllBare s.gens)
    (loc : LocG ND (envD gp.L f cdv) gp.L [some (.ref p), some (.int (k : Int)), none] s) :
    Seg (model P w) A (RD P w gp) (YD P w gp v) (totD v - k) s (.func (defBody s_Ldances) (envD gp.L f cdv)) ((model P w).den (.func (defBody s_Ldances) (envD gp.L f cdv))) [] s := by
  have ge := ge_D (f := f) (cdv := cdv) mod hr.hd fr
  have I0 := inv_wake (A := A.deeper (envD gp.L f cdv)) (N := ND) ge ok hok bs funs bare loc rfl
  refine seg_func (seg_execs_cons (seg_wrap ?_))
  rw [over_func]
  refine wpAny_mono ((ps_set (X := cg P w K mg gp ND (envD gp.L f cdv) (A.deeper (envD gp.L f cdv)) s) (i := 2) sc_Ldances.nd rfl (.inl rfl) (pv 1)).run [] s _ _ { nx := fun σ' H' => σ' = [some (.ref p), some (.int (k : Int)), some (.int (k : Int))] ∧ H' = hw gp s.heap, rt := fun _ _ => False } I0
    ⟨_, rfl, rfl, rfl⟩) (fun fl s1 hf => ?_) fun x s1 hx => False.elim hx
  cases fl with
  | next =>
    obtain ⟨σ1, H1, I1, rfl, rfl⟩ := hf
    refine seg_execs_cons (seg_While fun pp => ?_)
    refine loop_D T MD GD BD PR GC BC mod hr fr ok ob gv zs (k : Int) over_func (fun n s₀ s' hF => ?_) (totD v - k) k s s1 _ rfl hok bs I1 (Same.refl _)
    exact seg_end (.ok (.ret .none)) ⟨.inl rfl, hF⟩
  | brk => obtain ⟨_, _, _, q⟩ := hf; exact False.elim q
  | cont => obtain ⟨_, _, _, q⟩ := hf; exact False.elim q
  | ret u => obtain ⟨_, _, _, _, _, q⟩ := hf; exact False.elim q
end
end
section
open PySem PySem.Spec PyProof.Rows GenW
def hrs (ds : List Addr) (H : Hp) : Hp := fun b => if b ∈ ds then H b else none
theorem hrs_in {ds : List Addr} {H : Hp} {b : Addr} (h : b ∈ ds) : hrs ds H b = H b := if_pos h
theorem hrs_out {ds : List Addr} {H : Hp} {b : Addr} (h : b ∉ ds) : hrs ds H b = none := if_neg h
/-- the objects of an object of the class -/
theorem ds_of {P : Program} {w : World} {C : Addr} {H : Hp} {h : Heap} {p : Addr} {v : Int × Int} (hok : HOk P w H h) (gv : Good v) (ob : LdAt C H p v) : ∃ ds : List Addr, LdAt C (hrs ds H) p v ∧ Clo ds (hrs ds H) ∧ ∀ b ∈ ds, ∃ o, H b = some o ∧ o ≠ .lst [] := by
  obtain ⟨dx, t, r, w', hp, hT, ⟨ts, h1, h2, h3⟩, hw⟩ := ob
  have own : H dx = some (.own p) := (hok p _ hp).1
  have rf := rl_fit gv
  have t3 : ∀ b ∈ ts, ∃ xs, H b = some (.tup xs) := fun b hb => by
    obtain ⟨i, hi⟩ := List.mem_iff_getElem?.mp hb
    have li := (List.getElem?_eq_some_iff.mp hi).1
    have lx : (rl v)[i]? = some (rl v)[i] := List.getElem?_eq_getElem (by omega)
    exact ⟨_, h3 i b _ hi lx⟩
  refine ⟨p :: dx :: t :: r :: w' :: ts, ?_, ⟨fun a ha o e => ?_, fun a b e hb => ?_⟩, fun b hb => ?_⟩
  · refine ⟨dx, t, r, w', by rw [hrs_in (by simp)]; exact hp, ?_, ⟨ts, by rw [hrs_in (by simp)]; exact h1, h2, fun i u x e1 e2 => ?_⟩, by rw [hrs_in (by simp)]; exact hw⟩
    · show hrs _ H t = _
      rw [hrs_in (by simp)]
      exact hT
    · rw [hrs_in (by simp [List.mem_of_getElem? e1])]
      exact h3 i u x e1 e2
  · rw [hrs_in ha] at e
    simp only [List.mem_cons] at ha
    rcases ha with rfl | rfl | rfl | rfl | rfl | ha
    · rw [hp] at e; cases e
      exact .inr (.inr (.inr ⟨_, _, _, rfl, by simp⟩))
    · rw [own] at e; cases e
      exact .inr (.inr (.inl ⟨_, rfl⟩))
    · rw [show H _ = _ from hT] at e; cases e
      exact .inr (.inl ⟨_, rfl⟩)
    · rw [h1] at e; cases e
      exact .inl ⟨_, rfl⟩
    · rw [hw] at e; cases e
      exact .inl ⟨_, rfl⟩
    · obtain ⟨xs, q⟩ := t3 _ ha
      rw [q] at e; cases e
      exact .inr (.inl ⟨_, rfl⟩)
  · rw [hrs_in hb] at e
    simp only [List.mem_cons] at hb
    rcases hb with rfl | rfl | rfl | rfl | rfl | hb
    · rw [hp] at e; cases e
    · rw [own] at e; cases e
      simp
    · rw [show H _ = _ from hT] at e; cases e
    · rw [h1] at e; cases e
    · rw [hw] at e; cases e
    · obtain ⟨xs, q⟩ := t3 _ hb
      rw [q] at e; cases e
  · simp only [List.mem_cons] at hb
    rcases hb with rfl | rfl | rfl | rfl | rfl | hb
    · exact ⟨_, hp, fun z => nomatch z⟩
    · exact ⟨_, own, fun z => nomatch z⟩
    · exact ⟨_, hT, fun z => nomatch z⟩
    · refine ⟨_, h1, fun z => ?_⟩
      have z : ts.map V.ref = [] := HO.lst.inj z
      have : ts.length = 0 := by rw [← List.length_map (f := V.ref), z]; rfl
      omega
    · refine ⟨_, hw, fun z => ?_⟩
      have z : nint (wys (ns_ (rl v))) = [] := HO.lst.inj z
      have : (nint (wys (ns_ (rl v)))).length = 0 := by rw [z]; rfl
      rw [nint_len, wys_len, ns_len] at this
      omega
    · obtain ⟨xs, q⟩ := t3 _ hb
      exact ⟨_, q, fun z => nomatch z⟩
/-- what a call of the method gives: a generator that has not begun -/
structure MadeD (P : Program) (w : World) (base : Heap) (outer : List Env) (v : Int × Int) (k lev : Nat) (H : Hp) (s : Shared) (u : Value) (s' : Shared) (gp : GP) (g : Nat) (go : Obj) (c : Code) : Prop where
  val : u = .ref gp.a
  ok : gp.Ok
  eo : gp.outer = outer
  eb : gp.base = base
  ag : ∀ b ∈ gp.ds, H b = gp.Hg b
  nb : ∀ b ∈ gp.ds, ∃ o, H b = some o ∧ o ≠ .lst []
  l0 : s.heap.objs.size ≤ gp.L
  l1 : gp.L < gp.a
  keep : ∀ b o, s.heap.get? b = some o → s'.heap.get? b = some o
  os : s'.os = s.os
  bare : AllBare s'.gens
  gen : s'.heap.get? gp.a = some go
  ig : ∀ h : Heap, h.get? gp.a = some go → h.IsGen gp.a g
  gc : ∀ c, go.data ≠ .cell c
  oL : ∃ o, s'.heap.get? gp.L = some o ∧ ∀ c, o.data ≠ .cell c
  at_ : s'.gens[g]? = some (.fresh c)
  run : ∀ (A : Around) (s2 : Shared), Room lev A → A.frames = some outer → Wk P w gp s' s2 → Seg (model P w) A (RD P w gp) (YD P w gp v) (totD v - k) s2 c ((model P w).den c) [] s2
theorem made_D {P : Program} {w : World} {K : PySem.W.Frag} {mg : Str → Option Value} {base : Heap} {f : Addr} {fd : FuncData} {C p g1 g2 pr : Addr} {v : Int × Int} {fd1 fd2 : FuncData} (F : Fun K "dances" "LeastDances.dances" s_Ldances f fd)
    (T : TxL K mg C) (MD : Meth K C "dance" g1) (GD : FnOk P w K mg base CX0 3 g1 fd1 ["self", "rank"] (spDanceL C)) (BD : Binds K fd1 ["self", "rank"] []) (PR : PropOf K C "dance_count" pr g2) (GC : FnOk P w K mg base CX0 1 g2 fd2 ["self"] (spCountL C)) (BC : Binds K fd2 ["self"] [])
    {A : Around} {outer : List Env} {s : Shared} {H : Hp} {args : Args} {us : List Value} {k : Nat} (room : Room 4 A) (e0 : Env0 P w K mg base A outer s H) (hb : BindsTo s fd args ((["self", "start"] : List Str).zip us)) (vals : Vals [.ref p, .int (k : Int)] us) (ob : LdAt C H p v) (gv : Good v) (zs : stp v ≤ 2000) :
    codeAny (model P w) A (.call (.ref f) args) (fun r s' => match r with | .ok (.ret u) => ∃ gp g go c, MadeD P w base outer v k 4 H s u s' gp g go c | _ => False) s := by
  obtain ⟨_, _, _, _, _, _, cdv, _, _, rfl, lk, hcd⟩ := F.ex
  have kin : K.In s.heap := e0.mod.kin.keeps fun x o q => (e0.bs x o q).1
  have nolim : s.heap.NoLimit := e0.mod.nolimit.keeps fun x o q => (e0.bs x o q).1
  have kinds : ∀ z ∈ (["self", "start"] : List Str).zip us, (defScope s_Ldances).names.lookup z.1 = some .local ∨ ((defScope s_Ldances).names.lookup z.1 = some .cell ∧ ((cellsFrom (s.heap.objs.size + 1) (defScope s_Ldances).names []).lookup z.1).isSome = true) := fun ⟨n, x⟩ hz =>
    (sc_Ldances.par n (List.of_mem_zip hz).1).elim .inl fun q => .inr ⟨q, PySem.W.cellsFrom_some _ _ _ (.inl q)⟩
  refine codeAny_call_generator room.depth (kin _ _ lk) rfl sc_Ldances.co sc_Ldances.gen rfl (PySem.W.codeRec_of kin hcd) (hb _ _ _ _ ?_)
  refine wpAny_newFunctionEnv_cells sc_Ldances.kind kinds fun env he s1 x => ?_
  subst he
  refine ⟨nolim.keeps x.toInCall.keep, ?_⟩
  obtain ⟨ds, obr, clo, dsf⟩ := ds_of e0.hok gv ob
  obtain ⟨h1, tk1, es1, hk1⟩ := x.done
  have os1 : s1.os = s.os := by rw [es1]
  have gen1 : s1.gens = s.gens := by rw [es1]
  have lt1 : s.heap.objs.size < s1.heap.objs.size := x.toInCall.ns.lt
  have kp1 : ∀ b o, s.heap.get? b = some o → s1.heap.get? b = some o := x.toInCall.keep
  have I1 := inv_startG (E := fun _ _ _ => False) sc_Ldances room.hd e0 rfl vals x
  have lc : LocG ND (envD s.heap.objs.size f cdv) s.heap.objs.size [some (.ref p), some (.int (k : Int)), none] s1 := I1.loc
  have main : ∀ (go : Obj) (nm qn : Value) (tk2 : Nat), go.cls = .type "generator" → go.data = .fields #[.int s1.gens.size 0, nm, qn] → go.slots = #[] → (∀ h : Heap, (h.push go).get? h.objs.size = some go) →
      MadeD P w base outer v k 4 H s (.ref s1.heap.objs.size) { s1 with gens := s1.gens.push (.fresh (.func (defBody s_Ldances) (envD s.heap.objs.size f cdv))), toks := tk2, heap := s1.heap.push go } ⟨ds, hrs ds H, s.heap.objs.size, s1.heap.objs.size, outer, base⟩ s1.gens.size go (.func (defBody s_Ldances) (envD s.heap.objs.size f cdv)) := by
    intro go nm qn tk2 hgc hgd hgs hgp
    have dlt : ∀ b ∈ ds, b < s.heap.objs.size := fun b hb => by
      obtain ⟨o, q, _⟩ := dsf b hb
      exact (e0.hok b o q).lt
    have ok : GP.Ok ⟨ds, hrs ds H, s.heap.objs.size, s1.heap.objs.size, outer, base⟩ := {
      clo := clo
      out := fun b n => hrs_out n
      dd := fun b m => by
        obtain ⟨o, q, _⟩ := dsf b m
        exact ⟨o, by show hrs ds H b = _; rw [hrs_in m]; exact q⟩
      dL := fun m => absurd (dlt _ m) (Nat.lt_irrefl _)
      dF := fun b m n => by
        obtain ⟨o, q, _⟩ := dsf b n
        rw [e0.frf b m] at q
        cases q
      dB := fun b o e n => by
        obtain ⟨u, q, _⟩ := dsf b n
        rw [(e0.bs b o e).2] at q
        cases q
      bL := e0.bsz
      fL := fun b m => by
        obtain ⟨_, o, ho, _⟩ := e0.funs.mem m
        exact Heap.lt_size ho }
    have pushed : (s1.heap.push go).get? s1.heap.objs.size = some go := hgp _
    refine ⟨rfl, ok, rfl, rfl, fun b m => (hrs_in m).symm, dsf, Nat.le_refl _, lt1, fun b o e => Heap.get?_push_of_some _ (kp1 b o e), os1, AllBare.push (by rw [gen1]; exact e0.bare) rfl, pushed, fun h e => ⟨go, nm, qn, e, hgc, hgd, hgs⟩, (fun c z => by rw [hgd] at z; cases z), ?_, Array.getElem?_push_size .., fun A' s2 room' fr' wk => ?_⟩
    · obtain ⟨m, hn, _⟩ := lc
      obtain ⟨o, ho, hc⟩ := frame_no_cell hn
      exact ⟨o, Heap.get?_push_of_some _ ho, hc⟩
    · have ge := ge_D (K := K) (mg := mg) (gp := ⟨ds, hrs ds H, s.heap.objs.size, s1.heap.objs.size, outer, base⟩) (f := f) (cdv := cdv) e0.mod room'.hd fr'
      exact seg_D (gp := ⟨ds, hrs ds H, s.heap.objs.size, s1.heap.objs.size, outer, base⟩) T MD GD BD PR GC BC e0.mod room' fr' ok obr gv zs k wk.hok wk.bs wk.funs wk.bare (lc.move ge fun o e => wk.keep _ _ (.inl rfl) (Heap.get?_push_of_some _ e))
  exact ⟨_, _, _, _, main _ _ _ _ rfl rfl rfl fun h => Heap.get?_push_size _ rfl⟩
end
section
open PySem PySem.Spec PyProof.Rows GenW
variable {X : Cx}
theorem inv_gens {pins : List (Addr × Obj)} {σ : L2.St} {H : Hp} {s : Shared} {G : Array GenState} (I : Inv X pins σ H s) (h : AllBare G) : Inv X pins σ H { s with gens := G } :=
  ⟨I.ok, I.os, h, I.base, I.loc, I.cell, I.free, I.freeC, I.pin, I.hok, I.len⟩
theorem inv_back {pins : List (Addr × Obj)} {σ : L2.St} {H : Hp} {G : Array GenState} {s f : Shared} (z : Fz G s f) (hG : AllBare G) (I : Inv X pins σ H f) : Inv X pins σ H s := by
  have b := z.bare hG I.bare
  obtain ⟨rfl, _⟩ := z
  exact inv_gens (G := bk G f.gens) I b
theorem Wk.step {P : Program} {w : World} {gp : GP} {s1 s7 s2 : Shared} (x : Wk P w gp s7 s2) (os : s7.os = s1.os) (k : ∀ b o, b = gp.L ∨ b = gp.a → s1.heap.get? b = some o → s7.heap.get? b = some o) : Wk P w gp s1 s2 :=
  ⟨x.os.trans os, x.bare, fun b o m e => x.keep b o m (k b o m e), x.hok, x.bs, x.funs⟩
/-- for x in o.dances(e) -/
def tForD (C : Addr) (ta : TE) (t : TA) (g : TG) (tb : TS) : TS := fun D σ H => ta σ H fun x H1 => ∃ p dx fs, x = V.ref p ∧ H1 p = some (.ins C dx fs) ∧ fs.lookup ("dances" : Str) = none ∧ t σ H1 fun vs H2 => ∃ (v : Int × Int) (k : Nat), vs = [V.int (k : Int)] ∧ LdAt C H2 p v ∧ Good v ∧ stp v ≤ 2000 ∧
  ∃ (Bad : Addr → Prop) (W : Nat → L2.St → Hp → Prop), (∀ b, Bad b → H2 b = none ∨ H2 b = some (.lst [])) ∧ W 0 σ H2 ∧ (∀ i σ' H', W i σ' H' → ∀ b o, ¬ Bad b → H2 b = some o → H' b = some o) ∧
    (∀ i σ' H', W i σ' H' → i < totD v - k → g (itD v (k + i)) σ' H' fun σ2 H3 => tb { nx := W (i + 1), ct := W (i + 1), bk := D.nx, rt := D.rt } σ2 H3) ∧ ∀ σ' H', W (totD v - k) σ' H' → D.nx σ' H'
theorem ps_forD {C f g1 g2 pr : Addr} {fd fd1 fd2 : FuncData} {o e : Expr} {ta : TE} {t : TA} {tg : Expr} {g : TG} {body : List Stmt} {tb : TS} {apos pos' pos : Pos} {pl : Sem Bool} (F : Fun X.K "dances" "LeastDances.dances" s_Ldances f fd) (bF : Binds X.K fd ["self", "start"] []) (MF : Meth X.K C "dances" f)
    (T : TxL X.K X.mg C) (MD : Meth X.K C "dance" g1) (GD : FnOk X.prog X.w X.K X.mg X.base CX0 3 g1 fd1 ["self", "rank"] (spDanceL C)) (BD : Binds X.K fd1 ["self", "rank"] []) (PR : PropOf X.K C "dance_count" pr g2) (GC : FnOk X.prog X.w X.K X.mg X.base CX0 1 g2 fd2 ["self"] (spCountL C)) (BC : Binds X.K fd2 ["self"] [])
    (room : Room 5 X.A) (hxe : ∀ u s, X.xe u s → False) (ho : PE X o ta) (ha : PA X [e] t) (hg : PG X tg g) (hb : PSs X body tb)
    (plain : starEach [e] X.env = (false, eval e X.env) :: starEach [] X.env := by rfl) (hpl : (backTo pos' (starEach [] X.env)).any (·.1) = false := by rfl)
    (split : eval (.Call (.Attribute o "dances" apos) [e] [] pos') X.env = (do
      let v ← eval o X.env
      standAt apos.atName
      let (g, first) ← holding [v] (getMethod v "dances" pl)
      callWith pos' g first (backTo pos' (starEach [e] X.env)) (backToKw pos' (keywordEach [] X.env))) := by rfl)
    (hs : ∀ x, foldedSetIterable (.Call (.Attribute o "dances" apos) [e] [] pos') X.env x = pure x := by intro _; rfl) :
    PS X (.For tg (.Call (.Attribute o "dances" apos) [e] [] pos') body [] pos) (tForD C ta t g tb) := by
  refine ⟨fun pins s σ H D I h => wpAny_For ?_ hs⟩
  refine PySem.W.methodCall_KW (pl := pl) (thn (ho.run pins s σ H _ I h) fun u s1 h1 => ?_) split
  obtain ⟨x, H1, I1, rx, p, dx, fs, rfl, hp, lk, q⟩ := h1
  obtain rfl : u = .ref p := rx
  refine getmeth_ok I1 hp T.cl MF lk (PySem.W.callWith_K (first := [.ref p]) (h₀ := X.base) I.ok.mod.kin MF.kp (thn (ha.run pos' pins s1 σ H1 _ I1 q) fun us s2 h2 => ?_) plain hpl)
  obtain ⟨vs, H2, I2, rv, v, k, rfl, ob, gv, zs, Bad, W, hbad, w0, wkeep, turn, hend⟩ := h2
  refine ⟨I2.kIn, ?_⟩
  have vals : Vals [.ref p, .int (k : Int)] (.ref p :: us) := .cons rfl rv
  have bd := bF s2 (.ref p :: us) I2.kIn (by rw [List.append_nil, ← vals.length]; rfl)
  rw [List.append_nil] at bd
  refine wpAny_call (codeAny_mono (made_D F T MD GD BD PR GC BC (A := X.A) (outer := X.stack) (args := ⟨.ref p :: us, []⟩) (room.mono (by decide)) I2.env0 bd vals ob gv zs) fun res s3 hr3 => ?_)
  cases res with
  | error er => exact False.elim hr3
  | ok fl =>
  cases fl with
  | next => exact False.elim hr3
  | brk => exact False.elim hr3
  | cont => exact False.elim hr3
  | ret u =>
  obtain ⟨gp, gn, go, c, M⟩ := hr3
  obtain rfl := M.val
  show wpAny _ X.A (pyIter (.ref gp.a)) _ _ s3
  refine wpAny_pyIter_gen (M.ig _ M.gen) ?_
  obtain ⟨oL0, hoL0, hcL0⟩ := M.oL
  -- the generator's own objects are new
  have sL : s2.heap.objs.size ≤ gp.L := M.l0
  have sA : s2.heap.objs.size ≤ gp.a := Nat.le_of_lt (Nat.lt_of_le_of_lt sL M.l1)
  have new : ∀ b, s2.heap.objs.size ≤ b → H2 b = none ∧ b ≠ X.env.locals ∧ b ∉ X.fs ∧ (b ∈ X.ex ∨ X.s_0.heap.objs.size ≤ b) ∧ (∀ x c, X.env.cells.lookup x = some c → c ≠ b) ∧ ∀ q ∈ X.pn ++ pins, q.1 ≠ b := fun b hb =>
    I2.fpOk hb (I2.hok.fresh hb)
  obtain ⟨nL1, nL2, nL3, nL4, nL5, nL6⟩ := new gp.L sL
  obtain ⟨nA1, nA2, nA3, nA4, nA5, nA6⟩ := new gp.a sA
  have neAL : gp.a ≠ gp.L := Nat.ne_of_gt M.l1
  have I3 : Inv X pins σ H2 s3 := I2.call' (ch := []) M.os (Un.kept M.keep) (I2.hok.kept M.keep) M.bare (fun b z => nomatch z)
  have pinned : ∀ {σ' : L2.St} {H' : Hp} {s' : Shared} {oL : Obj}, Inv X pins σ' H' s' → s'.heap.get? gp.a = some go → s'.heap.get? gp.L = some oL → (∀ c, oL.data ≠ .cell c) → H' gp.a = none → H' gp.L = none → Inv X ((gp.a, go) :: (gp.L, oL) :: pins) σ' H' s' := fun {σ' H' s' oL} J e1 e2 hc n1 n2 =>
    J.pins_of fun q hq => by
      rcases List.mem_cons.mp hq with rfl | hq
      · exact ⟨e1, n1, nA2, nA3, M.gc⟩
      · rcases List.mem_cons.mp hq with rfl | hq
        · exact ⟨e2, n2, nL2, nL3, hc⟩
        · exact J.pin q (List.mem_append_right _ hq)
  have agree : ∀ i σ' H', W i σ' H' → ∀ b ∈ gp.ds, H' b = gp.Hg b := fun i σ' H' wi b m => by
    obtain ⟨o', q, ne⟩ := M.nb b m
    rw [← M.ag b m, q]
    refine wkeep i σ' H' wi b o' (fun z => ?_) q
    rcases hbad b z with y | y
    · rw [y] at q; cases q
    · rw [y] at q; cases q; exact ne rfl
  have room1 : Room 4 X.A.in1 := ⟨room.hd, by have := room.dp; show X.A.depth + 3 * 4 + 5 < _; omega, by have := room.un; show X.A.units + 1 + 16 * 4 + 200 < _; omega⟩
  have fr1 : X.A.in1.frames = some X.stack := I2.ok.frames
  refine codeAny_forLoop_any (fun n s' => ∃ i σ' H' oL gs, n = totD v - k - i ∧ i ≤ totD v - k ∧ W i σ' H' ∧ Inv X ((gp.a, go) :: (gp.L, oL) :: pins) σ' H' s' ∧ (∀ c, oL.data ≠ .cell c) ∧ s'.gens[gn]? = some gs ∧
      ∀ s'', Wk X.prog X.w gp s' s'' → gs.Goes (model X.prog X.w) X.A.in1 (RD X.prog X.w gp) (YD X.prog X.w gp v) (totD v - k - i) (.send .none) s'') ?_ (totD v - k)
    ⟨0, σ, H2, oL0, _, rfl, Nat.zero_le _, w0, pinned I3 M.gen hoL0 hcL0 nA1 nL1, hcL0, M.at_, fun s'' wk => ⟨rfl, M.run X.A.in1 s'' room1 fr1 wk⟩⟩
  rintro n s' ⟨i, σ', H', oL, gs, rfl, hi, wi, J, hcL, at_, goes⟩
  have pa := J.pin (gp.a, go) (List.mem_append_right _ List.mem_cons_self)
  have pL := J.pin (gp.L, oL) (List.mem_append_right _ (List.mem_cons_of_mem _ List.mem_cons_self))
  have ag := agree i σ' H' wi
  have hst : X.stack = gp.outer := M.eo.symm
  have hbs : X.base = gp.base := M.eb.symm
  have Ja : Inv X ((gp.a, go) :: pins) σ' H' s' := J.pins_of fun q hq => by
    rcases List.mem_cons.mp hq with rfl | hq
    · exact pa
    · exact J.pin q (List.mem_append_right _ (List.mem_cons_of_mem _ (List.mem_cons_of_mem _ hq)))
  have exL : (gp.L ∈ X.ex ∨ X.s_0.heap.objs.size ≤ gp.L) ∧ gp.L ≠ X.env.locals ∧ (∀ x c, X.env.cells.lookup x = some c → c ≠ gp.L) ∧ ∀ q ∈ X.pn ++ (gp.a, go) :: pins, q.1 ≠ gp.L := ⟨nL4, nL2, nL5, fun q hq => by
    rcases List.mem_append.mp hq with hq | hq
    · exact nL6 q (List.mem_append_left _ hq)
    · rcases List.mem_cons.mp hq with rfl | hq
      · exact neAL
      · exact nL6 q (List.mem_append_right _ hq)⟩
  have wk0 : Wk X.prog X.w gp s' s' := wk_of M.ok J hst hbs ag rfl fun _ _ _ e => e
  have gl : gn < s'.gens.size := (Array.getElem?_eq_some_iff.mp at_).1
  refine wpAny_gsz (n := gn + 1) gl (next_slp (F := FD X.prog X.w gp) (Y := YD X.prog X.w gp v) room.hd J.nolimit (by have := room.dp; omega) (M.ig _ pa.1) at_ (goes _ (wk0.run gn)) (fun u s1 gs' hbare hslp hy => ?_) (fun s1 hF h' hk => ?_))
  · intro hsz
    obtain ⟨kk, ek, ru, kp, ⟨oL', hoL', hcL'⟩, wake⟩ := hy
    have J1 : Inv X ((gp.a, go) :: pins) σ' H' s1 := after_kp M.ok Ja hst kp rfl rfl ag pL.2.1 exL
    have wk1 : Wk X.prog X.w gp s1 s1 := wk_of M.ok J1 hst hbs ag rfl fun _ _ _ e => e
    cases em : totD v - k - i with
    | zero =>
      have := wake s1 wk1
      rw [em] at this
      exact False.elim this
    | succ m =>
    rw [em] at ek wake
    have ekk : kk = k + i := by omega
    subst ekk
    have J2 : Inv X ((gp.a, go) :: (gp.L, oL') :: pins) σ' H' s1 := by
      refine J1.pins_of fun q hq => ?_
      rcases List.mem_cons.mp hq with rfl | hq
      · exact J1.pin (gp.a, go) (List.mem_append_right _ List.mem_cons_self)
      · rcases List.mem_cons.mp hq with rfl | hq
        · exact ⟨hoL', pL.2.1, nL2, nL3, hcL'⟩
        · exact J1.pin q (List.mem_append_right _ (List.mem_cons_of_mem _ hq))
    have gb : AllBare (s1.setGen gn gs').gens := allBare_setGen J1.bare hbare
    have J3 : Inv X ((gp.a, go) :: (gp.L, oL') :: pins) σ' H' (s1.setGen gn gs') := inv_gens J2 gb
    have at3 : (s1.setGen gn gs').gens[gn]? = some gs' := setGen_at (by rw [setGen_size] at hsz; omega)
    have z0 := Fz.start (s1.setGen gn gs')
    have J4 : Inv X ((gp.a, go) :: (gp.L, oL') :: pins) σ' H' { s1.setGen gn gs' with gens := (s1.setGen gn gs').gens.map pz } := inv_gens J3 (Fz.start_bare gb)
    obtain ⟨og, nm, qn, ho1, ho2, ho3, _⟩ := M.ig _ (J3.pin (gp.a, go) (List.mem_append_right _ List.mem_cons_self)).1
    refine go_of ho1 ho2 ho3 (by decide) ?_
    refine wpAny_mono (wpAny_fz z0 (hg.run _ _ σ' H' (itD v (k + i)) u _ J4 ru (turn i σ' H' wi (by omega)))) (fun _ s6 h6 => ?_) fun er s6 h6 => ?_
    · obtain ⟨f6, z6, σ6, H6, I6, q6⟩ := h6
      refine wpAny_mono (wpAny_fz z6 (hb.run _ f6 σ6 H6 _ I6 q6)) (fun fl s7 h7 => ?_) fun er s7 h7 => ?_
      · obtain ⟨f7, z7, q7⟩ := h7
        have again : ∀ {σ7 : L2.St} {H7 : Hp}, Inv X ((gp.a, go) :: (gp.L, oL') :: pins) σ7 H7 f7 → W (i + 1) σ7 H7 → ∃ m', m' < m + 1 ∧ ∃ i σ' H' oL gs, m' = totD v - k - i ∧ i ≤ totD v - k ∧ W i σ' H' ∧ Inv X ((gp.a, go) :: (gp.L, oL) :: pins) σ' H' s7 ∧ (∀ c, oL.data ≠ .cell c) ∧ s7.gens[gn]? = some gs ∧
            ∀ s'', Wk X.prog X.w gp s7 s'' → gs.Goes (model X.prog X.w) X.A.in1 (RD X.prog X.w gp) (YD X.prog X.w gp v) (totD v - k - i) (.send .none) s'' := fun {σ7 H7} I7 w7 => by
          have I7 := inv_back z7 gb I7
          have e1 : totD v - k - (i + 1) = m := by omega
          refine ⟨m, Nat.lt_succ_self m, i + 1, σ7, H7, oL', gs', e1.symm, by omega, w7, I7, hcL', z7.at at3 hslp, fun s'' wk => ?_⟩
          rw [e1]
          refine wake s'' (wk.step (I7.os.trans J1.os.symm) fun b o' hb' e => ?_)
          rcases hb' with rfl | rfl
          · rw [hoL'] at e
            cases e
            exact (I7.pin (gp.L, oL') (List.mem_append_right _ (List.mem_cons_of_mem _ List.mem_cons_self))).1
          · rw [(J1.pin (gp.a, go) (List.mem_append_right _ List.mem_cons_self)).1] at e
            cases e
            exact (I7.pin (gp.a, go) (List.mem_append_right _ List.mem_cons_self)).1
        have drop : ∀ {σ7 : L2.St} {H7 : Hp}, Inv X ((gp.a, go) :: (gp.L, oL') :: pins) σ7 H7 f7 → Inv X pins σ7 H7 s7 := fun {σ7 H7} I7 =>
          (inv_back z7 gb I7).pins_of fun q hq => (inv_back z7 gb I7).pin q (List.mem_append_right _ (List.mem_cons_of_mem _ (List.mem_cons_of_mem _ hq)))
        cases fl with
        | next => obtain ⟨σ7, H7, I7, w7⟩ := q7; exact again I7 w7
        | cont => obtain ⟨σ7, H7, I7, w7⟩ := q7; exact again I7 w7
        | brk => obtain ⟨σ7, H7, I7, w7⟩ := q7; exact ⟨σ7, H7, drop I7, w7⟩
        | ret u => obtain ⟨x7, σ7, H7, I7, r7, w7⟩ := q7; exact ⟨x7, σ7, H7, drop I7, r7, w7⟩
      · obtain ⟨f7, _, hx⟩ := h7
        exact False.elim (hxe _ _ hx)
    · obtain ⟨f6, _, hx⟩ := h6
      exact False.elim (hxe _ _ hx)
  · intro hsz
    obtain ⟨em, kp⟩ := hF
    have J1 : Inv X ((gp.a, go) :: pins) σ' H' s1 := after_kp M.ok Ja hst kp rfl rfl ag pL.2.1 exL
    have J2 := (inv_gens J1 (allBare_setGen (g := gn) (x := .finished) J1.bare rfl)).kept (t' := s1.toks) hk
    have ei : i = totD v - k := by omega
    subst ei
    refine wpAny_execs_nil ⟨σ', H', J2.pins_of fun q hq => J2.pin q (List.mem_append_right _ (List.mem_cons_of_mem _ hq)), hend σ' H' wi⟩
end
section
open PySem PySem.Spec PyProof.Rows GenW
/-- where a frame stands to the generator -/
structure Gd (Y : Cx) (gp : GP) (gn : Nat) (go : Obj) : Prop where
  ok : gp.Ok
  st : Y.stack = gp.outer
  bs : Y.base = gp.base
  ig : ∀ h : Heap, h.get? gp.a = some go → h.IsGen gp.a gn
  gc : ∀ c, go.data ≠ .cell c
  ne : gp.a ≠ gp.L
  nL : gp.L ≠ Y.env.locals ∧ gp.L ∉ Y.fs ∧ (gp.L ∈ Y.ex ∨ Y.s_0.heap.objs.size ≤ gp.L) ∧ ∀ x c, Y.env.cells.lookup x = some c → c ≠ gp.L
  nA : gp.a ≠ Y.env.locals ∧ gp.a ∉ Y.fs
  room : Room 5 Y.A
abbrev pnG (gp : GP) (go oL : Obj) : List (Addr × Obj) := [(gp.a, go), (gp.L, oL)]
/-- the generator sleeps, i items are out -/
def Asl (Y : Cx) (gp : GP) (gn : Nat) (go : Obj) (v : Int × Int) (k i : Nat) (pins : List (Addr × Obj)) (σ : L2.St) (H : Hp) (s : Shared) : Prop := ∃ oL gs, Inv Y (pnG gp go oL ++ pins) σ H s ∧ (∀ c, oL.data ≠ .cell c) ∧ s.gens[gn]? = some gs ∧
  ∀ s'', Wk Y.prog Y.w gp s s'' → gs.Goes (model Y.prog Y.w) Y.A.in1 (RD Y.prog Y.w gp) (YD Y.prog Y.w gp v) (totD v - k - i) (.send .none) s''
/-- an item has just come out -/
def Wkn (Y : Cx) (gp : GP) (gn : Nat) (go : Obj) (v : Int × Int) (k i : Nat) (pins : List (Addr × Obj)) (σ : L2.St) (H : Hp) (oL : Obj) (gs : GenState) (s : Shared) : Prop := Inv Y (pnG gp go oL ++ pins) σ H s ∧ (∀ c, oL.data ≠ .cell c) ∧ s.gens[gn]? = some gs ∧ slp gs = true ∧
  ∀ s'', Wk Y.prog Y.w gp s s'' → gs.Goes (model Y.prog Y.w) Y.A.in1 (RD Y.prog Y.w gp) (YD Y.prog Y.w gp v) (totD v - k - (i + 1)) (.send .none) s''
section
variable {Y : Cx} {gp : GP} {gn : Nat} {go : Obj} {v : Int × Int} {k i : Nat} {pins : List (Addr × Obj)} {σ : L2.St} {H : Hp} {s : Shared}
theorem next_D {E : Value → Shared → Prop} (G : Gd Y gp gn go) (hi : i ≤ totD v - k) (h : Asl Y gp gn go v k i pins σ H s) (ag : ∀ b ∈ gp.ds, H b = gp.Hg b) (pL : ∀ q ∈ Y.pn ++ pins, q.1 ≠ gp.L) :
    wpAny (model Y.prog Y.w) Y.A (pyNext (.ref gp.a)) (fun r s4 => (∃ u oL gs, r = some u ∧ i < totD v - k ∧ RelV (itD v (k + i)) u ∧ Wkn Y gp gn go v k i pins σ H oL gs s4) ∨ (r = none ∧ i = totD v - k ∧ Inv Y pins σ H s4)) E s := by
  obtain ⟨oL, gs, J, hcL, at_, goes⟩ := h
  have pa := J.pin (gp.a, go) (List.mem_append_right _ List.mem_cons_self)
  have pl := J.pin (gp.L, oL) (List.mem_append_right _ (List.mem_cons_of_mem _ List.mem_cons_self))
  have Ja : Inv Y ((gp.a, go) :: pins) σ H s := J.pins_of fun q hq => by
    rcases List.mem_cons.mp hq with rfl | hq
    · exact pa
    · exact J.pin q (List.mem_append_right _ (List.mem_cons_of_mem _ (List.mem_cons_of_mem _ hq)))
  have exL : (gp.L ∈ Y.ex ∨ Y.s_0.heap.objs.size ≤ gp.L) ∧ gp.L ≠ Y.env.locals ∧ (∀ x c, Y.env.cells.lookup x = some c → c ≠ gp.L) ∧ ∀ q ∈ Y.pn ++ (gp.a, go) :: pins, q.1 ≠ gp.L := ⟨G.nL.2.2.1, G.nL.1, G.nL.2.2.2, fun q hq => by
    rcases List.mem_append.mp hq with hq | hq
    · exact pL q (List.mem_append_left _ hq)
    · rcases List.mem_cons.mp hq with rfl | hq
      · exact G.ne
      · exact pL q (List.mem_append_right _ hq)⟩
  have wk0 : Wk Y.prog Y.w gp s s := wk_of G.ok J G.st G.bs ag rfl fun _ _ _ e => e
  have gl : gn < s.gens.size := (Array.getElem?_eq_some_iff.mp at_).1
  have room := G.room
  refine wpAny_mono (wpAny_gsz (n := gn + 1) gl (next_slp (F := FD Y.prog Y.w gp) (Y := YD Y.prog Y.w gp v) room.hd J.nolimit (by have := room.dp; omega) (G.ig _ pa.1) at_ (goes _ (wk0.run gn)) (fun u s1 gs' hbare hslp hy => ?_) (fun s1 hF h' hk => ?_))) (fun _ _ x => x) fun _ _ x => x
  · intro hsz
    obtain ⟨kk, ek, ru, kp, ⟨oL', hoL', hcL'⟩, wake⟩ := hy
    have J1 : Inv Y ((gp.a, go) :: pins) σ H s1 := after_kp G.ok Ja G.st kp rfl rfl ag pl.2.1 exL
    have wk1 : Wk Y.prog Y.w gp s1 s1 := wk_of G.ok J1 G.st G.bs ag rfl fun _ _ _ e => e
    cases em : totD v - k - i with
    | zero =>
      have := wake s1 wk1
      rw [em] at this
      exact False.elim this
    | succ m =>
    rw [em] at ek wake
    have ekk : kk = k + i := by omega
    subst ekk
    have e1 : totD v - k - (i + 1) = m := by omega
    have J2 : Inv Y (pnG gp go oL' ++ pins) σ H s1 := by
      refine J1.pins_of fun q hq => ?_
      rcases List.mem_cons.mp hq with rfl | hq
      · exact J1.pin (gp.a, go) (List.mem_append_right _ List.mem_cons_self)
      · rcases List.mem_cons.mp hq with rfl | hq
        · exact ⟨hoL', pl.2.1, G.nL.1, G.nL.2.1, hcL'⟩
        · exact J1.pin q (List.mem_append_right _ (List.mem_cons_of_mem _ hq))
    refine .inl ⟨u, oL', gs', rfl, by omega, ru, inv_gens J2 (allBare_setGen (g := gn) J1.bare hbare), hcL', setGen_at (by rw [setGen_size] at hsz; omega), hslp, fun s'' wk => ?_⟩
    rw [e1]
    exact wake s'' (wk.step rfl fun _ _ _ e => e)
  · intro hsz
    obtain ⟨em, kp⟩ := hF
    have J1 : Inv Y ((gp.a, go) :: pins) σ H s1 := after_kp G.ok Ja G.st kp rfl rfl ag pl.2.1 exL
    have J2 := (inv_gens J1 (allBare_setGen (g := gn) (x := .finished) J1.bare rfl)).kept (t' := s1.toks) hk
    exact .inr ⟨rfl, by omega, J2.pins_of fun q hq => J2.pin q (List.mem_append_right _ (List.mem_cons_of_mem _ hq))⟩
/-- the frame's turn is over: it sleeps as it did -/
theorem Wkn.rest {oL : Obj} {gs : GenState} {s4 f7 s7 : Shared} {σ7 : L2.St} {H7 : Hp} {pl : List (Addr × Obj)} (h : Wkn Y gp gn go v k i pins σ H oL gs s4) (z : Fz s4.gens s7 f7) (I7 : Inv Y (pnG gp go oL ++ pl) σ7 H7 f7) : Asl Y gp gn go v k (i + 1) pl σ7 H7 s7 := by
  obtain ⟨J, hc, at_, hs, wake⟩ := h
  have I := inv_back z J.bare I7
  refine ⟨oL, gs, I, hc, z.at at_ hs, fun s'' wk => wake s'' (wk.step (I.os.trans J.os.symm) fun b o hb e => ?_)⟩
  rcases hb with rfl | rfl
  · rw [(J.pin (gp.L, oL) (List.mem_append_right _ (List.mem_cons_of_mem _ List.mem_cons_self))).1] at e
    cases e
    exact (I.pin (gp.L, oL) (List.mem_append_right _ (List.mem_cons_of_mem _ List.mem_cons_self))).1
  · rw [(J.pin (gp.a, go) (List.mem_append_right _ List.mem_cons_self)).1] at e
    cases e
    exact (I.pin (gp.a, go) (List.mem_append_right _ List.mem_cons_self)).1
end
/-- [e for x in o.dances(k)] -/
def tLcD (C : Addr) (ta : TE) (t : TA) (g : TG) (te : TE) (vs : List Nat) : TE := fun σ H R => ta σ H fun x H1 => ∃ p dx fs, x = V.ref p ∧ H1 p = some (.ins C dx fs) ∧ fs.lookup ("dances" : Str) = none ∧ t σ H1 fun ys H2 => ∃ (v : Int × Int) (k : Nat), ys = [V.int (k : Int)] ∧ LdAt C H2 p v ∧ Good v ∧ stp v ≤ 2000 ∧
  ∀ D, H2 D = none → ∃ W : Nat → Hp → Prop, W 0 (upd H2 D (.lst [])) ∧ (∀ i H', W i H' → ∀ b o, b ≠ D → H2 b = some o → H' b = some o) ∧
    (∀ i H', W i H' → i < totD v - k → g (itD v (k + i)) (wipe σ vs) H' fun τ H3 => wipe τ vs = wipe σ vs ∧ te τ H3 fun y H4 => ∃ acc, H4 D = some (.lst acc) ∧ acc.length < sizeLine ∧ W (i + 1) (upd H4 D (.lst (acc ++ [y])))) ∧ ∀ H', W (totD v - k) H' → R (.ref D) H'
theorem pe_lcD {X : Cx} {C f g1 g2 pr : Addr} {fd fd1 fd2 : FuncData} {o e : Expr} {ta : TE} {t : TA} {tg el : Expr} {g : TG} {te : TE} {scp : Scope} {own : List (Str × Nat)} {apos pos' ps : Pos} {pl : Sem Bool} (F : Fun X.K "dances" "LeastDances.dances" s_Ldances f fd) (bF : Binds X.K fd ["self", "start"] []) (MF : Meth X.K C "dances" f)
    (T : TxL X.K X.mg C) (MD : Meth X.K C "dance" g1) (GD : FnOk X.prog X.w X.K X.mg X.base CX0 3 g1 fd1 ["self", "rank"] (spDanceL C)) (BD : Binds X.K fd1 ["self", "rank"] []) (PR : PropOf X.K C "dance_count" pr g2) (GC : FnOk X.prog X.w X.K X.mg X.base CX0 1 g2 fd2 ["self"] (spCountL C)) (BC : Binds X.K fd2 ["self"] [])
    (room : Room 5 X.A) (nd : X.N.Nodup) (ho : PE X o ta) (ha : PA X [e] t) (bok : BlkOk X.N X.env.scope scp own)
    (gg : ∀ (s : Shared) (H : Hp) (Cc : Addr) (cl : List (Str × Addr)) (fp : List Addr), PG (X.blk s H scp (compEnvC scp cl Cc X.env) fp) tg g)
    (ge : ∀ (s : Shared) (H : Hp) (Cc : Addr) (cl : List (Str × Addr)) (fp : List Addr), PE (X.blk s H scp (compEnvC scp cl Cc X.env) fp) el te)
    (plain : starEach [e] X.env = (false, eval e X.env) :: starEach [] X.env := by rfl) (hpl : (backTo pos' (starEach [] X.env)).any (·.1) = false := by rfl)
    (split : eval (.Call (.Attribute o "dances" apos) [e] [] pos') X.env = (do
      let v ← eval o X.env
      standAt apos.atName
      let (g, first) ← holding [v] (getMethod v "dances" pl)
      callWith pos' g first (backTo pos' (starEach [e] X.env)) (backToKw pos' (keywordEach [] X.env))) := by rfl)
    (fold : ∀ x, foldedSetIterable (.Call (.Attribute o "dances" apos) [e] [] pos') X.env x = pure x := by intro _; rfl) :
    PE X (.ListComp el [⟨tg, .Call (.Attribute o "dances" apos) [e] [] pos', [], 0⟩] scp ps) (tLcD C ta t g te (own.map (·.2))) := by
  refine ⟨fun pins s σ H R I h => ?_⟩
  rw [eval_ListComp]
  have fre : ∀ y ∈ scp.names, y.2 = .free → ∃ c, X.env.cells.lookup y.1 = some c := fun y hy ee => by
    rcases bok.free y hy ee with kk | kk
    · exact I.ok.has _ (.inl kk)
    · exact I.ok.has _ (.inr kk)
  refine wpAny_comprehension_free (use := none) rfl fold (closure_ok fre) bok.kind (fun y hy ee => by rw [bok.uniq y hy, ee]) ?_
  refine PySem.W.methodCall_KW (pl := pl) (thn (ho.run pins s σ H _ I h) fun u s1 h1 => ?_) split
  obtain ⟨x, H1, I1, rx, p, dx, fs, rfl, hp, lk, q⟩ := h1
  obtain rfl : u = .ref p := rx
  refine getmeth_ok I1 hp T.cl MF lk (PySem.W.callWith_K (first := [.ref p]) (h₀ := X.base) I.ok.mod.kin MF.kp (thn (ha.run pos' pins s1 σ H1 _ I1 q) fun us s2 h2 => ?_) plain hpl)
  obtain ⟨vs, H2, I2, rv, v, k, rfl, ob, gv, zs, q⟩ := h2
  refine ⟨I2.kIn, ?_⟩
  have vals : Vals [.ref p, .int (k : Int)] (.ref p :: us) := .cons rfl rv
  have bd := bF s2 (.ref p :: us) I2.kIn (by rw [List.append_nil, ← vals.length]; rfl)
  rw [List.append_nil] at bd
  refine wpAny_call (codeAny_mono (made_D F T MD GD BD PR GC BC (A := X.A) (outer := X.stack) (args := ⟨.ref p :: us, []⟩) (room.mono (by decide)) I2.env0 bd vals ob gv zs) fun res s3 hr3 => ?_)
  cases res with
  | error er => exact False.elim hr3
  | ok fl =>
  cases fl with
  | next => exact False.elim hr3
  | brk => exact False.elim hr3
  | cont => exact False.elim hr3
  | ret u =>
  obtain ⟨gp, gn, go, c, M⟩ := hr3
  obtain rfl := M.val
  show wpAny _ X.A (pyIter (.ref gp.a)) _ _ s3
  refine wpAny_pyIter_gen (M.ig _ M.gen) ?_
  obtain ⟨oL0, hoL0, hcL0⟩ := M.oL
  have sL : s2.heap.objs.size ≤ gp.L := M.l0
  have sA : s2.heap.objs.size ≤ gp.a := Nat.le_of_lt (Nat.lt_of_le_of_lt sL M.l1)
  have fL := I2.fpOk sL (I2.hok.fresh sL)
  have fA := I2.fpOk sA (I2.hok.fresh sA)
  have I3 : Inv X pins σ H2 s3 := I2.call' (ch := []) M.os (Un.kept M.keep) (I2.hok.kept M.keep) M.bare (fun b z => nomatch z)
  have room1 : Room 4 X.A.in1 := ⟨room.hd, by have := room.dp; show X.A.depth + 3 * 4 + 5 < _; omega, by have := room.un; show X.A.units + 1 + 16 * 4 + 200 < _; omega⟩
  have fr1 : X.A.in1.frames = some X.stack := I2.ok.frames
  have aL : gp.L < s3.heap.objs.size := Heap.lt_size hoL0
  have aA : gp.a < s3.heap.objs.size := Heap.lt_size M.gen
  refine wpAny_newObj_type (newEnv_comp ?_) (by show (0 : Nat) ≤ sizeLine; decide)
  generalize hD : s3.heap.objs.size = D at aL aA
  have nD : H2 D = none := I3.hok.fresh (Nat.le_of_eq hD)
  obtain ⟨W, w0, wkeep, turn, hend⟩ := q D nD
  generalize ez : ({ s3 with heap := s3.heap.push { cls := .type "list", data := .seq ([] : List Value).toArray } } : Shared) = zd
  have hzd : zd.heap = s3.heap.push { cls := .type "list", data := .seq ([] : List Value).toArray } := by rw [← ez]
  have kz : ∀ b o, s3.heap.get? b = some o → zd.heap.get? b = some o := fun b o e => by rw [hzd]; exact Heap.get?_push_of_some _ e
  have Id : Inv X pins σ (upd H2 D (.lst [])) zd := by
    rw [← ez]
    refine I3.laid (t' := s3.toks) (fun b o e => Heap.get?_push_of_some _ e) (Nat.le_of_eq hD) ⟨Nat.zero_le _, [], 0, .nil, ?_⟩
    rw [← hD]
    exact Heap.get?_push_size _ rfl
  have szd : D < zd.heap.objs.size := by rw [hzd, Heap.size_push, ← hD]; exact Nat.lt_succ_self _
  have tL : upd H2 D (.lst []) gp.L = none := by rw [upd_ne (Nat.ne_of_lt aL)]; exact fL.1
  have tA : upd H2 D (.lst []) gp.a = none := by rw [upd_ne (Nat.ne_of_lt aA)]; exact fA.1
  have wd : ∀ b ∈ [gp.L], FpOk X pins (upd H2 D (.lst [])) b ∧ b < zd.heap.objs.size := fun b hb => by
    rw [List.mem_singleton.mp hb]
    exact ⟨⟨tL, fL.2⟩, Nat.lt_trans aL szd⟩
  have Ie := block_start Id bok nd wd
  have pgt := gg zd (upd H2 D (.lst [])) zd.heap.objs.size (cellsFrom (zd.heap.objs.size + 1) scp.names (cloFrom X.env.cells scp.names [])) [gp.L]
  have pel := ge zd (upd H2 D (.lst [])) zd.heap.objs.size (cellsFrom (zd.heap.objs.size + 1) scp.names (cloFrom X.env.cells scp.names [])) [gp.L]
  show codeAny _ _ (.compStart (.ListComp el [⟨tg, .Call (.Attribute o "dances" apos) [e] [] pos', [], 0⟩] scp ps) 0 (.ref gp.a) (.ref D) (compEnvC scp (cellsFrom (zd.heap.objs.size + 1) scp.names (cloFrom X.env.cells scp.names [])) zd.heap.objs.size X.env)) (compPost (model X.prog X.w) X.A X.xe none _ (.ref D) zd.heap.objs.size) { zd with heap := pushCells (zd.heap.push { cls := .type "dict", data := .dict #[] }) scp.names }
  generalize hce : compEnvC scp (cellsFrom (zd.heap.objs.size + 1) scp.names (cloFrom X.env.cells scp.names [])) zd.heap.objs.size X.env = ce at Ie pgt pel ⊢
  have lce : ce.locals = zd.heap.objs.size := by subst hce; rfl
  generalize eK : upd H2 D (.lst []) = Kd at Id Ie pgt pel w0 wd tL tA
  generalize eu : ({ zd with heap := pushCells (zd.heap.push { cls := .type "dict", data := .dict #[] }) scp.names } : Shared) = ze at Ie ⊢
  have ke : ∀ b o, s3.heap.get? b = some o → ze.heap.get? b = some o := fun b o e => by rw [← eu]; exact pushCells_keeps _ _ _ _ (Heap.get?_push_of_some _ (kz b o e))
  have ge_ : ze.gens = s3.gens := by rw [← eu, ← ez]
  have oe_ : ze.os = s3.os := by rw [← eu, ← ez]
  have mL := Ie.ok.exf gp.L List.mem_cons_self
  have nfr : ∀ b, D ≠ b → s2.heap.objs.size ≤ b → b ≠ X.env.locals → b ∉ X.fs → b ∉ frs X.stack := fun b _ _ n1 n2 m => (List.mem_cons.mp (I2.stkSub b m)).elim n1 n2
  have fsA : gp.a ∉ frs X.stack := nfr gp.a (Nat.ne_of_gt aA) sA fA.2.1 fA.2.2.1
  have fsL : gp.L ∉ frs X.stack := nfr gp.L (Nat.ne_of_gt aL) sL fL.2.1 fL.2.2.1
  have GG : Gd (X.blk zd Kd scp ce [gp.L]) gp gn go := ⟨M.ok, M.eo.symm, M.eb.symm, M.ig, M.gc, Nat.ne_of_gt M.l1, ⟨mL.1, fsL, .inl List.mem_cons_self, mL.2⟩, ⟨by show gp.a ≠ ce.locals; rw [lce]; exact Nat.ne_of_lt (Nat.lt_trans aA szd), fsA⟩, room⟩
  have pinD : ∀ {σ' : L2.St} {H' : Hp} {s' : Shared} {oL : Obj}, Inv (X.blk zd Kd scp ce [gp.L]) [] σ' H' s' → s'.heap.get? gp.a = some go → s'.heap.get? gp.L = some oL → (∀ c, oL.data ≠ .cell c) → H' gp.a = none → H' gp.L = none → Inv (X.blk zd Kd scp ce [gp.L]) (pnG gp go oL ++ []) σ' H' s' := fun {σ' H' s' oL} J e1 e2 hc n1 n2 =>
    J.pins_of fun q hq => by
      rcases List.mem_cons.mp hq with rfl | hq
      · exact ⟨e1, n1, GG.nA.1, GG.nA.2, M.gc⟩
      · rcases List.mem_cons.mp hq with rfl | hq
        · exact ⟨e2, n2, GG.nL.1, GG.nL.2.1, hc⟩
        · cases hq
  have agree : ∀ i H', W i H' → ∀ b ∈ gp.ds, H' b = gp.Hg b := fun i H' wi b m => by
    obtain ⟨o', qo, ne⟩ := M.nb b m
    rw [← M.ag b m, qo]
    exact wkeep i H' wi b o' (fun z => by rw [z, nD] at qo; cases qo) qo
  have a0 : Asl (X.blk zd Kd scp ce [gp.L]) gp gn go v k 0 [] (wipe σ (own.map (·.2))) Kd ze := ⟨oL0, .fresh c, pinD Ie (ke _ _ M.gen) (ke _ _ hoL0) hcL0 tA tL, hcL0, by rw [ge_]; exact M.at_, fun s'' wk => ⟨rfl, M.run X.A.in1 s'' room1 fr1 (wk.step oe_ fun b o _ e => ke b o e)⟩⟩
  have lp : codeAny (model X.prog X.w) X.A (.compLoop (.ListComp el [⟨tg, .Call (.Attribute o "dances" apos) [e] [] pos', [], 0⟩] scp ps) 0 (.ref gp.a) (.ref D) ce) (compPost (model X.prog X.w) X.A X.xe none (EP X pins σ R) (.ref D) zd.heap.objs.size) ze := by
    refine compLoop_any (fun n s' => ∃ i H', n = totD v - k - i ∧ i ≤ totD v - k ∧ W i H' ∧ Asl (X.blk zd Kd scp ce [gp.L]) gp gn go v k i [] (wipe σ (own.map (·.2))) H' s') ?_ (totD v - k) ⟨0, Kd, rfl, Nat.zero_le _, w0, a0⟩
    rintro n s5 ⟨i, H5, rfl, hi, wi, a5⟩
    refine thnF (next_D (Y := X.blk zd Kd scp ce [gp.L]) (E := fun _ _ => False) GG hi a5 (agree i H5 wi) (fun q hq => nomatch (show q ∈ ([] : List (Addr × Obj)) from hq))) fun r s6 h6 => ?_
    rcases h6 with ⟨u, oL, gs, rfl, li, ru, wk6⟩ | ⟨rfl, ei, I6⟩
    · obtain ⟨J6, hc6, at6, sl6, wake6⟩ := id wk6
      have z0 := Fz.start s6
      have Jf : Inv (X.blk zd Kd scp ce [gp.L]) (pnG gp go oL ++ []) (wipe σ (own.map (·.2))) H5 { s6 with gens := s6.gens.map pz } := inv_gens J6 (Fz.start_bare J6.bare)
      obtain ⟨og, nm, qn, ho1, ho2, ho3, _⟩ := M.ig _ (J6.pin (gp.a, go) (List.mem_append_right _ List.mem_cons_self)).1
      refine go_of ho1 ho2 ho3 (by decide) ?_
      refine wpAny_mono (wpAny_fz z0 (pgt.run _ _ _ H5 (itD v (k + i)) u _ Jf ru (turn i H5 wi li))) (fun _ s8 h8 => ?_) fun er s8 h8 => (let ⟨_, _, hx⟩ := h8; False.elim hx)
      obtain ⟨f8, z8, τ8, H8, I8, hw8, q8⟩ := h8
      refine wpAny_mono (wpAny_fz z8 ((pts_nil (X := X.blk zd Kd scp ce [gp.L])).run _ f8 τ8 H8 (fun b H' => b = true ∧ H' = H8) I8 ⟨rfl, rfl⟩)) (fun bb s9 h9 => ?_) fun er s9 h9 => (let ⟨_, _, hx⟩ := h9; False.elim hx)
      obtain ⟨f9, z9, H9, I9, rfl, rfl⟩ := h9
      simp only [if_true]
      refine wpAny_mono (wpAny_fz z9 (pel.run _ f9 τ8 _ _ I9 q8)) (fun zz s10 h10 => ?_) fun er s10 h10 => (let ⟨_, _, hx⟩ := h10; False.elim hx)
      obtain ⟨f10, z10, yv, H10, I10, r10, acc, hD10, hz10, nx⟩ := h10
      refine wpAny_mono (wpAny_fz z10 (app_ok (X := X.blk zd Kd scp ce [gp.L]) (E := fun _ _ => False) I10 hD10 hz10 r10 (Q := fun _ s' => Inv (X.blk zd Kd scp ce [gp.L]) (pnG gp go oL ++ []) τ8 (upd H10 D (.lst (acc ++ [yv]))) s') fun s11 I11 => I11)) (fun _ s11 h11 => ?_) fun er s11 h11 => (let ⟨_, _, hx⟩ := h11; False.elim hx)
      obtain ⟨f11, z11, I11⟩ := h11
      have hl : (wipe σ (own.map (·.2))).length = τ8.length := by rw [← hw8, wipe_length]
      have I12 : Inv (X.blk zd Kd scp ce [gp.L]) (pnG gp go oL ++ []) (wipe σ (own.map (·.2))) (upd H10 D (.lst (acc ++ [yv]))) f11 := I11.weak hl fun j w' e => by
        rw [← hw8] at e
        exact (wipe_some e).1
      exact ⟨totD v - k - (i + 1), by omega, i + 1, _, rfl, by omega, nx, wk6.rest z11 I12⟩
    · subst ei
      have I7 : Inv X pins σ H5 s6 := Id.call' (ch := [gp.L]) I6.os I6.base I6.hok I6.bare fun b hb => ⟨(wd b hb).1.2.2.2.1, (wd b hb).1.2.1, (wd b hb).1.2.2.2.2.1, (wd b hb).1.2.2.2.2.2⟩
      have nC : H5 zd.heap.objs.size = none := by
        have z : H5 ce.locals = none := I6.free
        rw [lce] at z
        exact z
      obtain ⟨m, hn, _⟩ := I6.loc
      have hn : s6.heap.Ns ce.locals m := hn
      rw [lce] at hn
      obtain ⟨f0, f1, f2, f3, f4, f5⟩ := Id.fpOk (Nat.le_refl _) nC
      exact ⟨m, hn, fun h'' sb => ⟨.ref D, H5, I7.turned (t' := s6.toks) (fun b o hb e => (sb.2 b hb).trans e) f0 f1 f3 f4 f5, rfl, hend H5 wi⟩⟩
  exact codeAny_compStart_list lp (wpAny_pyIter_gen (M.ig _ (ke _ _ M.gen)) lp)
end
section
theorem sh_nil : SeqAt.shaped (.list []) = true := by decide +kernel
theorem nil_self : (!PyData.eqv (.list []) (.list [])) = false := by decide +kernel
theorem lets_so {l : List Nat} (h : Lets l) : PyData.strOk (S l) = true := by
  show l.toArray.all _ = true
  rw [List.all_toArray, List.all_eq_true]
  intro c hc
  rcases h c hc with rfl | rfl | rfl <;> decide
/-- texts of letters, as data -/
def pys (ls : List (List Nat)) : PyData := .list (ls.map fun l => .str (S l))
def vls (ls : List (List Nat)) : List V := ls.map fun l => .str (S l)
theorem lay_pys : ∀ {ls : List (List Nat)}, (∀ l ∈ ls, Lets l) → PyData.canLayAll0 (ls.map fun l => .str (S l)) = true ∧ PyData.depthAll (ls.map fun l => .str (S l)) = 0
  | [], _ => by simp [PyData.canLayAll0, PyData.depthAll]
  | l :: ls, h => by
    obtain ⟨a, b⟩ := lay_pys fun x hx => h x (List.mem_cons_of_mem _ hx)
    refine ⟨by simp [PyData.canLayAll0, PyData.canLay0, a, lets_so (h l List.mem_cons_self)], by simp [PyData.depthAll, PyData.depth, b]⟩
theorem sh_pys {ls : List (List Nat)} (h : ∀ l ∈ ls, Lets l) : SeqAt.shaped (pys ls) = true := by
  obtain ⟨a, b⟩ := lay_pys h
  unfold SeqAt.shaped pys
  rw [Bool.and_eq_true, decide_eq_true_eq]
  exact ⟨by simp only [PyData.canLay0]; exact a, by simp only [PyData.depth]; omega⟩
theorem eqv_pys {ls : List (List Nat)} (h : ∀ l ∈ ls, Lets l) : PyData.eqv (pys ls) (pys ls) = true := by
  refine SeqAt.eqv_refl _ ?_
  unfold pys
  simp only [PyData.canLay0]
  exact (lay_pys h).1
theorem dpa_pys {K : PySem.W.Frag} {H : Hp} : ∀ ls : List (List Nat), DpAll K H (vls ls) (ls.map fun l => .str (S l))
  | [] => .nil
  | l :: ls => .cons (.str _) (dpa_pys ls)
theorem dp_pys {K : PySem.W.Frag} {H : Hp} {a : Addr} {ls : List (List Nat)} (h : H a = some (.lst (vls ls))) : Dp K H (.ref a) (pys ls) := .lst (SqL.of h) (dpa_pys ls)
end
section
/-- the dances of v from the rank k on -/
def dsF (v : Int × Int) (k n : Nat) : List (List Nat) := (List.range n).map fun i => ld (rl v) (k + i)
theorem dsF_len (v : Int × Int) (k n : Nat) : (dsF v k n).length = n := by unfold dsF; rw [List.length_map, List.length_range]
theorem dsF_succ (v : Int × Int) (k n : Nat) : dsF v k (n + 1) = dsF v k n ++ [ld (rl v) (k + n)] := by
  unfold dsF
  rw [List.range_succ, List.map_append]
  rfl
theorem dsF_lets (v : Int × Int) (k n : Nat) : ∀ l ∈ dsF v k n, Lets l := fun l hl => by
  obtain ⟨i, _, rfl⟩ := List.mem_map.mp hl
  exact ld_rl_lets v _
theorem vls_succ (v : Int × Int) (k n : Nat) : vls (dsF v k n) ++ [V.str (S (ld (rl v) (k + n)))] = vls (dsF v k (n + 1)) := by
  rw [dsF_succ]
  unfold vls
  rw [List.map_append]
  rfl
theorem vls_len (ls : List (List Nat)) : (vls ls).length = ls.length := by unfold vls; rw [List.length_map]
theorem dsF_drop (v : Int × Int) (n b : Nat) : (vls (dsF v 0 n)).drop b = vls (dsF v b (n - b)) := by
  unfold vls dsF
  rw [← List.map_drop, ← List.map_drop]
  congr 1
  have : (List.range n).drop b = (List.range (n - b)).map (b + ·) := by
    apply List.ext_getElem?
    intro i
    rw [List.getElem?_drop, List.getElem?_map]
    by_cases h : b + i < n
    · rw [List.getElem?_range h, List.getElem?_range (by omega)]
      rfl
    · rw [List.getElem?_eq_none (by rw [List.length_range]; omega), List.getElem?_eq_none (by rw [List.length_range]; omega)]
      rfl
  rw [this, List.map_map]
  apply List.map_congr_left
  intro x _
  show ld (rl v) (0 + (b + x)) = ld (rl v) (b + x)
  rw [Nat.zero_add]
theorem cut_from {xs : List V} {k : Nat} : cutV xs (some (k : Int)) none = xs.drop k := by
  unfold cutV
  have e1 : HT.sIx xs.length xs.length none = xs.length := rfl
  rw [e1, HT.sIx_nat]
  by_cases h : k ≤ xs.length
  · rw [Nat.min_eq_left h, List.take_of_length_le (by rw [List.length_drop]; exact Nat.le_refl _)]
  · rw [Nat.min_eq_right (by omega), Nat.sub_self, List.take_zero, List.drop_eq_nil_of_le (by omega)]
def dls (ls : List (List Nat)) : Dt := .lst (ls.map fun l => .str (S l))
theorem is_vls {H : Hp} {a : Addr} {ls : List (List Nat)} (h : H a = some (.lst (vls ls))) (m : ls.length ≤ 1000000) : Is H 1 (.ref a) (dls ls) := by
  refine is_lst h (by rw [vls_len, List.length_map]) (by rw [List.length_map]; exact m) fun i x d hx hd => ?_
  unfold vls at hx
  rw [List.getElem?_map] at hx hd
  cases e : ls[i]? with
  | none => rw [e] at hx; cases hx
  | some l =>
    rw [e] at hx hd
    cases hx
    cases hd
    exact str_is
def spWalks (C : Addr) : Sp := fun vs H Q _ => ∃ (p D : Addr) (v : Int × Int) (b o : Nat), vs = [.ref p, .ref D, .int (b : Int), .int (o : Int)] ∧ LdAt C H p v ∧ Good v ∧ stp v ≤ 2000 ∧ totD v ≤ 1000000 ∧ H D = some (.lst (vls (dsF v 0 (totD v)))) ∧ ∀ H', Same H H' → Q (.bl true) H'
end
section
variable {P : Program} {w : World} {K : PySem.W.Frag} {mg : Str → Option Value} {base : Heap} {f : Addr} {fd : FuncData}
theorem ok__law_walks (F : Fun K "_law_walks" "_law_walks" s_law_walks f fd) (D_same2 : Dfn P w K mg base "_law_same" 5 ["told", "due"] (spSame 2)) {fS pr gg : Addr} {fdS fdC : FuncData} (TLd : TxL K mg CL) (FS : Fun K "dances" "LeastDances.dances" s_Ldances fS fdS) (bS : Binds K fdS ["self", "start"] []) (MS : Meth K CL "dances" fS) (PR : PropOf K CL "dance_count" pr gg) (GC : FnOk P w K mg base CX0 1 gg fdC ["self"] (spCountL CL)) (bC : Binds K fdC ["self"] []) (DM_dance : MDfnL P w K mg base CL "dance" 3 ["self", "rank"] (spDanceL CL)) : FnOk P w K mg base CX0 6 f fd ["least", "due", "begin", "other"] (spWalks CL) := by
  refine F.ok sc_law_walks (fun vs H Q E h => ?_) (fun cdv A outer s H vs Q E hr h => ?_)
  · obtain ⟨p, D, v, b, o, rfl, ob, gv, zs, n6, hD, q⟩ := h
    rfl
  obtain ⟨p, D, v, b, o, rfl, ob, gv, zs, n6, hD, q⟩ := h
  obtain ⟨g_dance, fd_dance, G_dance, B_dance, M_dance⟩ := DM_dance.ex
  refine ⟨_, (pss_cons (ps_set (i := 4) sc_law_walks.nd rfl (.inl rfl) (pe_lst pa_nil))
    (pss_cons (ps_forD FS bS MS TLd M_dance G_dance B_dance PR GC bC (hr.mono (by decide)) (fun _ _ z => z) (pv 0) (pa_cons (pv 2) pa_nil) (pg_name (i := 5) sc_law_walks.nd rfl (.inl rfl))
    (pss_cons (ps_expr (pe_bm PySem.F.plainAttrs_list PySem.F.slot_list_append PySem.F.type_list_append mt_append (pv 4) (pa_cons (pv 5) pa_nil)))
    (pss_one (ps_if (pt_not (pt_val (pe_do D_same2 hr (pa_cons (pe_lcD (own := [("one", 6)]) FS bS MS TLd M_dance G_dance B_dance PR GC bC (hr.mono (by decide)) sc_law_walks.nd (pv 0) (pa_cons (pv 3) pa_nil) (blkOk_by (own := [("one", 6)]) (N := ["least", "due", "begin", "other", "found", "dance", "one"]) (sc := defScope s_law_walks) (by decide +kernel)) (fun _ _ _ _ _ => pg_name (i := 6) sc_law_walks.nd rfl (Or.inl rfl)) (fun _ _ _ _ _ => (pv 6))) (pa_cons (pe_slice sl_list (pv 1) (po_some (pv 3)) po_none) pa_nil))))) (pss_one (ps_ret pe_bl)) pss_nil))))
    (pss_one (ps_ret (pe_and (pe_do D_same2 hr (pa_cons (pv 4) (pa_cons (pe_slice sl_list (pv 1) (po_some (pv 2)) po_none) pa_nil))) (pe_one (pe_do D_same2 hr (pa_cons (pe_lcD (own := [("one", 6)]) FS bS MS TLd M_dance G_dance B_dance PR GC bC (hr.mono (by decide)) sc_law_walks.nd (pv 0) (pa_cons pe_int pa_nil) (blkOk_by (own := [("one", 6)]) (N := ["least", "due", "begin", "other", "found", "dance", "one"]) (sc := defScope s_law_walks) (by decide +kernel)) (fun _ _ _ _ _ => pg_name (i := 6) sc_law_walks.nd rfl (Or.inl rfl)) (fun _ _ _ _ _ => (pv 6))) (pa_cons (pv 1) pa_nil))))))))), ?_⟩
  have zero : 0 ≤ sizeLine := Nat.zero_le _
  have lv : ∀ k n, (vls (dsF v k n)).length = n := fun k n => by rw [vls_len, dsF_len]
  have grow : ∀ (k n : Nat), n ≤ 1000000 → (vls (dsF v k n)).length < sizeLine := fun k n h => Nat.lt_of_lt_of_le (by rw [lv]; omega) sizeLine_big
  refine ⟨zero, fun Z hZ => ?_⟩
  have s1 := same_new hZ (.lst [])
  have hL : upd H Z (.lst []) Z = some (.lst []) := upd_same
  generalize upd H Z (.lst []) = H1 at *
  obtain ⟨dx1, ft, fr, fw', hp1, _⟩ := id (ob.same s1)
  refine ⟨_, rfl, p, dx1, _, rfl, hp1, lf_no _ _ _ (by decide +kernel) (by decide +kernel) (by decide +kernel), _, rfl, v, b, rfl, ob.same s1, gv, zs, (fun x => x = Z), (fun i σ F => ∃ x4 : Option V, σ = [some (.ref p), some (.ref D), some (.int (b : Int)), some (.int (o : Int)), some (.ref Z), x4, none] ∧ Same H F ∧ But Z H1 F ∧ F Z = some (.lst (vls (dsF v b i))) ∧ i ≤ totD v - b), (fun x e => .inr (by rw [e]; exact hL)), ⟨_, rfl, s1, But.refl _ _, hL, Nat.zero_le _⟩, ?K, ?T, ?E⟩
  case K =>
    rintro i σ F ⟨x4, rfl, _, bF, _, _⟩ x o' nb e
    exact bF x o' nb e
  case T =>
    rintro i σ F ⟨x4, rfl, sF, bF, hF, i2⟩ hi
    refine ⟨_, rfl, .inl ⟨rfl, _, SqL.of hF⟩, _, rfl, Z, _, _, rfl, rfl, hF, grow b i (by omega), ?_⟩
    have hF2 : upd F Z (.lst (vls (dsF v b i) ++ [itD v (b + i)])) Z = some (.lst (vls (dsF v b (i + 1)))) := by
      rw [upd_same]
      exact congrArg (fun x => some (HO.lst x)) (vls_succ v b i)
    have sF2 : Same H (upd F Z (.lst (vls (dsF v b i) ++ [itD v (b + i)]))) := same_upd sF hZ
    have bF2 := bF.trans (But.upd (H := F) (a := Z) (o := .lst (vls (dsF v b i) ++ [itD v (b + i)])))
    generalize upd F Z (.lst (vls (dsF v b i) ++ [itD v (b + i)])) = F2 at *
    have o2 := ob.same sF2
    obtain ⟨dx2, ft2, fr2, fw2, hp2, _⟩ := id o2
    refine ⟨_, rfl, p, dx2, _, rfl, hp2, lf_no _ _ _ (by decide +kernel) (by decide +kernel) (by decide +kernel), _, rfl, v, o, rfl, o2, gv, zs, fun E hE => ⟨fun j G => Same F2 G ∧ G E = some (.lst (vls (dsF v o j))) ∧ j ≤ totD v - o, ⟨same_new hE _, upd_same, Nat.zero_le _⟩, fun j G h x o' _ e => h.1 _ _ e, ?_, ?_⟩⟩
    · rintro j G ⟨sG, hG, j2⟩ hj
      refine ⟨rfl, _, rfl, _, hG, grow o j (by omega), same_upd sG hE, ?_, by omega⟩
      rw [upd_same]
      exact congrArg (fun x => some (HO.lst x)) (vls_succ v o j)
    · rintro G ⟨sG, hG, _⟩
      have hD' := sG _ _ (sF2 _ _ hD)
      refine ⟨_, rfl, _, rfl, _, rfl, D, _, rfl, SqL.of hD', fun W hW => ?_⟩
      rw [cut_from, dsF_drop]
      have s3 := same_new hW (.lst (vls (dsF v o (totD v - o))))
      refine ⟨_, _, dls (dsF v o (totD v - o)), rfl, is_vls (s3 _ _ hG) (by rw [dsF_len]; omega), is_vls upd_same (by rw [dsF_len]; omega), _, rfl, iteF ⟨_, rfl, (sF2.trans sG).trans s3, ?_, (sG.trans s3) _ _ hF2, by omega⟩⟩
      exact bF2.trans (But.of (sG.trans s3))
  case E =>
    rintro σ F ⟨x4, rfl, sF, bF, hF, i2⟩
    have hD' := sF _ _ hD
    refine ⟨_, rfl, _, rfl, _, rfl, _, rfl, D, _, rfl, SqL.of hD', fun W hW => ?_⟩
    rw [cut_from, dsF_drop]
    have s3 := same_new hW (.lst (vls (dsF v b (totD v - b))))
    refine ⟨_, _, dls (dsF v b (totD v - b)), rfl, is_vls (s3 _ _ hF) (by rw [dsF_len]; omega), is_vls upd_same (by rw [dsF_len]; omega), _, rfl, iteT ?_⟩
    have S3 := sF.trans s3
    have o3 := ob.same S3
    obtain ⟨dx3, ft3, fr3, fw3, hp3, _⟩ := id o3
    refine ⟨_, rfl, p, dx3, _, rfl, hp3, lf_no _ _ _ (by decide +kernel) (by decide +kernel) (by decide +kernel), v, 0, rfl, o3, gv, zs, fun E hE => ⟨fun j G => Same (upd F W (.lst (vls (dsF v b (totD v - b))))) G ∧ G E = some (.lst (vls (dsF v 0 j))) ∧ j ≤ totD v - 0, ⟨same_new hE _, upd_same, Nat.zero_le _⟩, fun j G h x o' _ e => h.1 _ _ e, ?_, ?_⟩⟩
    · rintro j G ⟨sG, hG, j2⟩ hj
      refine ⟨rfl, _, rfl, _, hG, grow 0 j (by omega), same_upd sG hE, ?_, by omega⟩
      rw [upd_same]
      exact congrArg (fun x => some (HO.lst x)) (vls_succ v 0 j)
    · rintro G ⟨sG, hG, _⟩
      exact ⟨_, rfl, _, _, dls (dsF v 0 (totD v)), rfl, is_vls hG (by rw [dsF_len]; omega), is_vls ((S3.trans sG) _ _ hD) (by rw [dsF_len]; omega), q G (S3.trans sG)⟩
end
section
theorem QL_one {p q c : Nat} (hp : 0 < p) (h : q ≤ p) : (QL (c * p + q) p).length ≤ (QL p q).length + 1 := by
  rw [QL_step hp, Nat.add_comm, Nat.add_mul_mod_self_right]
  rcases Nat.lt_or_eq_of_le h with k | k
  · rw [Nat.mod_eq_of_lt k]
    exact Nat.le_refl _
  · rw [k, Nat.mod_self, QL_zero]
    show 0 + 1 ≤ _
    omega
theorem QL_swap {p q : Nat} (hp : 0 < p) (h : q ≤ p) : (QL q p).length ≤ (QL p q).length + 1 := by
  have := QL_one (c := 0) hp h
  rw [Nat.zero_mul, Nat.zero_add] at this
  exact this
theorem wy_pow : ∀ (n : Nat) (l : List Nat), l.length ≤ n → wy l ≤ 2 ^ l.length
  | _, [], _ => by decide
  | _, [_], _ => by show 1 ≤ 2 ^ 1; decide
  | _, [_, _], _ => by show 1 ≤ 2 ^ 2; decide
  | 0, _ :: _ :: _ :: _, h => by simp at h
  | n + 1, a :: b :: c :: r, h => by
    have l1 : (b :: c :: r).length ≤ n := by simp at h ⊢; omega
    have l2 : (c :: r).length ≤ n := by simp at h ⊢; omega
    have i1 := wy_pow n (b :: c :: r) l1
    have i2 := wy_pow n (c :: r) l2
    rw [wy_three]
    have e1 : 2 ^ (a :: b :: c :: r).length = 2 ^ (b :: c :: r).length * 2 := Nat.pow_succ _ _
    have e2 : 2 ^ (b :: c :: r).length = 2 ^ (c :: r).length * 2 := Nat.pow_succ _ _
    rw [e1]
    split <;> omega
theorem tot_small {v : Int × Int} (h : (quo v).length ≤ 21) : wy (ns_ (rl v)) < 2 ^ 60 := by
  have a := wy_pow _ (ns_ (rl v)) (Nat.le_refl _)
  have b : (ns_ (rl v)).length = (quo v).length := by rw [ns_len, rl_len]
  rw [b] at a
  exact Nat.lt_of_le_of_lt a (Nat.pow_lt_pow_right (by decide) (by omega))
end
section
/-! ### all dances, level by level -/
def prs (u : Int × Int) : List ((Int × Int) × Nat) := [(u, 82), (u, 84), (u, 85)]
def fullP (ks : List (Int × Int)) : List ((Int × Int) × Nat) := ks.flatMap prs
def pieceF (F : Int × Int → List (List Nat)) (f : Int × Int) (e : (Int × Int) × Nat) : List (List Nat) := if called e.1 e.2 = f then (F e.1).map (· ++ [e.2]) else []
def lsof (F : Int × Int → List (List Nat)) (f : Int × Int) (P : List ((Int × Int) × Nat)) : List (List Nat) := P.flatMap (pieceF F f)
def hitF (j : Nat) (f : Int × Int) (P : List ((Int × Int) × Nat)) : Prop := ∃ e ∈ P, called e.1 e.2 = f ∧ stp f = j + 1
structure Fok (j : Nat) (ks : List (Int × Int)) (F : Int × Int → List (List Nat)) : Prop where
  nd : ks.Nodup
  mem : ∀ f, f ∈ ks ↔ Good f ∧ stp f = j
  ln : ∀ f ∈ ks, (F f).Nodup
  lm : ∀ f ∈ ks, ∀ l, l ∈ F f ↔ Lets l ∧ l.length = j ∧ run (0, 1) l = f
theorem prs_mem {u : Int × Int} {e : (Int × Int) × Nat} : e ∈ prs u ↔ e.1 = u ∧ (e.2 = 82 ∨ e.2 = 84 ∨ e.2 = 85) := by
  obtain ⟨a, b⟩ := e
  simp only [prs, List.mem_cons, Prod.mk.injEq, List.not_mem_nil, or_false]
  constructor
  · rintro (⟨rfl, rfl⟩ | ⟨rfl, rfl⟩ | ⟨rfl, rfl⟩)
    · exact ⟨rfl, .inl rfl⟩
    · exact ⟨rfl, .inr (.inl rfl)⟩
    · exact ⟨rfl, .inr (.inr rfl)⟩
  · rintro ⟨rfl, rfl | rfl | rfl⟩
    · exact .inl ⟨rfl, rfl⟩
    · exact .inr (.inl ⟨rfl, rfl⟩)
    · exact .inr (.inr ⟨rfl, rfl⟩)
theorem full_mem {ks : List (Int × Int)} {e : (Int × Int) × Nat} : e ∈ fullP ks ↔ e.1 ∈ ks ∧ (e.2 = 82 ∨ e.2 = 84 ∨ e.2 = 85) := by
  unfold fullP
  rw [List.mem_flatMap]
  constructor
  · rintro ⟨u, hu, he⟩
    obtain ⟨rfl, k⟩ := prs_mem.mp he
    exact ⟨hu, k⟩
  · rintro ⟨h, k⟩
    exact ⟨e.1, h, prs_mem.mpr ⟨rfl, k⟩⟩
theorem full_nodup {ks : List (Int × Int)} (h : ks.Nodup) : (fullP ks).Nodup := by
  unfold fullP
  rw [List.nodup_iff_pairwise_ne, List.pairwise_flatMap]
  refine ⟨fun u _ => ?_, ?_⟩
  · simp [prs]
  · rw [List.nodup_iff_pairwise_ne] at h
    refine h.imp fun {a b} ne x hx y hy z => ne ?_
    rw [← (prs_mem.mp hx).1, ← (prs_mem.mp hy).1, z]
theorem piece_mem {F : Int × Int → List (List Nat)} {f : Int × Int} {e : (Int × Int) × Nat} {l : List Nat} : l ∈ pieceF F f e ↔ called e.1 e.2 = f ∧ ∃ l0 ∈ F e.1, l = l0 ++ [e.2] := by
  unfold pieceF
  by_cases h : called e.1 e.2 = f
  · rw [if_pos h, List.mem_map]
    constructor
    · rintro ⟨l0, h0, rfl⟩; exact ⟨h, l0, h0, rfl⟩
    · rintro ⟨_, l0, h0, rfl⟩; exact ⟨l0, h0, rfl⟩
  · rw [if_neg h]
    constructor
    · intro z; cases z
    · rintro ⟨z, _⟩; exact absurd z h
theorem lsof_mem {F : Int × Int → List (List Nat)} {f : Int × Int} {P : List ((Int × Int) × Nat)} {l : List Nat} : l ∈ lsof F f P ↔ ∃ e ∈ P, called e.1 e.2 = f ∧ ∃ l0 ∈ F e.1, l = l0 ++ [e.2] := by
  unfold lsof
  rw [List.mem_flatMap]
  constructor
  · rintro ⟨e, he, h⟩; exact ⟨e, he, piece_mem.mp h⟩
  · rintro ⟨e, he, h⟩; exact ⟨e, he, piece_mem.mpr h⟩
theorem lsof_nodup {j : Nat} {ks : List (Int × Int)} {F : Int × Int → List (List Nat)} (ok : Fok j ks F) {P : List ((Int × Int) × Nat)} (hP : P.Nodup) (hk : ∀ e ∈ P, e.1 ∈ ks) (f : Int × Int) : (lsof F f P).Nodup := by
  unfold lsof
  rw [List.nodup_iff_pairwise_ne, List.pairwise_flatMap]
  refine ⟨fun e he => ?_, ?_⟩
  · unfold pieceF
    split
    · rw [List.pairwise_map]
      have := ok.ln e.1 (hk e he)
      rw [List.nodup_iff_pairwise_ne] at this
      exact this.imp fun {a b} ne z => ne (List.append_cancel_right z)
    · exact List.Pairwise.nil
  · rw [List.nodup_iff_pairwise_ne] at hP
    refine hP.imp_of_mem fun {a b} ha hb ne x hx y hy z => ne ?_
    obtain ⟨_, l0, h0, rfl⟩ := piece_mem.mp hx
    obtain ⟨_, l1, h1, rfl⟩ := piece_mem.mp hy
    have e1 := List.append_inj' z rfl
    have r0 := ((ok.lm a.1 (hk a ha) l0).mp h0).2.2
    have r1 := ((ok.lm b.1 (hk b hb) l1).mp h1).2.2
    have s2 : a.2 = b.2 := by simpa using e1.2
    have s1 : a.1 = b.1 := by rw [← r0, ← r1, e1.1]
    exact Prod.ext s1 s2
theorem Fok.zero : Fok 0 [(0, 1)] (fun _ => [[]]) := by
  refine ⟨by simp, fun f => by rw [← (lev_zero).mem], fun f _ => by simp, fun f hf l => ?_⟩
  rw [List.mem_singleton.mp hf, List.mem_singleton]
  constructor
  · rintro rfl; exact ⟨(fun c hc => by cases hc), rfl, rfl⟩
  · rintro ⟨_, h, _⟩; exact List.length_eq_zero_iff.mp h
theorem snoc_of {l : List Nat} {n : Nat} (h : l.length = n + 1) : ∃ l0 c, l = l0 ++ [c] ∧ l0.length = n := by
  have ne : l ≠ [] := fun z => by rw [z] at h; cases h
  refine ⟨l.dropLast, l.getLast ne, (List.dropLast_concat_getLast ne).symm, by rw [List.length_dropLast, h]; rfl⟩
theorem Fok.next {j : Nat} {ks ks' : List (Int × Int)} {F : Int × Int → List (List Nat)} (ok : Fok j ks F) (nd : ks'.Nodup) (h : ∀ f, f ∈ ks' ↔ hitF j f (fullP ks)) : Fok (j + 1) ks' (fun f => lsof F f (fullP ks)) := by
  have mem : ∀ f, f ∈ ks' ↔ Good f ∧ stp f = j + 1 := fun f => by
    rw [h]
    constructor
    · rintro ⟨e, he, rfl, hs⟩
      have k := full_mem.mp he
      exact ⟨((ok.mem e.1).mp k.1).1.called e.2, hs⟩
    · rintro ⟨g, hs⟩
      obtain ⟨u, c, hc, gu, su, e⟩ := stp_from g hs
      exact ⟨(u, c), full_mem.mpr ⟨(ok.mem u).mpr ⟨gu, su⟩, hc⟩, e, hs⟩
  refine ⟨nd, mem, fun f _ => lsof_nodup ok (full_nodup ok.nd) (fun e he => (full_mem.mp he).1) f, fun f hf l => ?_⟩
  obtain ⟨gf, sf⟩ := (mem f).mp hf
  rw [lsof_mem]
  constructor
  · rintro ⟨e, he, ce, l0, h0, rfl⟩
    have k := full_mem.mp he
    obtain ⟨a, b, c⟩ := (ok.lm e.1 k.1 l0).mp h0
    refine ⟨fun x hx => ?_, by rw [List.length_append, b]; rfl, by rw [run_app, c]; exact ce⟩
    rcases List.mem_append.mp hx with hx | hx
    · exact a x hx
    · rw [List.mem_singleton.mp hx]
      rcases k.2 with q | q | q
      · exact .inr (.inr q)
      · exact .inl q
      · exact .inr (.inl q)
  · rintro ⟨hl, hn, hr⟩
    obtain ⟨l0, c, rfl, h0⟩ := snoc_of hn
    have hc : c = 84 ∨ c = 85 ∨ c = 82 := hl c (by simp)
    have g0 := good_run l0 Good.zero
    rw [run_app] at hr
    have hr : called (run (0, 1) l0) c = f := hr
    have s1 := stp_run l0 Good.zero
    rw [stp_zero, h0] at s1
    have s2 := (stp_near g0 c).1
    rw [hr, sf] at s2
    have k : run (0, 1) l0 ∈ ks := (ok.mem _).mpr ⟨g0, by omega⟩
    refine ⟨(run (0, 1) l0, c), full_mem.mpr ⟨k, ?_⟩, hr, l0, (ok.lm _ k l0).mpr ⟨fun x hx => hl x (List.mem_append_left _ hx), h0, rfl⟩, rfl⟩
    rcases hc with q | q | q
    · exact .inr (.inl q)
    · exact .inr (.inr q)
    · exact .inl q
/-- words of letters -/
def wordsN : Nat → List (List Nat)
  | 0 => [[]]
  | n + 1 => (wordsN n).flatMap fun l => [l ++ [82], l ++ [84], l ++ [85]]
theorem words_len : ∀ n, (wordsN n).length = 3 ^ n
  | 0 => rfl
  | n + 1 => by
    show ((wordsN n).flatMap fun l => [l ++ [82], l ++ [84], l ++ [85]]).length = _
    rw [List.length_flatMap, Nat.pow_succ, ← words_len n]
    generalize wordsN n = w
    induction w with
    | nil => rfl
    | cons a r ih =>
      rw [List.map_cons, List.sum_cons, ih]
      show 3 + _ = (r.length + 1) * 3
      omega
theorem words_mem : ∀ (n : Nat) (l : List Nat), Lets l → l.length = n → l ∈ wordsN n
  | 0, l, _, h => by rw [List.length_eq_zero_iff.mp h]; exact List.mem_singleton.mpr rfl
  | n + 1, l, hl, h => by
    obtain ⟨l0, c, rfl, h0⟩ := snoc_of h
    have i := words_mem n l0 (fun x hx => hl x (List.mem_append_left _ hx)) h0
    refine List.mem_flatMap.mpr ⟨l0, i, ?_⟩
    rcases hl c (by simp) with q | q | q <;> simp [q]
theorem nodup_le {α : Type} [DecidableEq α] : ∀ (A B : List α), A.Nodup → (∀ x ∈ A, x ∈ B) → A.length ≤ B.length
  | [], _, _, _ => Nat.zero_le _
  | a :: A, B, nd, sub => by
    have nd2 := List.nodup_cons.mp nd
    have ha := sub a List.mem_cons_self
    have ih := nodup_le A (B.erase a) nd2.2 fun y hy => (List.mem_erase_of_ne (fun z => nd2.1 (by rw [← z]; exact hy))).mpr (sub y (List.mem_cons_of_mem _ hy))
    rw [List.length_erase_of_mem ha] at ih
    have := List.length_pos_of_mem ha
    rw [List.length_cons]
    omega
theorem Fok.small {j : Nat} {ks : List (Int × Int)} {F : Int × Int → List (List Nat)} (ok : Fok j ks F) {f : Int × Int} (h : f ∈ ks) : (F f).length ≤ 3 ^ j := by
  rw [← words_len]
  refine nodup_le _ _ (ok.ln f h) fun l hl => ?_
  obtain ⟨a, b, _⟩ := (ok.lm f h l).mp hl
  exact words_mem j l a b
theorem lsof_small {j : Nat} {ks : List (Int × Int)} {F : Int × Int → List (List Nat)} (ok : Fok j ks F) {P : List ((Int × Int) × Nat)} (hP : P.Nodup) (hk : ∀ e ∈ P, e.1 ∈ ks ∧ (e.2 = 82 ∨ e.2 = 84 ∨ e.2 = 85)) (f : Int × Int) : (lsof F f P).length ≤ 3 ^ (j + 1) := by
  rw [← words_len]
  refine nodup_le _ _ (lsof_nodup ok hP (fun e he => (hk e he).1) f) fun l hl => ?_
  obtain ⟨e, he, _, l0, h0, rfl⟩ := lsof_mem.mp hl
  have k := hk e he
  obtain ⟨a, b, _⟩ := (ok.lm e.1 k.1 l0).mp h0
  refine words_mem _ _ (fun x hx => ?_) (by rw [List.length_append, b]; rfl)
  rcases List.mem_append.mp hx with hx | hx
  · exact a x hx
  · rw [List.mem_singleton.mp hx]
    rcases k.2 with q | q | q
    · exact .inr (.inr q)
    · exact .inl q
    · exact .inr (.inl q)
theorem Fok.keys_small {j : Nat} {ks ks' : List (Int × Int)} {F : Int × Int → List (List Nat)} (nd : ks'.Nodup) {M : List (Int × Int)} (lev : Lev (j + 1) M) (h : ∀ f ∈ ks', Good f ∧ stp f = j + 1) : ks'.length ≤ 4 ^ (j + 1) :=
  Nat.le_trans (nodup_le ks' M nd fun f hf => (lev.mem f).mpr (h f hf)) lev.len
theorem lsof_snoc (F : Int × Int → List (List Nat)) (f : Int × Int) (P : List ((Int × Int) × Nat)) (e : (Int × Int) × Nat) : lsof F f (P ++ [e]) = lsof F f P ++ pieceF F f e := by
  unfold lsof
  rw [List.flatMap_append]
  simp
/-! ### keys of a dict -/
theorem put_keys {kvs : List (List Key × V)} {ks : List (Int × Int)} (h : kvs.map (·.1) = ks.map kyv) (f : Int × Int) (y : V) : (putK kvs (kyv f) y).map (·.1) = (if f ∈ ks then ks else ks ++ [f]).map kyv := by
  have e : (kvs.any fun kv => decide (kv.1 = kyv f)) = decide (f ∈ ks) := by
    rw [Bool.eq_iff_iff, List.any_eq_true, decide_eq_true_eq]
    constructor
    · rintro ⟨x, hx, k⟩
      have k := of_decide_eq_true k
      have : kyv f ∈ ks.map kyv := by rw [← h, ← k]; exact List.mem_map.mpr ⟨x, hx, rfl⟩
      obtain ⟨u, hu, eu⟩ := List.mem_map.mp this
      rw [← kyv_inj eu]
      exact hu
    · intro hf
      have : kyv f ∈ kvs.map (·.1) := by rw [h]; exact List.mem_map.mpr ⟨f, hf, rfl⟩
      obtain ⟨x, hx, ex⟩ := List.mem_map.mp this
      exact ⟨x, hx, decide_eq_true ex⟩
  unfold putK
  rw [e]
  by_cases hf : f ∈ ks
  · rw [decide_eq_true hf, if_pos rfl, if_pos hf, List.map_map, ← h]
    apply List.map_congr_left
    intro x _
    show (if x.1 = kyv f then (x.1, y) else x).1 = x.1
    split <;> rfl
  · rw [decide_eq_false hf, if_neg Bool.false_ne_true, if_neg hf, List.map_append, List.map_append, h]
    rfl
theorem val_in {kvs : List (List Key × V)} {ks : List (Int × Int)} (h : kvs.map (·.1) = ks.map kyv) {f : Int × Int} (n : f ∉ ks) : valV kvs (kyv f) = none := by
  cases e : valV kvs (kyv f) with
  | none => rfl
  | some y =>
    have : (kvs.any fun kv => decide (kv.1 = kyv f)) = true := by rw [valV_any, e]; rfl
    obtain ⟨x, hx, k⟩ := List.any_eq_true.mp this
    have k := of_decide_eq_true k
    have : kyv f ∈ ks.map kyv := by rw [← h, ← k]; exact List.mem_map.mpr ⟨x, hx, rfl⟩
    obtain ⟨u, hu, eu⟩ := List.mem_map.mp this
    exact absurd (by rw [← kyv_inj eu]; exact hu) n
theorem keys_of {H : Hp} : ∀ {kvs : List (List Key × V)} {bs : List Addr} {ks : List (Int × Int)}, IsKeys H kvs bs → kvs.map (·.1) = ks.map kyv → bs.length = ks.length ∧ ∀ (i : Nat) (b : Addr) (u : Int × Int), bs[i]? = some b → ks[i]? = some u → Tup2 H b u
  | [], [], [], _, _ => ⟨rfl, fun i b u h => by cases h⟩
  | [], _ :: _, _, h, _ => nomatch h
  | _ :: _, [], _, h, _ => nomatch h
  | [], [], _ :: _, _, e => by cases e
  | _ :: _, _ :: _, [], _, e => by cases e
  | x :: kvs, b :: bs, u :: ks, h, e => by
    cases h with
    | cons h1 h2 =>
      rw [List.map_cons, List.map_cons] at e
      injection e with e1 e2
      obtain ⟨l, k⟩ := keys_of h2 e2
      refine ⟨by simp [l], fun i b2 u2 hb hu => ?_⟩
      match i, hb, hu with
      | 0, hb, hu =>
        cases hb; cases hu
        rw [e1] at h1
        exact h1
      | i + 1, hb, hu => exact k i b2 u2 hb hu
/-- the dict at d: the lists of F at the keys ks -/
def FAt (G : Hp) (d : Addr) (ks : List (Int × Int)) (F : Int × Int → List (List Nat)) : Prop := ∃ kvs, G d = some (.dT kvs) ∧ kvs.map (·.1) = ks.map kyv ∧ ∀ f ∈ ks, ∃ a, valV kvs (kyv f) = some (.ref a) ∧ G a = some (.lst (vls (F f)))
/-! ### sorted texts -/
open PySem.Spec PyProof.Rows
theorem ltc : ∀ a b : List Nat, ltCps a b = decide (a < b)
  | [], [] => by simp [ltCps]
  | [], _ :: _ => by simp [ltCps]
  | _ :: _, [] => by simp [ltCps]
  | x :: a, y :: b => by
    have ih := ltc a b
    rw [show (decide (x :: a < y :: b)) = decide (x < y ∨ x = y ∧ a < b) from decide_eq_decide.mpr List.cons_lt_cons_iff]
    simp [ltCps, ih]
    rfl
theorem asc_unique : ∀ (A B : List (List Nat)), A.Pairwise (· < ·) → B.Pairwise (· < ·) → (∀ x, x ∈ A ↔ x ∈ B) → A = B
  | [], [], _, _, _ => rfl
  | [], b :: B, _, _, h => by
    have := (h b).mpr List.mem_cons_self
    cases this
  | a :: A, [], _, _, h => by
    have := (h a).mp List.mem_cons_self
    cases this
  | a :: A, b :: B, hA, hB, h => by
    have pA := List.pairwise_cons.mp hA
    have pB := List.pairwise_cons.mp hB
    have ab : a = b := by
      rcases List.mem_cons.mp ((h a).mp List.mem_cons_self) with e | e
      · exact e
      · rcases List.mem_cons.mp ((h b).mpr List.mem_cons_self) with e2 | e2
        · exact e2.symm
        · exact absurd (List.lt_trans (pA.1 b e2) (pB.1 a e)) (List.lt_irrefl _)
    subst ab
    rw [asc_unique A B pA.2 pB.2 fun x => ?_]
    constructor
    · intro hx
      rcases List.mem_cons.mp ((h x).mp (List.mem_cons_of_mem _ hx)) with e | e
      · exact absurd (pA.1 x hx) (by rw [e]; exact List.lt_irrefl _)
      · exact e
    · intro hx
      rcases List.mem_cons.mp ((h x).mpr (List.mem_cons_of_mem _ hx)) with e | e
      · exact absurd (pB.1 x hx) (by rw [e]; exact List.lt_irrefl _)
      · exact e
theorem rise_all : ∀ (ys : List Str) (p : Str), risingS p ys = true → (∀ y ∈ ys, p.cps.toList ≤ y.cps.toList) ∧ ys.Pairwise fun a b => a.cps.toList ≤ b.cps.toList
  | [], _, _ => ⟨fun y h => by (cases h), .nil⟩
  | x :: r, p, h => by
    simp only [risingS, Bool.and_eq_true] at h
    obtain ⟨h1, h2⟩ := h
    rw [ltc] at h1
    have h1 : p.cps.toList ≤ x.cps.toList := by
      have : ¬ x.cps.toList < p.cps.toList := by simpa using h1
      exact this
    obtain ⟨i1, i2⟩ := rise_all r x h2
    refine ⟨fun y hy => ?_, List.pairwise_cons.mpr ⟨i1, i2⟩⟩
    rcases List.mem_cons.mp hy with rfl | hy
    · exact h1
    · exact List.le_trans h1 (i1 y hy)
theorem sorted_pw {ys : List Str} (h : sortedS ys = true) : ys.Pairwise fun a b => a.cps.toList ≤ b.cps.toList := by
  cases ys with
  | nil => exact .nil
  | cons x r =>
    obtain ⟨a, b⟩ := rise_all r x h
    exact List.pairwise_cons.mpr ⟨a, b⟩
theorem sorted_is {xs zs : List (List Nat)} {ys : List Str} (h : ys.Perm (xs.map S)) (s : sortedS ys = true) (hz : zs.Pairwise (· < ·)) (hx : xs.Nodup) (same : ∀ l, l ∈ xs ↔ l ∈ zs) : ys = zs.map S := by
  have nd : ys.Nodup := by
    refine h.nodup_iff.mpr ?_
    rw [List.nodup_iff_pairwise_ne, List.pairwise_map]
    rw [List.nodup_iff_pairwise_ne] at hx
    exact hx.imp fun {a b} ne z => ne (S_inj z)
  have pw : (ys.map fun z => z.cps.toList).Pairwise (· < ·) := by
    rw [List.pairwise_map]
    rw [List.nodup_iff_pairwise_ne] at nd
    refine (List.pairwise_and_iff.mpr ⟨sorted_pw s, nd⟩).imp fun {a b} k => ?_
    by_cases q : a.cps.toList < b.cps.toList
    · exact q
    · exact absurd (by rw [← S_eta a, ← S_eta b, List.le_antisymm k.1 q]) k.2
  have e : (ys.map fun z => z.cps.toList) = zs := by
    refine asc_unique _ _ pw hz fun x => ?_
    rw [← same x, List.mem_map]
    constructor
    · rintro ⟨z, hz', rfl⟩
      obtain ⟨l, hl, rfl⟩ := List.mem_map.mp (h.mem_iff.mp hz')
      rw [S_list]
      exact hl
    · intro hx'
      exact ⟨S x, h.mem_iff.mpr (List.mem_map.mpr ⟨x, hx', rfl⟩), S_list x⟩
  rw [← e, List.map_map]
  conv => lhs; rw [← List.map_id ys]
  exact List.map_congr_left fun z _ => (S_eta z).symm
end
section
theorem Room.units65 {k : Nat} {A : Around} (r : Room k A) : A.units + 65 < cLine := by have := r.un; omega
def pd2 (v : Int × Int) : PyData := .tuple [.int v.1, .int v.2]
theorem dpa_lv {K : PySem.W.Frag} {H : Hp} : ∀ {ts : List Addr} {M : List (Int × Int)}, ts.length = M.length → (∀ (i : Nat) (t : Addr) (v : Int × Int), ts[i]? = some t → M[i]? = some v → Tup2 H t v) → DpAll K H (ts.map V.ref) (M.map pd2)
  | [], [], _, _ => .nil
  | [], _ :: _, h, _ => by cases h
  | _ :: _, [], h, _ => by cases h
  | t :: ts, v :: M, h, k => .cons (dp_tup2 (k 0 t v rfl rfl)) (dpa_lv (by simpa using h) fun i t' v' a b => k (i + 1) t' v' a b)
theorem LvAt.dp {K : PySem.W.Frag} {H : Hp} {q : Addr} {M : List (Int × Int)} (h : LvAt H q M) : Dp K H (.ref q) (.list (M.map pd2)) := by
  obtain ⟨ts, h1, h2, h3⟩ := h
  exact .lst (SqL.of h1) (dpa_lv h2 h3)
theorem lay_pd2 : ∀ M : List (Int × Int), PyData.canLayAll0 (M.map pd2) = true ∧ PyData.depthAll (M.map pd2) ≤ 1
  | [] => by simp [PyData.canLayAll0, PyData.depthAll]
  | v :: M => by
    obtain ⟨a, b⟩ := lay_pd2 M
    refine ⟨by rw [List.map_cons]; simp only [PyData.canLayAll0, Bool.and_eq_true]; exact ⟨can2 _ _, a⟩, ?_⟩
    rw [List.map_cons]
    simp only [PyData.depthAll]
    have : (pd2 v).depth ≤ 1 := by simp [pd2, PyData.depth, PyData.depthAll]
    omega
theorem sh_pd2 (M : List (Int × Int)) : SeqAt.shaped (.list (M.map pd2)) = true := by
  obtain ⟨a, b⟩ := lay_pd2 M
  unfold SeqAt.shaped
  rw [Bool.and_eq_true, decide_eq_true_eq]
  refine ⟨by simp only [PyData.canLay0]; exact a, ?_⟩
  simp only [PyData.depth]
  omega
theorem any_pd2 (M : List (Int × Int)) (f : Int × Int) : ((M.map pd2).any fun z => PyData.eqv z (.tuple [.int f.1, .int f.2])) = decide (f ∈ M) := by
  rw [Bool.eq_iff_iff, List.any_eq_true, decide_eq_true_eq]
  constructor
  · rintro ⟨z, hz, k⟩
    obtain ⟨u, hu, rfl⟩ := List.mem_map.mp hz
    have k : PyData.eqv (.tuple [.int u.1, .int u.2]) (.tuple [.int f.1, .int f.2]) = true := k
    rw [eqv2, decide_eq_true_eq] at k
    rw [← k]
    exact hu
  · intro h
    exact ⟨pd2 f, List.mem_map.mpr ⟨f, h, rfl⟩, by show PyData.eqv (.tuple [.int f.1, .int f.2]) (.tuple [.int f.1, .int f.2]) = true; rw [eqv2, decide_eq_true rfl]⟩
theorem FAt.same {G G' : Hp} {d : Addr} {ks : List (Int × Int)} {F : Int × Int → List (List Nat)} (h : FAt G d ks F) (s : Same G G') : FAt G' d ks F := by
  obtain ⟨kvs, h1, h2, h3⟩ := h
  refine ⟨kvs, s _ _ h1, h2, fun f hf => ?_⟩
  obtain ⟨a, e1, e2⟩ := h3 f hf
  exact ⟨a, e1, s _ _ e2⟩
theorem QL_pos : ∀ (n p q : Nat), q < n → q ≤ p → (QL p q).length ≤ (QL p q).sum
  | 0, _, _, h, _ => absurd h (Nat.not_lt_zero _)
  | n + 1, p, q, h, k => by
    by_cases z : q = 0
    · rw [z, QL_zero]; exact Nat.le_refl _
    · have z0 : 0 < q := by omega
      rw [QL_step z0]
      have lt := Nat.mod_lt p z0
      have ih := QL_pos n q (p % q) (by omega) (by omega)
      have d1 : 1 ≤ p / q := (Nat.one_le_div_iff z0).mpr k
      rw [List.length_cons, List.sum_cons]
      omega
theorem quo_few {v : Int × Int} (g : Good v) (h : stp v ≤ 9) : (quo v).length ≤ 5 := by
  have s := quo_stp g
  unfold quo at s ⊢
  by_cases z : v.2 = 0
  · rw [if_pos z]; decide
  · rw [if_neg z] at s ⊢
    have z0 : 0 < v.2.natAbs := by omega
    rw [QL_step z0] at s ⊢
    have lt := Nat.mod_lt v.1.natAbs z0
    have p := QL_pos _ v.2.natAbs (v.1.natAbs % v.2.natAbs) (Nat.lt_succ_self _) (Nat.le_of_lt lt)
    rw [List.length_cons, List.sum_cons] at s
    rw [List.length_cons]
    generalize v.1.natAbs / v.2.natAbs = a at s
    omega
theorem tot_few {v : Int × Int} (g : Good v) (h : stp v ≤ 9) : totD v ≤ 32 := by
  have a := wy_pow _ (ns_ (rl v)) (Nat.le_refl _)
  have b : (ns_ (rl v)).length = (quo v).length := by rw [ns_len, rl_len]
  rw [b] at a
  have c := quo_few g h
  have : 2 ^ (quo v).length ≤ 2 ^ 5 := Nat.pow_le_pow_right (by decide) c
  show wy (ns_ (rl v)) ≤ 32
  omega
theorem dsF_asc (v : Int × Int) (g : Good v) : (dsF v 0 (totD v)).Pairwise (· < ·) := by
  unfold dsF
  rw [List.pairwise_map]
  refine (List.pairwise_lt_range (n := totD v)).imp_of_mem fun {a b} ha hb k => ?_
  have hb := List.mem_range.mp hb
  rw [Nat.zero_add, Nat.zero_add]
  exact ld_lt _ (rl v) a b (Nat.le_refl _) (alt_rl v) k hb
theorem dsF_mem {v : Int × Int} (g : Good v) (l : List Nat) : l ∈ dsF v 0 (totD v) ↔ Lets l ∧ l.length = stp v ∧ run (0, 1) l = v := by
  unfold dsF
  rw [List.mem_map]
  constructor
  · rintro ⟨i, hi, rfl⟩
    have hi : i < wy (ns_ (rl v)) := List.mem_range.mp hi
    rw [Nat.zero_add]
    exact ⟨ld_rl_lets v i, ld_rl_len g hi, ld_rl_run g hi⟩
  · rintro ⟨h1, h2, h3⟩
    obtain ⟨k, hk, e⟩ := ld_all g h1 h2 h3
    rw [← wy_rl] at hk
    exact ⟨k, List.mem_range.mpr hk, by rw [Nat.zero_add]; exact e⟩
def spAll : Sp := fun vs H Q _ => ∃ (lv t : Addr) (v : Int × Int), vs = [.ref lv, .ref t, .int (stp v : Int)] ∧ Lvs H lv 9 ∧ Tup2 H t v ∧ Good v ∧ stp v ≤ 9 ∧ ∀ r H', Same H H' → H r = none → H' r = some (.lst (vls (dsF v 0 (totD v)))) → Q (.ref r) H'
/-- the dict that is being made -/
structure Mk19 (j : Nat) (F : Int × Int → List (List Nat)) (G : Hp) (lb : Addr) (P : List ((Int × Int) × Nat)) (ks : List (Int × Int)) : Prop where
  at_ : FAt G lb ks fun f => lsof F f P
  nd : ks.Nodup
  hit : ∀ f, f ∈ ks ↔ hitF j f P
end
section
variable {P : Program} {w : World} {K : PySem.W.Frag} {mg : Str → Option Value} {base : Heap} {f : Addr} {fd : FuncData}
theorem ok__law_all (F : Fun K "_law_all" "_law_all" s_law_all f fd) (D_called : Dfn P w K mg base "_law_called" 1 ["value", "letter"] (spCalled K)) (y_range : mg "range" = none) (y_list : mg "list" = none) (y_sorted : mg "sorted" = none)  : FnOk P w K mg base CX0 2 f fd ["levels", "value", "count"] spAll := by
  refine F.ok sc_law_all (fun vs H Q E h => ?_) (fun cdv A outer s H vs Q E hr h => ?_)
  · obtain ⟨lv, t, v, rfl, hlv, ht, g, s9, q⟩ := h
    rfl
  obtain ⟨lv, t, v, rfl, hlv, ht, g, s9, q⟩ := h
  have hu := hu_of hr
  refine ⟨_, (pss_cons (ps_set (i := 3) sc_law_all.nd rfl (.inl rfl) (pe_disp1T (Nat.lt_of_succ_lt hu) (pe_tup (pa_cons pe_int (pa_cons pe_int pa_nil))) (pe_lst (pa_cons pe_str pa_nil))))
    (pss_cons (ps_for PassesOwn.never rfl (pi_range1 rfl y_range (pa_cons (pv 2) pa_nil)) (pg_name (i := 4) sc_law_all.nd rfl (.inl rfl))
    (pss_cons (ps_set (i := 5) sc_law_all.nd rfl (.inl rfl) pe_dnewT)
    (pss_cons (ps_for PassesOwn.never rfl (pi_list (pe_callTy (call_list_dT rfl) rfl y_list (by decide +kernel) (pa_cons (pv 3) pa_nil))) (pg_name (i := 6) sc_law_all.nd rfl (.inl rfl))
    (pss_one (ps_for PassesOwn.never rfl (pi_str pe_str) (pg_name (i := 7) sc_law_all.nd rfl (.inr rfl))
    (pss_cons (ps_set (i := 8) sc_law_all.nd rfl (.inl rfl) (pe_do D_called hr (pa_cons (pv 6) (pa_cons (pv 7) pa_nil))))
    (pss_one (ps_if (pt_cmpR (op_inD (Rope.Room.units65 hr)) (pv 8) (pe_ix ix_list (pv 0) (pe_op op_add (pv 4) pe_int) (fun _ _ => rfl)) (by rfl)) (pss_one (ps_dput hu (pv 5) (pv 8) (pe_op op_cat (pe_dget2 hu (pv 5) (pv 8) (pe_lst pa_nil) (by constructor <;> rfl)) (pe_lc (own := [("dance", 9)]) (g := (gName 9)) (tt := tYes) (by rfl) sc_law_all.nd (pi_list (pe_dget hu (pv 3) (pv 6) (fun _ _ => rfl))) (blkOk_by (own := [("dance", 9)]) (N := ["levels", "value", "count", "found", "turn", "longer", "one", "letter", "following", "dance"]) (sc := defScope s_law_all) (by decide +kernel)) (fun _ _ _ _ _ => pg_name (i := 9) sc_law_all.nd rfl (Or.inl rfl)) (fun _ _ _ _ _ => pts_nil) (fun _ _ _ _ _ => (pe_op op_add_str (pv 9) (pv 7))))) rfl)) pss_nil))))))
    (pss_one (ps_set (i := 3) sc_law_all.nd rfl (.inl rfl) (pv 5))))))
    (pss_one (ps_ret (pe_callB cr_sortedS rfl y_sorted (by decide +kernel) (pa_cons (pe_dget hu (pv 3) (pv 1) (fun _ _ => rfl)) pa_nil)))))), ?_⟩
  have two : 2 ≤ sizeLine := fits (by decide)
  have one : 1 ≤ sizeLine := fits (by decide)
  have zero : 0 ≤ sizeLine := Nat.zero_le _
  refine fun dp hdp => ?_
  have sd := same_new hdp (.dT [])
  have eD : upd H dp (.dT []) dp = some (.dT []) := upd_same
  generalize upd H dp (.dT []) = G1 at *
  refine ⟨two, fun t1 ht1 => ?_⟩
  have s1 := same_new ht1 (.tup [V.int 0, .int 1])
  have eT : upd G1 t1 (.tup [V.int 0, .int 1]) t1 = some (.tup [V.int 0, .int 1]) := upd_same
  generalize upd G1 t1 (.tup [V.int 0, .int 1]) = G2 at *
  refine ⟨one, fun l1 hl1 => ?_⟩
  have e0 : V.str (Str.ofString "") = V.str (S []) := by rw [show Str.ofString "" = S [] by decide +kernel]
  have s2 := same_new hl1 (.lst [V.str (Str.ofString "")])
  have eL : upd G2 l1 (.lst [V.str (Str.ofString "")]) l1 = some (.lst (vls [[]])) := by rw [upd_same, e0]; rfl
  generalize upd G2 l1 (.lst [V.str (Str.ofString "")]) = G3 at *
  refine ⟨s2 _ _ (s1 _ _ eD), kyv (0, 1), t1, .ref l1, rfl, s2 _ _ eT, ?_⟩
  have S3 : Same H (upd G3 dp (.dT [(kyv (0, 1), V.ref l1)])) := same_upd ((sd.trans s1).trans s2) hdp
  have f0 : FAt (upd G3 dp (.dT [(kyv (0, 1), V.ref l1)])) dp [(0, 1)] (fun _ => [[]]) := by
    refine ⟨_, upd_same, rfl, fun f hf => ?_⟩
    rw [List.mem_singleton.mp hf]
    refine ⟨l1, valV_pos rfl, ?_⟩
    rw [upd_ne (fun z => by rw [z] at hl1; rw [s1 _ _ eD] at hl1; cases hl1)]
    exact eL
  generalize upd G3 dp (.dT [(kyv (0, 1), V.ref l1)]) = G4 at S3 f0 ⊢
  clear eL eT eD s1 s2 sd ht1 hl1
  refine ⟨_, rfl, (stp v : Int), rfl, by omega, by omega, for_range (lo := 0) (n := ((stp v : Int)).toNat) (fun j σ G => ∃ (x4 x5 x6 x7 x8 : Option V) (d : Addr) (ks : List (Int × Int)) (F : Int × Int → List (List Nat)), σ = [some (.ref lv), some (.ref t), some (.int (stp v : Int)), some (.ref d), x4, x5, x6, x7, x8, none] ∧ Same H G ∧ FAt G d ks F ∧ Fok j ks F) ?_ ?_ ?_⟩
  · exact ⟨_, _, _, _, _, dp, _, _, rfl, S3, f0, Fok.zero⟩
  · rintro j σ G hj ⟨x4, x5, x6, x7, x8, d, ks, F, rfl, SG, fa, ok⟩
    have hj : j < stp v := by omega
    refine fun lb hlb => ?_
    have sb := same_new hlb (.dT [])
    have eB : upd G lb (.dT []) lb = some (.dT []) := upd_same
    have fa1 := fa.same sb
    obtain ⟨kvs, hD, hkk, hkl⟩ := fa1
    have ndb : d ≠ lb := fun z => by
      obtain ⟨_, h, _⟩ := fa
      rw [z, hlb] at h
      cases h
    have S1 := SG.trans sb
    generalize upd G lb (.dT []) = G1' at *
    refine ⟨_, rfl, d, _, rfl, .inl hD, fun kl bs hkl1 kb => ?_⟩
    obtain ⟨bl, bt⟩ := keys_of kb hkk
    have sk := same_new hkl1 (.lst (bs.map V.ref))
    have eK : upd G1' kl (.lst (bs.map V.ref)) kl = some (.lst (bs.map V.ref)) := upd_same
    have nkb : kl ≠ lb := fun z => by rw [z, eB] at hkl1; cases hkl1
    generalize upd G1' kl (.lst (bs.map V.ref)) = G2' at *
    have SG2 : Same G G2' := sb.trans sk
    have nGb : ∀ b o, G b = some o → b ≠ lb := fun b o e z => by rw [z, hlb] at e; cases e
    -- the level
    obtain ⟨ps, hps, pl, _, plv⟩ := hlv
    obtain ⟨lq, hlq⟩ : ∃ lq, ps[j + 1]? = some lq := ⟨_, List.getElem?_eq_getElem (by rw [pl]; show j + 1 < 9 + 1; omega)⟩
    obtain ⟨M, lm, lev⟩ := plv (j + 1) lq hlq
    refine ⟨kl, rfl, ⟨_, SqL.of eK⟩, for_list (K := K) (a := kl) (xs := bs.map V.ref) (fun i σ G' => ∃ (x6 x7 x8 : Option V) (ks' : List (Int × Int)), σ = [some (.ref lv), some (.ref t), some (.int (stp v : Int)), some (.ref d), some (.int (0 + (j : Int))), some (.ref lb), x6, x7, x8, none] ∧ But lb G2' G' ∧ Mk19 j F G' lb (fullP (ks.take i)) ks') ?_ (fun i σ G' hi h => ?_) ?_ ?_⟩
    · exact ⟨_, _, _, [], rfl, But.refl _ _, ⟨[], sk _ _ eB, rfl, fun f hf => by cases hf⟩, List.nodup_nil, fun f => ⟨(fun h => by cases h), fun ⟨e, he, _⟩ => by cases he⟩⟩
    · obtain ⟨_, _, _, _, _, b', _⟩ := h
      exact SqL.of (b' _ _ nkb eK)
    · rintro i x σ G' hx ⟨y6, y7, y8, ks', rfl, b', mk⟩
      rw [List.getElem?_map] at hx
      obtain ⟨tu, htu, rfl⟩ := Option.map_eq_some_iff.mp hx
      have hi : i < ks.length := by rw [← bl]; exact (List.getElem?_eq_some_iff.mp htu).1
      have hui : ks[i]? = some ks[i] := List.getElem?_eq_getElem hi
      generalize ks[i] = u at hui
      have um := List.mem_of_getElem? hui
      have Tu := sk _ _ (bt i tu u htu hui)
      have eB2 := sk _ _ eB
      have ntu : tu ≠ lb := fun z => by
        rw [← z, show G2' tu = _ from Tu] at eB2
        cases eB2
      -- the pairs of this one
      have pr : ∀ m, m ≤ 3 → (fullP (ks.take i) ++ (prs u).take m).Nodup ∧ ∀ e ∈ fullP (ks.take i) ++ (prs u).take m, e.1 ∈ ks ∧ (e.2 = 82 ∨ e.2 = 84 ∨ e.2 = 85) := fun m _ => by
        have e1 : fullP (ks.take (i + 1)) = fullP (ks.take i) ++ prs u := by
          unfold fullP
          rw [List.take_add_one, hui, List.flatMap_append]
          simp
        have sub : (fullP (ks.take i) ++ (prs u).take m).Sublist (fullP (ks.take (i + 1))) := by
          rw [e1]
          exact List.Sublist.append (List.Sublist.refl _) (List.take_sublist _ _)
        have nd : (fullP (ks.take (i + 1))).Nodup := full_nodup (ok.nd.sublist (List.take_sublist _ _))
        refine ⟨nd.sublist sub, fun e he => ?_⟩
        obtain ⟨k1, k2⟩ := full_mem.mp (sub.subset he)
        exact ⟨List.mem_of_mem_take k1, k2⟩
      rw [e_RTU]
      refine ⟨_, rfl, for_str (l := [82, 84, 85]) (fun m σ G' => ∃ (x7 x8 : Option V) (ks2 : List (Int × Int)), σ = [some (.ref lv), some (.ref t), some (.int (stp v : Int)), some (.ref d), some (.int (0 + (j : Int))), some (.ref lb), some (.ref tu), x7, x8, none] ∧ But lb G2' G' ∧ Mk19 j F G' lb (fullP (ks.take i) ++ (prs u).take m) ks2) ?_ ?_ ?_⟩
      · exact ⟨_, _, ks', rfl, b', by rw [List.take_zero, List.append_nil]; exact mk⟩
      · rintro m c σ G5 hc ⟨y7, y8, ks2, rfl, b5, mk5⟩
        have hm : m < 3 := (List.getElem?_eq_some_iff.mp hc).1
        have hpm : (prs u).take (m + 1) = (prs u).take m ++ [(u, c)] := by
          rw [List.take_add_one]
          congr 1
          match m, hc with
          | 0, hc => cases hc; rfl
          | 1, hc => cases hc; rfl
          | 2, hc => cases hc; rfl
        obtain ⟨pnd, pmem⟩ := pr (m + 1) (by omega)
        rw [hpm, ← List.append_assoc] at pnd pmem
        have Tu5 : Tup2 G5 tu u := b5 _ _ ntu Tu
        refine ⟨_, rfl, _, rfl, tu, u, c, rfl, Tu5, fun t2 G6 s6 T2 => ?_⟩
        have SG6 : ∀ b o, b ≠ lb → G2' b = some o → G6 b = some o := fun b o n e => s6 _ _ (b5 _ _ n e)
        have lv6 : ∀ b o, H b = some o → G6 b = some o := fun b o e => SG6 b o (nGb b o (SG _ _ e)) (SG2 _ _ (SG _ _ e))
        have lm6 : LvAt G6 lq M := lm.same lv6
        refine ⟨_, rfl, _, rfl, _, rfl, _, _, rfl, rfl, lv, _, _, _, rfl, rfl, SqL.of (lv6 _ _ hps), at_of (j := j + 1) (by omega) (by rw [List.getElem?_map, hlq]; rfl), _, _, dp_tup2 T2, lm6.dp, sh2 _ _, sh_pd2 M, _, rfl, ?_⟩
        rw [any_pd2]
        have bq : ∀ {G'}, Same G6 G' → But lb G2' G' := fun {G'} s => b5.trans (But.of (s6.trans s))
        obtain ⟨⟨kv2, hB2, hk2, hl2⟩, nd2, hit2⟩ := mk5
        have gu := (ok.mem u).mp um
        refine ite2 (fun c1 => ?_) (fun c1 => ?_)
        · have fm : called u c ∈ M := of_decide_eq_true c1
          have fs := ((lev.mem _).mp fm).2
          generalize hP : fullP (ks.take i) ++ (prs u).take m = P at *
          have hP2 : fullP (ks.take i) ++ (prs u).take (m + 1) = P ++ [(u, c)] := by rw [hpm, ← List.append_assoc, hP]
          rw [hP2]
          have hB6 := s6 _ _ hB2
          have small := lsof_small ok pnd pmem (called u c)
          have p3 : 3 ^ (j + 1) ≤ 19683 := Nat.le_trans (Nat.pow_le_pow_right (by decide) (show j + 1 ≤ 9 by omega)) (by decide)
          have goodH : ∀ f ∈ ks2, Good f ∧ stp f = j + 1 := fun f hf => by
            obtain ⟨e, he, h1, h2⟩ := (hit2 f).mp hf
            refine ⟨?_, h2⟩
            rw [← h1]
            exact ((ok.mem e.1).mp (pmem e (List.mem_append_left _ he)).1).1.called e.2
          have few : kv2.length ≤ 4 ^ (j + 1) := by
            have e1 : kv2.length = ks2.length := by rw [← List.length_map (f := (·.1)) (as := kv2), hk2, List.length_map]
            rw [e1]
            exact Fok.keys_small (ks := ks) (F := F) nd2 lev goodH
          have p4 : 4 ^ (j + 1) ≤ 262144 := four_le (by omega)
          refine ⟨_, rfl, lb, rfl, .inr ⟨_, .inl hB6⟩, _, rfl, zero, fun q0 hq0 => ?_⟩
          have s7 := same_new hq0 (.lst [])
          have e7 : upd G6 q0 (.lst []) q0 = some (.lst (vls [])) := upd_same
          generalize upd G6 q0 (.lst []) = G7 at *
          have T27 := s7 _ _ T2
          have old : ∃ a0, (valV kv2 (kyv (called u c))).getD (V.ref q0) = .ref a0 ∧ G7 a0 = some (.lst (vls (lsof F (called u c) P))) := by
            by_cases hf : called u c ∈ ks2
            · obtain ⟨a, e1, e2⟩ := hl2 _ hf
              exact ⟨a, by rw [e1]; rfl, s7 _ _ (s6 _ _ e2)⟩
            · refine ⟨q0, by rw [val_in hk2 hf]; rfl, ?_⟩
              have : lsof F (called u c) P = [] := List.eq_nil_iff_forall_not_mem.mpr fun l hl => by
                obtain ⟨e, he, h1, _⟩ := lsof_mem.mp hl
                exact hf ((hit2 _).mpr ⟨e, he, h1, fs⟩)
              rw [this]
              exact e7
          obtain ⟨a0, ea0, ha0⟩ := old
          refine ⟨_, DGet.t (k := kyv (called u c)) (s7 _ _ hB6) T27, ?_⟩
          rw [ea0]
          obtain ⟨au, ev, hau⟩ := hkl u um
          have nau : au ≠ lb := fun z => by rw [z, eB] at hau; cases hau
          have gd := DGet.t (k := kyv u) (s7 _ _ (SG6 _ _ ndb (sk _ _ hD))) (s7 _ _ (s6 _ _ Tu5))
          rw [ev] at gd
          have hau7 := s7 _ _ (SG6 _ _ nau (sk _ _ hau))
          refine ⟨_, rfl, _, rfl, d, _, rfl, gd, au, rfl, ⟨_, SqL.of hau7⟩, fun D hD7 => lc_list (K := K) (a := au) (xs := vls (F u)) (fun i G' => Same G7 G' ∧ G' D = some (.lst (vls (((F u).take i).map (· ++ [c]))))) ⟨same_new hD7 _, upd_same⟩ ?_ ?_ ?_⟩
          · rintro i' G' _ ⟨sG, _⟩
            exact SqL.of (sG _ _ hau7)
          · rintro i' x G' hx ⟨sG, hG⟩
            unfold vls at hx
            rw [List.getElem?_map] at hx
            obtain ⟨l0, hl0, rfl⟩ := Option.map_eq_some_iff.mp hx
            have l0m := (ok.lm u um l0).mp (List.mem_of_getElem? hl0)
            have fu := ok.small um
            have p3' : 3 ^ j ≤ 19683 := Nat.le_trans (Nat.pow_le_pow_right (by decide) (show j ≤ 9 by omega)) (by decide)
            refine ⟨rfl, _, rfl, _, rfl, _, _, rfl, rfl, by rw [S_len, S_len, l0m.2.1]; exact fits (by show j + 1 ≤ 16777216; omega), _, hG, Nat.lt_of_lt_of_le (by rw [vls_len, List.length_map, List.length_take]; omega) sizeLine_big, same_upd sG hD7, ?_⟩
            rw [upd_same, S_app, List.take_add_one, hl0]
            unfold vls
            rw [List.map_append, List.map_append]
            rfl
          · rintro G8 ⟨s8, hG8⟩
            have lF : (vls (F u)).length = (F u).length := vls_len _
            rw [lF, List.take_length] at hG8
            have pe : pieceF F (called u c) (u, c) = (F u).map (· ++ [c]) := if_pos rfl
            have tot : lsof F (called u c) (P ++ [(u, c)]) = lsof F (called u c) P ++ (F u).map (· ++ [c]) := by rw [lsof_snoc, pe]
            rw [tot, List.length_append] at small
            refine ⟨a0, D, _, _, rfl, rfl, s8 _ _ ha0, hG8, by rw [vls_len, vls_len]; exact fits (by omega), fun r hr0 => ?_⟩
            have s9 := same_new hr0 (.lst (vls (lsof F (called u c) P) ++ vls ((F u).map (· ++ [c]))))
            have e9 : upd G8 r (.lst (vls (lsof F (called u c) P) ++ vls ((F u).map (· ++ [c])))) r = some (.lst (vls (lsof F (called u c) (P ++ [(u, c)])))) := by
              rw [upd_same, tot]
              unfold vls
              rw [List.map_append]
            generalize upd G8 r (.lst (vls (lsof F (called u c) P) ++ vls ((F u).map (· ++ [c])))) = G9 at *
            have s69 : Same G6 G9 := s7.trans (s8.trans s9)
            have hB9 := s69 _ _ hB6
            have nrb : r ≠ lb := fun z => by rw [z, (s7.trans s8) _ _ hB6] at hr0; cases hr0
            refine ⟨_, rfl, _, rfl, lb, _, rfl, DPut.t (k := kyv (called u c)) hB9 (s69 _ _ T2) (Nat.lt_of_lt_of_le (by omega) sizeLine_big), ?_⟩
            refine ⟨_, _, if called u c ∈ ks2 then ks2 else ks2 ++ [called u c], rfl, (bq s69).trans But.upd, ⟨⟨_, upd_same, put_keys hk2 (called u c) _, fun f hf => ?_⟩, ?_, fun f => ?_⟩⟩
            · by_cases ef : f = called u c
              · refine ⟨r, by rw [valV_put, if_pos (by rw [ef])], ?_⟩
                rw [upd_ne nrb, ef]
                exact e9
              · have hf2 : f ∈ ks2 := by
                  split at hf
                  · exact hf
                  · rcases List.mem_append.mp hf with h | h
                    · exact h
                    · exact absurd (List.mem_singleton.mp h) ef
                obtain ⟨a, e1, e2⟩ := hl2 f hf2
                have na : a ≠ lb := fun z => by rw [z, hB2] at e2; cases e2
                refine ⟨a, by rw [valV_put, if_neg (fun z => ef (kyv_inj z))]; exact e1, ?_⟩
                rw [upd_ne na]
                have : lsof F f (P ++ [(u, c)]) = lsof F f P := by
                  rw [lsof_snoc]
                  have : pieceF F f (u, c) = [] := by
                    unfold pieceF
                    rw [if_neg fun z => ef (show f = called u c from z.symm)]
                  rw [this, List.append_nil]
                show G9 a = some (.lst (vls (lsof F f (P ++ [(u, c)]))))
                rw [this]
                exact s69 _ _ (s6 _ _ e2)
            · split
              · exact nd2
              · rename_i nf
                rw [List.nodup_iff_pairwise_ne, List.pairwise_append]
                rw [List.nodup_iff_pairwise_ne] at nd2
                exact ⟨nd2, List.pairwise_singleton _ _, fun x hx y hy z => nf (by rw [← List.mem_singleton.mp hy, ← z]; exact hx)⟩
            · have h1 : hitF j f (P ++ [(u, c)]) ↔ (hitF j f P ∨ f = called u c) := by
                constructor
                · rintro ⟨e, he, k1, k2⟩
                  rcases List.mem_append.mp he with he | he
                  · exact .inl ⟨e, he, k1, k2⟩
                  · rw [List.mem_singleton.mp he] at k1
                    exact .inr k1.symm
                · rintro (⟨e, he, k1, k2⟩ | rfl)
                  · exact ⟨e, List.mem_append_left _ he, k1, k2⟩
                  · exact ⟨(u, c), by simp, rfl, fs⟩
              rw [h1, ← hit2 f]
              split
              · rename_i yf
                constructor
                · exact .inl
                · rintro (h | rfl)
                  · exact h
                  · exact yf
              · rw [List.mem_append, List.mem_singleton]
        · have fm : called u c ∉ M := fun z => c1 (decide_eq_true z)
          have fs : stp (called u c) ≠ j + 1 := fun z => fm ((lev.mem _).mpr ⟨gu.1.called c, z⟩)
          have hitI : ∀ f, hitF j f (fullP (ks.take i) ++ (prs u).take (m + 1)) ↔ hitF j f (fullP (ks.take i) ++ (prs u).take m) := fun f => by
            rw [hpm, ← List.append_assoc]
            constructor
            · rintro ⟨e, he, h1, h2⟩
              rcases List.mem_append.mp he with he | he
              · exact ⟨e, he, h1, h2⟩
              · rw [List.mem_singleton.mp he] at h1
                exact absurd (by rw [← h1] at h2; exact h2) fs
            · rintro ⟨e, he, h1, h2⟩
              exact ⟨e, List.mem_append_left _ he, h1, h2⟩
          refine ⟨_, _, ks2, rfl, bq (Same.refl _), ⟨⟨kv2, s6 _ _ hB2, hk2, fun f hf => ?_⟩, nd2, fun f => by rw [hitI]; exact hit2 f⟩⟩
          obtain ⟨a, e1, e2⟩ := hl2 f hf
          refine ⟨a, e1, ?_⟩
          have : lsof F f (fullP (ks.take i) ++ (prs u).take (m + 1)) = lsof F f (fullP (ks.take i) ++ (prs u).take m) := by
            rw [hpm, ← List.append_assoc, lsof_snoc]
            have : pieceF F f (u, c) = [] := by
              unfold pieceF
              rw [if_neg fun z => ?_]
              obtain ⟨e, _, h1, h2⟩ := (hit2 f).mp hf
              exact fs (by rw [show called u c = f from z]; exact h2)
            rw [this, List.append_nil]
          show G6 a = some (.lst (vls (lsof F f (fullP (ks.take i) ++ (prs u).take (m + 1)))))
          rw [this]
          exact s6 _ _ e2
      · rintro σ G5 ⟨y7, y8, ks2, rfl, b5, mk5⟩
        refine ⟨_, _, _, ks2, rfl, b5, ?_⟩
        have e1 : fullP (ks.take (i + 1)) = fullP (ks.take i) ++ (prs u).take 3 := by
          unfold fullP
          rw [List.take_add_one, hui, List.flatMap_append]
          simp [prs]
        rw [e1]
        exact mk5
    · rintro σ G' ⟨y6, y7, y8, ks', rfl, b', mk⟩
      rw [List.length_map, bl, List.take_length] at mk
      refine ⟨_, rfl, _, _, _, _, _, lb, ks', _, rfl, ?_, mk.at_, ok.next mk.nd mk.hit⟩
      exact fun b o e => b' b o (nGb b o (SG _ _ e)) (SG2 _ _ (SG _ _ e))
  · rintro σ G ⟨x4, x5, x6, x7, x8, d, ks, F, rfl, SG, ⟨kvs, hD, hkk, hkl⟩, ok⟩
    rw [Int.toNat_natCast] at ok
    have vm : v ∈ ks := (ok.mem v).mpr ⟨g, rfl⟩
    obtain ⟨a, ev, ha⟩ := hkl v vm
    have gd := DGet.t (k := kyv v) hD (SG _ _ ht)
    rw [ev] at gd
    have sm : ∀ l, l ∈ F v ↔ l ∈ dsF v 0 (totD v) := fun l => by rw [ok.lm v vm l, dsF_mem g]
    have l64 : ((F v).map S).length < 64 := by
      rw [List.length_map]
      have := nodup_le (F v) (dsF v 0 (totD v)) (ok.ln v vm) fun l hl => (sm l).mp hl
      rw [dsF_len] at this
      have := tot_few g s9
      omega
    have ha2 : G a = some (.lst (((F v).map S).map V.str)) := by
      rw [ha]
      unfold vls
      rw [List.map_map]
      rfl
    refine ⟨_, rfl, _, rfl, d, _, rfl, gd, a, (F v).map S, rfl, SqL.of ha2, l64, fun ys r perm srt nr => ?_⟩
    have ey := sorted_is perm srt (dsF_asc v g) (ok.ln v vm) sm
    have nH : H r = none := SG.free nr
    refine q r _ (SG.trans (same_new nr _)) nH ?_
    rw [upd_same, ey]
    unfold vls
    rw [List.map_map]
    rfl
end
section
def spLaw (K : PySem.W.Frag) : Sp := fun vs H Q _ => ∃ (a : Addr) (ns : List Int), vs = [.ref a] ∧ SqL K H a (ns.map V.int) ∧ ns.length ≤ 63 ∧ ∀ H', Q (.bl true) H'
def spLawK (K : PySem.W.Frag) : Sp := spLaw K
theorem lev_some (n : Nat) : ∃ w : Int × Int, Good w ∧ stp w = n := by
  have g : Good ((n : Int), 1) := ⟨.inl (by show (0 : Int) < 1; decide), Int.gcd_one_right _⟩
  refine ⟨((n : Int), 1), g, ?_⟩
  have s := quo_stp g
  have e : quo ((n : Int), 1) = [n] := by
    unfold quo
    rw [if_neg (by show ¬ (1 : Int) = 0; decide)]
    show QL n 1 = [n]
    rw [QL_step (by decide), Nat.mod_one, QL_zero, Nat.div_one]
  rw [e] at s
  simp at s
  omega
theorem Tape.nil_ne {H : Hp} {a b : Addr} (t : Tape H a) {o : HO} (h : H b = some o) (k : ∀ (x : Int) (c : Bool) (y z : Int), o ≠ .lst [.int x, .bl c, .int y, .int z]) : b ≠ a := fun e => by
  obtain ⟨x, y, z, c, q⟩ := t
  rw [e, q] at h
  exact k _ _ _ _ (Option.some.inj h).symm
theorem tup2_but {H H' : Hp} {a t : Addr} {v : Int × Int} (h : Tup2 H t v) (tp : Tape H a) (b : But a H H') : Tup2 H' t v := b _ _ (tp.nil_ne h fun _ _ _ _ z => nomatch z) h
theorem LdAt.but {C : Addr} {H H' : Hp} {a p : Addr} {v : Int × Int} (h : LdAt C H p v) (tp : Tape H a) (b : But a H H') : LdAt C H' p v := by
  obtain ⟨dx, t, r, w, h1, h2, ⟨ts, r1, r2, r3⟩, h4⟩ := h
  refine ⟨dx, t, r, w, b _ _ (tp.nil_ne h1 fun _ _ _ _ z => nomatch z) h1, tup2_but h2 tp b, ⟨ts, b _ _ (tp.nil_ne r1 fun x c y u z => ?_) r1, r2, fun i u x e1 e2 => ?_⟩, b _ _ (tp.nil_ne h4 fun x c y u z => ?_) h4⟩
  · match ts, z with
    | [], z => cases z
    | _ :: _, z => cases z
  · exact b _ _ (tp.nil_ne (r3 i u x e1 e2) fun _ _ _ _ z => nomatch z) (r3 i u x e1 e2)
  · unfold nint at z
    match wys (ns_ (rl v)), z with
    | [], z => cases z
    | [_], z => cases z
    | _ :: _ :: _, z => cases z
end
section
variable {P : Program} {w : World} {K : PySem.W.Frag} {mg : Str → Option Value} {base : Heap} {f : Addr} {fd : FuncData}
theorem ok_law (F : Fun K "law" "law" s_law f fd) (D__law_levels : Dfn P w K mg base "_law_levels" 6 ["most"] spLevels) (D_tape : Dfn P w K mg base "_law_tape" 6 ["script", "k"] (spTape K)) (D_take : Dfn P w K mg base "_law_take" 6 ["tape", "many"] spTake) (D__law_all : Dfn P w K mg base "_law_all" 6 ["levels", "value", "count"] spAll) (D_same2 : Dfn P w K mg base "_law_same" 6 ["told", "due"] (spSame 2)) (y_range : mg "range" = none) (y_len : mg "len" = none) (D_walks : Dfn P w K mg base "_law_walks" 6 ["least", "due", "begin", "other"] (spWalks CL)) {pr gg : Addr} {fdC : FuncData} (TLd : TxL K mg CL) (PR : PropOf K CL "dance_count" pr gg) (GC : FnOk P w K mg base CX0 1 gg fdC ["self"] (spCountL CL)) (bC : Binds K fdC ["self"] []) {fI : Addr} {fdI : FuncData} (ML : Mk K CL fI) (GI : FnOk P w K mg base CX0 3 fI fdI ["self", "fraction"] (spInitL CL)) (bI : Binds K fdI ["self", "fraction"] []) (DM_dance : MDfnL P w K mg base CL "dance" 3 ["self", "rank"] (spDanceL CL)) (DM_rank_of : MDfnL P w K mg base CL "rank_of" 4 ["self", "dance"] (spRankL CL)) : FnOk P w K mg base CX0 7 f fd ["script"] (spLaw K) := by
  refine F.ok sc_law (fun vs H Q E h => ?_) (fun cdv A outer s H vs Q E hr h => ?_)
  · obtain ⟨sa, ns, rfl, hS, h63, q⟩ := h
    rfl
  obtain ⟨sa, ns, rfl, hS, h63, q⟩ := h
  obtain ⟨g_dance, fd_dance, G_dance, B_dance, M_dance⟩ := DM_dance.ex
  obtain ⟨g_rank_of, fd_rank_of, G_rank_of, B_rank_of, M_rank_of⟩ := DM_rank_of.ex
  refine ⟨_, (pss_cons (ps_set (i := 1) sc_law.nd rfl (.inl rfl) (pe_do D__law_levels hr (pa_cons pe_int pa_nil)))
    (pss_cons (ps_for PassesOwn.never rfl (pi_range1 rfl y_range (pa_cons pe_int pa_nil)) (pg_name (i := 2) sc_law.nd rfl (.inl rfl))
    (pss_cons (ps_set (i := 3) sc_law.nd rfl (.inl rfl) (pe_do D_tape hr (pa_cons (pv 0) (pa_cons (pv 2) pa_nil))))
    (pss_cons (ps_set (i := 4) sc_law.nd rfl (.inl rfl) (pe_do D_take hr (pa_cons (pv 3) (pa_cons pe_int pa_nil))))
    (pss_cons (ps_set (i := 5) sc_law.nd rfl (.inl rfl) (pe_ix ix_list (pe_ix ix_list (pv 1) (pv 4) (fun _ _ => rfl)) (pe_do D_take hr (pa_cons (pv 3) (pa_cons (pe_callB call_len_seq rfl y_len PySem.boot_len (pa_cons (pe_ix ix_list (pv 1) (pv 4) (fun _ _ => rfl)) pa_nil)) pa_nil))) (fun _ _ => rfl)))
    (pss_cons (ps_set (i := 6) sc_law.nd rfl (.inl rfl) (pe_do D__law_all hr (pa_cons (pv 1) (pa_cons (pv 5) (pa_cons (pv 4) pa_nil)))))
    (pss_cons (ps_set (i := 7) sc_law.nd rfl (.inl rfl) (pe_make ML GI (hr.mono (by decide)) rfl TLd.mgC bI .nil pass0 (pa_cons (pv 5) pa_nil)))
    (pss_cons (ps_if (pt_not (pt_val (pe_do D_same2 hr (pa_cons (pe_prop (pv 7) TLd.cl PR GC (hr.mono (by decide)) bC .nil pass0 rfl) (pa_cons (pe_callB call_len_seq rfl y_len PySem.boot_len (pa_cons (pv 6) pa_nil)) pa_nil))))) (pss_one (ps_ret pe_bl)) pss_nil)
    (pss_cons (ps_for PassesOwn.never rfl (pi_range1 rfl y_range (pa_cons (pe_callB call_len_seq rfl y_len PySem.boot_len (pa_cons (pv 6) pa_nil)) pa_nil)) (pg_name (i := 8) sc_law.nd rfl (.inl rfl))
    (pss_one (ps_if (PW.pt (pw_or (pt_not (pt_val (pe_do D_same2 hr (pa_cons (pe_meth (pv 7) TLd.cl M_dance G_dance (hr.mono (by decide)) B_dance .nil pass0 (pa_cons (pv 8) pa_nil)) (pa_cons (pe_ix ix_list (pv 6) (pv 8) (fun _ _ => rfl)) pa_nil))))) (pw_or1 (pt_not (pt_val (pe_do D_same2 hr (pa_cons (pe_meth (pv 7) TLd.cl M_rank_of G_rank_of (hr.mono (by decide)) B_rank_of .nil pass0 (pa_cons (pe_ix ix_list (pv 6) (pv 8) (fun _ _ => rfl)) pa_nil)) (pa_cons (pv 8) pa_nil)))))))) (pss_one (ps_ret pe_bl)) pss_nil)))
    (pss_cons (ps_set (i := 9) sc_law.nd rfl (.inl rfl) (pe_do D_take hr (pa_cons (pv 3) (pa_cons (pe_op op_add (pe_callB call_len_seq rfl y_len PySem.boot_len (pa_cons (pv 6) pa_nil)) pe_int) pa_nil))))
    (pss_cons (ps_set (i := 10) sc_law.nd rfl (.inl rfl) (pe_do D_take hr (pa_cons (pv 3) (pa_cons (pe_op op_add (pe_callB call_len_seq rfl y_len PySem.boot_len (pa_cons (pv 6) pa_nil)) pe_int) pa_nil))))
    (pss_one (ps_if (PW.pt (pw_or (pt_not (pt_val (pe_do D_walks hr (pa_cons (pv 7) (pa_cons (pv 6) (pa_cons (pv 9) (pa_cons (pv 10) pa_nil))))))) (pw_or1 (pt_not (pt_val (pe_do D_same2 hr (pa_cons (pe_prop (pv 7) TLd.cl PR GC (hr.mono (by decide)) bC .nil pass0 rfl) (pa_cons (pe_callB call_len_seq rfl y_len PySem.boot_len (pa_cons (pv 6) pa_nil)) pa_nil)))))))) (pss_one (ps_ret pe_bl)) pss_nil))))))))))))
    (pss_one (ps_ret pe_bl)))), ?_⟩
  refine ⟨9, rfl, by decide, by decide, fun lv H00 s00 hlv => ?_⟩
  refine ⟨3, rfl, by decide, by decide, for_range (lo := 0) (n := 3) (fun i σ F => ∃ (x2 x3 x4 x5 x6 x7 x8 x9 x10 : Option V), σ = [some (.ref sa), some (.ref lv), x2, x3, x4, x5, x6, x7, x8, x9, x10] ∧ Same H00 F) ?_ ?_ ?_⟩
  · exact ⟨_, _, _, _, _, _, _, _, _, rfl, Same.refl H00⟩
  · rintro i σ H0 hi ⟨x2, x3, x4, x5, x6, x7, x8, x9, x10, rfl, S0⟩
    refine ⟨_, rfl, _, rfl, sa, ns, 0 + (i : Int), rfl, (s00.trans S0).seq hS, by omega, fun tp H1 s1 ntp t1 => ?_⟩
    have B1 : But tp H0 H1 := But.of s1
    refine ⟨_, rfl, tp, 10, rfl, t1, by decide, by decide, fun cnt H2 c0 c1 b2 t2 => ?_⟩
    have B2 := B1.trans b2
    obtain ⟨cn, rfl⟩ := Int.eq_ofNat_of_zero_le c0
    obtain ⟨ps, hps, pl, _, plv⟩ := id hlv
    obtain ⟨lq, hlq⟩ : ∃ lq, ps[cn]? = some lq := ⟨_, List.getElem?_eq_getElem (by rw [pl]; show cn < 9 + 1; omega)⟩
    obtain ⟨M, lm, lev⟩ := plv cn lq hlq
    have S2 : Same H0 H2 := B2.same (Same.refl H0) ntp
    have up2 : Same H00 H2 := S0.trans S2
    have ML2 : (ps.map V.ref)[cn]? = some (V.ref lq) := by rw [List.getElem?_map, hlq]; rfl
    obtain ⟨ts, htq, tl, tv⟩ := id lm
    have m1 : 1 ≤ M.length := by
      obtain ⟨w', hw', e'⟩ : ∃ w', Good w' ∧ stp w' = cn := lev_some cn
      exact List.length_pos_of_mem ((lev.mem w').mpr ⟨hw', e'⟩)
    have m2 : M.length ≤ 262144 := Nat.le_trans lev.len (four_le (by omega))
    refine ⟨_, rfl, _, rfl, lv, _, _, _, rfl, rfl, SqL.of (up2 _ _ hps), at_of (j := cn) rfl ML2, ?_⟩
    refine ⟨_, rfl, _, rfl, _, rfl, lv, _, _, _, rfl, rfl, SqL.of (up2 _ _ hps), at_of (j := cn) rfl ML2, lq, _, rfl, .inl (SqL.of (up2 _ _ htq)), ?_⟩
    have lts : (ts.map V.ref).length = M.length := by rw [List.length_map, tl]
    rw [lts]
    refine ⟨tp, (M.length : Int), rfl, t2, by omega, by omega, fun r H3 r0 r1 b3 t3 => ?_⟩
    obtain ⟨rn, rfl⟩ := Int.eq_ofNat_of_zero_le r0
    have rm : rn < M.length := by omega
    obtain ⟨v, hv⟩ : ∃ v, M[rn]? = some v := ⟨_, List.getElem?_eq_getElem rm⟩
    obtain ⟨t, ht⟩ : ∃ t, ts[rn]? = some t := ⟨_, List.getElem?_eq_getElem (by rw [tl]; exact rm)⟩
    obtain ⟨g, sv⟩ := (lev.mem v).mp (List.mem_of_getElem? hv)
    have B3 := B2.trans b3
    have S3 : Same H0 H3 := B3.same (Same.refl H0) ntp
    have up3 : Same H00 H3 := S0.trans S3
    have T3 : Tup2 H3 t v := up3 _ _ (tv rn t v ht hv)
    refine ⟨lq, _, _, _, rfl, rfl, SqL.of (up3 _ _ htq), at_of (j := rn) rfl (by rw [List.getElem?_map, ht]; rfl), ?_⟩
    subst sv
    refine ⟨_, rfl, _, rfl, _, rfl, lv, t, v, rfl, ⟨ps, up3 _ _ hps, pl, by assumption, fun k' q' hk' => ?_⟩, T3, g, by omega, fun dr H4 s4 nd hd => ?_⟩
    · obtain ⟨M', l', e'⟩ := plv k' q' hk'
      exact ⟨M', l'.same up3, e'⟩
    refine ⟨_, rfl, ?_⟩
    intro p dx np ndx ndp
    have SP : Same H4 (upd (upd H4 dx (.own p)) p (.ins CL dx [])) := fun b o e => by
      rw [upd_ne (ne_of_none e np), upd_ne (ne_of_none e ndx)]
      exact e
    refine ⟨H4, p, t, dx, v, rfl, SP, np, upd_same, (T3.same s4).same SP, ne_of_none (s4 _ _ T3) np, g, by omega, fun H5 s5 ob => ⟨rfl, ?_⟩⟩
    have hd5 := s5 _ _ hd
    have t5 := t3.same (s4.trans s5)
    have B5 := B3.trans (But.of (s4.trans s5))
    have n32 := tot_few g (by omega)
    have lD : (vls (dsF v 0 (totD v))).length = totD v := by rw [vls_len, dsF_len]
    obtain ⟨dx1, ft, fr, fw', hp1, _⟩ := id ob
    refine ⟨_, rfl, p, dx1, _, rfl, hp1, p, v, rfl, ob, g, _, rfl, dr, _, rfl, .inl (SqL.of hd5), _, _, .int (totD v : Int), rfl, int_is, by rw [lD]; exact int_is, ⟨_, rfl, iteF ?_⟩⟩
    refine ⟨_, rfl, dr, _, rfl, .inl (SqL.of hd5), _, rfl, by rw [lD]; omega, by rw [lD]; omega, ?_⟩
    rw [lD]
    refine for_range (lo := 0) (n := ((totD v : Int)).toNat) (fun j σ F => ∃ (x8 x9 x10 : Option V), σ = [some (.ref sa), some (.ref lv), some (.int (0 + (i : Int))), some (.ref tp), some (.int (stp v : Int)), some (.ref t), some (.ref dr), some (.ref p), x8, x9, x10] ∧ Same H5 F) ?_ ?_ ?_
    · exact ⟨_, _, _, rfl, Same.refl H5⟩
    · rintro j σ F hj ⟨y8, y9, y10, rfl, sF⟩
      rw [show (0 : Int) + (j : Int) = (j : Int) by omega]
      have jn : j < totD v := by omega
      have jk : j < wy (ns_ (rl v)) := jn
      have obF := ob.same sF
      obtain ⟨dx2, ft2, fr2, fw2, hp2, _⟩ := id obF
      refine ⟨_, rfl, p, dx2, _, rfl, hp2, lf_no _ _ _ (by decide +kernel) (by decide +kernel) (by decide +kernel), _, rfl, p, v, j, rfl, obF, g, by omega, jk, fun F1 s1F => ?_⟩
      have hdF := sF _ _ hd5
      have hD1 := s1F _ _ hdF
      have item : (vls (dsF v 0 (totD v)))[j]? = some (.str (S (ld (rl v) j))) := by
        unfold vls dsF
        rw [List.map_map, List.getElem?_map, List.getElem?_range jn]
        show some (V.str (S (ld (rl v) (0 + j)))) = _
        rw [Nat.zero_add]
      refine ⟨_, rfl, _, rfl, dr, _, _, _, rfl, rfl, SqL.of hD1, at_of (j := j) rfl item, ?_⟩
      refine ⟨_, _, .str (S (ld (rl v) j)), rfl, str_is, str_is, ⟨_, rfl, iteF ?_⟩⟩
      have obG := obF.same s1F
      obtain ⟨dx3, ft3, fr3, fw3, hp3, _⟩ := id obG
      refine ⟨_, rfl, p, dx3, _, rfl, hp3, lf_no _ _ _ (by decide +kernel) (by decide +kernel) (by decide +kernel), _, rfl, _, rfl, dr, _, _, _, rfl, rfl, SqL.of hD1, at_of (j := j) rfl item, ?_⟩
      refine ⟨p, v, j, rfl, obG, g, by omega, jk, fun F2 s2F => ?_⟩
      refine ⟨_, rfl, _, _, .int (j : Int), rfl, int_is, int_is, ⟨_, rfl, iteF ⟨_, _, _, rfl, (sF.trans s1F).trans s2F⟩⟩⟩
    · rintro σ F ⟨y8, y9, y10, rfl, sF⟩
      have BF := B5.trans (But.of sF)
      have tF := t5.same sF
      have hdF := sF _ _ hd5
      have obF := ob.same sF
      have notT : ∀ (x : Int) (c : Bool) (y z : Int), HO.lst (vls (dsF v 0 (totD v))) ≠ .lst [.int x, .bl c, .int y, .int z] := fun x c y z e => by
        have e' := HO.lst.inj e
        unfold vls at e'
        match dsF v 0 (totD v), e' with
        | [], e' => cases e'
        | _ :: _, e' => cases e'
      have n2 : totD v + 2 < 2 ^ 30 := by omega
      refine ⟨_, rfl, _, rfl, dr, _, rfl, .inl (SqL.of hdF), ?_⟩
      rw [lD]
      refine ⟨_, _, rfl, rfl, tp, (totD v : Int) + 2, rfl, tF, by omega, by omega, fun r1 H6 r10 r11 b6 t6 => ?_⟩
      have hd6 := b6 _ _ (tF.nil_ne hdF notT) hdF
      have ob6 := obF.but tF b6
      refine ⟨_, rfl, _, rfl, dr, _, rfl, .inl (SqL.of hd6), ?_⟩
      rw [lD]
      refine ⟨_, _, rfl, rfl, tp, (totD v : Int) + 2, rfl, t6, by omega, by omega, fun r2 H7 r20 r21 b7 t7 => ?_⟩
      have hd7 := b7 _ _ (t6.nil_ne hd6 notT) hd6
      have ob7 := ob6.but t6 b7
      obtain ⟨n1, rfl⟩ := Int.eq_ofNat_of_zero_le r10
      obtain ⟨n2', rfl⟩ := Int.eq_ofNat_of_zero_le r20
      have B7 := (BF.trans b6).trans b7
      refine ⟨_, rfl, _, rfl, _, rfl, _, rfl, p, dr, v, n1, n2', rfl, ob7, g, by omega, by omega, hd7, fun H8 s8 => ⟨_, rfl, iteF ?_⟩⟩
      have hd8 := s8 _ _ hd7
      have ob8 := ob7.same s8
      obtain ⟨dx4, ft4, fr4, fw4, hp4, _⟩ := id ob8
      refine ⟨_, rfl, p, dx4, _, rfl, hp4, p, v, rfl, ob8, g, _, rfl, dr, _, rfl, .inl (SqL.of hd8), _, _, .int (totD v : Int), rfl, int_is, by rw [lD]; exact int_is, ⟨_, rfl, iteF ?_⟩⟩
      exact ⟨_, _, _, _, _, _, _, _, _, rfl, S0.trans ((B7.trans (But.of s8)).same (Same.refl H0) ntp)⟩
  · rintro σ F ⟨x2, x3, x4, x5, x6, x7, x8, x9, x10, rfl, S0⟩
    exact q F
end
def d_after : He.DefD := ⟨("after", none), "after", "after", defArgs s_after, defBody s_after, defScope s_after, [], []⟩
def d_turned : He.DefD := ⟨("turned", none), "turned", "turned", defArgs s_turned, defBody s_turned, defScope s_turned, [], []⟩
def d_quotients : He.DefD := ⟨("quotients", none), "quotients", "quotients", defArgs s_quotients, defBody s_quotients, defScope s_quotients, [], []⟩
def d_number : He.DefD := ⟨("number", none), "number", "number", defArgs s_number, defBody s_number, defScope s_number, [], []⟩
def d_steps : He.DefD := ⟨("steps", none), "steps", "steps", defArgs s_steps, defBody s_steps, defScope s_steps, [], []⟩
def d_runs : He.DefD := ⟨("runs", none), "runs", "runs", defArgs s_runs, defBody s_runs, defScope s_runs, [], []⟩
def d_ways_on : He.DefD := ⟨("ways_on", none), "ways_on", "ways_on", defArgs s_ways_on, defBody s_ways_on, defScope s_ways_on, [], []⟩
def d__law_tape : He.DefD := ⟨("_law_tape", none), "_law_tape", "_law_tape", defArgs s_law_tape, defBody s_law_tape, defScope s_law_tape, [], []⟩
def d__law_take : He.DefD := ⟨("_law_take", none), "_law_take", "_law_take", defArgs s_law_take, defBody s_law_take, defScope s_law_take, [], []⟩
def d__law_called : He.DefD := ⟨("_law_called", none), "_law_called", "_law_called", defArgs s_law_called, defBody s_law_called, defScope s_law_called, [], []⟩
def d__law_same : He.DefD := ⟨("_law_same", none), "_law_same", "_law_same", defArgs s_law_same, defBody s_law_same, defScope s_law_same, [], []⟩
def d__law_levels : He.DefD := ⟨("_law_levels", none), "_law_levels", "_law_levels", defArgs s_law_levels, defBody s_law_levels, defScope s_law_levels, [], []⟩
def d__law_all : He.DefD := ⟨("_law_all", none), "_law_all", "_law_all", defArgs s_law_all, defBody s_law_all, defScope s_law_all, [], []⟩
def d__law_walks : He.DefD := ⟨("_law_walks", none), "_law_walks", "_law_walks", defArgs s_law_walks, defBody s_law_walks, defScope s_law_walks, [], []⟩
def d_law : He.DefD := ⟨("law", none), "law", "law", defArgs s_law, defBody s_law, defScope s_law, [], []⟩
def d_LeastDances__init__ : He.DefD := ⟨("LeastDances", some "__init__"), "__init__", "LeastDances.__init__", defArgs s_L__init__, defBody s_L__init__, defScope s_L__init__, [], []⟩
def d_LeastDancesdance : He.DefD := ⟨("LeastDances", some "dance"), "dance", "LeastDances.dance", defArgs s_Ldance, defBody s_Ldance, defScope s_Ldance, [], []⟩
def d_LeastDancesrank_of : He.DefD := ⟨("LeastDances", some "rank_of"), "rank_of", "LeastDances.rank_of", defArgs s_Lrank_of, defBody s_Lrank_of, defScope s_Lrank_of, [], []⟩
def d_LeastDancesdances : He.DefD := ⟨("LeastDances", some "dances"), "dances", "LeastDances.dances", defArgs s_Ldances, defBody s_Ldances, defScope s_Ldances, [], []⟩
def gAd (K : PySem.W.Frag) : Addr := match PySem.W.recIn K (He.ma K (He.ga K "LeastDances") "dance_count") "property" with
  | some (.ref g :: _) => g
  | _ => 0
def fnG (K : PySem.W.Frag) : He.FnW := match K.lookup (gAd K) with
  | some ⟨_, _, .func fd, _⟩ => some (fd.name, fd.qualname, fd.params, fd.body, fd.scope, fd.globals, fd.closure, fd.builtins)
  | _ => none
def recB (K : PySem.W.Frag) : Bool := match PySem.W.recIn K (He.ma K (He.ga K "LeastDances") "dance_count") "property" with
  | some (.ref _ :: _) => true
  | _ => false
def fnB (K : PySem.W.Frag) : Bool := PySem.W.keepIn K (.ref (gAd K)) && (match K.lookup (gAd K) with
  | some ⟨_, _, .func fd, _⟩ => PySem.W.codeIn K fd.code "LeastDances.dance_count" && (He.dflB K fd.defaults [] && He.kwdB K fd.kwdefaults [])
  | _ => false)
def prB (K : PySem.W.Frag) : Bool := He.eqO (PySem.W.findIn K (.ref (He.ga K "LeastDances")) "dance_count") (some (some (.ref (He.ma K (He.ga K "LeastDances") "dance_count")))) && (He.eqO (PySem.W.specialIn K (.ref (He.ma K (He.ga K "LeastDances") "dance_count")) "__get__") (some (some (.builtin "property.__get__"))) && (decide (PySem.W.takesIn K (.ref (He.ma K (He.ga K "LeastDances") "dance_count")) = some true) && (recB K && fnB K)))
def d_count : He.DefD := ⟨("LeastDances", some "dance_count"), "dance_count", "LeastDances.dance_count", defArgs s_Ldance_count, defBody s_Ldance_count, defScope s_Ldance_count, [], []⟩
theorem getFunD {K : PySem.W.Frag} (e : fnG K = d_count.val) (c : fnB K = true) : ∃ fd, FunD K d_count.name d_count.qual d_count.params d_count.body d_count.scope (d_count.dvs K) (d_count.kws K) (gAd K) fd := by
  obtain ⟨kp, c2⟩ := He.ba c
  unfold fnG at e
  cases q : K.lookup (gAd K) with
  | none =>
    rw [q] at c2
    cases c2
  | some o =>
    obtain ⟨oc, od, dt, osl⟩ := o
    rw [q] at c2 e
    cases dt with
    | func fd =>
      obtain ⟨n1, n2, n3, n4, n5, n6, n7, n8, n9, n10, n11, n12, n13, n14, n15⟩ := fd
      have e2 : (some (n1, n2, n3, n4, n5, n6, n7, n15) : He.FnW) = some (d_count.name, d_count.qual, d_count.params, .stmts d_count.body, d_count.scope, mainGlobals, [], builtinsNs) := e
      simp only [Option.some.injEq, Prod.mk.injEq] at e2
      obtain ⟨h1, h2, h3, h4, h5, h6, h7, h8⟩ := e2
      subst h1 h2 h3 h4 h5 h6 h7 h8
      have c3 : (PySem.W.codeIn K n13 d_count.qual && (He.dflB K n8 (d_count.dvs K) && He.kwdB K n9 (d_count.kws K))) = true := c2
      obtain ⟨k1, k2⟩ := He.ba c3
      obtain ⟨k3, k4⟩ := He.ba k2
      exact ⟨_, ⟨oc, od, n8, n9, n10, n11, n12, n13, n14, osl, rfl, q, k1, He.dflB_ok k3, He.kwdB_ok k4⟩, kp⟩
    | _ => cases c2
theorem prop_ok {K : PySem.W.Frag} (c : prB K = true) : PropOf K (He.ga K "LeastDances") "dance_count" (He.ma K (He.ga K "LeastDances") "dance_count") (gAd K) := by
  obtain ⟨c1, c⟩ := He.ba c
  obtain ⟨c2, c⟩ := He.ba c
  obtain ⟨c3, c⟩ := He.ba c
  obtain ⟨c4, _⟩ := He.ba c
  refine ⟨He.eqO_ok c1, He.eqO_ok c2, of_decide_eq_true c3, ?_⟩
  unfold recB at c4
  unfold gAd
  cases q : PySem.W.recIn K (He.ma K (He.ga K "LeastDances") "dance_count") "property" with
  | none => rw [q] at c4; cases c4
  | some l =>
    rw [q] at c4
    cases l with
    | nil => cases c4
    | cons v r =>
      cases v with
      | ref g => exact ⟨r, rfl⟩
      | _ => cases c4
def hookY (n : Nat) (fa : List He.Fa) (fn : List He.DefD) (ts : List He.Tab) (tf : List He.Defn) (ex : PySem.W.Frag → Bool) : PySem.W.Hook where
  α := He.AlX × He.FnW
  obs := fun s => (He.obsX n fa fn ts tf ex s.heap.get?, fnG (He.frT s.heap.get? (He.asD s.heap.get? n)))
  val := fun w => (He.valX fn ts w, d_count.val)
  says := fun w h => ∃ K : PySem.W.Frag, K.In h ∧ He.SaysX fa fn ts tf ex w h K ∧ fnG K = d_count.val
  of := fun _ _ e => ⟨_, He.frT_in, He.saysX_of (congrArg (fun z : He.AlX × He.FnW => z.1) e), congrArg (fun z : He.AlX × He.FnW => z.2) e⟩
  keeps := fun _ _ _ ⟨K, hK, c, d⟩ k => ⟨K, PySem.W.Frag.In.keeps hK k, ⟨c.t, c.more, c.hd, c.out, fun p hp => k _ _ (c.empty p hp)⟩, d⟩
theorem obsY_eq {n : Nat} {fa : List He.Fa} {fn : List He.DefD} {ts : List He.Tab} {tf : List He.Defn} {ex : PySem.W.Frag → Bool} {g : Addr → Option Obj} {s : Shared} (h : ∀ a, g a = s.heap.get? a) : ((He.obsX n fa fn ts tf ex g, fnG (He.frT g (He.asD g n))) : He.AlX × He.FnW) = (hookY n fa fn ts tf ex).obs s := by
  have e : g = s.heap.get? := funext h
  rw [e] <;> rfl
def dfs : List He.DefD := [d_after, d_turned, d_quotients, d_number, d_steps, d_runs, d_ways_on, d__law_tape, d__law_take, d__law_called, d__law_same, d__law_levels, d__law_all, d__law_walks, d_law, d_LeastDances__init__, d_LeastDancesdance, d_LeastDancesrank_of, d_LeastDancesdances]
def fas : List He.Fa := [.glo "after", .glo "turned", .glo "quotients", .glo "number", .glo "steps", .glo "runs", .glo "ways_on", .glo "_law_tape", .glo "_law_take", .glo "_law_called", .glo "_law_same", .glo "_law_levels", .glo "_law_all", .glo "_law_walks", .glo "law", .free "len", .free "abs", .free "int", .free "range", .free "isinstance", .free "tuple", .free "list", .free "str", .free "bool", .free "sum", .free "enumerate", .free "min", .free "sorted", .cls "LeastDances", .noat "LeastDances" "fraction", .noat "LeastDances" "runs", .noat "LeastDances" "ways", .glo "LeastDances", .mkr "LeastDances", .meth "LeastDances" "dance", .meth "LeastDances" "rank_of", .meth "LeastDances" "dances"]
def tbs : List He.Tab := []
def tfs : List He.Defn := []
def exs (K : PySem.W.Frag) : Bool := prB K
abbrev Rw : PySem.W.OpenRow := PySem.W.OpenLaw.row PySem.Challenge.rw_ropedance_k19_least_dances
abbrev hk : PySem.W.Hook := hookY 6 fas dfs tbs tfs exs
def ob (s : PySem.W.SharedT) : He.AlX × He.FnW := (He.obsX 6 fas dfs tbs tfs exs (HandSHeadRun.getT s), fnG (He.frT (HandSHeadRun.getT s) (He.asD (HandSHeadRun.getT s) 6)))
theorem ob_eq (s : PySem.W.SharedT) : ob s = hk.obs s.abs := obsY_eq (HandSHeadRun.getT_eq s)
theorem head_run (w : World) : HandSHeadRun.RunEq Rw (PySem.W.view Rw.prog [22]) hk ob 6000 ["after", "turned", "quotients", "number", "steps", "runs", "ways_on", "_law_tape", "_law_take", "_law_called", "_law_same", "_law_levels", "_law_all", "_law_walks", "RopeError", "NoDance", "LeastDances"] w := by
  intro os
  kernel_rfl
theorem fun_of {K : PySem.W.Frag} {d : He.DefD} {f : Addr} {fd : FuncData} {st : Stmt} (h : FunD K d.name d.qual d.params d.body d.scope (d.dvs K) (d.kws K) f fd) (ha : d.params = defArgs st) (hb : d.body = defBody st) (hs : d.scope = defScope st) (h0 : d.dfl = []) (h1 : d.kwd = []) : Fun K d.name d.qual st f fd := by
  obtain ⟨oc, od, dV, kV, doc, pm, an, cdv, ct, osl, e, lk, cd, dfl, kw⟩ := h.ex
  have e0 : d.dvs K = [] := by unfold He.DefD.dvs; rw [h0]; rfl
  rw [e0] at dfl
  have ed : dV = .none := by
    rcases dfl with ⟨_, q⟩ | ⟨q, _⟩
    · exact q
    · exact absurd rfl q
  subst ed
  rw [ha, hb, hs] at e
  exact ⟨⟨oc, od, kV, doc, pm, an, cdv, ct, osl, e, lk, cd⟩, h.kp⟩
theorem spLaw_from (K : PySem.W.Frag) : ∀ (H : Hp) (a : Addr) (ns : List Int), ns.length ≤ 63 → (∀ z ∈ ns, Builtin.Int.intBits z ≤ 1048576) → (∀ p ∈ tfs.map (He.cT K), H p.2 = some (.tbl #[])) → SqL K H a (ns.map V.int) → spLawK K [.ref a] H (fun v _ => v = .bl true) fun _ _ _ => False :=
  fun H a ns hl _ hT hS => ⟨a, ns, rfl, hS, hl, fun _ => rfl⟩
theorem all_facts {P : Program} {w : World} {K : PySem.W.Frag} {h : Heap} {mg : Str → Option Value} {fa : Addr} (X : K.In h) (G : h.Ns mainGlobals mg) (hfa : mg ("law" : Str) = some (.ref fa)) (c : He.SaysX fas dfs tbs tfs exs w h K) (cg : fnG K = d_count.val) :
    ∃ fd : FuncData, (∀ (s : Shared) (v : Value), BindsTo s fd ⟨[v], []⟩ [("script", v)]) ∧ ∀ base : Heap, K.In base → base.Ns mainGlobals mg → (∀ p ∈ tfs.map (He.cT K), LamX.TabB base mg p.1 p.2) → FnOk P w K mg base CX0 7 fa fd ["script"] (spLawK K) := by
  have cd := c.t.d
  obtain ⟨fd0, G0⟩ := cd.def_ 0 (d := d_after) rfl
  have F_after : Fun K "after" "after" s_after _ fd0 := fun_of G0 rfl rfl rfl rfl rfl
  have m_after := He.glo_ok X G (cd.fact 0 (f := .glo "after") rfl)
  have b_after := F_after.binds (ps := ["fraction", "dance"]) fun _ _ _ _ _ _ us hl => match us, hl with | [_, _], _ => rfl
  obtain ⟨fd1, G1⟩ := cd.def_ 1 (d := d_turned) rfl
  have F_turned : Fun K "turned" "turned" s_turned _ fd1 := fun_of G1 rfl rfl rfl rfl rfl
  have m_turned := He.glo_ok X G (cd.fact 1 (f := .glo "turned") rfl)
  have b_turned := F_turned.binds (ps := ["p", "q"]) fun _ _ _ _ _ _ us hl => match us, hl with | [_, _], _ => rfl
  obtain ⟨fd2, G2⟩ := cd.def_ 2 (d := d_quotients) rfl
  have F_quotients : Fun K "quotients" "quotients" s_quotients _ fd2 := fun_of G2 rfl rfl rfl rfl rfl
  have m_quotients := He.glo_ok X G (cd.fact 2 (f := .glo "quotients") rfl)
  have b_quotients := F_quotients.binds (ps := ["fraction"]) fun _ _ _ _ _ _ us hl => match us, hl with | [_], _ => rfl
  obtain ⟨fd3, G3⟩ := cd.def_ 3 (d := d_number) rfl
  have F_number : Fun K "number" "number" s_number _ fd3 := fun_of G3 rfl rfl rfl rfl rfl
  have m_number := He.glo_ok X G (cd.fact 3 (f := .glo "number") rfl)
  have b_number := F_number.binds (ps := ["dance"]) fun _ _ _ _ _ _ us hl => match us, hl with | [_], _ => rfl
  obtain ⟨fd4, G4⟩ := cd.def_ 4 (d := d_steps) rfl
  have F_steps : Fun K "steps" "steps" s_steps _ fd4 := fun_of G4 rfl rfl rfl rfl rfl
  have m_steps := He.glo_ok X G (cd.fact 4 (f := .glo "steps") rfl)
  have b_steps := F_steps.binds (ps := ["fraction"]) fun _ _ _ _ _ _ us hl => match us, hl with | [_], _ => rfl
  obtain ⟨fd5, G5⟩ := cd.def_ 5 (d := d_runs) rfl
  have F_runs : Fun K "runs" "runs" s_runs _ fd5 := fun_of G5 rfl rfl rfl rfl rfl
  have m_runs := He.glo_ok X G (cd.fact 5 (f := .glo "runs") rfl)
  have b_runs := F_runs.binds (ps := ["fraction"]) fun _ _ _ _ _ _ us hl => match us, hl with | [_], _ => rfl
  obtain ⟨fd6, G6⟩ := cd.def_ 6 (d := d_ways_on) rfl
  have F_ways_on : Fun K "ways_on" "ways_on" s_ways_on _ fd6 := fun_of G6 rfl rfl rfl rfl rfl
  have m_ways_on := He.glo_ok X G (cd.fact 6 (f := .glo "ways_on") rfl)
  have b_ways_on := F_ways_on.binds (ps := ["all_runs"]) fun _ _ _ _ _ _ us hl => match us, hl with | [_], _ => rfl
  obtain ⟨fd7, G7⟩ := cd.def_ 7 (d := d__law_tape) rfl
  have F__law_tape : Fun K "_law_tape" "_law_tape" s_law_tape _ fd7 := fun_of G7 rfl rfl rfl rfl rfl
  have m__law_tape := He.glo_ok X G (cd.fact 7 (f := .glo "_law_tape") rfl)
  have b__law_tape := F__law_tape.binds (ps := ["script", "k"]) fun _ _ _ _ _ _ us hl => match us, hl with | [_, _], _ => rfl
  obtain ⟨fd8, G8⟩ := cd.def_ 8 (d := d__law_take) rfl
  have F__law_take : Fun K "_law_take" "_law_take" s_law_take _ fd8 := fun_of G8 rfl rfl rfl rfl rfl
  have m__law_take := He.glo_ok X G (cd.fact 8 (f := .glo "_law_take") rfl)
  have b__law_take := F__law_take.binds (ps := ["tape", "many"]) fun _ _ _ _ _ _ us hl => match us, hl with | [_, _], _ => rfl
  obtain ⟨fd9, G9⟩ := cd.def_ 9 (d := d__law_called) rfl
  have F__law_called : Fun K "_law_called" "_law_called" s_law_called _ fd9 := fun_of G9 rfl rfl rfl rfl rfl
  have m__law_called := He.glo_ok X G (cd.fact 9 (f := .glo "_law_called") rfl)
  have b__law_called := F__law_called.binds (ps := ["value", "letter"]) fun _ _ _ _ _ _ us hl => match us, hl with | [_, _], _ => rfl
  obtain ⟨fd10, G10⟩ := cd.def_ 10 (d := d__law_same) rfl
  have F__law_same : Fun K "_law_same" "_law_same" s_law_same _ fd10 := fun_of G10 rfl rfl rfl rfl rfl
  have m__law_same := He.glo_ok X G (cd.fact 10 (f := .glo "_law_same") rfl)
  have b__law_same := F__law_same.binds (ps := ["told", "due"]) fun _ _ _ _ _ _ us hl => match us, hl with | [_, _], _ => rfl
  obtain ⟨fd11, G11⟩ := cd.def_ 11 (d := d__law_levels) rfl
  have F__law_levels : Fun K "_law_levels" "_law_levels" s_law_levels _ fd11 := fun_of G11 rfl rfl rfl rfl rfl
  have m__law_levels := He.glo_ok X G (cd.fact 11 (f := .glo "_law_levels") rfl)
  have b__law_levels := F__law_levels.binds (ps := ["most"]) fun _ _ _ _ _ _ us hl => match us, hl with | [_], _ => rfl
  obtain ⟨fd12, G12⟩ := cd.def_ 12 (d := d__law_all) rfl
  have F__law_all : Fun K "_law_all" "_law_all" s_law_all _ fd12 := fun_of G12 rfl rfl rfl rfl rfl
  have m__law_all := He.glo_ok X G (cd.fact 12 (f := .glo "_law_all") rfl)
  have b__law_all := F__law_all.binds (ps := ["levels", "value", "count"]) fun _ _ _ _ _ _ us hl => match us, hl with | [_, _, _], _ => rfl
  obtain ⟨fd13, G13⟩ := cd.def_ 13 (d := d__law_walks) rfl
  have F__law_walks : Fun K "_law_walks" "_law_walks" s_law_walks _ fd13 := fun_of G13 rfl rfl rfl rfl rfl
  have m__law_walks := He.glo_ok X G (cd.fact 13 (f := .glo "_law_walks") rfl)
  have b__law_walks := F__law_walks.binds (ps := ["least", "due", "begin", "other"]) fun _ _ _ _ _ _ us hl => match us, hl with | [_, _, _, _], _ => rfl
  obtain ⟨fd14, G14⟩ := cd.def_ 14 (d := d_law) rfl
  have F_law : Fun K "law" "law" s_law _ fd14 := fun_of G14 rfl rfl rfl rfl rfl
  have m_law := He.glo_ok X G (cd.fact 14 (f := .glo "law") rfl)
  have b_law := F_law.binds (ps := ["script"]) fun _ _ _ _ _ _ us hl => match us, hl with | [_], _ => rfl
  obtain ⟨fdM0, GM0⟩ := cd.def_ 15 (d := d_LeastDances__init__) rfl
  have F_L__init__ : Fun K "__init__" "LeastDances.__init__" s_L__init__ _ fdM0 := fun_of GM0 rfl rfl rfl rfl rfl
  have b_L__init__ := F_L__init__.binds (ps := ["self", "fraction"]) fun _ _ _ _ _ _ us hl => match us, hl with | [_, _], _ => rfl
  obtain ⟨fdM1, GM1⟩ := cd.def_ 16 (d := d_LeastDancesdance) rfl
  have F_Ldance : Fun K "dance" "LeastDances.dance" s_Ldance _ fdM1 := fun_of GM1 rfl rfl rfl rfl rfl
  have b_Ldance := F_Ldance.binds (ps := ["self", "rank"]) fun _ _ _ _ _ _ us hl => match us, hl with | [_, _], _ => rfl
  obtain ⟨fdM2, GM2⟩ := cd.def_ 17 (d := d_LeastDancesrank_of) rfl
  have F_Lrank_of : Fun K "rank_of" "LeastDances.rank_of" s_Lrank_of _ fdM2 := fun_of GM2 rfl rfl rfl rfl rfl
  have b_Lrank_of := F_Lrank_of.binds (ps := ["self", "dance"]) fun _ _ _ _ _ _ us hl => match us, hl with | [_, _], _ => rfl
  obtain ⟨fdM3, GM3⟩ := cd.def_ 18 (d := d_LeastDancesdances) rfl
  have F_Ldances : Fun K "dances" "LeastDances.dances" s_Ldances _ fdM3 := fun_of GM3 rfl rfl rfl rfl rfl
  have b_Ldances := F_Ldances.binds (ps := ["self", "start"]) fun _ _ _ _ _ _ us hl => match us, hl with | [_, _], _ => rfl
  have y_len := He.free_ok X G (cd.fact 15 (f := .free "len") rfl)
  have y_abs := He.free_ok X G (cd.fact 16 (f := .free "abs") rfl)
  have y_int := He.free_ok X G (cd.fact 17 (f := .free "int") rfl)
  have y_range := He.free_ok X G (cd.fact 18 (f := .free "range") rfl)
  have y_isinstance := He.free_ok X G (cd.fact 19 (f := .free "isinstance") rfl)
  have y_tuple := He.free_ok X G (cd.fact 20 (f := .free "tuple") rfl)
  have y_list := He.free_ok X G (cd.fact 21 (f := .free "list") rfl)
  have y_str := He.free_ok X G (cd.fact 22 (f := .free "str") rfl)
  have y_bool := He.free_ok X G (cd.fact 23 (f := .free "bool") rfl)
  have y_sum := He.free_ok X G (cd.fact 24 (f := .free "sum") rfl)
  have y_enumerate := He.free_ok X G (cd.fact 25 (f := .free "enumerate") rfl)
  have y_min := He.free_ok X G (cd.fact 26 (f := .free "min") rfl)
  have y_sorted := He.free_ok X G (cd.fact 27 (f := .free "sorted") rfl)
  have fa0 := cd.fact 28 (f := .cls "LeastDances") rfl
  have fa1 := cd.fact 29 (f := .noat "LeastDances" "fraction") rfl
  have fa2 := cd.fact 30 (f := .noat "LeastDances" "runs") rfl
  have fa3 := cd.fact 31 (f := .noat "LeastDances" "ways") rfl
  have fa4 := cd.fact 32 (f := .glo "LeastDances") rfl
  have fa5 := cd.fact 33 (f := .mkr "LeastDances") rfl
  have fa6 := cd.fact 34 (f := .meth "LeastDances" "dance") rfl
  have fa7 := cd.fact 35 (f := .meth "LeastDances" "rank_of") rfl
  have fa8 := cd.fact 36 (f := .meth "LeastDances" "dances") rfl
  have e := hfa.symm.trans m_law
  cases e
  refine ⟨fd14, fun s v => ?_, fun base KB GB TB => ?_⟩
  · obtain ⟨oc, od, kV, doc, pm, an, cdv, ct, osl, e, _⟩ := F_law.ex
    rw [e]
    exact .of_eq rfl
  have moP := c.more
  unfold exs at moP
  have D_tape : Dfn P w K mg base "_law_tape" 1 _ (spTape K) := ⟨_, _, ok_tape F__law_tape y_len y_abs y_int, m__law_tape, F__law_tape.kp, b__law_tape⟩
  have D_take : Dfn P w K mg base "_law_take" 1 _ spTake := ⟨_, _, ok_take F__law_take y_int, m__law_take, F__law_take.kp, b__law_take⟩
  have D_called : Dfn P w K mg base "_law_called" 1 _ (spCalled K) := ⟨_, _, ok_called F__law_called, m__law_called, F__law_called.kp, b__law_called⟩
  have D_same0 : Dfn P w K mg base "_law_same" 0 _ (spSame 0) := ⟨_, _, none_same, m__law_same, F__law_same.kp, b__law_same⟩
  have D_same1 : Dfn P w K mg base "_law_same" 1 _ (spSame 1) := ⟨_, _, ok_same F__law_same D_same0 y_isinstance y_tuple y_list y_len y_range y_str y_int y_bool, m__law_same, F__law_same.kp, b__law_same⟩
  have D_same2 : Dfn P w K mg base "_law_same" 2 _ (spSame 2) := ⟨_, _, ok_same F__law_same D_same1 y_isinstance y_tuple y_list y_len y_range y_str y_int y_bool, m__law_same, F__law_same.kp, b__law_same⟩
  have D_turned : Dfn P w K mg base "turned" 1 _ spTurned := ⟨_, _, ok_turned F_turned, m_turned, F_turned.kp, b_turned⟩
  have D_after : Dfn P w K mg base "after" 2 _ spAfter := ⟨_, _, ok_after F_after D_turned, m_after, F_after.kp, b_after⟩
  have D_num : Dfn P w K mg base "number" 3 _ spNum := ⟨_, _, ok_num F_number D_after , m_number, F_number.kp, b_number⟩
  have D_quotients : Dfn P w K mg base "quotients" 1 _ (spQuo K) := ⟨_, _, ok_quotients F_quotients y_abs , m_quotients, F_quotients.kp, b_quotients⟩
  have D_steps : Dfn P w K mg base "steps" 2 _ spSteps := ⟨_, _, ok_steps F_steps D_quotients y_sum y_len , m_steps, F_steps.kp, b_steps⟩
  have D_runs : Dfn P w K mg base "runs" 2 _ spRuns := ⟨_, _, ok_runs F_runs D_quotients y_enumerate , m_runs, F_runs.kp, b_runs⟩
  have D_ways_on : Dfn P w K mg base "ways_on" 1 _ spWaysOn := ⟨_, _, ok_ways_on F_ways_on y_range y_len , m_ways_on, F_ways_on.kp, b_ways_on⟩
  have D__law_levels : Dfn P w K mg base "_law_levels" 2 _ spLevels := ⟨_, _, ok__law_levels F__law_levels D_called y_range , m__law_levels, F__law_levels.kp, b__law_levels⟩
  have TLd : TxL K mg (He.ga K "LeastDances") := ⟨He.cls_ok fa0, He.noat_ok fa1, He.noat_ok fa2, He.noat_ok fa3, He.glo_ok X G fa4⟩
  have PR := prop_ok moP
  have moF : fnB K = true := by
    obtain ⟨_, h⟩ := He.ba moP
    obtain ⟨_, h⟩ := He.ba h
    obtain ⟨_, h⟩ := He.ba h
    exact (He.ba h).2
  obtain ⟨fdC, GCD⟩ := getFunD cg moF
  have F_Ldance_count : Fun K "dance_count" "LeastDances.dance_count" s_Ldance_count _ fdC := fun_of GCD rfl rfl rfl rfl rfl
  have b_Ldance_count := F_Ldance_count.binds (ps := ["self"]) fun _ _ _ _ _ _ us hl => match us, hl with | [_], _ => rfl
  have GC := ok_Ldance_count (P := P) (w := w) (mg := mg) (base := base) F_Ldance_count TLd 
  have GI := ok_L__init__ (P := P) (w := w) (base := base) F_L__init__ TLd D_runs (D_ways_on.mono (by decide))
  have ML := He.mkr_ok fa5
  have GD := ok_Ldance (P := P) (w := w) (base := base) F_Ldance TLd y_len PR GC b_Ldance_count
  have GR := ok_Lrank_of (P := P) (w := w) (base := base) F_Lrank_of TLd D_num (D_steps.mono (by decide)) y_len
  have DM_dance : MDfnL P w K mg base (He.ga K "LeastDances") "dance" 3 ["self", "rank"] (spDanceL (He.ga K "LeastDances")) := ⟨_, _, GD, b_Ldance, He.meth_ok fa6⟩
  have DM_rank_of : MDfnL P w K mg base (He.ga K "LeastDances") "rank_of" 4 ["self", "dance"] (spRankL (He.ga K "LeastDances")) := ⟨_, _, GR, b_Lrank_of, He.meth_ok fa7⟩
  have D__law_walks : Dfn P w K mg base "_law_walks" 6 _ (spWalks (He.ga K "LeastDances")) := ⟨_, _, ok__law_walks F__law_walks (D_same2.mono (by decide)) TLd F_Ldances b_Ldances (He.meth_ok fa8) PR GC b_Ldance_count DM_dance, m__law_walks, F__law_walks.kp, b__law_walks⟩
  have D__law_all : Dfn P w K mg base "_law_all" 2 _ spAll := ⟨_, _, ok__law_all F__law_all D_called y_range y_list y_sorted , m__law_all, F__law_all.kp, b__law_all⟩
  exact ok_law F_law (D__law_levels.mono (by decide)) (D_tape.mono (by decide)) (D_take.mono (by decide)) (D__law_all.mono (by decide)) (D_same2.mono (by decide)) y_range y_len D__law_walks TLd PR GC b_Ldance_count ML GI b_L__init__ DM_dance DM_rank_of
end Rope
open PySem PySem.W PySem.Calls PyProof.Rows
set_option maxRecDepth 100000 in
set_option maxHeartbeats 0 in
theorem PySem.Challenge.cw_ropedance_k19_least_dances_holds : PySem.Challenge.rw_ropedance_k19_least_dances.Holds := by
  w_on; o_law
  refine HandSHeadRun.head_any (r := OpenLaw.row PySem.Challenge.rw_ropedance_k19_least_dances) (q := view (OpenLaw.row PySem.Challenge.rw_ropedance_k19_least_dances).prog [22]) (H := Rope.hk) (ob := Rope.ob) (M := 6000) (loose := ["after", "turned", "quotients", "number", "steps", "runs", "ways_on", "_law_tape", "_law_take", "_law_called", "_law_same", "_law_levels", "_law_all", "_law_walks", "RopeError", "NoDance", "LeastDances"]) (d := HandSHeadRun.topDef (OpenLaw.row PySem.Challenge.rw_ropedance_k19_least_dances).prog 22) (kwd := []) Rope.ob_eq
    (by kernel_rfl) (fun s => by kernel_rfl) Rope.head_run (by kernel_rfl) (by kernel_rfl) (by kernel_rfl) (by rfl) (by first | assumption | decide +kernel) (by decide +kernel) ⟨rfl, rfl, rfl, rfl, rfl, by decide +kernel⟩ ?hw ?hc
  case hw => w_witness2
  case hc =>
    refine LamX.walk_ofTsE (l := PySem.Challenge.rw_ropedance_k19_least_dances) (n := 63) (k := 7) (x := "script") (CX := fun _ => L2.CX0) rfl (by decide) (by kernel_rfl) ⟨rfl, by decide, by decide⟩ ?F (fun _ _ _ _ _ z => z)
    intro w mg fa h Y G hmg0
    obtain ⟨K, KX, c, cg⟩ := Y
    have hmg : mg ("law" : PySem.Str) = some (.ref fa) := by
      have e : (HandSHeadRun.topDef (OpenLaw.row PySem.Challenge.rw_ropedance_k19_least_dances).prog 22).name = ("law" : PySem.Str) := by kernel_rfl
      rw [← e]
      exact hmg0
    obtain ⟨fd, hb, hF⟩ := Rope.all_facts (P := (PySem.Challenge.rw_ropedance_k19_least_dances).prog) (w := w) KX G hmg c cg
    refine ⟨K, KX, fd, Rope.tfs.map (He.cT K), Rope.spLawK K, fun p hp => ?_, fun p hp => ?_, fun p hp => ?_, hb, Rope.spLaw_from K, hF⟩
    · obtain ⟨x, hx, rfl⟩ := List.mem_map.mp hp
      exact c.empty x hx
    · obtain ⟨x, hx, rfl⟩ := List.mem_map.mp hp
      exact c.out x hx
    · obtain ⟨x, hx, rfl⟩ := List.mem_map.mp hp
      exact PySem.W.codeHd_of_K KX (c.hd x hx)
