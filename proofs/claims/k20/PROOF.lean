import PyProof.Rows.All
import Wide.All
import OpenK.AllK
import Wide.FinOn
import PyProof.StrBlock2
import HandS.ForMost
import HandS.Wide
import HandS.IsInst
import HandS.Exc
import HandS.ExcOwn
import HandS.ExcCtx
import HandS.ExcIs
import HandS.Hot
import HandS.WordsExc
import HandS.Gcd
import HandS.AnyAll
import HandS.Style
import HandS.More
import HandS.Dict
import HandS.Conv
import KE.KDictDisplayH
import HandS.List
import HandS.TupLe
import HandS.WideBits
import HandS.RevRange
import HandS.Deep
import HandS.Strs
import HandS.Walk
import HandS.Property
import HandS.Words
import HandS.GenList
import HandS.HeadHook4
import HandS.HeadEnd
import HandS.HeadWalk
import HandS.Head0
import HandS.Head1
import HandS.Head2
import HandS.Head3
import PySem.Challenge.RW_ropedance_k20_whole_many_least_dances
set_option Elab.async false
set_option linter.all false
set_option maxRecDepth 100000
set_option maxHeartbeats 4000000
namespace Rope
open PySem L2


/-! ### texts as lists of codes -/
def S (l : List Nat) : Str := ⟨l.toArray⟩
theorem S_len (l : List Nat) : (S l).length = l.length := by simp [S, Str.length]
theorem S_list (l : List Nat) : (S l).cps.toList = l := by simp [S]
theorem S_size (l : List Nat) : (S l).cps.size = l.length := by simp [S]
theorem S_get (l : List Nat) (i : Nat) : (S l).cps[i]? = l[i]? := by simp [S]
theorem S_inj {l m : List Nat} (h : S l = S m) : l = m := by
  have := congrArg (fun z : Str => z.cps.toList) h
  simpa [S] using this
theorem S_app (l m : List Nat) : S l ++ S m = S (l ++ m) := by
  show Str.append (S l) (S m) = S (l ++ m)
  simp [Str.append, S]
theorem S_mul (l : List Nat) (n : Int) : Txt.mul (S l) n = S (List.replicate n.toNat l).flatten := by
  unfold Txt.mul
  by_cases h1 : n < 1
  · rw [if_pos h1]
    have : n.toNat = 0 := by omega
    rw [this]
    rfl
  · rw [if_neg h1]
    by_cases h2 : (n == 1 || (S l).length == 0) = true
    · rw [if_pos h2]
      simp only [Bool.or_eq_true, beq_iff_eq] at h2
      rcases h2 with h2 | h2
      · subst h2
        show S l = S (List.replicate 1 l).flatten
        simp
      · rw [S_len] at h2
        have : l = [] := List.eq_nil_of_length_eq_zero h2
        subst this
        simp
    · rw [if_neg h2]
      have aux : ∀ (k : Nat) (a : Array Nat), ((List.replicate k (S l).cps).foldl (· ++ ·) a).toList = a.toList ++ (List.replicate k l).flatten := by
        intro k
        induction k with
        | zero => intro a; simp
        | succ k ih =>
          intro a
          rw [List.replicate_succ, List.foldl_cons, ih, List.replicate_succ, List.flatten_cons, Array.toList_append, List.append_assoc, S_list]
      have := aux n.toNat #[]
      unfold S
      congr 1
      apply Array.toList_inj.mp
      rw [show S l = (⟨l.toArray⟩ : Str) from rfl] at this
      rw [this]
      simp
theorem S_cut (l : List Nat) (lo hi : Option Int) : cutS (S l) lo hi = S ((l.drop (HT.sIx l.length 0 lo)).take (HT.sIx l.length l.length hi - HT.sIx l.length 0 lo)) := by
  unfold cutS
  rw [S_len, S_list]
  rfl
theorem S_take (l : List Nat) {m : Int} (h : 0 ≤ m) : cutS (S l) none (some m) = S (l.take m.toNat) := by
  obtain ⟨k, rfl⟩ := Int.eq_ofNat_of_zero_le h
  rw [S_cut, HT.sIx_none, HT.sIx_nat, List.drop_zero, Nat.sub_zero, Int.toNat_natCast]
  congr 1
  by_cases h2 : k ≤ l.length
  · rw [Nat.min_eq_left h2]
  · rw [Nat.min_eq_right (by omega), List.take_of_length_le (Nat.le_refl _), List.take_of_length_le (by omega)]
theorem S_drop (l : List Nat) {m : Int} (h : 0 ≤ m) : cutS (S l) (some m) none = S (l.drop m.toNat) := by
  obtain ⟨k, rfl⟩ := Int.eq_ofNat_of_zero_le h
  rw [S_cut, HT.sIx_none, HT.sIx_nat, Int.toNat_natCast]
  congr 1
  rw [List.take_of_length_le (by simp)]
  by_cases h2 : k ≤ l.length
  · rw [Nat.min_eq_left h2]
  · rw [Nat.min_eq_right (by omega), List.drop_length, List.drop_eq_nil_of_le (by omega)]
/-- a text times an int -/
theorem op_mul_str {X : Cx} : OpR X (binaryOp .Mult) (fun x y H Q => ∃ (l : List Nat) (n : Int), x = .str (S l) ∧ y = .int n ∧ 0 ≤ n ∧ n < 2 ^ 62 ∧ l.length * n.toNat ≤ 16777215 ∧ Q (.str (S (List.replicate n.toNat l).flatten)) H) := by
  intro pins s σ H x y v u Q I rx ry h
  obtain ⟨l, n, rfl, rfl, h0, h1, h2, q⟩ := h
  obtain ⟨t, rfl⟩ := rx
  obtain ⟨t', rfl⟩ := ry
  have e1 : decide (n < -(2 ^ 63 : Int)) = false := decide_eq_false (by omega)
  have e2 : decide (n ≥ 2 ^ 63) = false := decide_eq_false (by omega)
  refine SB.mul ⟨by rw [e1, e2]; rfl, fun z1 z2 => ?_, fun z1 z2 => ?_⟩ fun t' k => ⟨.str _, H, I.tok _, ⟨_, rfl⟩, by rw [S_mul]; exact q⟩
  · rw [S_len]
    have h3 : (l.length : Int) * n ≤ 16777215 := by
      have : ((l.length * n.toNat : Nat) : Int) ≤ 16777215 := Int.ofNat_le.mpr h2
      rw [Int.natCast_mul, Int.toNat_of_nonneg h0] at this
      exact this
    have hn : 0 < n := by omega
    intro hc
    have hc' : (2 ^ 63 - 1) / n < (l.length : Int) := hc
    have := (Int.ediv_lt_iff_lt_mul hn).mp hc'
    omega
  · rw [S_len]
    unfold Builtin.Str.tooLong
    rw [sizeLine_eq]
    exact decide_eq_false (by omega)
/-! ### the calls: a fraction by a letter -/
def called (v : Int × Int) (c : Nat) : Int × Int :=
  if c = 84 then (v.1 + v.2, v.2) else if c = 85 then (v.1 - v.2, v.2) else if 0 < v.1 then (0 - v.2, v.1) else if v.1 < 0 then (v.2, 0 - v.1) else (1, 0)
def run (v : Int × Int) (l : List Nat) : Int × Int := l.foldl called v
theorem run_nil (v : Int × Int) : run v [] = v := rfl
theorem run_app (v : Int × Int) (l m : List Nat) : run v (l ++ m) = run (run v l) m := List.foldl_append
theorem run_take {l : List Nat} {i c : Nat} (v : Int × Int) (h : l[i]? = some c) : run v (l.take (i + 1)) = called (run v (l.take i)) c := by
  rw [List.take_add_one, h, run_app]
  rfl
/-- what a fraction of the laws keeps: q positive or infinite, no common divisor -/
def Good (v : Int × Int) : Prop := (0 < v.2 ∨ v = (1, 0)) ∧ Int.gcd v.1 v.2 = 1
theorem Good.zero : Good (0, 1) := ⟨.inl (by decide), by decide⟩
theorem gcd_add' (p q : Int) : Int.gcd (p + q) q = Int.gcd p q := by
  have := Int.gcd_add_mul_right_left p q 1
  simpa using this
theorem Good.called {v : Int × Int} (h : Good v) (c : Nat) : Good (called v c) := by
  obtain ⟨p, q⟩ := v
  obtain ⟨h1, h2⟩ := h
  simp only at h1 h2
  unfold Rope.called
  by_cases c1 : c = 84
  · rw [if_pos c1]
    refine ⟨?_, ?_⟩
    · rcases h1 with h1 | h1
      · exact .inl h1
      · cases h1; exact .inr rfl
    · show Int.gcd (p + q) q = 1
      rw [gcd_add']; exact h2
  rw [if_neg c1]
  by_cases c2 : c = 85
  · rw [if_pos c2]
    refine ⟨?_, ?_⟩
    · rcases h1 with h1 | h1
      · exact .inl h1
      · cases h1; exact .inr rfl
    · show Int.gcd (p - q) q = 1
      have := gcd_add' (p - q) q
      rw [Int.sub_add_cancel] at this
      rw [← this]; exact h2
  rw [if_neg c2]
  by_cases c3 : 0 < p
  · rw [if_pos (show 0 < (p, q).1 from c3)]
    refine ⟨.inl c3, ?_⟩
    show Int.gcd (0 - q) p = 1
    rw [Int.zero_sub, Int.neg_gcd, Int.gcd_comm]; exact h2
  rw [if_neg (show ¬ 0 < (p, q).1 from c3)]
  by_cases c4 : p < 0
  · rw [if_pos (show (p, q).1 < 0 from c4)]
    refine ⟨.inl (by show 0 < 0 - p; omega), ?_⟩
    show Int.gcd q (0 - p) = 1
    rw [Int.zero_sub, Int.gcd_neg, Int.gcd_comm]; exact h2
  rw [if_neg (show ¬ (p, q).1 < 0 from c4)]
  exact ⟨.inr rfl, by decide⟩
theorem good_run : ∀ (l : List Nat) {v : Int × Int}, Good v → Good (run v l)
  | [], _, h => h
  | c :: r, _, h => good_run r (h.called c)
/-- its size grows by a bit a letter -/
theorem called_size {v : Int × Int} {n : Nat} (h1 : v.1.natAbs ≤ n) (h2 : v.2.natAbs ≤ n) (h0 : 1 ≤ n) (c : Nat) : (called v c).1.natAbs ≤ 2 * n ∧ (called v c).2.natAbs ≤ 2 * n := by
  unfold called
  repeat' split
  all_goals simp only
  all_goals omega
theorem run_size : ∀ (l : List Nat) {v : Int × Int} {n : Nat}, v.1.natAbs ≤ n → v.2.natAbs ≤ n → 1 ≤ n → (run v l).1.natAbs ≤ 2 ^ l.length * n ∧ (run v l).2.natAbs ≤ 2 ^ l.length * n
  | [], v, n, h1, h2, _ => by simpa [run] using ⟨h1, h2⟩
  | c :: r, v, n, h1, h2, h0 => by
    have q := called_size h1 h2 h0 c
    have ih := run_size r q.1 q.2 (by omega)
    have e : 2 ^ (c :: r).length * n = 2 ^ r.length * (2 * n) := by
      rw [List.length_cons, Nat.pow_succ, Nat.mul_assoc]
    rw [e]
    exact ih
/-! ### the divisor -/
theorem gcd_step (x y : Int) : Nat.gcd y.natAbs (x.fmod y).natAbs = Nat.gcd x.natAbs y.natAbs := by
  show Int.gcd y (x.fmod y) = Int.gcd x y
  have e : x.fmod y = x + y * (-(x.fdiv y)) := by
    have := Int.fmod_def x y
    rw [this, Int.mul_neg]
    rfl
  rw [e, Int.gcd_add_mul_left_right, Int.gcd_comm]
theorem fmod_less {x y : Int} (h : y ≠ 0) : (x.fmod y).natAbs < y.natAbs := by
  by_cases h0 : 0 < y
  · rw [Int.fmod_eq_emod_of_nonneg x (by omega)]
    have h1 := Int.emod_nonneg x h
    have h2 := Int.emod_lt_of_pos x h0
    omega
  · have e : x.fmod y = -((-x).fmod (-y)) := by
      have := Int.neg_fmod_neg (a := x) (b := y)
      omega
    rw [e, Int.fmod_eq_emod_of_nonneg _ (by omega)]
    have h1 := Int.emod_nonneg (-x) (b := -y) (by omega)
    have h2 := Int.emod_lt_of_pos (-x) (b := -y) (by omega)
    omega
/-- for letter in text -/
theorem for_str {l : List Nat} {g : TG} {tb : TS} {D : Ends} {σ : L2.St} {H : Hp} (Pv : Nat → L2.St → Hp → Prop) (h0 : Pv 0 σ H)
    (hs : ∀ i c σ H, l[i]? = some c → Pv i σ H → g (.str (S [c])) σ H fun σ2 H2 => tb { D with nx := Pv (i + 1), ct := Pv (i + 1), bk := D.nx } σ2 H2) (hd : ∀ σ H, Pv l.length σ H → D.nx σ H) :
    ∃ W : Nat → Nat → L2.St → Hp → Prop, (∃ m, W 0 m σ H) ∧ ∀ i m σ H, W i m σ H →
      ((Its (S l)).stop i H ∧ D.nx σ H) ∨ ((Its (S l)).go i H ∧ ∃ N : L2.St → Hp → Prop, (∀ σ' H', N σ' H' → ∃ m', m' < m ∧ W (i + 1) m' σ' H') ∧ ∀ x H', (Its (S l)).yld i H x H' → g x σ H' fun σ2 H2 => tb { D with nx := N, ct := N, bk := D.nx } σ2 H2) := by
  refine ⟨fun i m σ H => m = l.length - i ∧ i ≤ l.length ∧ Pv i σ H, ⟨l.length, by simp, Nat.zero_le _, h0⟩, ?_⟩
  rintro i m σ H ⟨rfl, hi, p⟩
  by_cases hlt : i < l.length
  · refine .inr ⟨by show i < (S l).cps.size; rw [S_size]; exact hlt, Pv (i + 1), fun σ' H' p' => ⟨l.length - (i + 1), by omega, rfl, hlt, p'⟩, fun x H' y => ?_⟩
    obtain ⟨e, c, hc, rfl⟩ := y
    subst e
    rw [S_get] at hc
    exact hs i c σ _ hc p
  · have e : i = l.length := by omega
    subst e
    exact .inl ⟨by show (S l).cps.size ≤ l.length; rw [S_size]; exact Nat.le_refl _, hd σ H p⟩

section
open PySem.F HotX
variable {prog : Program} {w : World} {A : Around} {E : Value → Shared → Prop} {s : Shared}
/-- the end of a list's walk while an exception is handled -/
theorem list_end_hot {it l x1 : Addr} {i : Nat} {items : Array Value} {Q : Option Value → Shared → Prop} (hot : HotAt A x1 s.heap) (hne : x1 ≠ it)
    (hit : s.heap.IsListIter it l i) (hl : s.heap.IsList l items) (hx : items[i]? = none)
    (hQ : ∀ h', Heap.ExtBut it s.heap h' → Q none { s with heap := h' }) : wpAny (model prog w) A (pyNext (.ref it)) Q E s := by
  obtain ⟨io, iAt, _, iDat⟩ := id hit
  obtain ⟨lo, lAt, _, ln, lDat⟩ := hl
  obtain ⟨he, xo, xv, xAt, xDat, xCtx⟩ := hot
  have typ := hit.typeIs
  unfold pyNext
  refine wpAny_bind (wpAny_attempt (wpAny_callSpecial?_slot (name := Str.ofString "__next__") typ slot_listiter_next (wpAny_call_entry slot_listiter_next typ entry_listiter_next ?body (args_listiter_next _))))
  -- the list, the place, the items: nothing is left
  show wpAny _ _ (field (.ref it) 0 >>= _) _ _ s; refine wpAny_bind (wpAny_field iAt iDat (x := .ref l) rfl ?_)
  show wpAny _ _ (if (Value.ref l == Value.none) = true then _ else _) _ _ s; rw [if_neg (show ¬ ((Value.ref l == Value.none) = true) from Bool.false_ne_true)]
  show wpAny _ _ (field (.ref it) 1 >>= _) _ _ s; refine wpAny_bind (wpAny_field iAt iDat (x := .int i 0) rfl ?_)
  show wpAny _ _ (seqItems? (.ref l) >>= _) _ _ s; refine wpAny_bind (wpAny_seqItems lAt lDat ?_); simp only [Int.toNat_natCast, hx]
  refine wpAny_bind (wpAny_rule (wpAny_bind (wpAny_setField iAt iDat (by simp) ?stop)))
  -- StopIteration is made and raised on top of the one that is handled
  show wpAny _ _ (newExc (.type "StopIteration") [] >>= _) _ _ _; refine wpAny_bind ?_; simp only [newExc, newTuple]
  refine wpAny_bind (wpAny_newObj_type (wpAny_bind (m := firstArgMember _ _) (wpAny_of_eq (a := Value.none) (by first | rfl | (simp only [firstArgMember]; rfl)) (wpAny_newObj_type ?_ (by size_fits)))) (by size_fits))
  have kept := (Heap.get?_update_other s.heap (Obj.mapFields (·.setIfInBounds 0 .none)) hne.symm).trans xAt
  have far := Heap.lt_size (Heap.get?_push_of_some { cls := .type "tuple", data := .seq #[] } kept)
  refine raiseNew_hot ⟨he, xo, xv, Heap.get?_push_of_some _ (Heap.get?_push_of_some _ kept), xDat, xCtx⟩ (Nat.ne_of_lt far) (Heap.get?_push_size _ rfl) rfl (by first | (simp; done) | (simp; omega) | (simp only [Array.size_append]; simp; omega)) ?_
  refine wpAny_bind (wpAny_isInstance (T := "StopIteration") (b := true) ⟨_, Heap.get?_update_self _ (Heap.get?_push_size _ rfl) rfl, rfl⟩ isSubtype_stop (wpAny_pure (hQ _ fun c u hc e => ?_)))
  have e2 := (Heap.SameBut.update s.heap it (Obj.mapFields (·.setIfInBounds 0 .none))).extBut c u hc e
  have e3 := Heap.get?_push_of_some { cls := .type "tuple", data := .seq #[] } e2
  exact (Heap.get?_update_other _ _ (Nat.ne_of_gt (Heap.lt_size e3))).trans (Heap.get?_push_of_some _ e3)
end
/-- a list walked while an exception is handled -/
theorem walks_list_hot {prog : Program} {w : World} {A : Around} {x1 : Addr} {o1 : Obj} {vs1 : Array Value} (hh : A.handled = some (.ref x1)) (d1 : o1.data = .fields vs1) (c1 : vs1[2]? = some .none) (I ax : Addr) (hne : ax ≠ I) (h1I : x1 ≠ I) (items : Array Value) :
    Walks prog w A I [I, ax, x1] [I] items.size (fun i v => items[i]? = some v) (fun i h => h.IsListIter I ax i ∧ h.IsList ax items ∧ h.get? x1 = some o1) where
  sub := fun b hb => by simp at hb; simp [hb]
  frame := fun _ _ _ st hk => ⟨st.1.at fun o e => hk I (by simp) o e, st.2.1.at fun o e => hk ax (by simp) o e, hk x1 (by simp) _ st.2.2⟩
  item := fun i s Q E hi st hQ => by
    exact wpAny_pyNext_list_item st.1 st.2.1 (x := items[i]) (by simp [hi]) fun h' hit' hs' => hQ _ h' s.toks (by simp [hi]) ⟨hit', st.2.1.extBut hs'.extBut hne, hs'.extBut x1 _ h1I st.2.2⟩ fun b o hb e => hs'.extBut b o (fun h => hb (by simp [h])) e
  done := fun s Q E st hQ => list_end_hot ⟨hh, o1, vs1, st.2.2, d1, c1⟩ h1I st.1 st.2.1 (by simp) fun h' he' => hQ h' s.toks fun b o hb e => he' b o (fun h => hb (by simp [h])) e
  self := fun _ _ _ _ st hQ => wpAny_pyIter_listiter st.1 hQ
section
variable {X : Cx} {a : Addr} {oe : Obj} {cls : Value} {d : Option Addr} {pn : List (Addr × Obj)}
/-- any(list of bools) within an except suite -/
theorem any_hot (hz : L2N.Zn cls d oe) (hf : ∃ vs, oe.data = .fields vs) : CallR (X.suite a ((a, oe) :: pn)) (.builtin "any") (rAny X.K) := fun pins s σ H vs us Q I r ⟨b, bs, ev, hs, q⟩ => by
  subst ev
  obtain ⟨its, rv, hl, _⟩ := Inv.list I hs
  obtain ⟨fv, hd⟩ := hf
  have here := (I.pin (a, oe) (List.mem_append_left _ List.mem_cons_self)).1
  have lt := Heap.lt_size here
  rw [Vals.ref1 r]
  have items := rv.bls
  refine call_any_walk (iter_any hl.isList fun z ez st ne => ?_); subst ez
  refine ⟨_, _, _, _, _, _, _, rfl, walks_list_hot (A := (X.suite a ((a, oe) :: pn)).A.in1) (x1 := a) (o1 := oe) rfl hd (hz.2.2 fv hd) _ b ne (Nat.ne_of_lt lt) its.toArray, ⟨st.1, st.2, Heap.get?_push_of_some _ here⟩, truth_bools items, fun h' tk hk => ?_⟩
  have all : ∀ c u, s.heap.get? c = some u → h'.get? c = some u := fun c u e => hk c u (fun m => by
    rw [List.mem_singleton.mp m] at e
    exact Nat.lt_irrefl _ (Heap.lt_size e)) (Heap.get?_push_of_some _ e)
  refine ⟨.bl (bs.any id), H, I.kept all, ?_, q⟩
  show Value.bool ((List.range its.toArray.size).any fun i => bs.getD i false) = .bool (bs.any id)
  rw [← any_range, items, List.size_toArray, List.length_map]
/-- isinstance(e, c) of the error that the suite holds -/
def rIsF (K : PySem.W.Frag) (D a : Addr) (cls : Value) (d : Option Addr) : List V → Hp → VK → Prop := fun xs H Q => cls = .ref D ∧ d = none ∧ rIsE K D a xs H Q
theorem call_isF {D : Addr} (C : ExcC X.K D) (hz : L2N.Zn cls d oe) (hf : ∃ vs, oe.data = .fields vs) : CallR (X.suite a ((a, oe) :: pn)) (.builtin "isinstance") (rIsF X.K D a cls d) := by
  intro pins s σ H xs us Q I r h
  obtain ⟨rfl, rfl, h⟩ := h
  exact call_isE C hz.zc hf pins s σ H xs us Q I r h
end
theorem takes0N {X : Cx} : L2N.Takes X (fun _ _ _ _ => False) := fun _ _ ⟨_, _, _, _, _, _, _, _, _, _, _, _, _, _, _, _, no⟩ => False.elim no
theorem okX {P : Program} {w : World} {K : PySem.W.Frag} {mg : Str → Option Value} {base : Heap} {x qual : Str} {st : Stmt} {f : Addr} {fd : FuncData} {N ps : List Str} {k : Nat} {sp : Sp} (F : Fun K x qual st f fd) (S : FnScope N ps (defScope st)) (len : ∀ vs H Q E, sp vs H Q E → vs.length = ps.length)
    (hbody : ∀ (cdv : Value) (A : Around) (outer : List Env) (s : Shared) (H : Hp) (vs : List V) (Q : VK) (E : XK), Room k (A.deeper (PyProof.Rows.envOfC qual (defScope st) s.heap.objs.size f cdv)) → sp vs H Q E →
      ∃ t, PSs (cxOf (L2N.CX P w) P w K mg base N qual (defScope st) f cdv A outer s H E) (defBody st) t ∧ t { nx := fun _ H' => Q .non H', rt := Q } (start N vs) H) : FnOk P w K mg base (L2N.CX P w) (k + 1) f fd ps sp := by
  obtain ⟨_, _, _, _, _, _, cdv, _, _, rfl, lk, hcd⟩ := F.ex
  exact fn_of lk hcd S len (hbody cdv)
/-! ### an error class of the program -/
structure Err (K : PySem.W.Frag) (mg : Str → Option Value) (x : Str) (C : Addr) : Prop where
  g : mg x = some (.ref C)
  x : PySem.W.excIn K C [.type "ValueError", .type "Exception", .type "BaseException", .type "object"] "ValueError.__new__" = true
  k : PySem.W.keepIn K (.ref C) = true
  b : PySem.W.subIn K (.ref C) (.type "BaseException") = some true
  t : PySem.W.typeIn K (.ref C) = some (.type "type")
  hd : PySem.W.hasDictIn K C = true
  hg : PySem.W.findIn K (.ref C) "__getattribute__" = some (some (.builtin "BaseException.__getattribute__"))
  hk : PySem.W.findIn K (.ref C) "__getattr__" = some none
  ha : PySem.W.findIn K (.ref C) "__class__" = some (some (.builtin "object.__class__"))
  hm : PySem.W.mroIn K C (.type "object") = some true
theorem Err.c {K : PySem.W.Frag} {mg : Str → Option Value} {x : Str} {C : Addr} (e : Err K mg x C) (hn : PySem.W.specialIn K (.builtin "object.__class__") "__get__" = some (some (.builtin "getset_descriptor.__get__"))) (ht : PySem.W.takesIn K (.builtin "object.__class__") = some true) : ExcC K C :=
  ⟨e.hg, e.hk, e.b, e.hd, e.ha, hn, ht, e.hm⟩
/-- // of great ints, of any sign -/
theorem op_fdivWN {X : Cx} : OpR X (binaryOp .FloorDiv) (rI (fun _ j => j ≠ 0 ∧ j.natAbs.log2 < 9000) fun i j => .int (i.fdiv j)) := opI fun i j _ _ _ _ _ hc q =>
  PyProof.Rows.floordiv_int hc.1 q (.inl (PyProof.noPylong_of_log2 hc.2))

/-! ### text[::-1] -/
theorem rev_pick (l : List Nat) (t : Tok) (a : Tok) : sliceMade (S l) t none none (some (-1, a)) = Made.str (S l.reverse) := by
  have hs : slicePicked (S l) none none (some (-1, a)) = (List.range l.length).reverse := by
    show sliceRange (((S l).length : Int) - 1) (-1) (-1) = _
    rw [S_len, PySem.W.krv_sliceRange, PySem.W.krv_range]
  have hf : ((List.range l.length).reverse.filterMap ((S l).cps[·]?)) = l.reverse := by
    rw [List.filterMap_reverse]
    congr 1
    have : ∀ m : List Nat, (List.range m.length).filterMap (fun i => m[i]?) = m := fun m => by
      induction m with
      | nil => rfl
      | cons c r ih =>
        rw [List.length_cons, List.range_succ_eq_map, List.filterMap_cons, List.filterMap_map]
        show c :: (List.range r.length).filterMap (fun i => r[i]?) = c :: r
        rw [ih]
    have h2 : (fun i => (S l).cps[i]?) = fun i => l[i]? := funext fun i => S_get l i
    rw [h2]
    exact this l
  unfold sliceMade
  rw [hs, hf]
  rfl
def tRevS (te : TE) : TE := fun σ H Q => te σ H fun x H1 => ∃ l : List Nat, x = .str (S l) ∧ l.length ≤ 16777216 ∧ Q (.str (S l.reverse)) H1
theorem pe_revS {X : Cx} {e : Expr} {te : TE} {k : Nat} {p1 p2 p3 pos : Pos} (he : PE X e te) : PE X (.Subscript e (.Slice none none (some (.UnaryOp .USub (.Constant (.int 1) k p1) p2)) p3) pos) (tRevS te) := by
  constructor
  intro pins s σ H Q I hyp
  apply PyProof.Rows.Subscript_
  refine thn (he.run pins s σ H _ I hyp) fun v s1 ⟨x, H1, I1, r1, l, ex, hl, q⟩ => ?_
  subst ex
  obtain ⟨tk, rfl⟩ := r1
  have minus : PO X (some (.UnaryOp .USub (.Constant (.int 1) k p1) p2)) (tPart (tUn (rU fun i => .int (-i)) (tC (.int 1)))) := po_some (pe_un un_neg pe_int)
  apply wpAny_Slice
  refine thn (po_none.run pins s1 σ H1 (fun o G => o = none ∧ G = H1) I1 ⟨rfl, rfl⟩) fun v1 s2 ⟨o1, G1, J1, a1, b1, c1⟩ => ?_
  subst b1; subst c1
  refine thn (po_none.run pins s2 σ G1 (fun o G => o = none ∧ G = G1) J1 ⟨rfl, rfl⟩) fun v2 s3 ⟨o2, G2, J2, a2, b2, c2⟩ => ?_
  subst b2; subst c2
  refine thn (minus.run pins s3 σ G2 (fun o G => o = some (-1) ∧ G = G2) J2 ⟨1, rfl, -1, rfl, rfl, rfl⟩) fun v3 s4 ⟨o3, G3, J3, a3, b3, c3⟩ => ?_
  subst b3; subst c3
  obtain ⟨y1, rfl, g1⟩ := IsPart.raw a1
  obtain ⟨y2, rfl, g2⟩ := IsPart.raw a2
  obtain ⟨y3, rfl, g3⟩ := IsPart.raw a3
  cases y1 with
  | some z => cases g1
  | none =>
  cases y2 with
  | some z => cases g2
  | none =>
  cases y3 with
  | none => cases g3
  | some z =>
  obtain ⟨z1, z2⟩ := z
  have ez : z1 = -1 := Option.some.inj g3
  subst ez
  show wpAny (model X.prog X.w) X.A (PyProof.Rows.subscriptTail e (.Slice none none (some (.UnaryOp .USub (.Constant (.int 1) k p1) p2)) p3) (.str (S l) tk) (.ref s4.heap.objs.size)) (EP X pins σ Q) X.xe { s4 with heap := s4.heap.push { cls := .type "slice", data := .fields #[partValue none, partValue none, partValue (some (-1, z2))] } }
  refine PyProof.Rows.tail_any (ops := [.str (S l) tk, .ref s4.heap.objs.size]) (typeIs_str _ _ _) PySem.F.slot_str_getitem.lookup ?_ (by with_unfolding_all rfl)
  refine wpAny_getItem_str_slice (l := none) (u := none) (st := some (-1, z2)) ⟨_, Heap.get?_push_size _ rfl, rfl, rfl⟩ (by rfl) ?_
  rw [rev_pick]
  exact ⟨by rw [S_len, List.length_reverse, sizeLine_eq]; exact hl, .str _, _, J3.kept (t' := s4.toks + 1) fun b ob w => Heap.get?_push_of_some _ w, ⟨_, rfl⟩, q⟩
/-! ### all(test for x in text), where the test may read what the top has written -/
section
open GxR
variable {X : Cx} {pins : List (Addr × Obj)} {σ : L2.St} {H : Hp} {s : Shared}
def EltG (X : Cx) (scope : Scope) (x : Str) (elt : Expr) (pb : Nat → Bool) : Prop :=
  ∀ (cenv : Env) (A' : Around) (E' : Value → Shared → Prop) (c : Nat) (t : Tok) (z : Shared) (m : Str → Option Value), X.Ok → cenv.scope = scope → cenv.globals = X.env.globals → (∀ b o, X.base.get? b = some o → z.heap.get? b = some o) →
    z.heap.Ns cenv.locals m → m x = some (.str ⟨#[c]⟩ t) → wpAny (model X.prog X.w) A' (eval elt cenv) (fun y z' => y = .bool (pb c) ∧ Keeps z z') E' z
theorem tbl_not {H : Hp} {P : Addr} {ps : Array Value} (hP : H P = some (.tbl ps)) {b : Addr} (h : H b = none) : b ≠ P := fun z => by rw [z, hP] at h; cases h
theorem gen_go {c P : Addr} {elt : Expr} {x : Str} {scope : Scope} {pb : Nat → Bool} {k : Nat} {Q' : Value → Shared → Prop} {a : Str} {o : Obj} {St : Nat → Heap → Prop} {ps : Array Value}
    (hr : Room k X.A) (TB : TabB X.base X.mg c P) (sc : GenS X.env scope x) (hel : EltG X scope x elt pb) (J : L2.Inv X pins σ H s) (hP : H P = some (.tbl ps)) (atP : s.heap.get? P = some { cls := .none, data := .fields ps }) (ltP : P < s.heap.objs.size)
    (W : ∀ A' : Around, A'.handled = none → Walks X.prog X.w A' s.heap.objs.size [s.heap.objs.size] [s.heap.objs.size] a.cps.size (SignAt a) St) (st0 : St 0 (s.heap.push o)) (code : Value) (h3 : Heap) (tk : Nat) (ps' more : Array Value) (em : ps' = ps ++ more)
    (hx : Heap.ExtBut P (s.heap.push o) h3) (hsz : (s.heap.push o).objs.size ≤ h3.objs.size) (h3P : h3.get? P = some { cls := .none, data := .fields ps' }) (ok' : TriplesOk ps'.toList) (lim : (s.heap.push o).NoLimit) (hQ : ∀ g z, Ready X pins σ H P a pb g z → Q' (.ref g) z) :
    wpAny (model X.prog X.w) X.A (builtinsFor X.env.globals X.env.builtins) (fun bi s₄ =>
      ∃ Ia fp wr n₀ Pf St₀ pz F, Value.ref s.heap.objs.size = .ref Ia ∧ (∀ A' : Around, A'.handled = none → Walks X.prog X.w A' Ia fp wr n₀ Pf St₀) ∧ St₀ 0 s₄.heap ∧ (∀ b ∈ fp, b < s₄.heap.objs.size) ∧ s₄.heap.NoLimit ∧ cStatics ∉ wr ∧
        (∀ href : Heap, (∀ b u, s₄.heap.get? b = some u → href.get? b = some u) → QuietGen X.prog X.w (genEnv scope (cloFrom X.env.cells scope.names []) s₄.heap.objs.size code bi X.env) x [] elt (List.range s₄.heap.objs.size) wr Pf pz F href) ∧
        (∀ g h₅ tk gs, gs.bare = true → s₄.heap.objs.size < g → h₅.objs.size = g + 1 → (∀ b u, s₄.heap.get? b = some u → h₅.get? b = some u) →
          WalksS X.prog X.w X.A.in4 g (g :: s₄.heap.objs.size :: List.range s₄.heap.objs.size) (s₄.heap.objs.size :: wr) (GenOnlyQ s₄.gens.size) (passing pz n₀ 0).length (fun j y => ∃ i, (passing pz n₀ 0)[j]? = some i ∧ F i y) (GenAt X.prog X.w X.A.in4 g s₄.gens.size s₄.heap.objs.size (List.range s₄.heap.objs.size) wr pz n₀ F) →
          GenAt X.prog X.w X.A.in4 g s₄.gens.size s₄.heap.objs.size (List.range s₄.heap.objs.size) wr pz n₀ F 0 { s₄ with gens := s₄.gens.push gs, toks := tk, heap := h₅ } → Q' (.ref g) { s₄ with gens := s₄.gens.push gs, toks := tk, heap := h₅ })) X.xe { s with heap := h3, toks := tk } := by
  obtain ⟨bm, ob, q1, q2, q3, q4, q5, q6, q7, q8⟩ := TB.bm
  obtain ⟨cm, cns, cnn⟩ := J.nolimit
  have cP : cStatics ≠ P := fun z => by
    obtain ⟨o2, es, ep, g1, g2, _⟩ := cns
    rw [z, atP] at g1
    cases g1
    cases g2
  have cL : cStatics < s.heap.objs.size := cns.lt
  have big : (s.heap.push o).objs.size = s.heap.objs.size + 1 := Heap.size_push ..
  have kept : ∀ b u, b ≠ P → s.heap.get? b = some u → h3.get? b = some u := fun b u n e => hx b u n (Heap.get?_push_of_some _ e)
  have bases : ∀ b u, X.base.get? b = some u → h3.get? b = some u := fun b u e => kept b u (tbl_not hP (J.bs b u e).2) (J.bk b u e)
  refine wpAny_builtinsFor (m := X.mg) (by rw [J.ok.glob]; exact J.mod.glob.keeps bases) q1 q2 (bases _ _ q5) q6 q7 q8 ?_
  refine ⟨s.heap.objs.size, [s.heap.objs.size], [s.heap.objs.size], a.cps.size, SignAt a, St, fun _ => true, fun i y => ∃ cc, a.cps[i]? = some cc ∧ y = .bool (pb cc), rfl, W, ?_, ?_, lim.extBut hx cP, ?_, ?_, ?_⟩
  · refine (W X.A hr.hd).frame _ _ _ st0 fun b hb u e => hx b u ?_ e
    rw [List.mem_singleton.mp hb]
    exact Nat.ne_of_gt ltP
  · intro b hb
    rw [List.mem_singleton.mp hb]
    exact Nat.lt_of_lt_of_le (by rw [big]; exact Nat.lt_succ_self _) hsz
  · rw [List.mem_singleton]
    exact Nat.ne_of_lt cL
  · intro href hh
    refine ⟨fun A' E' i v s₂ m₂ _ _ _ _ _ => ?_, fun A' E' i v s₂ m₂ _ hv _ hn hm hk => ?_⟩
    · rw [List.forIn_nil]
      exact wpAny_pure ⟨rfl, keeps_refl s₂⟩
    · obtain ⟨cc, u, hcc, rfl⟩ := hv
      refine wpAny_mono (hel _ A' E' cc u s₂ m₂ J.ok rfl rfl (fun b w e => ?_) hn hm) (fun y z r => ⟨⟨cc, hcc, r.1⟩, r.2⟩) fun _ _ e => e
      have lb := Heap.lt_size (J.bk b w e)
      exact hk b (List.mem_range.mpr (Nat.lt_of_lt_of_le (Nat.lt_of_lt_of_le lb (by rw [big]; exact Nat.le_succ _)) hsz)) (by rw [List.mem_singleton]; exact Nat.ne_of_lt lb) w (hh b w (bases b w e))
  · intro g h5 tk5 gs bare _ _ _ W5 at5
    have W6 := W5
    simp only [GxR.passing_true, List.length_range] at W6
    refine hQ g _ ⟨_, _, _, _, _, W6.in4_1, at5, fun j y sj Qj Ej hy hq => ?_, fun z mv => ?_⟩
    · obtain ⟨i, hi, cc, hcc, rfl⟩ := hy
      obtain ⟨_, ei⟩ := List.getElem?_eq_some_iff.mp hi
      rw [List.getElem_range] at ei
      subst ei
      have hq' : Qj (trF pb a.cps.toList j) sj := hq
      rw [trF_some (show a.cps.toList[j]? = some cc by rw [Array.getElem?_toList]; exact hcc)] at hq'
      exact wpAny_truthy_bool hq'
    · have off : ∀ b u, s.heap.get? b = some u → b ∉ h3.objs.size :: [s.heap.objs.size] := fun b u e hb => by
        have l1 := Heap.lt_size e
        have l2 : s.heap.objs.size < h3.objs.size := Nat.lt_of_lt_of_le (by rw [big]; exact Nat.lt_succ_self _) hsz
        rcases List.mem_cons.mp hb with r | r
        · rw [r] at l1; exact absurd (Nat.lt_trans l1 l2) (Nat.lt_irrefl _)
        · rw [List.mem_singleton.mp r] at l1; exact absurd l1 (Nat.lt_irrefl _)
      have five : ∀ b u, h3.get? b = some u → h5.get? b = some u := by assumption
      have L := inv_tab (more := more) (h' := z.heap) (g' := z.gens) (d' := z.drawn) (t' := z.toks) J hP (fun b u n e => mv.heap b u (off b u e) (five b u (kept b u n e))) (by rw [← em]; exact mv.heap P _ (off P _ atP) (five P _ h3P)) (PyProof.Rows.AllBare.movedS (J.bare.push bare) mv)
      rw [sh_eta s z mv.os] at L
      exact ⟨upd H P (.tbl (ps ++ more)), ⟨⟨ps ++ more, upd_same, by rw [← em]; exact ok'⟩, fun b n => upd_ne n⟩, L⟩
theorem gen_signs {c P : Addr} {elt iter : Expr} {x : Str} {px gpos : Pos} {scope : Scope} {pb : Nat → Bool} {te : TE} {k : Nat} {Q' : Value → Shared → Prop} {R : Str → Hp → Prop}
    (hr : Room k X.A) (TB : TabB X.base X.mg c P) (hcode : X.env.code = .ref c) (sc : GenS X.env scope x) (hi : PE X iter te) (hel : EltG X scope x elt pb) (hs : ∀ v, genFold iter X.env v = pure v)
    (I : L2.Inv X pins σ H s) (h : te σ H fun v G => ∃ a : Str, v = .str a ∧ TabG G P ∧ R a G) (hQ : ∀ a G g z, R a G → Ready X pins σ G P a pb g z → Q' (.ref g) z) :
    wpAny (model X.prog X.w) X.A (eval (.GeneratorExp elt [⟨.Name x px, iter, [], 0⟩] scope gpos) X.env) Q' X.xe s := by
  have room : X.A.depth < recursionLimit := by have := hr.dp; omega
  refine wpAny_GeneratorExp_walksQ hr.hd sc.co (closure_ok sc.free) sc.cell sc.dot sc.loc sc.kind room (thn (hi.run pins s σ H _ I h) fun u s1 ⟨v, G, J, rv, a, ev, ⟨ps, hP, ok⟩, hR⟩ => ?_) hs
  subst ev
  obtain ⟨t, rfl⟩ := id rv
  refine wpAny_pyIter_str fun o St W st0 => ?_
  -- the table, the sizes, what is kept
  have atP : s1.heap.get? P = some { cls := .none, data := .fields ps } := J.hok P _ hP
  have ltP : P < s1.heap.objs.size := Heap.lt_size atP
  have atP' : (s1.heap.push o).get? P = some { cls := .none, data := .fields ps } := Heap.get?_push_of_some _ atP
  have cd : PySem.W.CodeHd (s1.heap.push o) c P := TB.code.keeps fun b w e => Heap.get?_push_of_some _ (J.bk b w e)
  have lim : (s1.heap.push o).NoLimit := J.nolimit.push o
  have next : ∀ (code : Value) (h3 : Heap) (tk : Nat) (ps' more : Array Value), ps' = ps ++ more → Heap.ExtBut P (s1.heap.push o) h3 → (s1.heap.push o).objs.size ≤ h3.objs.size → h3.get? P = some { cls := .none, data := .fields ps' } → TriplesOk ps'.toList → _ :=
    fun code h3 tk ps' more em hx hsz h3P ok' => gen_go (elt := elt) hr TB sc hel J hP atP ltP W st0 code h3 tk ps' more em hx hsz h3P ok' lim fun g z rd => hQ a G g z hR rd
  refine ⟨lim, ?_⟩
  cases hf : codeAmong gpos ps.toList with
  | some cv => exact wpAny_genexprCode_hit hcode (cd.code atP' ok) hf (next cv (s1.heap.push o) s1.toks ps #[] (by simp) (Heap.ExtBut.refl _ _) (Nat.le_refl _) atP' ok)
  | none =>
    refine wpAny_genexprCodeX hcode (cd.code atP' ok) (cd.tab atP') hf fun c' h' tk hx hge hlt hco' _ htab' _ => ?_
    obtain ⟨o1, vs, f1, tf, fl, tg, inF, tx, tt, op, _, _, _, _, _, _, _, _, _, htr, _⟩ := hco'
    exact next _ h' tk _ _ rfl hx (Nat.le_trans hge (Nat.le_of_lt hlt)) htab'.2 htr
theorem pe_allG {c P : Addr} {elt iter : Expr} {x : Str} {px p pos gpos : Pos} {scope : Scope} {pb : Nat → Bool} {te : TE} {k : Nat} (hr : Room k X.A) (hg : Gl X "all") (hm : X.mg "all" = none) (TB : TabB X.base X.mg c P) (hcode : X.env.code = .ref c)
    (sc : GenS X.env scope x) (hi : PE X iter te) (hel : EltG X scope x elt pb) (hs : ∀ v, genFold iter X.env v = pure v)
    (he : starEach [.GeneratorExp elt [⟨.Name x px, iter, [], 0⟩] scope gpos] X.env = (false, eval (.GeneratorExp elt [⟨.Name x px, iter, [], 0⟩] scope gpos) X.env) :: starEach [] X.env := by rfl) :
    PE X (.Call (.Name "all" p) [.GeneratorExp elt [⟨.Name x px, iter, [], 0⟩] scope gpos] [] pos) (tAllS P pb te) := by
  constructor
  intro pins s σ H Q I hyp
  have hb : bootBuiltins "all" = some (.builtin "all") := by decide +kernel
  refine wpAny_Call_Name_kw (ld_blt I hg hm hb (PyProof.Rows.callWith_builtin1 ?_ he (by rfl)))
  rw [he]
  show wpAny _ _ (spliced ((false, eval (.GeneratorExp elt [⟨.Name x px, iter, [], 0⟩] scope gpos) X.env) :: backTo pos (starEach [] X.env))) _ _ s
  refine Calls.spliced_cons (gen_signs (R := fun a G => ∀ G', Tabbed P G G' → Q (.bl (a.cps.toList.all pb)) G') hr TB hcode sc hi hel hs I hyp fun a G g z hR rd => Calls.spliced_nil ?_)
  obtain ⟨fp, wr, Gs, F, St, W, st, tr, done⟩ := rd
  refine call_all_walkS (W.self 0 _ _ _ st ⟨g, fp, wr, Gs, _, F, St, _, rfl, W, st, tr, fun z' mv => ?_⟩)
  obtain ⟨G', tb, L⟩ := done z' mv
  refine ⟨.bl _, G', L, rfl, ?_⟩
  rw [all_signs a pb]
  exact hR G' tb
/-- x in D, D a dict that the top has written -/
theorem elt_in {scope : Scope} {x y : Str} {pb : Nat → Bool} {d : Addr} {es : Array DictEntry} {n : Nat} {p1 p2 p3 : Pos} (D : KDict X.K X.w d es n) (gy : X.mg y = some (.ref d)) (hp : ∀ c, ∃ r, PySem.W.nsIn X.K d (S [c]) = some r ∧ r.isSome = pb c)
    (hk : scope.kind = .function) (hl : scope.names.lookup x = some .local) (hy : scope.names.lookup y = some .globalImplicit) (hd : (x == ("__debug__" : Str)) = false := by decide) (hd2 : (y == ("__debug__" : Str)) = false := by decide) :
    EltG X scope x (.Compare (.Name x p1) [.In] [.Name y p2] p3) pb := by
  intro cenv A' E' c t z m ok hs hg hb hn hm
  have kind : cenv.scope.kind = .function := by rw [hs]; exact hk
  refine wpAny_Compare1 (wpAny_Name (wpAny_loadName_local kind (show cenv.scope.names.lookup x = some .local by rw [hs]; exact hl) hn hm ?_) hd)
  refine Calls.Name_function_global kind (show cenv.scope.names.lookup y = some .globalImplicit by rw [hs]; exact hy) (Calls.loadGlobal_global (by rw [hg, ok.glob]; exact ok.mod.glob.keeps hb) gy ?_) hd2
  obtain ⟨r, e1, e2⟩ := hp c
  refine wpAny_in_of (PySem.strKind_is X.prog X.w (S [c]) t) D.low (PySem.W.mapOf_K (prog := X.prog) (ok.mod.kin.keeps hb) D.at_ D.lit) ?_
  rw [PySem.W.find_K D.at_ e1, e2]
  exact ⟨rfl, keeps_tok _ _⟩
end
/-! ### ''.join of texts, comprehensions over a text -/
theorem join_empty (ys : List (List Nat)) : Txt.join (S []) (ys.map S) = S ys.flatten := by
  have go : ∀ (zs : List (List Nat)) (a : Array Nat), ((zs.map S).foldl (fun acc p => acc ++ (S []).cps ++ p.cps) a).toList = a.toList ++ zs.flatten := by
    intro zs
    induction zs with
    | nil => intro a; simp
    | cons z r ih =>
      intro a
      rw [List.map_cons, List.foldl_cons, ih]
      simp [S]
  show Builtin.Str.glued (S []) (ys.map S) = _
  unfold Builtin.Str.glued
  cases ys with
  | nil => rfl
  | cons y r =>
    have := go r (S y).cps
    show (⟨(r.map S).foldl (fun acc p => acc ++ (S []).cps ++ p.cps) (S y).cps⟩ : Str) = _
    unfold S at this ⊢
    congr 1
    apply Array.toList_inj.mp
    rw [this]
    simp
theorem join_signs (l : List Nat) : Txt.join (S []) (l.map fun c => S [c]) = S l := by
  have := join_empty (l.map fun c => [c])
  rw [List.map_map] at this
  rw [show (l.map fun c => S [c]) = l.map (S ∘ fun c => [c]) from rfl, this]
  congr 1
  induction l with
  | nil => rfl
  | cons c r ih => rw [List.map_cons, List.flatten_cons, ih (join_empty _ |>.trans rfl |> fun h => by rw [List.map_map] at h; exact h)]; rfl
theorem sum_ones (l : List Nat) : ((l.map fun c => S [c]).map (·.length)).sum = l.length := by
  induction l with
  | nil => rfl
  | cons c r ih =>
    rw [List.map_cons, List.map_cons, List.sum_cons, ih, S_len, List.length_cons]
    show 1 + r.length = r.length + 1
    omega
theorem lc_str {l : List Nat} {g : TG} {tt : TT} {te : TE} {vs : List Nat} {σ : L2.St} {H1 : Hp} {D : Addr} {Qd : Hp → Prop} (Pv : Nat → Hp → Prop) (h0 : Pv 0 (upd H1 D (.lst [])))
    (hs : ∀ i c H, l[i]? = some c → Pv i H → g (.str (S [c])) (wipe σ vs) H fun σ2 H2 => wipe σ2 vs = wipe σ vs ∧ tt σ2 H2 fun b H3 =>
      if b = true then te σ2 H3 fun y H4 => ∃ acc, H4 D = some (.lst acc) ∧ acc.length < sizeLine ∧ Pv (i + 1) (upd H4 D (.lst (acc ++ [y]))) else Pv (i + 1) H3) (hd : ∀ H, Pv l.length H → Qd H) :
    ∃ W : Nat → Nat → Hp → Prop, (∃ m, W 0 m (upd H1 D (.lst []))) ∧ ∀ i m H, W i m H →
      ((Its (S l)).stop i H ∧ Qd H) ∨ ((Its (S l)).go i H ∧ ∃ Nx : Hp → Prop, (∀ H', Nx H' → ∃ m', m' < m ∧ W (i + 1) m' H') ∧ ∀ x H', (Its (S l)).yld i H x H' → g x (wipe σ vs) H' fun σ2 H2 => wipe σ2 vs = wipe σ vs ∧ tt σ2 H2 fun b H3 =>
        if b = true then te σ2 H3 fun y H4 => ∃ acc, H4 D = some (.lst acc) ∧ acc.length < sizeLine ∧ Nx (upd H4 D (.lst (acc ++ [y]))) else Nx H3) := by
  refine ⟨fun i m H => m = l.length - i ∧ i ≤ l.length ∧ Pv i H, ⟨l.length, by simp, Nat.zero_le _, h0⟩, ?_⟩
  rintro i m H ⟨rfl, hi, p⟩
  by_cases hlt : i < l.length
  · refine .inr ⟨by show i < (S l).cps.size; rw [S_size]; exact hlt, Pv (i + 1), fun H' p' => ⟨l.length - (i + 1), by omega, rfl, hlt, p'⟩, fun x H' y => ?_⟩
    obtain ⟨e, c, hc, rfl⟩ := y
    subst e
    rw [S_get] at hc
    exact hs i c _ hc p
  · have e : i = l.length := by omega
    subst e
    exact .inl ⟨by show (S l).cps.size ≤ l.length; rw [S_size]; exact Nat.le_refl _, hd H p⟩
/-- a def whose code object is told -/
theorem okC {P : Program} {w : World} {K : PySem.W.Frag} {mg : Str → Option Value} {base : Heap} {x qual : Str} {st : Stmt} {f c : Addr} {fd : FuncData} {N ps : List Str} {k : Nat} {sp : Sp} (F : Fun K x qual st f fd) (hc : fd.code = .ref c) (S : FnScope N ps (defScope st)) (len : ∀ vs H Q E, sp vs H Q E → vs.length = ps.length)
    (body : ∀ (A : Around) (outer : List Env) (s : Shared) (H : Hp) (vs : List V) (Q : VK) (E : XK), Room k (A.deeper (PyProof.Rows.envOfC qual (defScope st) s.heap.objs.size f (.ref c))) → sp vs H Q E →
      ∃ t, PSs (cxOf CX0 P w K mg base N qual (defScope st) f (.ref c) A outer s H E).nox (defBody st) t ∧ t { nx := fun _ H' => Q .non H', rt := Q } (start N vs) H) : FnOk P w K mg base CX0 (k + 1) f fd ps sp := by
  obtain ⟨_, _, _, _, _, _, cdv, _, _, rfl, lk, hcd⟩ := F.ex
  have e : cdv = .ref c := hc
  subst e
  refine fn_of lk hcd S len fun A outer s H vs Q E hr h => ?_
  obtain ⟨t, a, b⟩ := body A outer s H vs Q E hr h
  exact ⟨t, a.nox, b⟩

/-! ### a display of one entry whose key is a tuple -/
def tDisp1T (tk tv : TE) : TE := fun σ H Q => ∀ p, H p = none → tk σ (upd H p (.dT [])) fun y H1 => tv σ H1 fun v H2 => H2 p = some (.dT []) ∧ ∃ (k : List Key) (b : Addr) (v' : V), [(y, v)] = [(.ref b, v')] ∧ H2 b = some (.tup (k.map kV)) ∧ Q (.ref p) (upd H2 p (.dT [(k, v')]))
theorem pe_disp1T {X : Cx} {pos : Pos} {ke ve : Expr} {tk tv : TE} (hu : (tupleKind (mixKind X.prog X.w)).room X.A) (hk : PE X ke tk) (hv : PE X ve tv) : PE X (.Dict [some ke] [ve] pos) (tDisp1T tk tv) := by
  constructor
  intro pins s σ H Q I q
  have new := I.hok.fresh (Nat.le_refl s.heap.objs.size)
  have I1 := I.laid (a := s.heap.objs.size) (o := .dT []) (h' := s.heap.push { cls := .type "dict", data := .dict #[] }) (t' := s.toks) (fun b u z => Heap.get?_push_of_some _ z) (Nat.le_refl _) (dt_empty s.heap I.big)
  have hh := (pps_cons (pos := pos) hk hv (pps_nil (X := X))).run pins _ σ _ (fun ps H2 => H2 s.heap.objs.size = some (.dT []) ∧ ∃ (k : List Key) (b : Addr) (v : V), ps = [(.ref b, v)] ∧ H2 b = some (.tup (k.map kV)) ∧ Q (.ref s.heap.objs.size) (upd H2 s.heap.objs.size (.dT [(k, v)]))) I1 (q _ new)
  rw [arm_eval_Dict, zip_pairTrees [some ke] [ve] X.env pos rfl rfl, dictDisplay_pairs _ (by simp [pairTrees]) (by simp [pairTrees])]
  refine wpAny_bind (wpAny_standAt (wpAny_bind (wpAny_subDictH (knd := tupleKind (mixKind X.prog X.w)) hu (by simp [pairTrees]) (thn hh fun ws s2 h2 => ?_))))
  obtain ⟨ps, H2, I2, rel, e, k, b, v, ep, eb, q2⟩ := h2
  subst ep
  cases rel with
  | @cons _ u _ us r1 r2 =>
    cases r2
    obtain ⟨ub, uv⟩ := u
    obtain ⟨r3, r4⟩ := r1
    cases (show ub = Value.ref b from r3)
    obtain ⟨_, hd, xs, r0, dd⟩ := dt_of I2.hok e
    cases r0
    refine ⟨[(k, b, uv)], ⟨rfl, rfl, key_of I2.hok eb, trivial⟩, dd, fun h' tk dd' hs => wpAny_pure ?_⟩
    refine ⟨.ref s.heap.objs.size, _, ?_, rfl, q2⟩
    obtain ⟨o, es, ep, ho, h2, h3, h4, _, h5⟩ := dd'
    refine d_write I2 (by rw [e]; exact True.intro) hs ⟨o, ho⟩ ⟨?_, hd, [(k, b, uv)], ?_, o, es, ep, ho, h2, h3, h4, h5⟩
    · rw [sizeLine_eq]; show 1 ≤ _; omega
    · refine .cons ⟨rfl, ?_, r4⟩ .nil
      show upd H2 s.heap.objs.size (.dT [(k, v)]) b = _
      rw [upd_ne (ne_of eb e (fun z => nomatch z))]
      exact eb
def top (i : Nat) : Stmt := PySem.Challenge.pw_ropedance_k20_whole_many_least_dances.main.body.getD i (.Pass ⟨0, 0, 0, 0⟩)
abbrev s_after : Stmt := top 4
theorem sc_after : FnScope ["fraction", "dance", "p", "q", "letter"] ["fraction", "dance"] (defScope s_after) := ⟨rfl, rfl, rfl, by decide +kernel, rfl, by decide +kernel, by decide +kernel⟩
abbrev s_turned : Stmt := top 5
theorem sc_turned : FnScope ["p", "q"] ["p", "q"] (defScope s_turned) := ⟨rfl, rfl, rfl, by decide +kernel, rfl, by decide +kernel, by decide +kernel⟩
abbrev s_quotients : Stmt := top 6
theorem sc_quotients : FnScope ["fraction", "p", "q", "parts", "rest"] ["fraction"] (defScope s_quotients) := ⟨rfl, rfl, rfl, by decide +kernel, rfl, by decide +kernel, by decide +kernel⟩
abbrev s_number : Stmt := top 8
theorem sc_number : FnScope ["dance"] ["dance"] (defScope s_number) := ⟨rfl, rfl, rfl, by decide +kernel, rfl, by decide +kernel, by decide +kernel⟩
abbrev s_steps : Stmt := top 10
theorem sc_steps : FnScope ["fraction", "parts"] ["fraction"] (defScope s_steps) := ⟨rfl, rfl, rfl, by decide +kernel, rfl, by decide +kernel, by decide +kernel⟩
abbrev s_runs : Stmt := top 11
theorem sc_runs : FnScope ["fraction", "letters", "k", "part"] ["fraction"] (defScope s_runs) := ⟨rfl, rfl, rfl, by decide +kernel, rfl, by decide +kernel, by decide +kernel⟩
abbrev s_ways_on : Stmt := top 13
theorem sc_ways_on : FnScope ["all_runs", "ways", "at", "_"] ["all_runs"] (defScope s_ways_on) := ⟨rfl, rfl, rfl, by decide +kernel, rfl, by decide +kernel, by decide +kernel⟩
abbrev s_law_tape : Stmt := top 15
theorem sc_law_tape : FnScope ["script", "k", "cell"] ["script", "k"] (defScope s_law_tape) := ⟨rfl, rfl, rfl, by decide +kernel, rfl, by decide +kernel, by decide +kernel⟩
abbrev s_law_take : Stmt := top 16
theorem sc_law_take : FnScope ["tape", "many", "got", "mixed"] ["tape", "many"] (defScope s_law_take) := ⟨rfl, rfl, rfl, by decide +kernel, rfl, by decide +kernel, by decide +kernel⟩
abbrev s_law_called : Stmt := top 17
theorem sc_law_called : FnScope ["value", "letter", "p", "q"] ["value", "letter"] (defScope s_law_called) := ⟨rfl, rfl, rfl, by decide +kernel, rfl, by decide +kernel, by decide +kernel⟩
abbrev s_law_number : Stmt := top 18
theorem sc_law_number : FnScope ["dance", "value", "letter"] ["dance"] (defScope s_law_number) := ⟨rfl, rfl, rfl, by decide +kernel, rfl, by decide +kernel, by decide +kernel⟩
abbrev s_law_same : Stmt := top 19
theorem sc_law_same : FnScope ["told", "due", "k"] ["told", "due"] (defScope s_law_same) := ⟨rfl, rfl, rfl, by decide +kernel, rfl, by decide +kernel, by decide +kernel⟩
abbrev s_law_steps : Stmt := top 20
theorem sc_law_steps : FnScope ["value", "p", "q", "total"] ["value"] (defScope s_law_steps) := ⟨rfl, rfl, rfl, by decide +kernel, rfl, by decide +kernel, by decide +kernel⟩
abbrev s_law_ways : Stmt := top 21
theorem sc_law_ways : FnScope ["value", "ways", "level", "left", "before", "one", "letter", "earlier"] ["value"] (defScope s_law_ways) := ⟨rfl, rfl, rfl, by decide +kernel, rfl, by decide +kernel, by decide +kernel⟩
abbrev s_law_long : Stmt := top 22
theorem sc_law_long : FnScope ["tape", "p", "q", "k", "count"] ["tape"] (defScope s_law_long) := ⟨rfl, rfl, rfl, by decide +kernel, rfl, by decide +kernel, by decide +kernel⟩
abbrev s_law_place : Stmt := top 23
theorem sc_law_place : FnScope ["tape", "many", "place", "k"] ["tape", "many"] (defScope s_law_place) := ⟨rfl, rfl, rfl, by decide +kernel, rfl, by decide +kernel, by decide +kernel⟩
abbrev s_law_is_least : Stmt := top 24
theorem sc_law_is_least : FnScope ["dance", "value"] ["dance", "value"] (defScope s_law_is_least) := ⟨rfl, rfl, rfl, by decide +kernel, rfl, by decide +kernel, by decide +kernel⟩
abbrev s_law_walk : Stmt := top 25
theorem sc_law_walk : FnScope ["least", "begin", "many", "found", "dance", "k"] ["least", "begin", "many"] (defScope s_law_walk) := ⟨rfl, rfl, rfl, by decide +kernel, rfl, by decide +kernel, by decide +kernel⟩
abbrev s_law : Stmt := top 26
theorem sc_law : FnScope ["script", "k", "tape", "value", "least", "many", "place", "dance", "other"] ["script"] (defScope s_law) := ⟨rfl, rfl, rfl, by decide +kernel, rfl, by decide +kernel, by decide +kernel⟩
/-! ### heaps, tapes, pairs -/
/-- all that was tracked is as it was, but what stands at a -/
def But (a : Addr) (H H' : Hp) : Prop := ∀ b o, b ≠ a → H b = some o → H' b = some o
theorem But.refl (a : Addr) (H : Hp) : But a H H := fun _ _ _ h => h
theorem But.trans {a : Addr} {H H1 H2 : Hp} (x : But a H H1) (y : But a H1 H2) : But a H H2 := fun b o n h => y b o n (x b o n h)
theorem But.of {a : Addr} {H H' : Hp} (x : Same H H') : But a H H' := fun b o _ h => x b o h
theorem But.upd {a : Addr} {H : Hp} {o : HO} : But a H (upd H a o) := fun b u n h => by rw [upd_ne n]; exact h
theorem But.same {a : Addr} {H0 H H' : Hp} (x : But a H H') (s : Same H0 H) (n : H0 a = none) : Same H0 H' := fun b o h => x b o (ne_of_none h n) (s b o h)
theorem same_new {H : Hp} {p : Addr} (h : H p = none) (o : HO) : Same H (L2.upd H p o) := fun b u q => by rw [upd_ne (ne_of_none q h)]; exact q
theorem Same.tup {K : PySem.W.Frag} {H H' : Hp} {a : Addr} {xs : List V} (e : Same H H') (h : SqT K H a xs) : SqT K H' a xs := by
  rcases h with (h | ⟨o, h⟩) | h
  · exact .inl (.inl (e _ _ h))
  · exact .inl (.inr ⟨o, e _ _ h⟩)
  · exact .inr h
def Tape (H : Hp) (a : Addr) : Prop := ∃ (t c s : Int) (b : Bool), H a = some (.lst [.int t, .bl b, .int c, .int s])
theorem Tape.same {H H' : Hp} {a : Addr} (t : Tape H a) (s : Same H H') : Tape H' a := by
  obtain ⟨x, c, y, b, h⟩ := t
  exact ⟨x, c, y, b, s _ _ h⟩
theorem Tape.ne {H : Hp} {a p : Addr} (t : Tape H a) (h : H p = none) : p ≠ a := by
  obtain ⟨x, c, y, b, e⟩ := t
  exact fun z => by rw [z, e] at h; cases h
theorem But.tup {K : PySem.W.Frag} {a : Addr} {H H' : Hp} {p : Addr} {xs : List V} (x : But a H H') (t : Tape H a) (h : SqT K H p xs) : SqT K H' p xs := by
  obtain ⟨y, c, z, b, e⟩ := t
  rcases h with (h | ⟨o, h⟩) | h
  · exact .inl (.inl (x _ _ (ne_of h e (by intro q; cases q)) h))
  · exact .inl (.inr ⟨o, x _ _ (ne_of h e (by intro q; cases q)) h⟩)
  · exact .inr h
/-- a dance: the letters T, U, R -/
def Lets (l : List Nat) : Prop := ∀ c ∈ l, c = 84 ∨ c = 85 ∨ c = 82
theorem atI_mk {α : Type} {xs : List α} {k : Int} (h0 : 0 ≤ k) (h1 : k < (xs.length : Int)) : ∃ v, atI xs k = some v ∧ v ∈ xs := by
  obtain ⟨n, rfl⟩ := Int.eq_ofNat_of_zero_le h0
  have h : n < xs.length := by omega
  exact ⟨xs[n], atI_nat (List.getElem?_eq_getElem h), List.getElem_mem h⟩
theorem atI_ints {ns : List Int} {k : Int} (h0 : 0 ≤ k) (h1 : k < (ns.length : Int)) : ∃ v : Int, atI (ns.map V.int) k = some (.int v) := by
  obtain ⟨v, e, m⟩ := atI_mk (xs := ns.map V.int) h0 (by rw [List.length_map]; exact h1)
  obtain ⟨i, _, rfl⟩ := List.mem_map.mp m
  exact ⟨i, e⟩
/-! ### a def of the text with its promise, ready to be called -/
structure Dfn (P : Program) (w : World) (K : PySem.W.Frag) (mg : Str → Option Value) (base : Heap) (x : Str) (k : Nat) (ps : List Str) (sp : Sp) : Prop where
  ex : ∃ (f : Addr) (fd : FuncData), FnOk P w K mg base CX0 k f fd ps sp ∧ mg x = some (.ref f) ∧ PySem.W.keepIn K (.ref f) = true ∧ Binds K fd ps []
theorem pe_do {X : Cx} {x : Str} {j : Nat} {ps : List Str} {sp : Sp} {e : Expr} {es : List Expr} {t : TA} {p pos : Pos} (D : Dfn X.prog X.w X.K X.mg X.base x j ps sp) (hr : Room j X.A)
    (ha : PA X (e :: es) t) (hg : Gl X x := by rfl) (hdb : (x == ("__debug__" : Str)) = false := by decide) (he : starEach (e :: es) X.env = (false, eval e X.env) :: starEach es X.env := by rfl) (hpl : (backTo pos (starEach es X.env)).any (·.1) = false := by rfl) :
    PE X (.Call (.Name x p) (e :: es) [] pos) (tCall sp [] E0 t) := by
  obtain ⟨f, fd, ok, mg, kp, bd⟩ := D.ex
  exact pe_call ok hr hg mg kp bd .nil pass0 ha hdb he hpl
theorem Dfn.mono {P : Program} {w : World} {K : PySem.W.Frag} {mg : Str → Option Value} {base : Heap} {x : Str} {j k : Nat} {ps : List Str} {sp : Sp} (D : Dfn P w K mg base x j ps sp) (h : j ≤ k) : Dfn P w K mg base x k ps sp := by
  obtain ⟨f, fd, ok, mg, kp, bd⟩ := D.ex
  exact ⟨f, fd, ok.mono h, mg, kp, bd⟩
section
variable {P : Program} {w : World} {K : PySem.W.Frag} {mg : Str → Option Value} {base : Heap} {f : Addr} {fd : FuncData}
/-! ### the tape of a law -/
def spTape (K : PySem.W.Frag) : Sp := fun vs H Q _ => ∃ (a : Addr) (ns : List Int) (k : Int), vs = [.ref a, .int k] ∧ SqL K H a (ns.map V.int) ∧ 0 ≤ k ∧ ∀ p H', Same H H' → H p = none → Tape H' p → Q (.ref p) H'
theorem ok_tape (F : Fun K "_law_tape" "_law_tape" s_law_tape f fd) (ml : mg "len" = none) (ma : mg "abs" = none) (mi : mg "int" = none) : FnOk P w K mg base CX0 1 f fd ["script", "k"] (spTape K) := by
  refine F.ok sc_law_tape (fun vs H Q E h => ?_) (fun cdv A outer s H vs Q E hr h => ?_)
  · obtain ⟨a, ns, k, rfl, _⟩ := h
    rfl
  obtain ⟨a, ns, k, rfl, hS, hk, q⟩ := h
  refine ⟨_, pss_cons (ps_set (i := 2) sc_law_tape.nd rfl (.inl rfl) pe_int)
    (pss_cons (ps_if (pt_cmpR op_lt (pv 1) (pe_callB call_len_seq rfl ml PySem.boot_len (pa_cons (pv 0) pa_nil)) (nomark _))
        (pss_one (ps_set (i := 2) sc_law_tape.nd rfl (.inl rfl) (pe_callB call_abs rfl ma (by decide +kernel) (pa_cons (pe_ix ix_list (pv 0) (pv 1) (fun _ _ => rfl)) pa_nil)))) pss_nil)
    (pss_one (ps_ret (pe_lst (pa_cons (pv 2) (pa_cons (pe_cmpR op_ge (pv 2) (pe_op op_pow pe_int pe_int) (nomark _)) (pa_cons pe_int
      (pa_cons (pe_op op_modN (pe_callTy call_int1 rfl mi (by decide +kernel) (pa_cons (pe_op op_add (pe_op op_mul (pv 2) pe_int) (pv 1)) pa_nil)) pe_int) pa_nil)))))))), ?_⟩
  refine ⟨_, rfl, _, rfl, a, _, rfl, .inl hS, _, _, rfl, rfl, _, rfl, ?_⟩
  refine ite2 (fun c => ?_) (fun c => ?_)
  · have c' : k < (((ns.map V.int).length : Nat) : Int) := of_decide_eq_true c
    rw [List.length_map] at c'
    obtain ⟨v, hv⟩ := atI_ints hk c'
    refine ⟨_, rfl, _, rfl, a, _, _, _, rfl, rfl, hS, hv, _, rfl, ?_⟩
    refine ⟨_, rfl, _, rfl, _, _, rfl, rfl, ⟨by decide, by decide, by decide⟩, _, _, rfl, rfl, _, rfl, _, _, rfl, rfl, .inr ⟨by decide, by decide⟩, _, rfl, _, _, rfl, rfl, .inl ⟨_, rfl, _, _, rfl, rfl, (show (2147483647 : Int) ≠ 0 by decide), ?_⟩⟩
    exact ⟨(by show 4 ≤ sizeLine; decide), fun p hp => q p _ (same_new hp _) hp ⟨_, _, _, _, upd_same⟩⟩
  · refine ⟨_, rfl, _, rfl, _, _, rfl, rfl, ⟨by decide, by decide, by decide⟩, _, _, rfl, rfl, _, rfl, _, _, rfl, rfl, .inr ⟨by decide, by decide⟩, _, rfl, _, _, rfl, rfl, .inl ⟨_, rfl, _, _, rfl, rfl, (show (2147483647 : Int) ≠ 0 by decide), ?_⟩⟩
    exact ⟨(by show 4 ≤ sizeLine; decide), fun p hp => q p _ (same_new hp _) hp ⟨_, _, _, _, upd_same⟩⟩
def spTake : Sp := fun vs H Q _ => ∃ (a : Addr) (m : Int), vs = [.ref a, .int m] ∧ Tape H a ∧ 0 < m ∧ m < 1073741824 ∧ ∀ r H', 0 ≤ r → r < m → But a H H' → Tape H' a → Q (.int r) H'
theorem ok_take (F : Fun K "_law_take" "_law_take" s_law_take f fd) (mi : mg "int" = none) : FnOk P w K mg base CX0 1 f fd ["tape", "many"] spTake := by
  refine F.ok sc_law_take (fun vs H Q E h => ?_) (fun cdv A outer s H vs Q E hr h => ?_)
  · obtain ⟨a, m, rfl, _⟩ := h
    rfl
  obtain ⟨a, m, rfl, ⟨t, c, sd, b, hT⟩, h0, h1, q⟩ := h
  refine ⟨_, pss_cons (ps_if (PW.pt (pw_and (pt_val (pe_ix ix_list (pv 0) pe_int (fun _ _ => rfl))) (pw_and1 (pt_cmpR op_gt (pe_ix ix_list (pv 0) pe_int (fun _ _ => rfl)) pe_int (nomark _)))))
      (pss_cons (ps_set (i := 2) sc_law_take.nd rfl (.inl rfl) (pe_op op_modN (pe_callTy call_int1 rfl mi (by decide +kernel) (pa_cons (pe_ix ix_list (pv 0) pe_int (fun _ _ => rfl)) pa_nil)) (pv 1)))
      (pss_cons (ps_asg (pe_op op_fdivN (pe_ix ix_list (pv 0) pe_int (fun _ _ => rfl)) (pv 1)) (pg_sub (pv 0) pe_int set_list))
      (pss_one (ps_ret (pv 2))))) pss_nil)
    (pss_cons (ps_asg (pe_op op_add (pe_ix ix_list (pv 0) pe_int (fun _ _ => rfl)) pe_int) (pg_sub (pv 0) pe_int set_list))
    (pss_cons (ps_set (i := 3) sc_law_take.nd rfl (.inl rfl) (pe_op op_modN (pe_callTy call_int1 rfl mi (by decide +kernel) (pa_cons (pe_op op_add (pe_op op_add (pe_op op_mul (pe_ix ix_list (pv 0) pe_int (fun _ _ => rfl)) pe_int) (pe_op op_mul (pe_ix ix_list (pv 0) pe_int (fun _ _ => rfl)) pe_int)) pe_int) pa_nil)) pe_int))
    (pss_cons (ps_set (i := 3) sc_law_take.nd rfl (.inl rfl) (pe_op op_modN (pe_callTy call_int1 rfl mi (by decide +kernel) (pa_cons (pe_op op_add (pe_op op_add (pe_op op_mul (pv 3) pe_int) (pe_op op_mul (pe_op op_fdivN (pv 3) pe_int) pe_int)) (pe_ix ix_list (pv 0) pe_int (fun _ _ => rfl))) pa_nil)) pe_int))
    (pss_one (ps_ret (pe_op op_modN (pe_callTy call_int1 rfl mi (by decide +kernel) (pa_cons (pe_op op_fdivN (pv 3) pe_int) pa_nil)) (pv 1))))))), ?_⟩
  have rest : ∀ x : Int, 0 ≤ x.fmod m ∧ x.fmod m < m := fun x => by
    rw [Int.fmod_eq_emod_of_nonneg x (Int.le_of_lt h0)]
    exact ⟨Int.emod_nonneg x (by omega), Int.emod_lt_of_pos x h0⟩
  refine ⟨_, rfl, a, _, _, _, rfl, rfl, SqL.of hT, rfl, b, rfl, ?_⟩
  refine ite2 (fun hb => ?_) (fun hb => ?_)
  · refine ⟨_, rfl, a, _, _, _, rfl, rfl, SqL.of hT, rfl, _, _, rfl, rfl, _, rfl, ?_⟩
    refine ite2 (fun hc => ?_) (fun hc => ?_)
    · refine ⟨_, rfl, a, _, _, _, rfl, rfl, SqL.of hT, rfl, .inl ⟨_, rfl, _, rfl, _, _, rfl, rfl, (show m ≠ 0 by omega), ?_⟩⟩
      refine ⟨_, rfl, a, _, _, _, rfl, rfl, SqL.of hT, rfl, _, rfl, _, _, rfl, rfl, (show m ≠ 0 ∧ m.natAbs < 1073741824 by omega), _, rfl, a, _, _, _, rfl, rfl, hT, rfl, ?_⟩
      exact ⟨_, rfl, q _ _ (rest _).1 (rest _).2 But.upd ⟨_, _, _, _, upd_same⟩⟩
    · refine ⟨_, rfl, a, _, _, _, rfl, rfl, SqL.of hT, rfl, _, _, rfl, rfl, _, rfl, a, _, _, _, rfl, rfl, hT, rfl, ?_⟩
      refine ⟨_, rfl, a, _, _, _, rfl, rfl, SqL.of upd_same, rfl, _, _, rfl, rfl, .inr ⟨by decide, by decide⟩, _, rfl, a, _, _, _, rfl, rfl, SqL.of upd_same, rfl, _, _, rfl, rfl, .inr ⟨by decide, by decide⟩, _, _, rfl, rfl, _, _, rfl, rfl, .inl ⟨_, rfl, _, _, rfl, rfl, (show (2147483647 : Int) ≠ 0 by decide), ?_⟩⟩
      refine ⟨_, rfl, _, _, rfl, rfl, .inr ⟨by decide, by decide⟩, _, rfl, _, _, rfl, rfl, ⟨by decide, by decide⟩, _, _, rfl, rfl, .inr ⟨by decide, by decide⟩, _, _, rfl, rfl, _, rfl, a, _, _, _, rfl, rfl, SqL.of upd_same, rfl, _, _, rfl, rfl, .inl ⟨_, rfl, _, _, rfl, rfl, (show (2147483399 : Int) ≠ 0 by decide), ?_⟩⟩
      exact ⟨_, rfl, _, _, rfl, rfl, ⟨by decide, by decide⟩, .inl ⟨_, rfl, _, rfl, _, _, rfl, rfl, (show m ≠ 0 by omega), q _ _ (rest _).1 (rest _).2 But.upd ⟨_, _, _, _, upd_same⟩⟩⟩
  · refine ⟨_, rfl, a, _, _, _, rfl, rfl, SqL.of hT, rfl, _, _, rfl, rfl, _, rfl, a, _, _, _, rfl, rfl, hT, rfl, ?_⟩
    refine ⟨_, rfl, a, _, _, _, rfl, rfl, SqL.of upd_same, rfl, _, _, rfl, rfl, .inr ⟨by decide, by decide⟩, _, rfl, a, _, _, _, rfl, rfl, SqL.of upd_same, rfl, _, _, rfl, rfl, .inr ⟨by decide, by decide⟩, _, _, rfl, rfl, _, _, rfl, rfl, .inl ⟨_, rfl, _, _, rfl, rfl, (show (2147483647 : Int) ≠ 0 by decide), ?_⟩⟩
    refine ⟨_, rfl, _, _, rfl, rfl, .inr ⟨by decide, by decide⟩, _, rfl, _, _, rfl, rfl, ⟨by decide, by decide⟩, _, _, rfl, rfl, .inr ⟨by decide, by decide⟩, _, _, rfl, rfl, _, rfl, a, _, _, _, rfl, rfl, SqL.of upd_same, rfl, _, _, rfl, rfl, .inl ⟨_, rfl, _, _, rfl, rfl, (show (2147483399 : Int) ≠ 0 by decide), ?_⟩⟩
    exact ⟨_, rfl, _, _, rfl, rfl, ⟨by decide, by decide⟩, .inl ⟨_, rfl, _, rfl, _, _, rfl, rfl, (show m ≠ 0 by omega), q _ _ (rest _).1 (rest _).2 But.upd ⟨_, _, _, _, upd_same⟩⟩⟩
/-! ### dances, fractions -/
theorem six_letters {r : Int} (h0 : 0 ≤ r) (h1 : r < 6) : ∃ c, atI (("TTUURR" : Str)).cps.toList r = some c ∧ (c = 84 ∨ c = 85 ∨ c = 82) := by
  have e : (("TTUURR" : Str)).cps.toList = [84, 84, 85, 85, 82, 82] := by decide +kernel
  rw [e]
  obtain ⟨c, hc, m⟩ := atI_mk (xs := [84, 84, 85, 85, 82, 82]) h0 h1
  refine ⟨c, hc, ?_⟩
  simp at m
  omega
theorem four_sizes {r : Int} (h0 : 0 ≤ r) (h1 : r < 4) : ∃ z : Int, atI [V.int 1, .int 1, .int 3, .int 9] r = some (.int z) ∧ 1 ≤ z ∧ z ≤ 9 := by
  obtain ⟨c, hc, m⟩ := atI_mk (xs := [V.int 1, .int 1, .int 3, .int 9]) h0 h1
  simp at m
  rcases m with rfl | rfl | rfl
  · exact ⟨1, hc, by decide, by decide⟩
  · exact ⟨3, hc, by decide, by decide⟩
  · exact ⟨9, hc, by decide, by decide⟩
theorem e_empty : (("" : Str)) = S [] := by decide +kernel
theorem sizeLine_big : 16777216 ≤ sizeLine := by rw [sizeLine_eq]; decide
theorem fits {n : Nat} (h : n ≤ 16777216) : n ≤ sizeLine := Nat.le_trans h sizeLine_big
end
section
variable {P : Program} {w : World} {K : PySem.W.Frag} {mg : Str → Option Value} {base : Heap} {f : Addr} {fd : FuncData}
/-! ### the same data -/
inductive Dt where
  | int (i : Int) | str (z : Str) | non | tup (xs : List Dt) | lst (xs : List Dt)
/-- v stands for d, in at most n levels -/
def Is (H : Hp) : Nat → V → Dt → Prop
  | _, v, .int i => v = .int i
  | _, v, .str z => v = .str z
  | _, v, .non => v = .non
  | 0, _, .tup _ => False
  | 0, _, .lst _ => False
  | n + 1, v, .tup ds => ∃ (a : Addr) (xs : List V), v = .ref a ∧ H a = some (.tup xs) ∧ xs.length = ds.length ∧ ds.length ≤ 1000000 ∧ ∀ (i : Nat) (x : V) (d : Dt), xs[i]? = some x → ds[i]? = some d → Is H n x d
  | n + 1, v, .lst ds => ∃ (a : Addr) (xs : List V), v = .ref a ∧ H a = some (.lst xs) ∧ xs.length = ds.length ∧ ds.length ≤ 1000000 ∧ ∀ (i : Nat) (x : V) (d : Dt), xs[i]? = some x → ds[i]? = some d → Is H n x d
def spSame : Nat → Sp
  | 0 => fun _ _ _ _ => False
  | n + 1 => fun vs H Q _ => ∃ (x y : V) (d : Dt), vs = [x, y] ∧ Is H n x d ∧ Is H n y d ∧ Q (.bl true) H
theorem ok_same {n : Nat} (F : Fun K "_law_same" "_law_same" s_law_same f fd) (DS : Dfn P w K mg base "_law_same" n ["told", "due"] (spSame n)) (mI : mg "isinstance" = none) (mT : mg "tuple" = none) (mL : mg "list" = none) (ml : mg "len" = none) (mr : mg "range" = none)
    (ms : mg "str" = none) (mi : mg "int" = none) (mb : mg "bool" = none) : FnOk P w K mg base CX0 (n + 1) f fd ["told", "due"] (spSame (n + 1)) := by
  refine F.ok sc_law_same (fun vs H Q E h => ?_) (fun cdv A outer s H vs Q E hr h => ?_)
  · obtain ⟨x, y, d, rfl, _⟩ := h
    rfl
  obtain ⟨x, y, d, rfl, hx, hy, q⟩ := h
  have bT : bootBuiltins "tuple" = some (.type "tuple") := by decide +kernel
  have bL : bootBuiltins "list" = some (.type "list") := by decide +kernel
  have bS : bootBuiltins "str" = some (.type "str") := by decide +kernel
  have bI : bootBuiltins "int" = some (.type "int") := by decide +kernel
  have bB : bootBuiltins "bool" = some (.type "bool") := by decide +kernel
  have bi : bootBuiltins "isinstance" = some (.builtin "isinstance") := by decide +kernel
  refine ⟨_, pss_cons (ps_if (PW.pt (pw_or (pt_val (pe_callB call_isi rfl mI bi (pa_cons (pv 1) (pa_cons (pe_bltn (v := .ty "tuple") rfl mT bT rfl) pa_nil)))) (pw_or1 (pt_val (pe_callB call_isi rfl mI bi (pa_cons (pv 1) (pa_cons (pe_bltn (v := .ty "list") rfl mL bL rfl) pa_nil)))))))
      (pss_cons (ps_if (PW.pt (pw_or (pt_cmpR op_ne (pe_callB call_isi rfl mI bi (pa_cons (pv 1) (pa_cons (pe_bltn (v := .ty "tuple") rfl mT bT rfl) pa_nil))) (pe_callB call_isi rfl mI bi (pa_cons (pv 0) (pa_cons (pe_bltn (v := .ty "tuple") rfl mT bT rfl) pa_nil))) (nomark _))
          (pw_or1 (pt_cmpR op_ne (pe_callB call_isi rfl mI bi (pa_cons (pv 1) (pa_cons (pe_bltn (v := .ty "list") rfl mL bL rfl) pa_nil))) (pe_callB call_isi rfl mI bi (pa_cons (pv 0) (pa_cons (pe_bltn (v := .ty "list") rfl mL bL rfl) pa_nil))) (nomark _)))))
        (pss_one (ps_ret pe_bl)) pss_nil)
      (pss_cons (ps_if (pt_cmpR op_ne (pe_callB call_len_seq rfl ml PySem.boot_len (pa_cons (pv 0) pa_nil)) (pe_callB call_len_seq rfl ml PySem.boot_len (pa_cons (pv 1) pa_nil)) (nomark _)) (pss_one (ps_ret pe_bl)) pss_nil)
      (pss_cons (ps_for PassesOwn.never rfl (pi_range1 rfl mr (pa_cons (pe_callB call_len_seq rfl ml PySem.boot_len (pa_cons (pv 1) pa_nil)) pa_nil)) (pg_name (i := 2) sc_law_same.nd rfl (.inl rfl))
        (pss_one (ps_if (pt_not (pt_val (pe_do DS hr (pa_cons (pe_ix ix_seq (pv 0) (pv 2) (fun _ _ => rfl)) (pa_cons (pe_ix ix_seq (pv 1) (pv 2) (fun _ _ => rfl)) pa_nil))))) (pss_one (ps_ret pe_bl)) pss_nil)))
      (pss_one (ps_ret pe_bl))))) pss_nil)
    (pss_cons (ps_if (pt_cmpR op_isN (pv 1) pe_non (nomark _)) (pss_one (ps_ret (pe_cmpR op_isN (pv 0) pe_non (nomark _)))) pss_nil)
    (pss_cons (ps_if (pt_val (pe_callB call_isi rfl mI bi (pa_cons (pv 1) (pa_cons (pe_bltn (v := .ty "str") rfl ms bS rfl) pa_nil))))
      (pss_one (ps_ret (pe_and (pe_callB call_isi rfl mI bi (pa_cons (pv 0) (pa_cons (pe_bltn (v := .ty "str") rfl ms bS rfl) pa_nil))) (pe_one (pe_cmpR op_eq (pv 0) (pv 1) (nomark _)))))) pss_nil)
    (pss_one (ps_ret (pe_and (pe_callB call_isi rfl mI bi (pa_cons (pv 0) (pa_cons (pe_bltn (v := .ty "int") rfl mi bI rfl) pa_nil)))
      (pe_and (pe_not (pe_callB call_isi rfl mI bi (pa_cons (pv 0) (pa_cons (pe_bltn (v := .ty "bool") rfl mb bB rfl) pa_nil)))) (pe_one (pe_cmpR op_eq (pv 0) (pv 1) (nomark _))))))))), ?_⟩
  have isn : ∀ (a b : String) (r : Bool), kitB a b = some r → PySem.W.kitOne K (.type a) (.type b) = some r := fun a b r h => kit_ty h
  cases d with
  | int i =>
    cases (show x = .int i by cases n <;> exact hx)
    cases (show y = .int i by cases n <;> exact hy)
    refine ⟨_, rfl, _, _, _, _, false, rfl, .ty _, .base (.int _), kit_ty (by decide +kernel), _, rfl, iteF ?_⟩
    refine ⟨_, rfl, _, _, _, _, false, rfl, .ty _, .base (.int _), kit_ty (by decide +kernel), _, rfl, iteF ?_⟩
    refine ⟨_, rfl, rfl, _, rfl, iteF ?_⟩
    refine ⟨_, rfl, _, _, _, _, false, rfl, .ty _, .base (.int _), kit_ty (by decide +kernel), _, rfl, iteF ?_⟩
    refine ⟨_, rfl, _, _, _, _, true, rfl, .ty _, .base (.int _), kit_ty (by decide +kernel), _, rfl, iteT ?_⟩
    refine ⟨_, rfl, _, _, _, _, false, rfl, .ty _, .base (.int _), kit_ty (by decide +kernel), _, rfl, _, rfl, iteT ?_⟩
    refine ⟨_, rfl, _, rfl, rfl, ?_⟩
    rw [decide_eq_true rfl]
    exact q
  | str z =>
    cases (show x = .str z by cases n <;> exact hx)
    cases (show y = .str z by cases n <;> exact hy)
    refine ⟨_, rfl, _, _, _, _, false, rfl, .ty _, .base (.str _), kit_ty (by decide +kernel), _, rfl, iteF ?_⟩
    refine ⟨_, rfl, _, _, _, _, false, rfl, .ty _, .base (.str _), kit_ty (by decide +kernel), _, rfl, iteF ?_⟩
    refine ⟨_, rfl, rfl, _, rfl, iteF ?_⟩
    refine ⟨_, rfl, _, _, _, _, true, rfl, .ty _, .base (.str _), kit_ty (by decide +kernel), _, rfl, iteT ?_⟩
    refine ⟨_, rfl, _, _, _, _, true, rfl, .ty _, .base (.str _), kit_ty (by decide +kernel), _, rfl, iteT ?_⟩
    refine ⟨_, rfl, _, rfl, rfl, ?_⟩
    rw [decide_eq_true rfl]
    exact q
  | non =>
    cases (show x = .non by cases n <;> exact hx)
    cases (show y = .non by cases n <;> exact hy)
    refine ⟨_, rfl, _, _, _, _, false, rfl, .ty _, .base .non, kit_ty (by decide +kernel), _, rfl, iteF ?_⟩
    refine ⟨_, rfl, _, _, _, _, false, rfl, .ty _, .base .non, kit_ty (by decide +kernel), _, rfl, iteF ?_⟩
    exact ⟨_, rfl, rfl, _, rfl, iteT ⟨_, rfl, rfl, q⟩⟩
  | tup ds =>
    cases n with
    | zero => exact hx.elim
    | succ n =>
      obtain ⟨a, xs, rfl, ha, la, ln, ka⟩ := hx
      obtain ⟨b, ys, rfl, hb, lb, _, kb⟩ := hy
      refine ⟨_, rfl, _, _, _, _, true, rfl, .ty _, .base (.tup hb), kit_ty (by decide +kernel), _, rfl, iteT ?_⟩
      refine ⟨_, rfl, _, _, _, _, true, rfl, .ty _, .base (.tup hb), kit_ty (by decide +kernel), _, rfl, _, _, _, _, true, rfl, .ty _, .base (.tup ha), kit_ty (by decide +kernel), rfl, _, rfl, iteF ?_⟩
      refine ⟨_, rfl, _, _, _, _, false, rfl, .ty _, .base (.tup hb), kit_ty (by decide +kernel), _, rfl, _, _, _, _, false, rfl, .ty _, .base (.tup ha), kit_ty (by decide +kernel), rfl, _, rfl, iteF ?_⟩
      refine ⟨_, rfl, a, xs, rfl, .inr (SqT.of ha), _, rfl, b, ys, rfl, .inr (SqT.of hb), rfl, _, rfl, ?_⟩
      rw [show (decide (V.int (xs.length : Int) = V.int (ys.length : Int))) = true from decide_eq_true (by rw [la, lb])]
      refine iteF ?_
      refine ⟨_, rfl, b, ys, rfl, .inr (SqT.of hb), (ys.length : Int), rfl, by omega, by omega, for_range (lo := 0) (n := (ys.length : Int).toNat) (fun i σ H' => H' = H ∧ ∃ v, σ = [some (.ref a), some (.ref b), v]) ⟨rfl, none, rfl⟩ ?_ ?_⟩
      · rintro i σ _ hi ⟨rfl, v, rfl⟩
        have hi1 : i < ys.length := by omega
        have hi2 : i < xs.length := by omega
        have hi3 : i < ds.length := by omega
        refine ⟨_, rfl, _, rfl, .inr (.inl ⟨a, xs, _, _, rfl, rfl, SqT.of ha, at_of (j := i) (by omega) (List.getElem?_eq_getElem hi2), ?_⟩)⟩
        refine ⟨_, rfl, _, rfl, .inr (.inl ⟨b, ys, _, _, rfl, rfl, SqT.of hb, at_of (j := i) (by omega) (List.getElem?_eq_getElem hi1), ?_⟩)⟩
        refine ⟨_, _, ds[i], rfl, ka i _ _ (List.getElem?_eq_getElem hi2) (List.getElem?_eq_getElem hi3), kb i _ _ (List.getElem?_eq_getElem hi1) (List.getElem?_eq_getElem hi3), _, rfl, iteF ⟨rfl, _, rfl⟩⟩
      · rintro σ _ ⟨rfl, v, rfl⟩
        exact q
  | lst ds =>
    cases n with
    | zero => exact hx.elim
    | succ n =>
      obtain ⟨a, xs, rfl, ha, la, ln, ka⟩ := hx
      obtain ⟨b, ys, rfl, hb, lb, _, kb⟩ := hy
      refine ⟨_, rfl, _, _, _, _, false, rfl, .ty _, .base (.lst hb), kit_ty (by decide +kernel), _, rfl, iteF ?_⟩
      refine ⟨_, rfl, _, _, _, _, true, rfl, .ty _, .base (.lst hb), kit_ty (by decide +kernel), _, rfl, iteT ?_⟩
      refine ⟨_, rfl, _, _, _, _, false, rfl, .ty _, .base (.lst hb), kit_ty (by decide +kernel), _, rfl, _, _, _, _, false, rfl, .ty _, .base (.lst ha), kit_ty (by decide +kernel), rfl, _, rfl, iteF ?_⟩
      refine ⟨_, rfl, _, _, _, _, true, rfl, .ty _, .base (.lst hb), kit_ty (by decide +kernel), _, rfl, _, _, _, _, true, rfl, .ty _, .base (.lst ha), kit_ty (by decide +kernel), rfl, _, rfl, iteF ?_⟩
      refine ⟨_, rfl, a, xs, rfl, .inl (SqL.of ha), _, rfl, b, ys, rfl, .inl (SqL.of hb), rfl, _, rfl, ?_⟩
      rw [show (decide (V.int (xs.length : Int) = V.int (ys.length : Int))) = true from decide_eq_true (by rw [la, lb])]
      refine iteF ?_
      refine ⟨_, rfl, b, ys, rfl, .inl (SqL.of hb), (ys.length : Int), rfl, by omega, by omega, for_range (lo := 0) (n := (ys.length : Int).toNat) (fun i σ H' => H' = H ∧ ∃ v, σ = [some (.ref a), some (.ref b), v]) ⟨rfl, none, rfl⟩ ?_ ?_⟩
      · rintro i σ _ hi ⟨rfl, v, rfl⟩
        have hi1 : i < ys.length := by omega
        have hi2 : i < xs.length := by omega
        have hi3 : i < ds.length := by omega
        refine ⟨_, rfl, _, rfl, .inl ⟨a, xs, _, _, rfl, rfl, SqL.of ha, at_of (j := i) (by omega) (List.getElem?_eq_getElem hi2), ?_⟩⟩
        refine ⟨_, rfl, _, rfl, .inl ⟨b, ys, _, _, rfl, rfl, SqL.of hb, at_of (j := i) (by omega) (List.getElem?_eq_getElem hi1), ?_⟩⟩
        refine ⟨_, _, ds[i], rfl, ka i _ _ (List.getElem?_eq_getElem hi2) (List.getElem?_eq_getElem hi3), kb i _ _ (List.getElem?_eq_getElem hi1) (List.getElem?_eq_getElem hi3), _, rfl, iteF ⟨rfl, _, rfl⟩⟩
      · rintro σ _ ⟨rfl, v, rfl⟩
        exact q
theorem none_same : FnOk P w K mg base CX0 0 f fd ["told", "due"] (spSame 0) := by
  have no : ∀ vs H Q E, ¬ spSame 0 vs H Q E := fun vs H Q E h => h
  exact ⟨fun vs H Q E h => absurd h (no vs H Q E), fun A outer s H args us vs Q E _ _ _ _ h => absurd h (no vs H Q E)⟩
end
section
variable {P : Program} {w : World} {K : PySem.W.Frag} {mg : Str → Option Value} {base : Heap} {f : Addr} {fd : FuncData}
theorem sign_eq {c n : Nat} {z : Str} (e : z = S [n]) : (V.str (S [c]) = V.str z) ↔ c = n := by
  subst e
  constructor
  · intro h
    have := S_inj (V.str.inj h)
    simpa using this
  · rintro rfl; rfl
theorem e_T : (("T" : Str)) = S [84] := by decide +kernel
theorem e_U : (("U" : Str)) = S [85] := by decide +kernel
theorem e_R : (("R" : Str)) = S [82] := by decide +kernel
def Tup2 (H : Hp) (t : Addr) (v : Int × Int) : Prop := H t = some (.tup [.int v.1, .int v.2])
def spCalled (K : PySem.W.Frag) : Sp := fun vs H Q _ => ∃ (t : Addr) (v : Int × Int) (c : Nat), vs = [.ref t, .str (S [c])] ∧ Tup2 H t v ∧ ∀ t' H', Same H H' → Tup2 H' t' (called v c) → Q (.ref t') H'
theorem ok_called (F : Fun K "_law_called" "_law_called" s_law_called f fd) : FnOk P w K mg base CX0 1 f fd ["value", "letter"] (spCalled K) := by
  refine F.ok sc_law_called (fun vs H Q E h => ?_) (fun cdv A outer s H vs Q E hr h => ?_)
  · obtain ⟨a, m, c, rfl, _⟩ := h
    rfl
  obtain ⟨t, ⟨p, q'⟩, c, rfl, hT, q⟩ := h
  refine ⟨_, pss_cons (ps_asg (pv 0) (pg_tup (by rfl) (pgs_cons (pg_name (i := 2) sc_law_called.nd rfl (.inl rfl)) (pgs_cons (pg_name (i := 3) sc_law_called.nd rfl (.inl rfl)) pgs_nil))))
    (pss_cons (ps_if (pt_cmpR op_eq (pv 1) pe_str (nomark _)) (pss_one (ps_ret (pe_tup (pa_cons (pe_op op_add (pv 2) (pv 3)) (pa_cons (pv 3) pa_nil))))) pss_nil)
    (pss_cons (ps_if (pt_cmpR op_eq (pv 1) pe_str (nomark _)) (pss_one (ps_ret (pe_tup (pa_cons (pe_op op_sub (pv 2) (pv 3)) (pa_cons (pv 3) pa_nil))))) pss_nil)
    (pss_cons (ps_if (pt_cmpR op_gt (pv 2) pe_int (nomark _)) (pss_one (ps_ret (pe_tup (pa_cons (pe_op op_sub pe_int (pv 3)) (pa_cons (pv 2) pa_nil))))) pss_nil)
    (pss_cons (ps_if (pt_cmpR op_lt (pv 2) pe_int (nomark _)) (pss_one (ps_ret (pe_tup (pa_cons (pv 3) (pa_cons (pe_op op_sub pe_int (pv 2)) pa_nil))))) pss_nil)
    (pss_one (ps_ret (pe_tup (pa_cons pe_int (pa_cons pe_int pa_nil))))))))), ?_⟩
  have two : 2 ≤ sizeLine := fits (by decide)
  refine ⟨_, rfl, t, _, rfl, SqT.of hT, rfl, _, _, rfl, _, _, rfl, rfl, ?_⟩
  refine ⟨_, rfl, rfl, _, rfl, ite2 (fun c1 => ?_) (fun c1 => ?_)⟩
  · have k1 : c = 84 := (sign_eq e_T).mp (of_decide_eq_true c1)
    refine ⟨_, rfl, _, rfl, _, _, rfl, rfl, _, rfl, two, fun n hn => q n _ (same_new hn _) ?_⟩
    unfold Tup2 called
    rw [upd_same, if_pos k1]
  have k1 : ¬ c = 84 := fun z => c1 (decide_eq_true ((sign_eq e_T).mpr z))
  refine ⟨_, rfl, rfl, _, rfl, ite2 (fun c2 => ?_) (fun c2 => ?_)⟩
  · have k2 : c = 85 := (sign_eq e_U).mp (of_decide_eq_true c2)
    refine ⟨_, rfl, _, rfl, _, _, rfl, rfl, _, rfl, two, fun n hn => q n _ (same_new hn _) ?_⟩
    unfold Tup2 called
    rw [upd_same, if_neg k1, if_pos k2]
  have k2 : ¬ c = 85 := fun z => c2 (decide_eq_true ((sign_eq e_U).mpr z))
  refine ⟨_, rfl, _, _, rfl, rfl, _, rfl, ite2 (fun c3 => ?_) (fun c3 => ?_)⟩
  · have k3 : 0 < p := of_decide_eq_true c3
    refine ⟨_, rfl, _, _, rfl, rfl, _, rfl, two, fun n hn => q n _ (same_new hn _) ?_⟩
    unfold Tup2 called
    rw [upd_same, if_neg k1, if_neg k2, if_pos k3]
  have k3 : ¬ 0 < p := fun z => c3 (decide_eq_true z)
  refine ⟨_, rfl, _, _, rfl, rfl, _, rfl, ite2 (fun c4 => ?_) (fun c4 => ?_)⟩
  · have k4 : p < 0 := of_decide_eq_true c4
    refine ⟨_, rfl, _, rfl, _, _, rfl, rfl, two, fun n hn => q n _ (same_new hn _) ?_⟩
    unfold Tup2 called
    rw [upd_same, if_neg k1, if_neg k2, if_neg k3, if_pos k4]
  have k4 : ¬ p < 0 := fun z => c4 (decide_eq_true z)
  refine ⟨two, fun n hn => q n _ (same_new hn _) ?_⟩
  unfold Tup2 called
  rw [upd_same, if_neg k1, if_neg k2, if_neg k3, if_neg k4]
theorem Tup2.same {H H' : Hp} {t : Addr} {v : Int × Int} (h : Tup2 H t v) (s : Same H H') : Tup2 H' t v := s _ _ h
theorem Tup2.but {H H' : Hp} {a t : Addr} {v : Int × Int} (h : Tup2 H t v) (s : But a H H') (tp : Tape H a) : Tup2 H' t v := by
  obtain ⟨y, c, z, b, e⟩ := tp
  exact s _ _ (ne_of h e (by intro q; cases q)) h
def spNumber (K : PySem.W.Frag) : Sp := fun vs H Q _ => ∃ l : List Nat, vs = [.str (S l)] ∧ ∀ t' H', Same H H' → Tup2 H' t' (run (0, 1) l) → Q (.ref t') H'
theorem ok_number (F : Fun K "_law_number" "_law_number" s_law_number f fd) (DC : Dfn P w K mg base "_law_called" 1 ["value", "letter"] (spCalled K)) : FnOk P w K mg base CX0 2 f fd ["dance"] (spNumber K) := by
  refine F.ok sc_law_number (fun vs H Q E h => ?_) (fun cdv A outer s H vs Q E hr h => ?_)
  · obtain ⟨l, rfl, _⟩ := h
    rfl
  obtain ⟨l, rfl, q⟩ := h
  refine ⟨_, pss_cons (ps_set (i := 1) sc_law_number.nd rfl (.inl rfl) (pe_tup (pa_cons pe_int (pa_cons pe_int pa_nil))))
    (pss_cons (ps_for PassesOwn.never rfl (pi_str (pv 0)) (pg_name (i := 2) sc_law_number.nd rfl (.inl rfl))
      (pss_one (ps_set (i := 1) sc_law_number.nd rfl (.inl rfl) (pe_do DC hr (pa_cons (pv 1) (pa_cons (pv 2) pa_nil))))))
    (pss_one (ps_ret (pv 1)))), ?_⟩
  refine ⟨fits (by decide), fun p hp => ?_⟩
  refine ⟨_, rfl, _, rfl, for_str (l := l) (fun i σ H' => ∃ (t : Addr) (v : Option V), σ = [some (.str (S l)), some (.ref t), v] ∧ Same H H' ∧ Tup2 H' t (run (0, 1) (l.take i))) ?_ ?_ ?_⟩
  · exact ⟨p, _, rfl, same_new hp _, upd_same⟩
  · rintro i c σ H' hc ⟨t, v, rfl, sm, tt⟩
    refine ⟨_, rfl, _, rfl, t, _, c, rfl, tt, fun t' H2 s2 tt2 => ?_⟩
    exact ⟨t', _, rfl, sm.trans s2, by rw [run_take _ hc]; exact tt2⟩
  · rintro σ H' ⟨t, v, rfl, sm, tt⟩
    rw [List.take_of_length_le (Nat.le_refl _)] at tt
    exact ⟨_, rfl, q t H' sm tt⟩
end
section
variable {P : Program} {w : World} {K : PySem.W.Frag} {mg : Str → Option Value} {base : Heap} {f : Addr} {fd : FuncData}
/-! ### the program: turned, after -/
def spTurned : Sp := fun vs H Q _ => ∃ p q' : Int, vs = [.int p, .int q'] ∧ ∀ t' H', Same H H' → Tup2 H' t' (called (p, q') 82) → Q (.ref t') H'
theorem ok_turned (F : Fun K "turned" "turned" s_turned f fd) : FnOk P w K mg base CX0 1 f fd ["p", "q"] spTurned := by
  refine F.ok sc_turned (fun vs H Q E h => ?_) (fun cdv A outer s H vs Q E hr h => ?_)
  · obtain ⟨p, q', rfl, _⟩ := h
    rfl
  obtain ⟨p, q', rfl, q⟩ := h
  refine ⟨_, pss_cons (ps_if (pt_cmpR op_eq (pv 0) pe_int (nomark _)) (pss_one (ps_ret (pe_tup (pa_cons pe_int (pa_cons pe_int pa_nil))))) pss_nil)
    (pss_cons (ps_if (pt_cmpR op_lt (pv 0) pe_int (nomark _)) (pss_one (ps_ret (pe_tup (pa_cons (pv 1) (pa_cons (pe_un un_neg (pv 0)) pa_nil))))) pss_nil)
    (pss_one (ps_ret (pe_tup (pa_cons (pe_un un_neg (pv 1)) (pa_cons (pv 0) pa_nil)))))), ?_⟩
  have two : 2 ≤ sizeLine := fits (by decide)
  have e1 : ¬ (82 : Nat) = 84 := by decide
  have e2 : ¬ (82 : Nat) = 85 := by decide
  refine ⟨_, rfl, rfl, _, rfl, ite2 (fun c1 => ?_) (fun c1 => ?_)⟩
  · have k1 : p = 0 := V.int.inj (of_decide_eq_true c1)
    subst k1
    refine ⟨two, fun n hn => q n _ (same_new hn _) ?_⟩
    unfold Tup2 called
    rw [upd_same, if_neg e1, if_neg e2, if_neg (show ¬ (0 : Int) < 0 by decide), if_neg (show ¬ (0 : Int) < 0 by decide)]
  have k1 : ¬ p = 0 := fun z => c1 (decide_eq_true (by rw [z]))
  refine ⟨_, rfl, _, _, rfl, rfl, _, rfl, ite2 (fun c2 => ?_) (fun c2 => ?_)⟩
  · have k2 : p < 0 := of_decide_eq_true c2
    refine ⟨_, rfl, _, rfl, _, rfl, two, fun n hn => q n _ (same_new hn _) ?_⟩
    unfold Tup2 called
    rw [upd_same, if_neg e1, if_neg e2, if_neg (show ¬ (0 : Int) < p by omega), if_pos k2, Int.zero_sub]
  have k2 : ¬ p < 0 := fun z => c2 (decide_eq_true z)
  refine ⟨_, rfl, _, rfl, _, rfl, two, fun n hn => q n _ (same_new hn _) ?_⟩
  unfold Tup2 called
  rw [upd_same, if_neg e1, if_neg e2, if_pos (show (0 : Int) < p by omega), Int.zero_sub]
theorem called_other {v : Int × Int} {c : Nat} (h1 : ¬ c = 84) (h2 : ¬ c = 85) : called v c = called v 82 := by
  unfold called
  rw [if_neg h1, if_neg h2, if_neg (show ¬ (82 : Nat) = 84 by decide), if_neg (show ¬ (82 : Nat) = 85 by decide)]
def spAfter : Sp := fun vs H Q _ => ∃ (t : Addr) (v : Int × Int) (l : List Nat), vs = [.ref t, .str (S l)] ∧ Tup2 H t v ∧ ∀ t' H', Same H H' → Tup2 H' t' (run v l) → Q (.ref t') H'
theorem ok_after (F : Fun K "after" "after" s_after f fd) (DT : Dfn P w K mg base "turned" 1 ["p", "q"] spTurned) : FnOk P w K mg base CX0 2 f fd ["fraction", "dance"] spAfter := by
  refine F.ok sc_after (fun vs H Q E h => ?_) (fun cdv A outer s H vs Q E hr h => ?_)
  · obtain ⟨t, v, l, rfl, _⟩ := h
    rfl
  obtain ⟨t, v, l, rfl, hT, q⟩ := h
  refine ⟨_, pss_cons (ps_asg (pv 0) (pg_tup (by rfl) (pgs_cons (pg_name (i := 2) sc_after.nd rfl (.inl rfl)) (pgs_cons (pg_name (i := 3) sc_after.nd rfl (.inl rfl)) pgs_nil))))
    (pss_cons (ps_for PassesOwn.never rfl (pi_str (pv 1)) (pg_name (i := 4) sc_after.nd rfl (.inl rfl))
      (pss_one (ps_if (pt_cmpR op_eq (pv 4) pe_str (nomark _)) (pss_one (ps_aug (i := 2) sc_after.nd rfl (.inl rfl) (pv 3) ip_add))
        (pss_one (ps_if (pt_cmpR op_eq (pv 4) pe_str (nomark _)) (pss_one (ps_aug (i := 2) sc_after.nd rfl (.inl rfl) (pv 3) ip_sub))
          (pss_one (ps_asg (pe_do DT hr (pa_cons (pv 2) (pa_cons (pv 3) pa_nil))) (pg_tup (by rfl) (pgs_cons (pg_name (i := 2) sc_after.nd rfl (.inl rfl)) (pgs_cons (pg_name (i := 3) sc_after.nd rfl (.inl rfl)) pgs_nil))))))))))
    (pss_one (ps_ret (pe_tup (pa_cons (pv 2) (pa_cons (pv 3) pa_nil)))))), ?_⟩
  refine ⟨_, rfl, t, _, rfl, SqT.of hT, rfl, _, _, rfl, _, _, rfl, rfl, ?_⟩
  refine ⟨_, rfl, _, rfl, for_str (l := l) (fun i σ H' => ∃ (x : Option V), σ = [some (.ref t), some (.str (S l)), some (.int (run v (l.take i)).1), some (.int (run v (l.take i)).2), x] ∧ Same H H') ?_ ?_ ?_⟩
  · exact ⟨none, rfl, Same.refl H⟩
  · rintro i c σ H' hc ⟨x, rfl, sm⟩
    have st := run_take v hc
    generalize run v (l.take i) = u at *
    obtain ⟨p, q'⟩ := u
    refine ⟨_, rfl, rfl, _, rfl, ite2 (fun c1 => ?_) (fun c1 => ?_)⟩
    · have k1 : c = 84 := (sign_eq e_T).mp (of_decide_eq_true c1)
      refine ⟨_, rfl, _, rfl, _, _, rfl, rfl, some (.str (S [c])), ?_, sm⟩
      rw [st]
      unfold called
      rw [if_pos k1]
      rfl
    have k1 : ¬ c = 84 := fun z => c1 (decide_eq_true ((sign_eq e_T).mpr z))
    refine ⟨_, rfl, rfl, _, rfl, ite2 (fun c2 => ?_) (fun c2 => ?_)⟩
    · have k2 : c = 85 := (sign_eq e_U).mp (of_decide_eq_true c2)
      refine ⟨_, rfl, _, rfl, _, _, rfl, rfl, some (.str (S [c])), ?_, sm⟩
      rw [st]
      unfold called
      rw [if_neg k1, if_pos k2]
      rfl
    have k2 : ¬ c = 85 := fun z => c2 (decide_eq_true ((sign_eq e_U).mpr z))
    refine ⟨_, rfl, _, rfl, p, q', rfl, fun t' H2 s2 tt => ?_⟩
    refine ⟨t', _, rfl, SqT.of tt, rfl, _, _, rfl, _, _, rfl, rfl, some (.str (S [c])), ?_, sm.trans s2⟩
    rw [st, called_other k1 k2]
    rfl
  · rintro σ H' ⟨x, rfl, sm⟩
    rw [List.take_of_length_le (Nat.le_refl _)]
    exact ⟨_, rfl, _, rfl, fits (by show 2 ≤ 16777216; decide), fun n hn => q n _ (sm.trans (same_new hn _)) upd_same⟩
end
section
theorem int_is {H : Hp} {n : Nat} {i : Int} : Is H n (.int i) (.int i) := by cases n <;> rfl
theorem str_is {H : Hp} {n : Nat} {z : Str} : Is H n (.str z) (.str z) := by cases n <;> rfl
theorem is_tup {H : Hp} {n : Nat} {a : Addr} {xs : List V} {ds : List Dt} (h : H a = some (.tup xs)) (z : xs.length = ds.length) (m : ds.length ≤ 1000000) (k : ∀ (i : Nat) (x : V) (d : Dt), xs[i]? = some x → ds[i]? = some d → Is H n x d) : Is H (n + 1) (.ref a) (.tup ds) := ⟨a, xs, rfl, h, z, m, k⟩
theorem is_lst {H : Hp} {n : Nat} {a : Addr} {xs : List V} {ds : List Dt} (h : H a = some (.lst xs)) (z : xs.length = ds.length) (m : ds.length ≤ 1000000) (k : ∀ (i : Nat) (x : V) (d : Dt), xs[i]? = some x → ds[i]? = some d → Is H n x d) : Is H (n + 1) (.ref a) (.lst ds) := ⟨a, xs, rfl, h, z, m, k⟩
end
section
theorem dp_tup2 {K : PySem.W.Frag} {H : Hp} {t : Addr} {v : Int × Int} (h : Tup2 H t v) : Dp K H (.ref t) (.tuple [.int v.1, .int v.2]) := .tup (SqT.of h) (.cons (.int _) (.cons (.int _) .nil))
theorem can2 (a b : Int) : PyData.canLay0 (.tuple [.int a, .int b]) = true := by
  simp [PyData.canLay0, PyData.canLayAll0]
theorem sh2 (a b : Int) : SeqAt.shaped (.tuple [.int a, .int b]) = true := by
  unfold SeqAt.shaped
  rw [can2]
  simp [PyData.depth, PyData.depthAll]
theorem eqv2 (v u : Int × Int) : PyData.eqv (.tuple [.int v.1, .int v.2]) (.tuple [.int u.1, .int u.2]) = decide (v = u) := by
  obtain ⟨a, b⟩ := v
  obtain ⟨c, d⟩ := u
  by_cases h1 : a = c <;> by_cases h2 : b = d <;> simp [PyData.eqv, PyData.eqvAll, h1, h2]
end
/-! ### the quotients of a fraction and the number of its steps -/
def QL (p q : Nat) : List Nat := if h : q = 0 then [] else p / q :: QL q (p % q)
termination_by q
decreasing_by exact Nat.mod_lt _ (Nat.pos_of_ne_zero h)
theorem QL_zero (p : Nat) : QL p 0 = [] := by rw [QL]; exact dif_pos rfl
theorem QL_step {p q : Nat} (h : 0 < q) : QL p q = p / q :: QL q (p % q) := by
  conv => lhs; rw [QL]
  exact dif_neg (by omega)
/-- the sum of the quotients and their number -/
def EQ (p q : Nat) : Nat := (QL p q).sum + (QL p q).length
theorem EQ_zero (p : Nat) : EQ p 0 = 0 := by unfold EQ; rw [QL_zero]; rfl
theorem EQ_step {p q : Nat} (h : 0 < q) : EQ p q = p / q + 1 + EQ q (p % q) := by
  unfold EQ
  rw [QL_step h, List.sum_cons, List.length_cons]
  omega
theorem EQ_pos {p q : Nat} (h : 0 < q) : 1 ≤ EQ p q := by
  rw [EQ_step h]
  exact Nat.le_trans (Nat.le_add_left 1 (p / q)) (Nat.le_add_right _ _)
theorem EQ_add {p q : Nat} (h : 0 < q) : EQ (p + q) q = EQ p q + 1 := by
  rw [EQ_step h, EQ_step h, Nat.add_div_right _ h, Nat.add_mod_right]
  omega
theorem EQ_swap {p q : Nat} (h : p < q) : EQ p q = 1 + EQ q p := by
  rw [EQ_step (by omega), Nat.div_eq_of_lt h, Nat.mod_eq_of_lt h]
theorem EQ_half {p q : Nat} (h0 : 0 < p) (h : 2 * p < q) : EQ (q - p) q = EQ p q + 1 := by
  have e : EQ (q - p) q = 1 + EQ q (q - p) := EQ_swap (by omega)
  have e1 : EQ q (q - p) = EQ p (q - p) + 1 := by
    have := EQ_add (p := p) (q := q - p) (by omega)
    rw [show p + (q - p) = q by omega] at this
    exact this
  have e2 : EQ p (q - p) = 1 + EQ (q - p) p := EQ_swap (by omega)
  have e3 : EQ p q = 1 + EQ q p := EQ_swap (by omega)
  have e4 : EQ q p = EQ (q - p) p + 1 := by
    have := EQ_add (p := q - p) (q := p) h0
    rw [show q - p + p = q by omega] at this
    exact this
  omega
theorem EQ_sub {p q : Nat} (h0 : 0 < p) (h : p < q) : EQ (q - p) q = EQ p q + 1 ∨ EQ p q = EQ (q - p) q + 1 ∨ EQ (q - p) q = EQ p q := by
  rcases Nat.lt_trichotomy (2 * p) q with c | c | c
  · exact .inl (EQ_half h0 c)
  · exact .inr (.inr (by rw [show q - p = p by omega]))
  · have := EQ_half (p := q - p) (q := q) (by omega) (by omega)
    rw [show q - (q - p) = p by omega] at this
    exact .inr (.inl this)
/-- the steps of a fraction -/
def stp (v : Int × Int) : Nat := if v.2 = 0 then 1 else EQ v.1.natAbs v.2.natAbs - 1
theorem stp_inf {p : Int} : stp (p, 0) = 1 := if_pos rfl
theorem stp_fin {p q : Int} (h : 0 < q) : stp (p, q) + 1 = EQ p.natAbs q.natAbs := by
  unfold stp
  rw [if_neg (show ¬ (p, q).2 = 0 by show ¬ q = 0; omega)]
  have := EQ_pos (p := p.natAbs) (q := q.natAbs) (by omega)
  show EQ p.natAbs q.natAbs - 1 + 1 = _
  omega
theorem stp_zero : stp (0, 1) = 0 := by
  have := stp_fin (p := 0) (q := 1) (by decide)
  rw [EQ_step (by decide)] at this
  have e : (0 : Int).natAbs % (1 : Int).natAbs = 0 := rfl
  rw [e, EQ_zero] at this
  have : (0 : Int).natAbs / (1 : Int).natAbs = 0 := rfl
  omega
theorem stp_neg (p q : Int) : stp (-p, q) = stp (p, q) := by
  unfold stp
  rw [Int.natAbs_neg]
theorem EQ_one {p q : Nat} (h : 0 < q) (e : EQ p q = 1) : p = 0 := by
  rw [EQ_step h] at e
  generalize hd : p / q = d at e
  have e1 : EQ q (p % q) = 0 := by omega
  have e2 : p / q = 0 := by omega
  have e3 : p % q = 0 := Decidable.byContradiction fun z => by
    have := EQ_pos (p := q) (q := p % q) (by omega)
    omega
  have := Nat.div_add_mod p q
  rw [e2, e3] at this
  omega
theorem stp_eq_zero {v : Int × Int} (g : Good v) (e : stp v = 0) : v = (0, 1) := by
  obtain ⟨p, q⟩ := v
  obtain ⟨h1, h2⟩ := g
  rcases h1 with h1 | h1
  · have h1' : 0 < q := h1
    have := stp_fin (p := p) h1'
    rw [e] at this
    have z := EQ_one (by omega) this.symm
    have hp : p = 0 := Int.natAbs_eq_zero.mp z
    subst hp
    have h2' : Int.gcd 0 q = 1 := h2
    rw [Int.gcd_zero_left] at h2'
    have : q = 1 := by omega
    rw [this]
  · cases h1
    rw [stp_inf] at e
    cases e
theorem stp_twist {p q : Int} : stp (p + q, q) ≤ stp (p, q) + 1 ∧ stp (p, q) ≤ stp (p + q, q) + 1 := by
  by_cases hq : 0 < q
  · have a := stp_fin (p := p) hq
    have b := stp_fin (p := p + q) hq
    rcases Int.lt_or_le p 0 with c | c
    · rcases Int.lt_or_le (-q) p with d | d
      · have e : (p + q).natAbs = q.natAbs - p.natAbs := by omega
        rw [e] at b
        have := EQ_sub (p := p.natAbs) (q := q.natAbs) (by omega) (by omega)
        omega
      · have e : p.natAbs = (p + q).natAbs + q.natAbs := by omega
        rw [e, EQ_add (by omega)] at a
        omega
    · have e : (p + q).natAbs = p.natAbs + q.natAbs := by omega
      rw [e, EQ_add (by omega)] at b
      omega
  · rcases Int.lt_or_le q 0 with c | c
    · have a : stp (p, q) = EQ p.natAbs q.natAbs - 1 := if_neg (show ¬ q = 0 by omega)
      have b : stp (p + q, q) = EQ (p + q).natAbs q.natAbs - 1 := if_neg (show ¬ q = 0 by omega)
      have a1 := EQ_pos (p := p.natAbs) (q := q.natAbs) (by omega)
      have b1 := EQ_pos (p := (p + q).natAbs) (q := q.natAbs) (by omega)
      rcases Int.lt_or_le 0 p with e | e
      · rcases Int.lt_or_le p (-q) with d | d
        · have e : (p + q).natAbs = q.natAbs - p.natAbs := by omega
          rw [e] at b b1
          have := EQ_sub (p := p.natAbs) (q := q.natAbs) (by omega) (by omega)
          omega
        · have e : p.natAbs = (p + q).natAbs + q.natAbs := by omega
          rw [e, EQ_add (by omega)] at a a1
          omega
      · have e : (p + q).natAbs = p.natAbs + q.natAbs := by omega
        rw [e, EQ_add (by omega)] at b b1
        omega
    · have : q = 0 := by omega
      subst this
      rw [stp_inf, stp_inf]
      omega
theorem EQ_turn {p q : Nat} (hp : 0 < p) (hq : 0 < q) : EQ q p = EQ p q + 1 ∨ EQ p q = EQ q p + 1 ∨ EQ p q = EQ q p := by
  rcases Nat.lt_trichotomy p q with c | c | c
  · exact .inr (.inl (by rw [EQ_swap c]; omega))
  · subst c; exact .inr (.inr rfl)
  · exact .inl (by rw [EQ_swap c]; omega)
/-- along each call the steps change by at most one -/
theorem stp_near {v : Int × Int} (g : Good v) (c : Nat) : stp (called v c) ≤ stp v + 1 ∧ stp v ≤ stp (called v c) + 1 := by
  obtain ⟨p, q⟩ := v
  unfold called
  by_cases c1 : c = 84
  · rw [if_pos c1]; exact stp_twist
  rw [if_neg c1]
  by_cases c2 : c = 85
  · rw [if_pos c2]
    have := stp_twist (p := p - q) (q := q)
    rw [Int.sub_add_cancel] at this
    exact ⟨this.2, this.1⟩
  rw [if_neg c2]
  have hq : 0 < q ∨ (p = 1 ∧ q = 0) := by
    rcases g.1 with h | h
    · exact .inl h
    · cases h; exact .inr ⟨rfl, rfl⟩
  by_cases c3 : 0 < p
  · rw [if_pos (show 0 < (p, q).1 from c3)]
    show stp (0 - q, p) ≤ stp (p, q) + 1 ∧ stp (p, q) ≤ stp (0 - q, p) + 1
    have b := stp_fin (p := 0 - q) c3
    rw [show (0 - q).natAbs = q.natAbs by omega] at b
    rcases hq with h | ⟨rfl, rfl⟩
    · have a := stp_fin (p := p) h
      have := EQ_turn (p := p.natAbs) (q := q.natAbs) (by omega) (by omega)
      omega
    · rw [stp_inf]
      rw [EQ_step (by decide)] at b
      have e : (0 : Int).natAbs % (1 : Int).natAbs = 0 := rfl
      rw [e, EQ_zero] at b
      have : (0 : Int).natAbs / (1 : Int).natAbs = 0 := rfl
      omega
  rw [if_neg (show ¬ 0 < (p, q).1 from c3)]
  by_cases c4 : p < 0
  · rw [if_pos (show (p, q).1 < 0 from c4)]
    show stp (q, 0 - p) ≤ stp (p, q) + 1 ∧ stp (p, q) ≤ stp (q, 0 - p) + 1
    have b := stp_fin (p := q) (q := 0 - p) (by omega)
    rw [show (0 - p).natAbs = p.natAbs by omega] at b
    rcases hq with h | ⟨rfl, rfl⟩
    · have a := stp_fin (p := p) h
      have := EQ_turn (p := p.natAbs) (q := q.natAbs) (by omega) (by omega)
      omega
    · omega
  rw [if_neg (show ¬ (p, q).1 < 0 from c4)]
  have hp : p = 0 := by omega
  subst hp
  have z : (0, q) = ((0, 1) : Int × Int) := by
    rcases hq with h | ⟨h, _⟩
    · have h2 : Int.gcd 0 q = 1 := g.2
      rw [Int.gcd_zero_left] at h2
      rw [show q = 1 by omega]
    · cases h
  rw [z, stp_zero, stp_inf]
  omega
/-- for each fraction but 0 one of the calls makes the steps less by one -/
theorem stp_down {v : Int × Int} (g : Good v) (n : v ≠ (0, 1)) : ∃ c, (c = 84 ∨ c = 85 ∨ c = 82) ∧ stp (called v c) + 1 = stp v := by
  obtain ⟨p, q⟩ := v
  have hq : 0 < q ∨ (p = 1 ∧ q = 0) := by
    rcases g.1 with h | h
    · exact .inl h
    · cases h; exact .inr ⟨rfl, rfl⟩
  rcases hq with h | ⟨rfl, rfl⟩
  · have a := stp_fin (p := p) h
    rcases Int.lt_or_le (-q) p with d | d
    · rcases Int.lt_or_le p q with e | e
      · have p0 : p ≠ 0 := fun z => by
          subst z
          have h2 : Int.gcd 0 q = 1 := g.2
          rw [Int.gcd_zero_left] at h2
          exact n (by rw [show q = 1 by omega])
        refine ⟨82, .inr (.inr rfl), ?_⟩
        rw [EQ_swap (show p.natAbs < q.natAbs by omega)] at a
        by_cases c3 : 0 < p
        · have e1 : called (p, q) 82 = (0 - q, p) := by
            unfold called
            rw [if_neg (by decide), if_neg (by decide), if_pos (show 0 < (p, q).1 from c3)]
          rw [e1]
          have b := stp_fin (p := 0 - q) c3
          rw [show (0 - q).natAbs = q.natAbs by omega] at b
          omega
        · have c4 : p < 0 := by omega
          have e1 : called (p, q) 82 = (q, 0 - p) := by
            unfold called
            rw [if_neg (by decide), if_neg (by decide), if_neg (show ¬ 0 < (p, q).1 from c3), if_pos (show (p, q).1 < 0 from c4)]
          rw [e1]
          have b := stp_fin (p := q) (q := 0 - p) (by omega)
          rw [show (0 - p).natAbs = p.natAbs by omega] at b
          omega
      · refine ⟨85, .inr (.inl rfl), ?_⟩
        have e1 : called (p, q) 85 = (p - q, q) := rfl
        rw [e1]
        have b := stp_fin (p := p - q) h
        have e2 : p.natAbs = (p - q).natAbs + q.natAbs := by omega
        rw [e2, EQ_add (by omega)] at a
        omega
    · refine ⟨84, .inl rfl, ?_⟩
      have e1 : called (p, q) 84 = (p + q, q) := rfl
      rw [e1]
      have b := stp_fin (p := p + q) h
      have e2 : p.natAbs = (p + q).natAbs + q.natAbs := by omega
      rw [e2, EQ_add (by omega)] at a
      omega
  · refine ⟨82, .inr (.inr rfl), ?_⟩
    have e1 : called (1, 0) 82 = (0, 1) := rfl
    rw [e1, stp_zero, stp_inf]
theorem stp_run : ∀ (l : List Nat) {v : Int × Int}, Good v → stp (run v l) ≤ stp v + l.length
  | [], _, _ => Nat.le_refl _
  | c :: l, v, g => by
    have a := stp_run l (g.called c)
    have b := (stp_near g c).1
    show stp (run (called v c) l) ≤ _
    rw [List.length_cons]
    omega
/-- the quotients that the program has -/
def quo (v : Int × Int) : List Nat := if v.2 = 0 then [0, 0] else QL v.1.natAbs v.2.natAbs
theorem quo_stp {v : Int × Int} (g : Good v) : (quo v).sum + (quo v).length = stp v + 1 := by
  unfold quo
  by_cases h : v.2 = 0
  · rw [if_pos h]
    unfold stp
    rw [if_pos h]
    rfl
  · rw [if_neg h]
    have h0 : 0 < v.2 := by
      rcases g.1 with h1 | h1
      · exact h1
      · rw [h1] at h; exact absurd rfl h
    exact (stp_fin (p := v.1) h0).symm
theorem QL_len : ∀ (n p q : Nat), q < 2 ^ n → (QL p q).length ≤ 2 * n
  | 0, p, q, h => by
    have : q = 0 := by omega
    subst this
    rw [QL_zero]
    exact Nat.le_refl _
  | n + 1, p, q, h => by
    by_cases q0 : 0 < q
    · rw [QL_step q0, List.length_cons]
      by_cases r0 : 0 < p % q
      · rw [QL_step r0, List.length_cons]
        have l1 := Nat.mod_lt p q0
        have l2 := Nat.mod_lt q r0
        have l3 : q % (p % q) + p % q ≤ q := by
          have e := Nat.div_add_mod q (p % q)
          have : 1 ≤ q / (p % q) := Nat.div_pos (Nat.le_of_lt l1) r0
          have : p % q * 1 ≤ p % q * (q / (p % q)) := Nat.mul_le_mul_left _ this
          omega
        have := QL_len n (p % q) (q % (p % q)) (by rw [Nat.pow_succ] at h; omega)
        omega
      · rw [show p % q = 0 by omega, QL_zero]
        show 0 + 1 ≤ _
        omega
    · rw [show q = 0 by omega, QL_zero]
      exact Nat.zero_le _
theorem quo_len {v : Int × Int} {n : Nat} (h : v.2.natAbs < 2 ^ n) (n0 : 0 < n) : (quo v).length ≤ 2 * n := by
  unfold quo
  split
  · show 2 ≤ _; omega
  · exact QL_len n _ _ h
theorem S_eta (z : Str) : S z.cps.toList = z := by
  cases z
  simp [S]
def tx (l : List Nat) : V := .str (S l)
theorem tx_inj {a b : List Nat} (h : tx a = tx b) : a = b := S_inj (V.str.inj h)
theorem tx_iff {a b : List Nat} : V.str (S a) = V.str (S b) ↔ a = b := ⟨fun h => tx_inj h, fun h => by rw [h]⟩
section
open TL (joinL tl tl_join join_eq split_join)
/-! ### standard dances -/
def nx (p q : Int) : Int := (p / q + 1) * q - p
theorem nx_eq (p q : Int) : nx p q = q - p % q := by
  unfold nx
  have := Int.mul_ediv_add_emod p q
  rw [Int.add_mul, Int.one_mul, Int.mul_comm]
  omega
theorem nx_gcd (p q : Int) : Int.gcd q (nx p q) = Int.gcd p q := by
  unfold nx
  rw [show (p / q + 1) * q - p = -p + q * (p / q + 1) by rw [Int.mul_comm]; omega, Int.gcd_add_mul_left_right, Int.gcd_neg, Int.gcd_comm]
theorem nx_pos {p q : Int} (h : 0 < q) : 0 < nx p q := by
  rw [nx_eq]
  have := Int.emod_lt_of_pos p h
  omega
theorem nx_lt {p q : Int} (h : 1 < q) (g : Int.gcd p q = 1) : nx p q < q := by
  rw [nx_eq]
  have h1 := Int.emod_nonneg p (show q ≠ 0 by omega)
  have h2 : p % q ≠ 0 := fun z => by
    have d : q ∣ p := Int.dvd_of_emod_eq_zero z
    have := Int.gcd_eq_natAbs_right d
    omega
  omega
def rn (b : Int) : List Nat := if b < 0 then List.replicate (-b).toNat 85 else List.replicate b.toNat 84
def bsF : Nat → Int → Int → List Int
  | 0, p, _ => [p]
  | n + 1, p, q => if q ≤ 1 then [p] else bsF n q (nx p q) ++ [p / q + 1]
def bs (p q : Int) : List Int := bsF q.toNat p q
theorem bsF_more : ∀ (n m : Nat) (p q : Int), 0 < q → Int.gcd p q = 1 → q ≤ n → q ≤ m → bsF n p q = bsF m p q
  | 0, _, p, q, h, _, hn, _ => by omega
  | n + 1, 0, p, q, h, _, _, hm => by omega
  | n + 1, m + 1, p, q, h, g, hn, hm => by
    unfold bsF
    by_cases c : q ≤ 1
    · rw [if_pos c, if_pos c]
    · rw [if_neg c, if_neg c, bsF_more n m q (nx p q) (nx_pos h) (by rw [nx_gcd]; exact g) (by have := nx_lt (show 1 < q by omega) g; omega) (by have := nx_lt (show 1 < q by omega) g; omega)]
theorem bs_one (p : Int) : bs p 1 = [p] := rfl
theorem bs_step {p q : Int} (h : 1 < q) (g : Int.gcd p q = 1) : bs p q = bs q (nx p q) ++ [p / q + 1] := by
  have l := nx_lt h g
  have l0 := nx_pos (p := p) (show 0 < q by omega)
  have e : q.toNat = (q.toNat - 1) + 1 := by omega
  have e1 : bs p q = bsF (q.toNat - 1) q (nx p q) ++ [p / q + 1] := by
    unfold bs
    generalize q.toNat - 1 = m at e
    rw [e]
    show (if q ≤ 1 then [p] else bsF m q (nx p q) ++ [p / q + 1]) = _
    rw [if_neg (by omega)]
  rw [e1]
  unfold bs
  rw [bsF_more (q.toNat - 1) (nx p q).toNat q (nx p q) l0 (by rw [nx_gcd]; exact g) (by omega) (by omega)]
theorem bs_ne {p q : Int} : bs p q ≠ [] := by
  unfold bs
  cases q.toNat with
  | zero => intro h; cases h
  | succ n =>
    unfold bsF
    split
    · intro h; cases h
    · intro h; simp at h
def stv (v : Int × Int) : List Nat := if v.2 = 0 then [82] else joinL [82] ((bs v.1 v.2).map rn)
theorem joinL_snoc (S y : List Nat) : ∀ {xs : List (List Nat)}, xs ≠ [] → joinL S (xs ++ [y]) = joinL S xs ++ (S ++ y)
  | [], h => absurd rfl h
  | [x], _ => rfl
  | x :: z :: r, _ => by
    show x ++ (S ++ joinL S ((z :: r) ++ [y])) = (x ++ (S ++ joinL S (z :: r))) ++ (S ++ y)
    rw [joinL_snoc S y (xs := z :: r) (by simp)]
    simp
theorem run_rn (p q b : Int) : run (p, q) (rn b) = (p + b * q, q) := by
  have up : ∀ (n : Nat) (p : Int), run (p, q) (List.replicate n 84) = (p + n * q, q) := by
    intro n
    induction n with
    | zero => intro p; simp [run]
    | succ n ih =>
      intro p
      rw [List.replicate_succ]
      show run (called (p, q) 84) _ = _
      rw [show called (p, q) 84 = (p + q, q) from rfl, ih]
      congr 1
      rw [Int.natCast_add, Int.add_mul, Int.natCast_one, Int.one_mul]
      omega
  have dn : ∀ (n : Nat) (p : Int), run (p, q) (List.replicate n 85) = (p - n * q, q) := by
    intro n
    induction n with
    | zero => intro p; simp [run]
    | succ n ih =>
      intro p
      rw [List.replicate_succ]
      show run (called (p, q) 85) _ = _
      rw [show called (p, q) 85 = (p - q, q) from rfl, ih]
      congr 1
      rw [Int.natCast_add, Int.add_mul, Int.natCast_one, Int.one_mul]
      omega
  unfold rn
  by_cases c : b < 0
  · rw [if_pos c, dn, Int.toNat_of_nonneg (by omega)]
    congr 1
    rw [Int.neg_mul]
    omega
  · rw [if_neg c, up, Int.toNat_of_nonneg (by omega)]
theorem num_bs : ∀ (n : Nat) (p q : Int), 0 < q → Int.gcd p q = 1 → q ≤ n → run (0, 1) (joinL [82] ((bs p q).map rn)) = (p, q)
  | 0, p, q, h, _, hn => by omega
  | n + 1, p, q, h, g, hn => by
    by_cases c : q = 1
    · subst c
      rw [bs_one]
      show run (0, 1) (rn p) = (p, 1)
      rw [run_rn]
      simp
    · have hq : 1 < q := by omega
      have l := nx_lt hq g
      rw [bs_step hq g, List.map_append, List.map_singleton, joinL_snoc [82] _ (fun z => bs_ne (List.map_eq_nil_iff.mp z)), run_app, num_bs n q (nx p q) (nx_pos h) (by rw [nx_gcd]; exact g) (by omega), run_app]
      show run (called (q, nx p q) 82) _ = _
      have e : called (q, nx p q) 82 = (0 - nx p q, q) := by
        unfold called
        rw [if_neg (by decide), if_neg (by decide), if_pos (show 0 < (q, nx p q).1 from h)]
      rw [e, run_rn]
      congr 1
      unfold nx
      omega
theorem num_stv {v : Int × Int} (h : Good v) : run (0, 1) (stv v) = v := by
  obtain ⟨p, q⟩ := v
  obtain ⟨h1, h2⟩ := h
  unfold stv
  by_cases c : q = 0
  · rcases h1 with h1 | h1
    · have : (0 : Int) < q := h1
      omega
    · cases h1
      rfl
  · rw [if_neg (show ¬ (p, q).2 = 0 from c)]
    have h0 : 0 < q := by
      rcases h1 with h1 | h1
      · exact h1
      · cases h1; exact absurd rfl c
    exact num_bs q.toNat p q h0 h2 (by omega)
theorem rn_len (b : Int) : (rn b).length = b.natAbs := by
  unfold rn
  split
  · rw [List.length_replicate]; omega
  · rw [List.length_replicate]; omega
theorem one_le_div {p q : Int} (h : 0 < q) (hp : q ≤ p) : 1 ≤ p / q := Int.le_ediv_of_mul_le h (by omega)
theorem len_in : ∀ (n : Nat) (p q : Int), 0 < q → q < p → Int.gcd p q = 1 → q ≤ n → ((joinL [82] ((bs p q).map rn)).length : Int) ≤ 3 * p
  | 0, p, q, h, _, _, hn => by omega
  | n + 1, p, q, h, hp, g, hn => by
    by_cases c : q = 1
    · subst c
      rw [bs_one]
      show ((rn p).length : Int) ≤ _
      rw [rn_len]
      omega
    · have hq : 1 < q := by omega
      have l := nx_lt hq g
      have l0 := nx_pos (p := p) h
      have ih := len_in n q (nx p q) l0 l (by rw [nx_gcd]; exact g) (by omega)
      rw [bs_step hq g, List.map_append, List.map_singleton, joinL_snoc [82] _ (fun z => bs_ne (List.map_eq_nil_iff.mp z)), List.length_append, List.length_append, rn_len]
      have e := Int.mul_ediv_add_emod p q
      have r0 := Int.emod_lt_of_pos p h
      rw [nx_eq] at l0 l
      have a1 : 1 ≤ p / q := one_le_div h (by omega)
      have m : (p / q - 1) * 1 ≤ (p / q - 1) * q := Int.mul_le_mul_of_nonneg_left (by omega) (by omega)
      have m2 : (p / q - 1) * q = q * (p / q) - q := by rw [Int.sub_mul, Int.one_mul, Int.mul_comm]
      rw [m2, Int.mul_one] at m
      show ((_ + ([82].length + (p / q + 1).natAbs) : Nat) : Int) ≤ _
      have : ([82] : List Nat).length = 1 := rfl
      omega
theorem ediv_abs {p q : Int} (h : 0 < q) : (p / q + 1).natAbs ≤ p.natAbs + 1 := by
  have e := Int.mul_ediv_add_emod p q
  have r0 := Int.emod_lt_of_pos p h
  have r1 := Int.emod_nonneg p (show q ≠ 0 by omega)
  have a := Int.natAbs_ediv_le_natAbs p q.toNat
  rw [Int.toNat_of_nonneg (by omega)] at a
  omega
theorem len_out {p q : Int} (h : 0 < q) (g : Int.gcd p q = 1) : ((joinL [82] ((bs p q).map rn)).length : Int) ≤ p.natAbs + 3 * q + 2 := by
  by_cases c : q = 1
  · subst c
    rw [bs_one]
    show ((rn p).length : Int) ≤ _
    rw [rn_len]
    omega
  · have hq : 1 < q := by omega
    have l := nx_lt hq g
    have l0 := nx_pos (p := p) h
    have ih := len_in q.toNat q (nx p q) l0 l (by rw [nx_gcd]; exact g) (by omega)
    rw [bs_step hq g, List.map_append, List.map_singleton, joinL_snoc [82] _ (fun z => bs_ne (List.map_eq_nil_iff.mp z)), List.length_append, List.length_append, rn_len]
    have := ediv_abs (p := p) h
    have : ([82] : List Nat).length = 1 := rfl
    omega
/-- the runs but the last one -/
theorem bs_two : ∀ (n : Nat) (p q : Int), 0 < q → q < p → Int.gcd p q = 1 → q ≤ n → ∀ b ∈ bs p q, 2 ≤ b
  | 0, p, q, h, _, _, hn => by omega
  | n + 1, p, q, h, hp, g, hn => by
    intro b hb
    by_cases c : q = 1
    · subst c
      rw [bs_one] at hb
      rw [List.mem_singleton.mp hb]
      omega
    · have hq : 1 < q := by omega
      have l := nx_lt hq g
      rw [bs_step hq g] at hb
      rcases List.mem_append.mp hb with hb | hb
      · exact bs_two n q (nx p q) (nx_pos h) l (by rw [nx_gcd]; exact g) (by omega) b hb
      · rw [List.mem_singleton.mp hb]
        have := one_le_div h (show q ≤ p by omega)
        omega
theorem bs_front {p q : Int} (h : 0 < q) (g : Int.gcd p q = 1) : ∀ b ∈ (bs p q).dropLast, 2 ≤ b := by
  intro b hb
  by_cases c : q = 1
  · subst c
    rw [bs_one] at hb
    cases hb
  · have hq : 1 < q := by omega
    rw [bs_step hq g, List.dropLast_concat] at hb
    exact bs_two q.toNat q (nx p q) (nx_pos h) (nx_lt hq g) (by rw [nx_gcd]; exact g) (by have := nx_lt hq g; omega) b hb
/-! ### how great a dance's number is -/
def Grow (n : Nat) (v : Int × Int) : Prop := ∃ k B : Nat, B ^ 3 * 3 ^ k ≤ 3 ^ n ∧ v.2.natAbs ≤ B ∧ v.1.natAbs ≤ (k + 1) * B
theorem cube_three : ∀ k : Nat, (k + 1) ^ 3 ≤ 3 ^ (k + 1)
  | 0 => by decide
  | 1 => by decide
  | 2 => by decide
  | k + 3 => by
    have ih := cube_three (k + 2)
    have e : (3 : Nat) ^ (k + 3 + 1) = 3 * 3 ^ (k + 2 + 1) := by rw [show k + 3 + 1 = (k + 2 + 1) + 1 from rfl, Nat.pow_succ (n := 3) (m := k + 2 + 1), Nat.mul_comm]
    rw [e]
    have h : (k + 3 + 1) ^ 3 ≤ 3 * (k + 2 + 1) ^ 3 := by
      have h1 : (3 * (k + 3 + 1)) ^ 3 ≤ (4 * (k + 2 + 1)) ^ 3 := Nat.pow_le_pow_left (by omega) 3
      rw [Nat.mul_pow, Nat.mul_pow] at h1
      omega
    exact Nat.le_trans h (Nat.mul_le_mul_left 3 ih)
theorem Grow.called {n : Nat} {v : Int × Int} (h : Grow n v) (c : Nat) : Grow (n + 1) (called v c) := by
  obtain ⟨k, B, hb, h2, h1⟩ := h
  have up : B ^ 3 * 3 ^ (k + 1) ≤ 3 ^ (n + 1) := by
    rw [Nat.pow_succ (m := k), Nat.pow_succ (m := n), ← Nat.mul_assoc]
    exact Nat.mul_le_mul_right 3 hb
  have e : (k + 1 + 1) * B = (k + 1) * B + B := by rw [Nat.add_mul (k + 1) 1 B, Nat.one_mul]
  unfold Rope.called
  by_cases c1 : c = 84
  · rw [if_pos c1]
    exact ⟨k + 1, B, up, h2, by rw [e]; show (v.1 + v.2).natAbs ≤ _; omega⟩
  rw [if_neg c1]
  by_cases c2 : c = 85
  · rw [if_pos c2]
    exact ⟨k + 1, B, up, h2, by rw [e]; show (v.1 - v.2).natAbs ≤ _; omega⟩
  rw [if_neg c2]
  have turn : ((k + 1) * B) ^ 3 * 3 ^ 0 ≤ 3 ^ (n + 1) := by
    rw [Nat.pow_zero, Nat.mul_one, Nat.mul_pow]
    exact Nat.le_trans (Nat.mul_le_mul_right _ (cube_three k)) (by rw [Nat.mul_comm]; exact up)
  have hBk : B ≤ (k + 1) * B := by rw [Nat.add_mul, Nat.one_mul]; omega
  by_cases c3 : 0 < v.1
  · rw [if_pos c3]
    exact ⟨0, (k + 1) * B, turn, h1, by show (0 - v.2).natAbs ≤ _; omega⟩
  rw [if_neg c3]
  by_cases c4 : v.1 < 0
  · rw [if_pos c4]
    exact ⟨0, (k + 1) * B, turn, by show (0 - v.1).natAbs ≤ _; omega, by show v.2.natAbs ≤ _; omega⟩
  rw [if_neg c4]
  refine ⟨0, 1, ?_, by show (0 : Int).natAbs ≤ 1; decide, by show (1 : Int).natAbs ≤ (0 + 1) * 1; decide⟩
  exact Nat.pow_pos (by decide)
theorem grow_run : ∀ (l : List Nat) {n : Nat} {v : Int × Int}, Grow n v → Grow (n + l.length) (run v l)
  | [], n, v, h => h
  | c :: r, n, v, h => by
    have := grow_run r (h.called c)
    rw [List.length_cons]
    rw [show n + (r.length + 1) = n + 1 + r.length by omega]
    exact this
theorem grow_cube {n : Nat} {v : Int × Int} (h : Grow n v) : v.1.natAbs ^ 3 ≤ 3 ^ (n + 1) ∧ v.2.natAbs ^ 3 ≤ 3 ^ (n + 1) := by
  obtain ⟨k, B, hb, h2, h1⟩ := h
  have up : B ^ 3 * 3 ^ (k + 1) ≤ 3 ^ (n + 1) := by
    rw [Nat.pow_succ (m := k), Nat.pow_succ (m := n), ← Nat.mul_assoc]
    exact Nat.mul_le_mul_right 3 hb
  have turn : ((k + 1) * B) ^ 3 ≤ 3 ^ (n + 1) := by
    rw [Nat.mul_pow]
    exact Nat.le_trans (Nat.mul_le_mul_right _ (cube_three k)) (by rw [Nat.mul_comm]; exact up)
  have hBk : B ≤ (k + 1) * B := by rw [Nat.add_mul, Nat.one_mul]; omega
  exact ⟨Nat.le_trans (Nat.pow_le_pow_left h1 3) turn, Nat.le_trans (Nat.pow_le_pow_left (Nat.le_trans h2 hBk) 3) turn⟩
/-- small enough to be written out -/
structure Sv (v : Int × Int) : Prop where
  good : Good v
  s1 : v.1.natAbs ≤ 3400000
  s2 : v.2.natAbs ≤ 3400000
theorem cube_small {x : Nat} (h : x ^ 3 ≤ 3 ^ 41) : x ≤ 3400000 := by
  by_cases c : x ≤ 3400000
  · exact c
  · have : (3400001 : Nat) ^ 3 ≤ x ^ 3 := Nat.pow_le_pow_left (by omega) 3
    have e : ¬ (3400001 : Nat) ^ 3 ≤ 3 ^ 41 := by decide +kernel
    exact absurd (Nat.le_trans this h) e
theorem sv_run {l : List Nat} (h : (l.length : Int) ≤ 40) : Sv (run (0, 1) l) := by
  have g := grow_run l (n := 0) (v := (0, 1)) ⟨0, 1, by decide, by decide, by decide⟩
  have q := grow_cube g
  have e : (3 : Nat) ^ (0 + l.length + 1) ≤ 3 ^ 41 := Nat.pow_le_pow_right (by decide) (by omega)
  exact ⟨good_run l Good.zero, cube_small (Nat.le_trans q.1 e), cube_small (Nat.le_trans q.2 e)⟩
theorem stv_len {v : Int × Int} (h : Sv v) : (stv v).length ≤ 14000000 := by
  obtain ⟨p, q⟩ := v
  obtain ⟨⟨h1, h2⟩, s1, s2⟩ := h
  unfold stv
  by_cases c : q = 0
  · rw [if_pos (show (p, q).2 = 0 from c)]
    decide
  · rw [if_neg (show ¬ (p, q).2 = 0 from c)]
    have h0 : 0 < q := by
      rcases h1 with h1 | h1
      · exact h1
      · cases h1; exact absurd rfl c
    have := len_out h0 h2
    simp only at s1 s2 this ⊢
    omega
theorem tl_S (l : List Nat) : tl (S l) = l := S_list l
theorem join_S (xs : List (List Nat)) : Txt.join (S [82]) (xs.map S) = S (joinL [82] xs) := by
  have e := tl_join (S [82]) (xs.map S)
  rw [← join_eq, List.map_map] at e
  have e2 : (tl ∘ S) = id := by funext l; exact tl_S l
  rw [e2, List.map_id, tl_S] at e
  exact (S_eta (Txt.join (S [82]) (xs.map S))).symm.trans (congrArg S e)
theorem sum_S (xs : List (List Nat)) : ((xs.map S).map (·.length)).sum = (xs.map List.length).sum := by
  rw [List.map_map]
  congr 1
theorem le_sum {x : Nat} : ∀ {l : List Nat}, x ∈ l → x ≤ l.sum
  | [], h => by cases h
  | y :: r, h => by
    rw [List.sum_cons]
    rcases List.mem_cons.mp h with rfl | h
    · omega
    · have := le_sum h
      omega
theorem joinL_len : ∀ (xs : List (List Nat)), xs ≠ [] → (joinL [82] xs).length + 1 = (xs.map List.length).sum + xs.length
  | [], h => absurd rfl h
  | [x], _ => by simp [joinL]
  | x :: y :: r, _ => by
    have := joinL_len (y :: r) (by simp)
    show (x ++ ([82] ++ joinL [82] (y :: r))).length + 1 = _
    rw [List.length_append, List.length_append, List.map_cons, List.sum_cons, List.length_cons]
    show x.length + (1 + _) + 1 = x.length + _ + (_ + 1)
    omega
def spRun : Sp := fun vs H Q _ => ∃ b : Int, vs = [.int b] ∧ b.natAbs ≤ 16000000 ∧ Q (.str (S (rn b))) H
def spStd : Sp := fun vs H Q _ => ∃ (t : Addr) (v : Int × Int), vs = [.ref t] ∧ Tup2 H t v ∧ Sv v ∧ ∀ H', Same H H' → Q (.str (S (stv v))) H'
theorem rn_up {b : Int} (h : 0 ≤ b) : (List.replicate b.toNat [84]).flatten = rn b := by
  unfold rn
  rw [if_neg (by omega)]
  induction b.toNat with
  | zero => rfl
  | succ n ih => rw [List.replicate_succ, List.flatten_cons, ih, List.replicate_succ]; rfl
theorem rn_dn {b : Int} (h : b < 0) : (List.replicate (-b).toNat [85]).flatten = rn b := by
  unfold rn
  rw [if_pos h]
  induction (-b).toNat with
  | zero => rfl
  | succ n ih => rw [List.replicate_succ, List.flatten_cons, ih, List.replicate_succ]; rfl
theorem fdiv_pos {p q : Int} (h : 0 < q) : p.fdiv q = p / q := Int.fdiv_eq_ediv_of_nonneg p (by omega)
def spNum : Sp := fun vs H Q _ => ∃ l : List Nat, vs = [.str (S l)] ∧ ∀ t' H', Same H H' → Tup2 H' t' (run (0, 1) l) → Q (.ref t') H'
theorem cut_last (xs : List V) : cutV xs none (some (-1)) = xs.dropLast := by
  unfold cutV
  rw [HT.sIx_none, List.drop_zero, Nat.sub_zero, List.dropLast_eq_take]
  congr 1
  unfold HT.sIx
  show (if (-1 : Int) < 0 then ((-1 : Int) + (xs.length : Int)).toNat else _) = _
  rw [if_pos (by decide)]
  omega
theorem sv_div {p q : Int} (hp : p.natAbs ≤ 400) (hq : q.natAbs ≤ 400) (h0 : 0 < q) : Sv (p / (Int.gcd p q : Int), q / (Int.gcd p q : Int)) := by
  have g0 : 0 < Int.gcd p q := Int.gcd_pos_of_ne_zero_right p (by omega)
  have a : ∀ (x : Int) (g : Nat), (x / (g : Int)).natAbs ≤ x.natAbs := fun x g => Int.natAbs_ediv_le_natAbs x g
  refine ⟨⟨.inl ?_, Int.gcd_ediv_gcd_ediv_gcd g0⟩, Nat.le_trans (a p _) (by omega), Nat.le_trans (a q _) (by omega)⟩
  exact Int.ediv_pos_of_pos_of_dvd h0 (by omega) (Int.gcd_dvd_right _ _)
theorem sv_chain {n : Int} (h0 : 2 ≤ n) (h1 : n ≤ 1000) : Sv (n, n - 1) := by
  refine ⟨⟨.inl (by show 0 < n - 1; omega), ?_⟩, by show n.natAbs ≤ _; omega, by show (n - 1).natAbs ≤ _; omega⟩
  show Int.gcd n (n - 1) = 1
  have := gcd_add' 1 (n - 1)
  rw [show 1 + (n - 1) = n by omega, Int.one_gcd] at this
  exact this
def Vi (H : Hp) (y : V) : Prop := ∃ (t : Addr) (v : Int × Int), y = .ref t ∧ Tup2 H t v ∧ Sv v
theorem Vi.same {H H' : Hp} {y : V} (h : Vi H y) (s : Same H H') : Vi H' y := by
  obtain ⟨t, v, e, a, b⟩ := h
  exact ⟨t, v, e, a.same s, b⟩
theorem rn_no (b : Int) : 82 ∉ rn b := by
  unfold rn
  intro h
  split at h
  · have := (List.mem_replicate.mp h).2; omega
  · have := (List.mem_replicate.mp h).2; omega
theorem rn_T {b : Int} (h : 0 ≤ b) : (List.replicate (rn b).length [84]).flatten = rn b := by
  rw [rn_len, show b.natAbs = b.toNat by omega]
  exact rn_up h
theorem tup2_is {H : Hp} {n : Nat} {t : Addr} {v : Int × Int} (h : Tup2 H t v) : Is H (n + 1) (.ref t) (.tup [.int v.1, .int v.2]) :=
  is_tup h rfl (by show 2 ≤ 1000000; decide) fun i x d hx hd => by
    match i with
    | 0 => cases hx; cases hd; exact int_is
    | 1 => cases hx; cases hd; exact int_is
    | i + 2 => cases hx
def spSmall : Sp := fun vs H Q _ => ∃ (a : Addr), vs = [.ref a] ∧ Tape H a ∧ ∀ (t : Addr) (v : Int × Int) H', Sv v → But a H H' → Tape H' a → Tup2 H' t v → Q (.ref t) H'
end
section
open TL (joinL)
/-! ### the runs of the first least dance -/
def swc (c : Nat) : Nat := if c = 84 then 85 else 84
def al : Nat → List Nat → List (Nat × Nat)
  | _, [] => []
  | c, a :: r => (c, a) :: al (swc c) r
theorem al_len : ∀ (c : Nat) (qs : List Nat), (al c qs).length = qs.length
  | _, [] => rfl
  | c, a :: r => by
    show (al (swc c) r).length + 1 = r.length + 1
    rw [al_len (swc c) r]
theorem swc_swc {c : Nat} (h : c = 84 ∨ c = 85) : swc (swc c) = c := by rcases h with rfl | rfl <;> rfl
theorem swc_or {c : Nat} (h : c = 84 ∨ c = 85) : swc c = 84 ∨ swc c = 85 := by rcases h with rfl | rfl <;> decide
theorem al_get : ∀ (qs : List Nat) (c k : Nat), c = 84 ∨ c = 85 → (al c qs)[k]? = qs[k]?.map fun a => (if k % 2 = 0 then c else swc c, a)
  | [], c, k, _ => by simp [al]
  | a :: r, c, 0, _ => rfl
  | a :: r, c, k + 1, h => by
    show (al (swc c) r)[k]? = r[k]?.map _
    rw [al_get r (swc c) k (swc_or h)]
    have e : (if k % 2 = 0 then swc c else swc (swc c)) = if (k + 1) % 2 = 0 then c else swc c := by
      rw [swc_swc h]
      by_cases p : k % 2 = 0
      · rw [if_pos p, if_neg (by omega)]
      · rw [if_neg p, if_pos (by omega)]
    rw [e]
theorem al_or : ∀ (qs : List Nat) (c : Nat), c = 84 ∨ c = 85 → ∀ p ∈ al c qs, p.1 = 84 ∨ p.1 = 85
  | [], _, _, p, hp => by cases hp
  | a :: r, c, h, p, hp => by
    rcases List.mem_cons.mp hp with rfl | hp
    · exact h
    · exact al_or r (swc c) (swc_or h) p hp
def wd (p : Nat × Nat) : List Nat := List.replicate p.2 p.1
/-- the dance that the runs make -/
def dr (c : Nat) (qs : List Nat) : List Nat := joinL [82] ((al c qs).reverse.map wd)
theorem dr_one (c a : Nat) : dr c [a] = List.replicate a c := rfl
theorem dr_cons (c a : Nat) {r : List Nat} (h : r ≠ []) : dr c (a :: r) = dr (swc c) r ++ ([82] ++ List.replicate a c) := by
  unfold dr
  show joinL [82] (((c, a) :: al (swc c) r).reverse.map wd) = _
  rw [List.reverse_cons, List.map_append, List.map_singleton, joinL_snoc [82] _ (fun z => ?_)]
  · rfl
  · have e := congrArg List.length z
    rw [List.length_map, List.length_reverse, al_len] at e
    exact h (List.length_eq_zero_iff.mp e)
theorem dr_lets : ∀ (qs : List Nat) (c : Nat), c = 84 ∨ c = 85 → Lets (dr c qs)
  | [], _, _ => fun x hx => by cases hx
  | a :: [], c, h => fun x hx => by
    rw [List.eq_of_mem_replicate hx]
    omega
  | a :: b :: r, c, h => fun x hx => by
    rw [dr_cons c a (by simp)] at hx
    rcases List.mem_append.mp hx with hx | hx
    · exact dr_lets (b :: r) (swc c) (swc_or h) x hx
    · rcases List.mem_append.mp hx with hx | hx
      · exact .inr (.inr (List.mem_singleton.mp hx))
      · rw [List.eq_of_mem_replicate hx]
        omega
theorem dr_len : ∀ (qs : List Nat) (c : Nat), qs ≠ [] → (dr c qs).length + 1 = qs.sum + qs.length
  | [], _, h => absurd rfl h
  | a :: [], c, _ => by
    rw [dr_one, List.length_replicate]
    simp
  | a :: b :: r, c, _ => by
    have ih := dr_len (b :: r) (swc c) (by simp)
    rw [dr_cons c a (by simp)]
    simp only [List.length_append, List.length_replicate, List.sum_cons, List.length_cons, List.length_nil] at *
    omega
theorem QL_ne {p q : Nat} (h : 0 < q) : QL p q ≠ [] := by rw [QL_step h]; exact List.cons_ne_nil _ _
theorem run_rep84 : ∀ (a : Nat) (p q : Int), run (p, q) (List.replicate a 84) = (p + a * q, q)
  | 0, p, q => by rw [List.replicate_zero, run_nil]; simp
  | a + 1, p, q => by
    rw [List.replicate_succ]
    show run (p + q, q) _ = _
    rw [run_rep84 a (p + q) q]
    have : p + q + (a : Int) * q = p + ((a + 1 : Nat) : Int) * q := by
      rw [Int.natCast_add, Int.add_mul]
      omega
    rw [this]
theorem run_rep85 : ∀ (a : Nat) (p q : Int), run (p, q) (List.replicate a 85) = (p - a * q, q)
  | 0, p, q => by rw [List.replicate_zero, run_nil]; simp
  | a + 1, p, q => by
    rw [List.replicate_succ]
    show run (p - q, q) _ = _
    rw [run_rep85 a (p - q) q]
    have : p - q - (a : Int) * q = p - ((a + 1 : Nat) : Int) * q := by
      rw [Int.natCast_add, Int.add_mul]
      omega
    rw [this]
theorem run_dr : ∀ (n p q : Nat), q ≤ n → 0 < q → Nat.gcd p q = 1 → run (0, 1) (dr 84 (QL p q)) = ((p : Int), (q : Int)) ∧ run (0, 1) (dr 85 (QL p q)) = (-(p : Int), (q : Int))
  | 0, p, q, h, h0, _ => by omega
  | n + 1, p, q, h, h0, g => by
    rw [QL_step h0]
    by_cases r0 : 0 < p % q
    · have g2 : Nat.gcd q (p % q) = 1 := by
        rw [← g, Nat.gcd_comm p q, Nat.gcd_rec q p, Nat.gcd_comm]
      have ih := run_dr n q (p % q) (by have := Nat.mod_lt p h0; omega) r0 g2
      have dm : (p : Int) = ((p % q : Nat) : Int) + ((p / q : Nat) : Int) * (q : Int) := by
        have := Nat.mod_add_div p q
        rw [Nat.mul_comm] at this
        exact_mod_cast this.symm
      have rp : (0 : Int) < ((p % q : Nat) : Int) := by omega
      have qp : (0 : Int) < (q : Int) := by omega
      rw [dr_cons 84 _ (QL_ne r0), dr_cons 85 _ (QL_ne r0), show swc 84 = 85 from rfl, show swc 85 = 84 from rfl, run_app, run_app, run_app, run_app, ih.1, ih.2]
      have e1 : run (-(q : Int), ((p % q : Nat) : Int)) [82] = (((p % q : Nat) : Int), (q : Int)) := by
        show called (-(q : Int), ((p % q : Nat) : Int)) 82 = _
        unfold called
        rw [if_neg (by decide), if_neg (by decide), if_neg (show ¬ (0 : Int) < -(q : Int) by omega), if_pos (show -(q : Int) < 0 by omega)]
        show (((p % q : Nat) : Int), 0 - -(q : Int)) = _
        rw [show 0 - -(q : Int) = (q : Int) by omega]
      have e2 : run ((q : Int), ((p % q : Nat) : Int)) [82] = (-((p % q : Nat) : Int), (q : Int)) := by
        show called ((q : Int), ((p % q : Nat) : Int)) 82 = _
        unfold called
        rw [if_neg (by decide), if_neg (by decide), if_pos (show (0 : Int) < (q : Int) by omega)]
        show (0 - ((p % q : Nat) : Int), (q : Int)) = _
        rw [Int.zero_sub]
      rw [e1, e2, run_rep84, run_rep85, ← dm]
      refine ⟨rfl, ?_⟩
      have : -((p % q : Nat) : Int) - ((p / q : Nat) : Int) * (q : Int) = -(p : Int) := by omega
      rw [this]
    · have e0 : p % q = 0 := by omega
      have eg : Nat.gcd p q = q := by rw [Nat.gcd_comm, Nat.gcd_rec, e0, Nat.gcd_zero_left]
      have q1 : q = 1 := by omega
      subst q1
      rw [e0, QL_zero, dr_one, dr_one, run_rep84, run_rep85]
      rw [Nat.div_one]
      exact ⟨by simp, by simp⟩
/-- the letter of the first quotient -/
def fl (v : Int × Int) : Nat := if v.1 < 0 then 85 else 84
theorem fl_or (v : Int × Int) : fl v = 84 ∨ fl v = 85 := by
  unfold fl
  split
  · exact .inr rfl
  · exact .inl rfl
/-- the first least dance -/
def dl (v : Int × Int) : List Nat := dr (fl v) (quo v)
theorem run_dl {v : Int × Int} (g : Good v) : run (0, 1) (dl v) = v := by
  obtain ⟨p, q⟩ := v
  rcases g.1 with h | h
  · have h0 : 0 < q := h
    have eq0 : quo (p, q) = QL p.natAbs q.natAbs := if_neg (show ¬ q = 0 by omega)
    have := run_dr q.natAbs p.natAbs q.natAbs (Nat.le_refl _) (by omega) g.2
    unfold dl
    rw [eq0]
    unfold fl
    by_cases c : p < 0
    · rw [if_pos (show (p, q).1 < 0 from c), this.2]
      rw [show -((p.natAbs : Nat) : Int) = p by omega, show ((q.natAbs : Nat) : Int) = q by omega]
    · rw [if_neg (show ¬ (p, q).1 < 0 from c), this.1]
      rw [show ((p.natAbs : Nat) : Int) = p by omega, show ((q.natAbs : Nat) : Int) = q by omega]
  · rw [h]
    rfl
theorem quo_ne {v : Int × Int} (g : Good v) : quo v ≠ [] := by
  unfold quo
  split
  · simp
  · rename_i hne
    refine QL_ne ?_
    rcases g.1 with h | h
    · omega
    · rw [h] at hne; exact absurd rfl hne
theorem len_dl {v : Int × Int} (g : Good v) : (dl v).length = stp v := by
  have h1 := dr_len (quo v) (fl v) (quo_ne g)
  have h2 := quo_stp g
  unfold dl
  omega
theorem lets_dl (v : Int × Int) : Lets (dl v) := dr_lets _ _ (fl_or v)
/-- a list of runs in the heap -/
def Rn (H : Hp) (p : Addr) (ps : List (Nat × Nat)) : Prop := ∃ ts : List Addr, H p = some (.lst (ts.map V.ref)) ∧ ts.length = ps.length ∧ ∀ (i : Nat) (t : Addr) (r : Nat × Nat), ts[i]? = some t → ps[i]? = some r → H t = some (.tup [.str (S [r.1]), .int (r.2 : Int)])
theorem Rn.same {H H' : Hp} {p : Addr} {ps : List (Nat × Nat)} (h : Rn H p ps) (s : Same H H') : Rn H' p ps := by
  obtain ⟨ts, h1, h2, h3⟩ := h
  exact ⟨ts, s _ _ h1, h2, fun i t r ht hr => s _ _ (h3 i t r ht hr)⟩
end
section
open TL (joinL)
/-! ### the least dances, by their ranks -/
/-- in how many ways it goes on behind the first of these runs -/
def wy : List Nat → Nat
  | _ :: n1 :: n2 :: r => wy (n1 :: n2 :: r) + (if n1 = 1 then wy (n2 :: r) else 0)
  | _ => 1
theorem wy_three (n0 n1 n2 : Nat) (r : List Nat) : wy (n0 :: n1 :: n2 :: r) = wy (n1 :: n2 :: r) + (if n1 = 1 then wy (n2 :: r) else 0) := by
  conv => lhs; unfold wy
theorem wy_two (n0 n1 : Nat) : wy [n0, n1] = 1 := rfl
theorem wy_one (n0 : Nat) : wy [n0] = 1 := rfl
theorem wy_pos : ∀ ns : List Nat, 1 ≤ wy ns
  | [] => Nat.le_refl _
  | [_] => Nat.le_refl _
  | [_, _] => Nat.le_refl _
  | n0 :: n1 :: n2 :: r => by
    have := wy_pos (n1 :: n2 :: r)
    rw [wy_three]
    omega
theorem wy_else {n0 n1 k : Nat} {r : List Nat} (h : k < wy (n0 :: n1 :: r)) (c : ¬ k < wy (n1 :: r)) : ∃ n2 r', r = n2 :: r' ∧ n1 = 1 ∧ k - wy (n1 :: r) < wy (n2 :: r') := by
  cases r with
  | nil =>
    rw [wy_two] at h
    rw [wy_one] at c
    exact absurd h c
  | cons n2 r' =>
    rw [wy_three] at h
    by_cases e : n1 = 1
    · rw [if_pos e] at h
      exact ⟨n2, r', rfl, e, by omega⟩
    · rw [if_neg e] at h
      omega
def ns_ (R : List (Nat × Nat)) : List Nat := R.map (·.2)
/-- the least dance of the rank k that these runs give -/
def ld : List (Nat × Nat) → Nat → List Nat
  | [], _ => []
  | [r], _ => wd r
  | r :: s :: R, k => wd r ++ (if k < wy (ns_ (s :: R)) then 82 :: ld (s :: R) k else r.1 :: 82 :: r.1 :: ld R (k - wy (ns_ (s :: R))))
theorem ld_two (r s : Nat × Nat) (R : List (Nat × Nat)) (k : Nat) : ld (r :: s :: R) k = wd r ++ (if k < wy (ns_ (s :: R)) then 82 :: ld (s :: R) k else r.1 :: 82 :: r.1 :: ld R (k - wy (ns_ (s :: R)))) := by
  conv => lhs; unfold ld
theorem ld_one (r : Nat × Nat) (k : Nat) : ld [r] k = wd r := rfl
/-- what stands behind the first run -/
def ldt : List (Nat × Nat) → Nat → List Nat
  | r :: s :: R, k => if k < wy (ns_ (s :: R)) then 82 :: ld (s :: R) k else r.1 :: 82 :: r.1 :: ld R (k - wy (ns_ (s :: R)))
  | _, _ => []
theorem ld_ldt (r : Nat × Nat) (R : List (Nat × Nat)) (k : Nat) : ld (r :: R) k = wd r ++ ldt (r :: R) k := by
  cases R with
  | nil => rw [ld_one]; exact (List.append_nil _).symm
  | cons s R => rw [ld_two]; rfl
theorem wd_len (r : Nat × Nat) : (wd r).length = r.2 := List.length_replicate
/-- as many letters as the runs have, and one between neighbours -/
theorem ld_len : ∀ (n : Nat) (R : List (Nat × Nat)) (k : Nat), R.length ≤ n → R ≠ [] → k < wy (ns_ R) → (ld R k).length + 1 = (ns_ R).sum + R.length
  | 0, [], _, _, h, _ => absurd rfl h
  | 0, _ :: _, _, h, _, _ => by simp at h
  | n + 1, [], _, _, h, _ => absurd rfl h
  | n + 1, [r], k, _, _, _ => by
    rw [ld_one, wd_len]
    simp [ns_]
  | n + 1, r :: s :: R, k, h, _, hk => by
    rw [ld_two, List.length_append, wd_len]
    by_cases c : k < wy (ns_ (s :: R))
    · rw [if_pos c]
      have ih := ld_len n (s :: R) k (by simp only [List.length_cons] at h ⊢; omega) (by simp) c
      have e : (ns_ (r :: s :: R)).sum = r.2 + (ns_ (s :: R)).sum := by simp [ns_]
      rw [e]
      simp only [List.length_cons] at ih ⊢
      omega
    · obtain ⟨n2, r', e1, e2, e3⟩ := wy_else (n0 := r.2) (n1 := s.2) (r := ns_ R) (k := k) hk c
      have hR : R ≠ [] := fun z => by rw [z] at e1; cases e1
      have ih := ld_len n R (k - wy (ns_ (s :: R))) (by simp only [List.length_cons] at h; omega) hR (by rw [e1]; exact e3)
      rw [if_neg c]
      have e : (ns_ (r :: s :: R)).sum = r.2 + (s.2 + (ns_ R).sum) := by simp [ns_]
      rw [e]
      simp only [List.length_cons] at ih ⊢
      omega
/-- neighbours have different letters, T or U -/
def Alt : List (Nat × Nat) → Prop
  | [] => True
  | [r] => r.1 = 84 ∨ r.1 = 85
  | r :: s :: R => (r.1 = 84 ∨ r.1 = 85) ∧ s.1 = swc r.1 ∧ Alt (s :: R)
theorem Alt.head {r : Nat × Nat} {R : List (Nat × Nat)} (h : Alt (r :: R)) : r.1 = 84 ∨ r.1 = 85 := by
  cases R with
  | nil => exact h
  | cons s R => exact h.1
theorem Alt.tail {r : Nat × Nat} {R : List (Nat × Nat)} (h : Alt (r :: R)) : Alt R := by
  cases R with
  | nil => exact trivial
  | cons s R => exact h.2.2
theorem gdL {v : Int × Int} (g : Good v) : 0 < v.2 ∨ (v.1 = 1 ∧ v.2 = 0) := by
  rcases g.1 with h | h
  · exact .inl h
  · rw [h]; exact .inr ⟨rfl, rfl⟩
theorem melt {v : Int × Int} (g : Good v) {c : Nat} (h : c = 84 ∨ c = 85) : run v [c, 82, c] = run v [82, swc c, 82] := by
  obtain ⟨p, q⟩ := v
  have hq := gdL g
  have g2 : Int.gcd p q = 1 := g.2
  have e82 : ∀ u : Int × Int, called u 82 = if 0 < u.1 then (0 - u.2, u.1) else if u.1 < 0 then (u.2, 0 - u.1) else (1, 0) := fun u => rfl
  have e84 : ∀ u : Int × Int, called u 84 = (u.1 + u.2, u.2) := fun u => rfl
  have e85 : ∀ u : Int × Int, called u 85 = (u.1 - u.2, u.2) := fun u => rfl
  have r3 : ∀ a b d, run (p, q) [a, b, d] = called (called (called (p, q) a) b) d := fun _ _ _ => rfl
  have zero : p = 0 → q = 1 := fun z => by
    rw [z, Int.gcd_zero_left] at g2
    rcases hq with k | ⟨k, _⟩
    · have k' : 0 < q := k
      omega
    · have k' : p = 1 := k
      omega
  have hq' : 0 < q ∨ (p = 1 ∧ q = 0) := hq
  have cases3 : ∀ s : Int, (s = 1 ∨ s = -1) → p + s * q = 0 → q = 1 := fun s hs z => by
    rcases hq' with k | ⟨k1, k2⟩
    · have : Int.gcd p q = q.natAbs := by
        rcases hs with rfl | rfl
        · rw [show p = -q by omega, Int.neg_gcd, Int.gcd_self]
        · rw [show p = q by omega, Int.gcd_self]
      omega
    · rw [k1, k2] at z
      omega
  rcases h with rfl | rfl
  · show run (p, q) [84, 82, 84] = run (p, q) [82, 85, 82]
    show called (called (p + q, q) 82) 84 = called (called (called (p, q) 82) 85) 82
    rw [e82 (p + q, q), e82 (p, q)]
    rcases Int.lt_trichotomy p 0 with c1 | c1 | c1
    · have q0 : 0 < q := by rcases hq' with k | ⟨k, _⟩ <;> omega
      rw [if_neg (show ¬ 0 < (p, q).1 by show ¬ 0 < p; omega), if_pos (show (p, q).1 < 0 from c1), e85, e82]
      show called (if 0 < p + q then (0 - q, p + q) else if p + q < 0 then (q, 0 - (p + q)) else (1, 0)) 84 = if 0 < q - (0 - p) then (0 - (0 - p), q - (0 - p)) else if q - (0 - p) < 0 then (0 - p, 0 - (q - (0 - p))) else (1, 0)
      rcases Int.lt_trichotomy (p + q) 0 with d | d | d
      · rw [if_neg (by omega), if_pos d, if_neg (by omega), if_pos (by omega), e84]
        exact Prod.ext (show q + (0 - (p + q)) = 0 - p by omega) (show 0 - (p + q) = 0 - (q - (0 - p)) by omega)
      · rw [if_neg (by omega), if_neg (by omega), if_neg (by omega), if_neg (by omega)]
        rfl
      · rw [if_pos d, if_pos (by omega), e84]
        exact Prod.ext (show 0 - q + (p + q) = 0 - (0 - p) by omega) (show p + q = q - (0 - p) by omega)
    · have q1 := zero c1
      subst c1 q1
      decide
    · rw [if_pos (show 0 < (p, q).1 from c1), e85, e82]
      show called (if 0 < p + q then (0 - q, p + q) else if p + q < 0 then (q, 0 - (p + q)) else (1, 0)) 84 = if 0 < 0 - q - p then (0 - p, 0 - q - p) else if 0 - q - p < 0 then (p, 0 - (0 - q - p)) else (1, 0)
      have q0 : 0 ≤ q := by rcases hq' with k | ⟨_, k⟩ <;> omega
      rw [if_pos (by omega), if_neg (by omega), if_pos (by omega), e84]
      exact Prod.ext (show 0 - q + (p + q) = p by omega) (show p + q = 0 - (0 - q - p) by omega)
  · show run (p, q) [85, 82, 85] = run (p, q) [82, 84, 82]
    show called (called (p - q, q) 82) 85 = called (called (called (p, q) 82) 84) 82
    rw [e82 (p - q, q), e82 (p, q)]
    rcases Int.lt_trichotomy p 0 with c1 | c1 | c1
    · have q0 : 0 < q := by rcases hq' with k | ⟨k, _⟩ <;> omega
      rw [if_neg (show ¬ 0 < (p, q).1 by show ¬ 0 < p; omega), if_pos (show (p, q).1 < 0 from c1), e84, e82]
      show called (if 0 < p - q then (0 - q, p - q) else if p - q < 0 then (q, 0 - (p - q)) else (1, 0)) 85 = if 0 < q + (0 - p) then (0 - (0 - p), q + (0 - p)) else if q + (0 - p) < 0 then (0 - p, 0 - (q + (0 - p))) else (1, 0)
      rw [if_neg (by omega), if_pos (by omega), if_pos (by omega), e85]
      exact Prod.ext (show q - (0 - (p - q)) = 0 - (0 - p) by omega) (show 0 - (p - q) = q + (0 - p) by omega)
    · have q1 := zero c1
      subst c1 q1
      decide
    · rw [if_pos (show 0 < (p, q).1 from c1), e84, e82]
      show called (if 0 < p - q then (0 - q, p - q) else if p - q < 0 then (q, 0 - (p - q)) else (1, 0)) 85 = if 0 < 0 - q + p then (0 - p, 0 - q + p) else if 0 - q + p < 0 then (p, 0 - (0 - q + p)) else (1, 0)
      rcases Int.lt_trichotomy (p - q) 0 with d | d | d
      · rw [if_neg (by omega), if_pos d, if_neg (by omega), if_pos (by omega), e85]
        exact Prod.ext (show q - (0 - (p - q)) = p by omega) (show 0 - (p - q) = 0 - (0 - q + p) by omega)
      · rw [if_neg (by omega), if_neg (by omega), if_neg (by omega), if_neg (by omega)]
        rcases hq' with k | ⟨k1, k2⟩
        · rfl
        · rfl
      · rw [if_pos d, if_pos (by omega), e85]
        exact Prod.ext (show 0 - q - (p - q) = 0 - p by omega) (show p - q = 0 - q + p by omega)
/-- each leads where the first one leads -/
theorem ld_run : ∀ (n : Nat) (R : List (Nat × Nat)) (k : Nat) {v : Int × Int}, R.length ≤ n → Good v → Alt R → k < wy (ns_ R) → run v (ld R k) = run v (ld R 0)
  | 0, [], _, _, _, _, _, _ => rfl
  | 0, _ :: _, _, _, h, _, _, _ => by simp at h
  | n + 1, [], _, _, _, _, _, _ => rfl
  | n + 1, [r], _, _, _, _, _, _ => rfl
  | n + 1, r :: s :: R, k, v, h, g, al, hk => by
    have g1 := good_run (wd r) g
    have w1 := wy_pos (ns_ (s :: R))
    rw [ld_two, ld_two, run_app, run_app, if_pos (show 0 < wy (ns_ (s :: R)) by omega)]
    generalize run v (wd r) = u at g1
    by_cases c : k < wy (ns_ (s :: R))
    · rw [if_pos c]
      show run (called u 82) (ld (s :: R) k) = run (called u 82) (ld (s :: R) 0)
      exact ld_run n (s :: R) k (by simp only [List.length_cons] at h ⊢; omega) (g1.called 82) al.tail c
    · obtain ⟨n2, r', e1, e2, e3⟩ := wy_else (n0 := r.2) (n1 := s.2) (r := ns_ R) (k := k) hk c
      obtain ⟨t, R', rfl⟩ : ∃ t R', R = t :: R' := by
        cases R with
        | nil => cases e1
        | cons t R' => exact ⟨t, R', rfl⟩
      rw [if_neg c]
      have gm := melt g1 al.head
      have e5 : run u (r.1 :: 82 :: r.1 :: ld (t :: R') (k - wy (ns_ (s :: t :: R')))) = run (run u [r.1, 82, r.1]) (ld (t :: R') (k - wy (ns_ (s :: t :: R')))) := rfl
      rw [e5, gm]
      have g3 := good_run [82, swc r.1, 82] g1
      rw [ld_run n (t :: R') _ (by simp only [List.length_cons] at h ⊢; omega) g3 al.tail.tail (by rw [e1]; exact e3)]
      rw [ld_two, if_pos (show 0 < wy (ns_ (t :: R')) by have := wy_pos (ns_ (t :: R')); omega)]
      have es : wd s = [swc r.1] := by
        unfold wd
        rw [e2, al.2.1]
        rfl
      rw [es]
      rfl
theorem ld_lets : ∀ (n : Nat) (R : List (Nat × Nat)) (k : Nat), R.length ≤ n → Alt R → Lets (ld R k)
  | 0, [], _, _, _ => fun c hc => by cases hc
  | 0, _ :: _, _, h, _ => by simp at h
  | n + 1, [], _, _, _ => fun c hc => by cases hc
  | n + 1, [r], _, _, al => fun c hc => by
    rw [ld_one] at hc
    rw [List.eq_of_mem_replicate hc]
    have := al.head
    omega
  | n + 1, r :: s :: R, k, h, al => by
    have hr := al.head
    rw [ld_two]
    have l1 : Lets (wd r) := fun c hc => by
      rw [List.eq_of_mem_replicate hc]
      omega
    have i1 := ld_lets n (s :: R) k (by simp only [List.length_cons] at h ⊢; omega) al.tail
    have i2 := ld_lets n R (k - wy (ns_ (s :: R))) (by simp only [List.length_cons] at h ⊢; omega) al.tail.tail
    intro c hc
    rcases List.mem_append.mp hc with hc | hc
    · exact l1 c hc
    · split at hc
      · rcases List.mem_cons.mp hc with rfl | hc
        · exact .inr (.inr rfl)
        · exact i1 c hc
      · simp only [List.mem_cons] at hc
        rcases hc with rfl | rfl | rfl | hc
        · omega
        · exact .inr (.inr rfl)
        · omega
        · exact i2 c hc
theorem joinL_cons2 (x y : List Nat) (r : List (List Nat)) : joinL [82] (x :: y :: r) = x ++ ([82] ++ joinL [82] (y :: r)) := rfl
theorem ld_zero : ∀ R : List (Nat × Nat), ld R 0 = joinL [82] (R.map wd)
  | [] => rfl
  | [_] => rfl
  | r :: s :: R => by
    have ih := ld_zero (s :: R)
    rw [ld_two, if_pos (show 0 < wy (ns_ (s :: R)) by have := wy_pos (ns_ (s :: R)); omega), ih]
    exact (joinL_cons2 _ _ _).symm
/-- the runs of the least dances of v, from the first to the last -/
def rl (v : Int × Int) : List (Nat × Nat) := (al (fl v) (quo v)).reverse
theorem rl_len (v : Int × Int) : (rl v).length = (quo v).length := by unfold rl; rw [List.length_reverse, al_len]
theorem al_snd : ∀ (qs : List Nat) (c : Nat), (al c qs).map (·.2) = qs
  | [], _ => rfl
  | a :: r, c => by
    show a :: (al (swc c) r).map (·.2) = a :: r
    rw [al_snd r (swc c)]
theorem ns_rl (v : Int × Int) : ns_ (rl v) = (quo v).reverse := by
  unfold ns_ rl
  rw [List.map_reverse, al_snd]
theorem alt_snoc : ∀ (R : List (Nat × Nat)) (r : Nat × Nat), Alt R → (r.1 = 84 ∨ r.1 = 85) → (∀ s, R.getLast? = some s → r.1 = swc s.1) → Alt (R ++ [r])
  | [], r, _, h, _ => h
  | [s], r, hs, h, k => ⟨hs, k s rfl, h⟩
  | s :: t :: R, r, hs, h, k => by
    refine ⟨hs.1, hs.2.1, ?_⟩
    exact alt_snoc (t :: R) r hs.2.2 h (fun u hu => k u (by rw [List.getLast?_cons_cons]; exact hu))
theorem alt_al : ∀ (qs : List Nat) (c : Nat), c = 84 ∨ c = 85 → Alt (al c qs).reverse
  | [], _, _ => trivial
  | a :: r, c, h => by
    show Alt (((c, a) :: al (swc c) r).reverse)
    rw [List.reverse_cons]
    refine alt_snoc _ _ (alt_al r (swc c) (swc_or h)) h (fun s hs => ?_)
    rw [List.getLast?_reverse] at hs
    cases r with
    | nil => cases hs
    | cons b r =>
      have e : s = (swc c, b) := (Option.some.inj hs).symm
      rw [e]
      exact (swc_swc h).symm
theorem alt_rl (v : Int × Int) : Alt (rl v) := alt_al _ _ (fl_or v)
theorem ld_rl_zero (v : Int × Int) : ld (rl v) 0 = dl v := ld_zero _
theorem rl_ne {v : Int × Int} (g : Good v) : rl v ≠ [] := fun z => by
  have := congrArg List.length z
  rw [rl_len] at this
  exact quo_ne g (List.length_eq_zero_iff.mp this)
theorem ld_rl_len {v : Int × Int} (g : Good v) {k : Nat} (h : k < wy (ns_ (rl v))) : (ld (rl v) k).length = stp v := by
  have a := ld_len _ (rl v) k (Nat.le_refl _) (rl_ne g) h
  have b := quo_stp g
  rw [ns_rl, List.sum_reverse, rl_len] at a
  omega
theorem ld_rl_run {v : Int × Int} (g : Good v) {k : Nat} (h : k < wy (ns_ (rl v))) : run (0, 1) (ld (rl v) k) = v := by
  rw [ld_run _ (rl v) k (Nat.le_refl _) Good.zero (alt_rl v) h, ld_rl_zero, run_dl g]
theorem ld_rl_lets (v : Int × Int) (k : Nat) : Lets (ld (rl v) k) := ld_lets _ _ _ (Nat.le_refl _) (alt_rl v)
/-- the list of the ways -/
def wys (ns : List Nat) : List Nat := (List.range ns.length).map fun i => wy (ns.drop i)
theorem wys_len (ns : List Nat) : (wys ns).length = ns.length := by unfold wys; rw [List.length_map, List.length_range]
theorem wys_at {ns : List Nat} {i : Nat} (h : i < ns.length) : (wys ns)[i]? = some (wy (ns.drop i)) := by
  unfold wys
  rw [List.getElem?_map, List.getElem?_range h]
  rfl
end
section
/-! ### the levels of the walk from 0 -/
def inv3 (c : Nat) : Nat := if c = 84 then 85 else if c = 85 then 84 else c
theorem called_inv {v : Int × Int} {c : Nat} (hv : Good v) (hc : c = 84 ∨ c = 85 ∨ c = 82) : called (called v c) (inv3 c) = v := by
  obtain ⟨p, q⟩ := v
  rcases hc with rfl | rfl | rfl
  · show (p + q - q, q) = (p, q)
    rw [Int.add_sub_cancel]
  · show (p - q + q, q) = (p, q)
    rw [Int.sub_add_cancel]
  · have e1 : ∀ u : Int × Int, called u 82 = if 0 < u.1 then (0 - u.2, u.1) else if u.1 < 0 then (u.2, 0 - u.1) else (1, 0) := fun u => rfl
    show called (called (p, q) 82) 82 = (p, q)
    have hq : 0 < q ∨ (p = 1 ∧ q = 0) := by
      rcases hv.1 with h | h
      · exact .inl h
      · cases h; exact .inr ⟨rfl, rfl⟩
    by_cases h1 : 0 < p
    · rw [e1 (p, q), if_pos (show 0 < (p, q).1 from h1), e1]
      rcases hq with hq | ⟨rfl, rfl⟩
      · rw [if_neg (show ¬ 0 < (0 - q, p).1 by show ¬ 0 < 0 - q; omega), if_pos (show (0 - q, p).1 < 0 by show 0 - q < 0; omega)]
        show (p, 0 - (0 - q)) = (p, q)
        rw [show 0 - (0 - q) = q by omega]
      · rfl
    · rw [e1 (p, q), if_neg (show ¬ 0 < (p, q).1 from h1)]
      by_cases h2 : p < 0
      · rw [if_pos (show (p, q).1 < 0 from h2), e1]
        have hq' : 0 < q := by rcases hq with hq | ⟨rfl, rfl⟩; exact hq; omega
        rw [if_pos (show 0 < (q, 0 - p).1 from hq')]
        show (0 - (0 - p), q) = (p, q)
        rw [show 0 - (0 - p) = p by omega]
      · have h3 : p = 0 := by omega
        subst h3
        have h2' : Int.gcd 0 q = 1 := hv.2
        rw [Int.gcd_zero_left] at h2'
        rcases hq with hq | ⟨h, _⟩
        · rw [show q = 1 by omega]; rfl
        · cases h
theorem inv3_mem {c : Nat} (hc : c = 84 ∨ c = 85 ∨ c = 82) : inv3 c = 82 ∨ inv3 c = 84 ∨ inv3 c = 85 := by
  rcases hc with rfl | rfl | rfl
  · exact .inr (.inr rfl)
  · exact .inr (.inl rfl)
  · exact .inl rfl
/-- each fraction but 0 is reached by a call from one with a step less -/
theorem stp_from {v : Int × Int} {n : Nat} (g : Good v) (e : stp v = n + 1) : ∃ (u : Int × Int) (c : Nat), (c = 82 ∨ c = 84 ∨ c = 85) ∧ Good u ∧ stp u = n ∧ called u c = v := by
  have ne : v ≠ (0, 1) := fun z => by rw [z, stp_zero] at e; cases e
  obtain ⟨c, hc, h⟩ := stp_down g ne
  exact ⟨called v c, inv3 c, inv3_mem hc, g.called c, by omega, called_inv g hc⟩
theorem stp_size : ∀ (n : Nat) (v : Int × Int), Good v → stp v = n → v.1.natAbs ≤ 2 ^ n ∧ v.2.natAbs ≤ 2 ^ n
  | 0, v, g, e => by
    rw [stp_eq_zero g e]
    exact ⟨by decide, by decide⟩
  | n + 1, v, g, e => by
    obtain ⟨u, c, _, gu, eu, rfl⟩ := stp_from g e
    have ih := stp_size n u gu eu
    have := called_size ih.1 ih.2 Nat.one_le_two_pow c
    rw [Nat.pow_succ']
    exact this
/-- a level: just the fractions of so many steps, each once -/
structure Lev (k : Nat) (L : List (Int × Int)) : Prop where
  mem : ∀ v, v ∈ L ↔ Good v ∧ stp v = k
  nd : L.Nodup
  len : L.length ≤ 4 ^ k
theorem lev_zero : Lev 0 [(0, 1)] := by
  refine ⟨fun v => ?_, by simp, by decide⟩
  rw [List.mem_singleton]
  constructor
  · rintro rfl; exact ⟨Good.zero, stp_zero⟩
  · rintro ⟨g, e⟩; exact stp_eq_zero g e
/-- what stands in the next level when the first i of L are done, and of the next one the letters before -/
structure Half (n : Nat) (L : List (Int × Int)) (i j : Nat) (M : List (Int × Int)) : Prop where
  mem : ∀ v ∈ M, Good v ∧ stp v = n + 1
  nd : M.Nodup
  len : M.length ≤ 3 * i + j
  done : ∀ (a : Nat) (u : Int × Int) (b c : Nat), L[a]? = some u → ([82, 84, 85] : List Nat)[b]? = some c → (a < i ∨ (a = i ∧ b < j)) → stp (called u c) = n + 1 → called u c ∈ M
theorem Half.start (n : Nat) (L : List (Int × Int)) : Half n L 0 0 [] := ⟨fun v h => by (cases h), by simp, by simp, fun a u b c _ _ h => by omega⟩
theorem Half.turn {n i : Nat} {L M : List (Int × Int)} (h : Half n L i 3 M) : Half n L (i + 1) 0 M := by
  refine ⟨h.mem, h.nd, by have := h.len; omega, fun a u b c ha hb hd e => h.done a u b c ha hb ?_ e⟩
  have : b < 3 := (List.getElem?_eq_some_iff.mp hb).1
  omega
theorem Half.old {n i j c : Nat} {L M : List (Int × Int)} {u : Int × Int} (h : Half n L i j M) (hu : L[i]? = some u) (hc : ([82, 84, 85] : List Nat)[j]? = some c) (k : stp (called u c) = n + 1 → called u c ∈ M) : Half n L i (j + 1) M := by
  refine ⟨h.mem, h.nd, by have := h.len; omega, fun a u' b c' ha hb hd e => ?_⟩
  by_cases z : a = i ∧ b = j
  · obtain ⟨rfl, rfl⟩ := z
    rw [hu] at ha
    rw [hc] at hb
    cases ha; cases hb
    exact k e
  · exact h.done a u' b c' ha hb (by omega) e
theorem Half.new {n i j c : Nat} {L M : List (Int × Int)} {u : Int × Int} (h : Half n L i j M) (hu : L[i]? = some u) (hc : ([82, 84, 85] : List Nat)[j]? = some c) (g : Good (called u c)) (e : stp (called u c) = n + 1) (no : called u c ∉ M) : Half n L i (j + 1) (M ++ [called u c]) := by
  refine ⟨fun v hv => ?_, ?_, by have := h.len; rw [List.length_append]; show _ + 1 ≤ _; omega, fun a u' b c' ha hb hd e' => ?_⟩
  · rcases List.mem_append.mp hv with hv | hv
    · exact h.mem v hv
    · rw [List.mem_singleton.mp hv]; exact ⟨g, e⟩
  · rw [List.nodup_append]
    refine ⟨h.nd, by simp, fun x hx y hy z => ?_⟩
    rw [List.mem_singleton.mp hy] at z
    exact no (z ▸ hx)
  · by_cases z : a = i ∧ b = j
    · obtain ⟨rfl, rfl⟩ := z
      rw [hu] at ha
      rw [hc] at hb
      cases ha; cases hb
      exact List.mem_append_right _ (List.mem_singleton.mpr rfl)
    · exact List.mem_append_left _ (h.done a u' b c' ha hb (by omega) e')
theorem Half.lev {n : Nat} {L M : List (Int × Int)} (l : Lev n L) (h : Half n L L.length 0 M) : Lev (n + 1) M := by
  refine ⟨fun v => ⟨h.mem v, fun ⟨g, e⟩ => ?_⟩, h.nd, ?_⟩
  · obtain ⟨u, c, hc, gu, eu, rfl⟩ := stp_from g e
    obtain ⟨a, ha⟩ := List.getElem?_of_mem ((l.mem u).mpr ⟨gu, eu⟩)
    obtain ⟨b, hb⟩ : ∃ b, ([82, 84, 85] : List Nat)[b]? = some c := by
      rcases hc with rfl | rfl | rfl
      · exact ⟨0, rfl⟩
      · exact ⟨1, rfl⟩
      · exact ⟨2, rfl⟩
    exact h.done a u b c ha hb (.inl (List.getElem?_eq_some_iff.mp ha).1) e
  · have := h.len
    have := l.len
    rw [Nat.pow_succ]
    omega
/-- the keys of the dict of all that is known -/
def kyv (v : Int × Int) : List Key := [Sum.inl v.1, Sum.inl v.2]
theorem kyv_inj {v u : Int × Int} (h : kyv v = kyv u) : v = u := by
  obtain ⟨a, b⟩ := v
  obtain ⟨c, d⟩ := u
  unfold kyv at h
  simp only [List.cons.injEq, Sum.inl.injEq, and_true] at h
  rw [h.1, h.2]
/-- known: all of at most n steps, and M -/
def Kn (n : Nat) (M : List (Int × Int)) (kvs : List (List Key × V)) : Prop := ∀ v, (valV kvs (kyv v)).isSome = true ↔ (Good v ∧ stp v ≤ n) ∨ v ∈ M
theorem kn_zero : Kn 0 [] [(kyv (0, 1), V.int 0)] := by
  intro v
  by_cases e : kyv (0, 1) = kyv v
  · rw [valV_pos e]
    have := kyv_inj e
    subst this
    exact ⟨fun _ => .inl ⟨Good.zero, Nat.le_of_eq stp_zero⟩, fun _ => rfl⟩
  · rw [valV_neg e, valV_nil]
    constructor
    · intro h; cases h
    · rintro (⟨g, h⟩ | h)
      · exact absurd (congrArg kyv (stp_eq_zero g (by omega)).symm) e
      · cases h
theorem Kn.new {n : Nat} {M : List (Int × Int)} {kvs : List (List Key × V)} (h : Kn n M kvs) (v : Int × Int) (y : V) : Kn n (M ++ [v]) (putK kvs (kyv v) y) := by
  intro u
  rw [valV_put]
  by_cases e : kyv u = kyv v
  · rw [if_pos e]
    have := kyv_inj e
    subst this
    exact ⟨fun _ => .inr (List.mem_append_right _ (List.mem_singleton.mpr rfl)), fun _ => rfl⟩
  · rw [if_neg e, h u, List.mem_append, List.mem_singleton]
    constructor
    · rintro (h | h)
      · exact .inl h
      · exact .inr (.inl h)
    · rintro (h | h | h)
      · exact .inl h
      · exact .inr h
      · exact absurd (congrArg kyv h) e
theorem Kn.next {n : Nat} {M : List (Int × Int)} {kvs : List (List Key × V)} (h : Kn n M kvs) (l : Lev (n + 1) M) : Kn (n + 1) [] kvs := by
  intro u
  rw [h u, l.mem u]
  constructor
  · rintro (⟨g, h⟩ | ⟨g, h⟩)
    · exact .inl ⟨g, by omega⟩
    · exact .inl ⟨g, by omega⟩
  · rintro (⟨g, h⟩ | h)
    · by_cases c : stp u ≤ n
      · exact .inl ⟨g, c⟩
      · exact .inr ⟨g, by omega⟩
    · cases h
/-- a list of fractions in the heap -/
def LvAt (H : Hp) (q : Addr) (L : List (Int × Int)) : Prop := ∃ ts : List Addr, H q = some (.lst (ts.map V.ref)) ∧ ts.length = L.length ∧ ∀ (i : Nat) (t : Addr) (v : Int × Int), ts[i]? = some t → L[i]? = some v → Tup2 H t v
theorem LvAt.but {H H' : Hp} {a q : Addr} {L : List (Int × Int)} (h : LvAt H q L) (b : But a H H') (n : q ≠ a) (nt : ∀ o, H a = some o → ∀ xs, o ≠ .tup xs) : LvAt H' q L := by
  obtain ⟨ts, h1, h2, h3⟩ := h
  refine ⟨ts, b _ _ n h1, h2, fun i t v ht hv => b _ _ (fun z => ?_) (h3 i t v ht hv)⟩
  subst z
  exact nt _ (h3 i _ v ht hv) _ rfl
theorem LvAt.same {H H' : Hp} {q : Addr} {L : List (Int × Int)} (h : LvAt H q L) (b : Same H H') : LvAt H' q L := by
  obtain ⟨ts, h1, h2, h3⟩ := h
  exact ⟨ts, b _ _ h1, h2, fun i t v ht hv => b _ _ (h3 i t v ht hv)⟩
theorem LvAt.add {H : Hp} {q t : Addr} {L : List (Int × Int)} {v : Int × Int} {ts : List Addr} (h1 : H q = some (.lst (ts.map V.ref))) (h2 : ts.length = L.length) (h3 : ∀ (i : Nat) (t : Addr) (v : Int × Int), ts[i]? = some t → L[i]? = some v → Tup2 H t v) (T : Tup2 H t v) :
    LvAt (upd H q (.lst (ts.map V.ref ++ [V.ref t]))) q (L ++ [v]) := by
  refine ⟨ts ++ [t], by rw [upd_same, List.map_append]; rfl, by rw [List.length_append, List.length_append, h2]; rfl, fun i t' v' ht hv => ?_⟩
  have key : ∀ t v, Tup2 H t v → Tup2 (upd H q (.lst (ts.map V.ref ++ [V.ref t']))) t v := fun t v T => by
    unfold Tup2
    rw [upd_ne (ne_of T h1 (fun z => nomatch z))]
    exact T
  have key2 : ∀ t0 v, Tup2 H t0 v → Tup2 (upd H q (.lst (ts.map V.ref ++ [V.ref t]))) t0 v := fun t0 v T => by
    unfold Tup2
    rw [upd_ne (ne_of T h1 (fun z => nomatch z))]
    exact T
  by_cases c : i < ts.length
  · rw [List.getElem?_append_left c] at ht
    rw [List.getElem?_append_left (by omega)] at hv
    exact key2 _ _ (h3 i t' v' ht hv)
  · rw [List.getElem?_append_right (by omega)] at ht
    rw [List.getElem?_append_right (by omega)] at hv
    have e1 : i = ts.length := by
      have := (List.getElem?_eq_some_iff.mp ht).1
      have : i - ts.length < 1 := this
      omega
    subst e1
    rw [Nat.sub_self] at ht
    rw [h2, Nat.sub_self] at hv
    cases ht; cases hv
    exact key2 _ _ T
theorem atI_end {α : Type} {xs : List α} {y : α} : atI (xs ++ [y]) (-1) = some y := by
  unfold atI ixN
  rw [if_neg (by decide), List.length_append, if_pos (by show -((xs.length + 1 : Nat) : Int) ≤ -1; omega)]
  show (xs ++ [y])[((-1 : Int) + ((xs.length + 1 : Nat) : Int)).toNat]? = some y
  rw [show ((-1 : Int) + ((xs.length + 1 : Nat) : Int)).toNat = xs.length by omega, List.getElem?_append_right (Nat.le_refl _), Nat.sub_self]
  rfl
end
section
variable {P : Program} {w : World} {K : PySem.W.Frag} {mg : Str → Option Value} {base : Heap} {f : Addr} {fd : FuncData}
theorem ok_num (F : Fun K "number" "number" s_number f fd) (D_after : Dfn P w K mg base "after" 2 ["fraction", "dance"] spAfter)  : FnOk P w K mg base CX0 3 f fd ["dance"] spNum := by
  refine F.ok sc_number (fun vs H Q E h => ?_) (fun cdv A outer s H vs Q E hr h => ?_)
  · obtain ⟨l, rfl, q⟩ := h
    rfl
  obtain ⟨l, rfl, q⟩ := h
  refine ⟨_, (pss_one (ps_ret (pe_do D_after hr (pa_cons (pe_tup (pa_cons pe_int (pa_cons pe_int pa_nil))) (pa_cons (pv 0) pa_nil))))), ?_⟩
  exact ⟨fits (by decide), fun p hp => ⟨_, rfl, p, (0, 1), l, rfl, upd_same, fun t' H' sm tt => q t' H' ((same_new hp _).trans sm) tt⟩⟩
end
def spQuo (K : PySem.W.Frag) : Sp := fun vs H Q _ => ∃ (t : Addr) (v : Int × Int), vs = [.ref t] ∧ Tup2 H t v ∧ Good v ∧ v.1.natAbs < 2 ^ 8000 ∧ v.2.natAbs < 2 ^ 8000 ∧ ∀ a H', Same H H' → H a = none → H' a = some (.lst (((quo v).map Int.ofNat).map V.int)) → Q (.ref a) H'
def spSteps : Sp := fun vs H Q _ => ∃ (t : Addr) (v : Int × Int), vs = [.ref t] ∧ Tup2 H t v ∧ Good v ∧ v.1.natAbs < 2 ^ 8000 ∧ v.2.natAbs < 2 ^ 8000 ∧ ∀ H', Same H H' → Q (.int (stp v)) H'
theorem same_upd {H0 G : Hp} {a : Addr} {o : HO} (s : Same H0 G) (n : H0 a = none) : Same H0 (upd G a o) := fun b u h => by rw [upd_ne (ne_of_none h n)]; exact s b u h
theorem sum_nat : ∀ l : List Nat, ((l.map Int.ofNat).sum : Int) = ((l.sum : Nat) : Int)
  | [] => rfl
  | a :: l => by
    rw [List.map_cons, List.sum_cons, List.sum_cons, sum_nat l]
    rfl
section
variable {P : Program} {w : World} {K : PySem.W.Frag} {mg : Str → Option Value} {base : Heap} {f : Addr} {fd : FuncData}
theorem ok_quotients (F : Fun K "quotients" "quotients" s_quotients f fd) (y_abs : mg "abs" = none)  : FnOk P w K mg base CX0 1 f fd ["fraction"] (spQuo K) := by
  refine F.ok sc_quotients (fun vs H Q E h => ?_) (fun cdv A outer s H vs Q E hr h => ?_)
  · obtain ⟨t, v, rfl, hT, g, z1, z2, q⟩ := h
    rfl
  obtain ⟨t, v, rfl, hT, g, z1, z2, q⟩ := h
  refine ⟨_, (pss_cons (ps_asg (pv 0) (pg_tup (by rfl) (pgs_cons (pg_name (i := 1) sc_quotients.nd rfl (.inl rfl)) (pgs_cons (pg_name (i := 2) sc_quotients.nd rfl (.inl rfl)) pgs_nil))))
    (pss_cons (ps_if (pt_cmpR op_eq (pv 2) pe_int (nomark _)) (pss_one (ps_ret (pe_lst (pa_cons pe_int (pa_cons pe_int pa_nil))))) pss_nil)
    (pss_cons (ps_set (i := 3) sc_quotients.nd rfl (.inl rfl) (pe_lst pa_nil))
    (pss_cons (ps_set (i := 4) sc_quotients.nd rfl (.inl rfl) (pe_callB call_abs rfl y_abs (by decide +kernel) (pa_cons (pv 1) pa_nil)))
    (pss_cons (ps_while PassesOwn.never (pt_cmpR op_gt (pv 2) pe_int (nomark _)) (pss_cons (ps_expr (pe_bm PySem.F.plainAttrs_list PySem.F.slot_list_append PySem.F.type_list_append mt_append (pv 3) (pa_cons (pe_op op_fdivW (pv 4) (pv 2)) pa_nil)))
    (pss_one (ps_par (i := 4) (j := 2) (by rfl) sc_quotients.nd rfl rfl (by decide) rfl rfl (pa_cons (pv 2) (pa_cons (pe_op op_modN (pv 4) (pv 2)) pa_nil)) (by rfl)))))
    (pss_one (ps_ret (pv 3)))))))), ?_⟩
  obtain ⟨p, q'⟩ := v
  refine ⟨_, rfl, t, _, rfl, SqT.of hT, rfl, _, _, rfl, _, _, rfl, rfl, ?_⟩
  refine ⟨_, rfl, rfl, _, rfl, ite2 (fun c => ?_) (fun c => ?_)⟩
  · have k : q' = 0 := V.int.inj (of_decide_eq_true c)
    subst k
    refine ⟨fits (by decide), fun a ha => q a _ (same_new ha _) ha ?_⟩
    rw [upd_same]
    rfl
  have k : ¬ q' = 0 := fun z => c (decide_eq_true (congrArg V.int z))
  have h0 : 0 < q' := by
    rcases g.1 with h1 | h1
    · exact h1
    · cases h1; exact absurd rfl k
  have eq0 : quo (p, q') = QL p.natAbs q'.natAbs := if_neg k
  have ql := quo_len (v := (p, q')) (n := 8000) z2 (by decide)
  rw [eq0] at q ql
  refine ⟨fits (by decide), fun pa hpa => ⟨_, rfl, _, rfl, ?_⟩⟩
  have e2 : (if p < 0 then -p else p) = (p.natAbs : Int) := by split <;> omega
  rw [e2]
  refine while_by (fun σ G => ∃ (x y : Nat) (cs : List Nat), σ = [some (.ref t), some (.int p), some (.int (y : Int)), some (.ref pa), some (.int (x : Int))] ∧ Same H G ∧ G pa = some (.lst ((cs.map Int.ofNat).map V.int)) ∧ QL p.natAbs q'.natAbs = cs ++ QL x y ∧ y < 2 ^ 8000) (fun σ _ => match σ with | [_, _, some (.int b), _, _] => b.natAbs | _ => 0) ⟨p.natAbs, q'.natAbs, [], by rw [Int.natAbs_of_nonneg (Int.le_of_lt h0)]; rfl, same_new hpa _, upd_same, rfl, z2⟩ ?_ ?_
  · rintro σ G ⟨x, y, cs, rfl, sm, hG, ej, yb⟩
    refine ⟨_, rfl, _, _, rfl, rfl, _, rfl, ite2 (fun c1 => ?_) (fun c1 => ?_)⟩
    · have y0 : 0 < y := by
        have : (0 : Int) < (y : Int) := of_decide_eq_true c1
        omega
      have gd := wide_div (i := (x : Int)) (j := (y : Int)) (b := 8000) (by omega) (by rw [Int.natAbs_natCast]; exact yb) (by decide) (by decide)
      have lc : cs.length + 1 ≤ 16000 := by
        rw [ej, QL_step y0, List.length_append, List.length_cons] at ql
        omega
      refine ⟨_, rfl, .inl ⟨rfl, _, SqL.of hG⟩, _, rfl, _, rfl, _, _, rfl, rfl, gd, pa, _, _, rfl, rfl, hG, Nat.lt_of_lt_of_le (show ((cs.map Int.ofNat).map V.int).length < 16777216 by rw [List.length_map, List.length_map]; omega) sizeLine_big, ?_⟩
      refine ⟨_, rfl, _, rfl, _, rfl, _, _, rfl, rfl, (show (y : Int) ≠ 0 by omega), _, _, rfl, ⟨y, x % y, cs ++ [x / y], ?_, same_upd sm hpa, ?_, ?_, Nat.lt_trans (Nat.mod_lt _ y0) yb⟩, ?_⟩
      · have em : ((x : Int).fmod (y : Int)) = ((x % y : Nat) : Int) := by
          rw [Int.fmod_eq_emod_of_nonneg _ (Int.natCast_nonneg y)]
          rfl
        rw [← em]
        rfl
      · rw [upd_same, List.map_append, List.map_append]
        rfl
      · rw [ej, QL_step y0, List.append_assoc]
        rfl
      · show ((x : Int).fmod (y : Int)).natAbs < (y : Int).natAbs
        exact fmod_less (by omega)
    · have y0 : y = 0 := by
        have : ¬ (0 : Int) < (y : Int) := fun z => c1 (decide_eq_true z)
        omega
      subst y0
      rw [QL_zero, List.append_nil] at ej
      rw [ej] at q
      exact ⟨_, rfl, q pa G sm hpa hG⟩
  · rintro σ H' Q1 Q2 hm ⟨v, e, i, j, e1, e2, b, e3, qq⟩
    exact ⟨v, e, i, j, e1, e2, b, e3, hm _ _ qq⟩
end
section
variable {P : Program} {w : World} {K : PySem.W.Frag} {mg : Str → Option Value} {base : Heap} {f : Addr} {fd : FuncData}
theorem ok_steps (F : Fun K "steps" "steps" s_steps f fd) (D_quotients : Dfn P w K mg base "quotients" 1 ["fraction"] (spQuo K)) (y_sum : mg "sum" = none) (y_len : mg "len" = none)  : FnOk P w K mg base CX0 2 f fd ["fraction"] spSteps := by
  refine F.ok sc_steps (fun vs H Q E h => ?_) (fun cdv A outer s H vs Q E hr h => ?_)
  · obtain ⟨t, v, rfl, hT, g, z1, z2, q⟩ := h
    rfl
  obtain ⟨t, v, rfl, hT, g, z1, z2, q⟩ := h
  refine ⟨_, (pss_cons (ps_set (i := 1) sc_steps.nd rfl (.inl rfl) (pe_do D_quotients hr (pa_cons (pv 0) pa_nil)))
    (pss_one (ps_ret (pe_op op_sub (pe_op op_add (pe_callB (cr_sum rfl) rfl y_sum (by decide +kernel) (pa_cons (pv 1) pa_nil)) (pe_callB call_len_seq rfl y_len PySem.boot_len (pa_cons (pv 1) pa_nil))) pe_int)))), ?_⟩
  refine ⟨_, rfl, t, v, rfl, hT, g, z1, z2, fun a H' sm na ha => ?_⟩
  refine ⟨_, rfl, a, _, rfl, SqL.of ha, _, rfl, a, _, rfl, .inl (SqL.of ha), _, _, rfl, rfl, _, _, rfl, rfl, ?_⟩
  rw [sum_nat, List.length_map, List.length_map]
  have := quo_stp g
  have e : ((quo v).sum : Int) + ((quo v).length : Int) - 1 = (stp v : Int) := by omega
  show Q (.int (((quo v).sum : Int) + ((quo v).length : Int) - 1)) H'
  rw [e]
  exact q H' sm
end
theorem lc_enum {K : PySem.W.Frag} {a : Addr} {xs : List V} {g : TG} {tt : TT} {te : TE} {vs : List Nat} {σ : L2.St} {H1 : Hp} {D : Addr} {Qd : Hp → Prop} (Pv : Nat → Hp → Prop) (h0 : Pv 0 (upd H1 D (.lst []))) (hl : ∀ i H, i ≤ xs.length → Pv i H → SqL K H a xs)
    (hs : ∀ i x H T, xs[i]? = some x → Pv i H → H T = none → g (.ref T) (wipe σ vs) (upd H T (.tup [.int (i : Nat), x])) fun σ2 H2 => wipe σ2 vs = wipe σ vs ∧ tt σ2 H2 fun b H3 =>
      if b = true then te σ2 H3 fun y H4 => ∃ acc, H4 D = some (.lst acc) ∧ acc.length < sizeLine ∧ Pv (i + 1) (upd H4 D (.lst (acc ++ [y]))) else Pv (i + 1) H3) (hd : ∀ H, Pv xs.length H → Qd H) :
    ∃ W : Nat → Nat → Hp → Prop, (∃ m, W 0 m (upd H1 D (.lst []))) ∧ ∀ i m H, W i m H →
      ((Ite K a).stop i H ∧ Qd H) ∨ ((Ite K a).go i H ∧ ∃ Nx : Hp → Prop, (∀ H', Nx H' → ∃ m', m' < m ∧ W (i + 1) m' H') ∧ ∀ x H', (Ite K a).yld i H x H' → g x (wipe σ vs) H' fun σ2 H2 => wipe σ2 vs = wipe σ vs ∧ tt σ2 H2 fun b H3 =>
        if b = true then te σ2 H3 fun y H4 => ∃ acc, H4 D = some (.lst acc) ∧ acc.length < sizeLine ∧ Nx (upd H4 D (.lst (acc ++ [y]))) else Nx H3) := by
  refine ⟨fun j n G => n = xs.length - j ∧ j ≤ xs.length ∧ Pv j G, ⟨xs.length, by simp, Nat.zero_le _, h0⟩, ?_⟩
  rintro j n G ⟨rfl, hj, p⟩
  have at_ := hl j G hj p
  by_cases c : j < xs.length
  · refine .inr ⟨⟨xs, xs[j], at_, by simp [c]⟩, Pv (j + 1), fun G' p' => ⟨xs.length - (j + 1), by omega, rfl, c, p'⟩, fun x G' y => ?_⟩
    obtain ⟨T, z, rfl, hT, rfl, e⟩ := y
    exact hs j z G T (e xs at_) p hT
  · have e : j = xs.length := by omega
    subst e
    exact .inl ⟨⟨xs, at_, Nat.le_refl _⟩, hd G p⟩
abbrev rtup (r : Nat × Nat) : HO := .tup [.str (S [r.1]), .int (r.2 : Int)]
theorem rn_add {G : Hp} {D u : Addr} {ts : List Addr} {ps : List (Nat × Nat)} {r : Nat × Nat} (hG : G D = some (.lst (ts.map V.ref))) (tv : ∀ (j : Nat) (u : Addr) (r : Nat × Nat), ts[j]? = some u → ps[j]? = some r → G u = some (rtup r)) (hr : ps[ts.length]? = some r) (T : G u = some (rtup r)) :
    ∀ (j : Nat) (u' : Addr) (r' : Nat × Nat), (ts ++ [u])[j]? = some u' → ps[j]? = some r' → (upd G D (.lst (ts.map V.ref ++ [V.ref u]))) u' = some (rtup r') := by
  intro j u' r' hu' hr'
  have key : G u' = some (rtup r') := by
    by_cases c : j < ts.length
    · rw [List.getElem?_append_left c] at hu'
      exact tv j u' r' hu' hr'
    · have e : j = ts.length := by
        have := (List.getElem?_eq_some_iff.mp hu').1
        rw [List.length_append] at this
        have : ([u] : List Addr).length = 1 := rfl
        omega
      subst e
      rw [List.getElem?_append_right (Nat.le_refl _), Nat.sub_self] at hu'
      cases hu'
      rw [hr] at hr'
      cases hr'
      exact T
  rw [upd_ne (ne_of key hG (fun z => nomatch z))]
  exact key
theorem rn_rev {G : Hp} {p : Addr} {ts : List Addr} {ps : List (Nat × Nat)} (hp : G p = some (.lst (ts.map V.ref).reverse)) (hl : ts.length = ps.length) (tv : ∀ (j : Nat) (u : Addr) (r : Nat × Nat), ts[j]? = some u → ps[j]? = some r → G u = some (rtup r)) : Rn G p ps.reverse := by
  refine ⟨ts.reverse, by rw [hp, List.map_reverse], by rw [List.length_reverse, List.length_reverse, hl], fun i t r ht hr => ?_⟩
  have hi : i < ts.length := by
    have := (List.getElem?_eq_some_iff.mp ht).1
    rw [List.length_reverse] at this
    exact this
  rw [List.getElem?_reverse hi] at ht
  rw [List.getElem?_reverse (by omega), ← hl] at hr
  exact tv _ t r ht hr
def spRuns : Sp := fun vs H Q _ => ∃ (t : Addr) (v : Int × Int), vs = [.ref t] ∧ Tup2 H t v ∧ Good v ∧ v.1.natAbs < 2 ^ 8000 ∧ v.2.natAbs < 2 ^ 8000 ∧ ∀ a H', Same H H' → H a = none → Rn H' a (al (fl v) (quo v)).reverse → Q (.ref a) H'
theorem e_UT3 : (("UT" : Str)) = S [85, 84] := by decide +kernel
theorem e_TU3 : (("TU" : Str)) = S [84, 85] := by decide +kernel
theorem pick_fl {c : Nat} (h : c = 84 ∨ c = 85) (i : Nat) : atI [c, swc c] ((i % 2 : Nat) : Int) = some (if i % 2 = 0 then c else swc c) := by
  have : i % 2 = 0 ∨ i % 2 = 1 := by omega
  rcases this with e | e
  · rw [e]; rfl
  · rw [e]; rfl
theorem run_two (l : List Nat) : (run (0, 1) l).1.natAbs ≤ 2 ^ l.length ∧ (run (0, 1) l).2.natAbs ≤ 2 ^ l.length := by
  have := run_size l (v := (0, 1)) (n := 1) (by decide) (by decide) (Nat.le_refl _)
  rw [Nat.mul_one] at this
  exact this
theorem run_small {l : List Nat} (h : l.length ≤ 7000) : (run (0, 1) l).1.natAbs < 2 ^ 8000 ∧ (run (0, 1) l).2.natAbs < 2 ^ 8000 := by
  have e : 2 ^ l.length < 2 ^ 8000 := Nat.pow_lt_pow_right (by decide) (by omega)
  exact ⟨Nat.lt_of_le_of_lt (run_two l).1 e, Nat.lt_of_le_of_lt (run_two l).2 e⟩
theorem flat_one (c n : Nat) : (List.replicate n [c]).flatten = List.replicate n c := by simp
theorem sum_wd (ps : List (Nat × Nat)) : ((ps.map wd).map List.length).sum = (ps.map (·.2)).sum := by
  congr 1
  rw [List.map_map]
  apply List.map_congr_left
  intro p _
  show (List.replicate p.2 p.1).length = p.2
  rw [List.length_replicate]
theorem al_two : ∀ (qs : List Nat) (c : Nat), (al c qs).map (·.2) = qs
  | [], _ => rfl
  | a :: r, c => by
    show a :: (al (swc c) r).map (·.2) = a :: r
    rw [al_two r (swc c)]
section
variable {P : Program} {w : World} {K : PySem.W.Frag} {mg : Str → Option Value} {base : Heap} {f : Addr} {fd : FuncData}
theorem ok_runs (F : Fun K "runs" "runs" s_runs f fd) (D_quotients : Dfn P w K mg base "quotients" 1 ["fraction"] (spQuo K)) (y_enumerate : mg "enumerate" = none)  : FnOk P w K mg base CX0 2 f fd ["fraction"] spRuns := by
  refine F.ok sc_runs (fun vs H Q E h => ?_) (fun cdv A outer s H vs Q E hr h => ?_)
  · obtain ⟨t, v, rfl, hT, g, z1, z2, q⟩ := h
    rfl
  obtain ⟨t, v, rfl, hT, g, z1, z2, q⟩ := h
  refine ⟨_, (pss_cons (ps_set (i := 1) sc_runs.nd rfl (.inr rfl) (pe_ifExp (pt_cmpR op_lt (pe_ix ix_tup (pv 0) pe_int (fun _ _ => rfl)) pe_int (nomark _)) pe_str pe_str))
    (pss_one (ps_ret (pe_revL (pe_lc (own := [("k", 2), ("part", 3)]) (g := (gTup K 2 (gCons (gName 2) (gCons (gName 3) gNil)))) (tt := tYes) (by rfl) sc_runs.nd (pi_enum rfl y_enumerate (pa_cons (pe_do D_quotients hr (pa_cons (pv 0) pa_nil)) pa_nil)) (blkOk_by (own := [("k", 2), ("part", 3)]) (N := ["fraction", "letters", "k", "part"]) (sc := defScope s_runs) (by decide +kernel)) (fun _ _ _ _ _ => pg_tup (by rfl) (pgs_cons (pg_name (i := 2) sc_runs.nd rfl (.inl rfl)) (pgs_cons (pg_name (i := 3) sc_runs.nd rfl (.inl rfl)) pgs_nil))) (fun _ _ _ _ _ => pts_nil) (fun _ _ _ _ _ => (pe_tup (pa_cons (pe_ix ix_str (pv 1) (pe_op op_odd (pv 2) pe_int) (fun _ _ => rfl)) (pa_cons (pv 3) pa_nil))))))))), ?_⟩
  rw [e_UT3, e_TU3]
  have two : 2 ≤ sizeLine := fits (by decide)
  refine ⟨_, rfl, t, _, _, _, rfl, rfl, SqT.of hT, rfl, _, _, rfl, rfl, _, rfl, ite2 (fun k => ?A) (fun k => ?B)⟩
  case A =>
    have hc : (85 = 84 ∨ 85 = 85) ∧ fl v = 85 := ⟨.inr rfl, if_pos (of_decide_eq_true k)⟩
    rw [show S [85, 84] = S [85, swc 85] from rfl]
    obtain ⟨hc, hf⟩ := hc
    rw [hf] at q
    refine ⟨_, rfl, t, v, rfl, hT, g, z1, z2, fun a H1 s1 na ha => ⟨a, _, rfl, SqL.of ha, fun D hD => lc_enum (K := K) (a := a) (xs := ((quo v).map Int.ofNat).map V.int) (fun i G => Same H1 G ∧ ∃ ts : List Addr, G D = some (.lst (ts.map V.ref)) ∧ ts.length = i ∧ ∀ (j : Nat) (u : Addr) (r : Nat × Nat), ts[j]? = some u → (al 85 (quo v))[j]? = some r → G u = some (rtup r)) ⟨same_new hD _, [], upd_same, rfl, fun j u r hu => by cases hu⟩ ?_ ?_ ?_⟩⟩
    · rintro i G _ ⟨sG, _⟩
      exact SqL.of (sG _ _ ha)
    · rintro i x G T hx ⟨sG, ts, hG, tl, tv⟩ hT2
      rw [List.getElem?_map, List.getElem?_map] at hx
      cases hq : (quo v)[i]? with
      | none => rw [hq] at hx; cases hx
      | some b =>
        rw [hq] at hx
        cases hx
        have hi : i < (quo v).length := (List.getElem?_eq_some_iff.mp hq).1
        have ql := quo_len z2 (by decide)
        refine ⟨T, _, rfl, SqT.of upd_same, rfl, _, _, rfl, _, _, rfl, rfl, rfl, ?_⟩
        refine ⟨_, rfl, _, rfl, i, rfl, rfl, S [85, swc 85], _, _, rfl, rfl, fits (by decide +kernel), pick_fl hc i, _, rfl, two, fun u hu => ?_⟩
        have S2 : Same G (upd (upd G T (.tup [V.int (i : Nat), V.int (Int.ofNat b)])) u (.tup [.str (S [if i % 2 = 0 then 85 else swc 85]), V.int (Int.ofNat b)])) := (same_new hT2 _).trans (same_new hu _)
        refine ⟨_, S2 _ _ hG, Nat.lt_of_lt_of_le (show (ts.map V.ref).length < 16777216 by rw [List.length_map]; omega) sizeLine_big, fun x o hx => ?_, ts ++ [u], by rw [upd_same, List.map_append]; rfl, by rw [List.length_append, tl]; rfl, rn_add (r := (if i % 2 = 0 then 85 else swc 85, b)) (S2 _ _ hG) (fun j u' r' h1 h2 => S2 _ _ (tv j u' r' h1 h2)) (by rw [tl, al_get _ _ _ hc, hq]; rfl) upd_same⟩
        rw [upd_ne (ne_of_none hx hD)]
        exact S2 _ _ (sG _ _ hx)
    · rintro G ⟨sG, ts, hG, tl, tv⟩
      rw [List.length_map, List.length_map] at tl
      refine ⟨D, _, rfl, SqL.of hG, fun rp hrp => ?_⟩
      have S3 := same_new hrp (.lst (ts.map V.ref).reverse)
      have hn : H rp = none := by
        cases e : H rp with
        | none => rfl
        | some o =>
          have := (s1.trans sG) _ _ e
          rw [hrp] at this
          cases this
      exact q rp _ ((s1.trans sG).trans S3) hn (rn_rev upd_same (by rw [tl, al_len]) (fun j u r h1 h2 => S3 _ _ (tv j u r h1 h2)))
  case B =>
    have hc : (84 = 84 ∨ 84 = 85) ∧ fl v = 84 := ⟨.inl rfl, if_neg (fun z => k (decide_eq_true z))⟩
    rw [show S [84, 85] = S [84, swc 84] from rfl]
    obtain ⟨hc, hf⟩ := hc
    rw [hf] at q
    refine ⟨_, rfl, t, v, rfl, hT, g, z1, z2, fun a H1 s1 na ha => ⟨a, _, rfl, SqL.of ha, fun D hD => lc_enum (K := K) (a := a) (xs := ((quo v).map Int.ofNat).map V.int) (fun i G => Same H1 G ∧ ∃ ts : List Addr, G D = some (.lst (ts.map V.ref)) ∧ ts.length = i ∧ ∀ (j : Nat) (u : Addr) (r : Nat × Nat), ts[j]? = some u → (al 84 (quo v))[j]? = some r → G u = some (rtup r)) ⟨same_new hD _, [], upd_same, rfl, fun j u r hu => by cases hu⟩ ?_ ?_ ?_⟩⟩
    · rintro i G _ ⟨sG, _⟩
      exact SqL.of (sG _ _ ha)
    · rintro i x G T hx ⟨sG, ts, hG, tl, tv⟩ hT2
      rw [List.getElem?_map, List.getElem?_map] at hx
      cases hq : (quo v)[i]? with
      | none => rw [hq] at hx; cases hx
      | some b =>
        rw [hq] at hx
        cases hx
        have hi : i < (quo v).length := (List.getElem?_eq_some_iff.mp hq).1
        have ql := quo_len z2 (by decide)
        refine ⟨T, _, rfl, SqT.of upd_same, rfl, _, _, rfl, _, _, rfl, rfl, rfl, ?_⟩
        refine ⟨_, rfl, _, rfl, i, rfl, rfl, S [84, swc 84], _, _, rfl, rfl, fits (by decide +kernel), pick_fl hc i, _, rfl, two, fun u hu => ?_⟩
        have S2 : Same G (upd (upd G T (.tup [V.int (i : Nat), V.int (Int.ofNat b)])) u (.tup [.str (S [if i % 2 = 0 then 84 else swc 84]), V.int (Int.ofNat b)])) := (same_new hT2 _).trans (same_new hu _)
        refine ⟨_, S2 _ _ hG, Nat.lt_of_lt_of_le (show (ts.map V.ref).length < 16777216 by rw [List.length_map]; omega) sizeLine_big, fun x o hx => ?_, ts ++ [u], by rw [upd_same, List.map_append]; rfl, by rw [List.length_append, tl]; rfl, rn_add (r := (if i % 2 = 0 then 84 else swc 84, b)) (S2 _ _ hG) (fun j u' r' h1 h2 => S2 _ _ (tv j u' r' h1 h2)) (by rw [tl, al_get _ _ _ hc, hq]; rfl) upd_same⟩
        rw [upd_ne (ne_of_none hx hD)]
        exact S2 _ _ (sG _ _ hx)
    · rintro G ⟨sG, ts, hG, tl, tv⟩
      rw [List.length_map, List.length_map] at tl
      refine ⟨D, _, rfl, SqL.of hG, fun rp hrp => ?_⟩
      have S3 := same_new hrp (.lst (ts.map V.ref).reverse)
      have hn : H rp = none := by
        cases e : H rp with
        | none => rfl
        | some o =>
          have := (s1.trans sG) _ _ e
          rw [hrp] at this
          cases this
      exact q rp _ ((s1.trans sG).trans S3) hn (rn_rev upd_same (by rw [tl, al_len]) (fun j u r h1 h2 => S3 _ _ (tv j u r h1 h2)))
end
abbrev s_L__init__ : Stmt := inClass (top 12) 0
theorem sc_L__init__ : FnScope ["self", "fraction"] ["self", "fraction"] (defScope s_L__init__) := ⟨rfl, rfl, rfl, by decide +kernel, rfl, by decide +kernel, by decide +kernel⟩
abbrev s_Ldance_count : Stmt := inClass (top 12) 1
theorem sc_Ldance_count : FnScope ["self"] ["self"] (defScope s_Ldance_count) := ⟨rfl, rfl, rfl, by decide +kernel, rfl, by decide +kernel, by decide +kernel⟩
abbrev s_Ldance : Stmt := inClass (top 12) 2
theorem sc_Ldance : FnScope ["self", "rank", "letter", "many", "words", "at"] ["self", "rank"] (defScope s_Ldance) := ⟨rfl, rfl, rfl, by decide +kernel, rfl, by decide +kernel, by decide +kernel⟩
abbrev s_Lrank_of : Stmt := inClass (top 12) 3
theorem sc_Lrank_of : FnScope ["self", "dance", "rank", "at", "behind"] ["self", "dance"] (defScope s_Lrank_of) := ⟨rfl, rfl, rfl, by decide +kernel, rfl, by decide +kernel, by decide +kernel⟩
abbrev s_Ldances : Stmt := inClass (top 12) 4
section
open PySem PySem.Spec PyProof.Rows
variable {X : Cx}
/-- xs[i] for xs[i] += .. -/
theorem pget_at : PGet X (fun o i H Q => ∃ (p : Addr) (xs : List V) (k : Nat) (z : V), o = V.ref p ∧ i = .int (k : Int) ∧ SqL X.K H p xs ∧ xs[k]? = some z ∧ Q z H) := by
  intro pins s σ H o i ov iv Q I rx ry h
  obtain ⟨p, xs, k, z, rfl, rfl, hq, he, q⟩ := h
  cases rx
  obtain ⟨t, rfl⟩ := ry
  obtain ⟨its, r, pl, hz⟩ := I.list hq
  obtain ⟨w, ew, rw'⟩ := r.get he
  have hl := r.length
  have hn := line63
  have kl := (List.getElem?_eq_some_iff.mp he).1
  exact wpAny_getItem_list pl.isList (by omega) (by omega) (by rw [Int.toNat_natCast]; simpa using ew) ⟨z, H, I, rw', q⟩
end
section
open TL
theorem tl_S' (l : List Nat) : tl (S l) = l := S_list l
theorem join_E (xs : List (List Nat)) : Txt.join (S []) (xs.map S) = S xs.flatten := by
  have jf : ∀ xs : List (List Nat), TL.joinL [] xs = xs.flatten := by
    intro xs
    induction xs with
    | nil => rfl
    | cons x r ih =>
      cases r with
      | nil => simp [TL.joinL]
      | cons y r =>
        show x ++ ([] ++ TL.joinL [] (y :: r)) = _
        rw [ih]
        rfl
  have e := tl_join (S []) (xs.map S)
  rw [← join_eq, List.map_map] at e
  have e2 : (tl ∘ S) = id := by funext l; exact tl_S' l
  rw [e2, List.map_id, tl_S', jf] at e
  exact (S_eta (Txt.join (S []) (xs.map S))).symm.trans (congrArg S e)
/-- the fields of an object of the class -/
def lf (t r w : Addr) : List (Str × V) := putF "ways" (.ref w) (putF "runs" (.ref r) (putF "fraction" (.ref t) []))
theorem n_wr : ¬ (("ways" : Str) = "runs") := by decide +kernel
theorem n_wf : ¬ (("ways" : Str) = "fraction") := by decide +kernel
theorem n_rf : ¬ (("runs" : Str) = "fraction") := by decide +kernel
theorem lf_ways (t r w : Addr) : (lf t r w).lookup ("ways" : Str) = some (.ref w) := by
  unfold lf
  rw [lookup_putF, if_pos rfl]
theorem lf_runs (t r w : Addr) : (lf t r w).lookup ("runs" : Str) = some (.ref r) := by
  unfold lf
  rw [lookup_putF, if_neg (Ne.symm n_wr), lookup_putF, if_pos rfl]
theorem lf_frac (t r w : Addr) : (lf t r w).lookup ("fraction" : Str) = some (.ref t) := by
  unfold lf
  rw [lookup_putF, if_neg (Ne.symm n_wf), lookup_putF, if_neg (Ne.symm n_rf), lookup_putF, if_pos rfl]
theorem lf_no (t r w : Addr) {x : Str} (h1 : ¬ x = "ways") (h2 : ¬ x = "runs") (h3 : ¬ x = "fraction") : (lf t r w).lookup x = none := by
  unfold lf
  rw [lookup_putF, if_neg h1]
  rw [lookup_putF, if_neg h2]
  rw [lookup_putF, if_neg h3]
  all_goals rfl
def nint (ns : List Nat) : List V := ns.map fun n : Nat => V.int (n : Int)
/-- at p stands the object of v -/
def LdAt (C : Addr) (H : Hp) (p : Addr) (v : Int × Int) : Prop := ∃ (dx t r w : Addr), H p = some (.ins C dx (lf t r w)) ∧ Tup2 H t v ∧ Rn H r (rl v) ∧ H w = some (.lst (nint (wys (ns_ (rl v)))))
theorem LdAt.same {C : Addr} {H H' : Hp} {p : Addr} {v : Int × Int} (h : LdAt C H p v) (s : Same H H') : LdAt C H' p v := by
  obtain ⟨dx, t, r, w, h1, h2, h3, h4⟩ := h
  exact ⟨dx, t, r, w, s _ _ h1, h2.same s, h3.same s, s _ _ h4⟩
structure TxL (K : PySem.W.Frag) (mg : Str → Option Value) (C : Addr) : Prop where
  cl : Cls K C
  nF : NoAttr K C "fraction"
  nR : NoAttr K C "runs"
  nW : NoAttr K C "ways"
  mgC : mg "LeastDances" = some (.ref C)
structure MDfnL (P : Program) (w : World) (K : PySem.W.Frag) (mg : Str → Option Value) (base : Heap) (C : Addr) (m : Str) (k : Nat) (ps : List Str) (sp : Sp) : Prop where
  ex : ∃ g fd, FnOk P w K mg base CX0 k g fd ps sp ∧ Binds K fd ps [] ∧ Meth K C m g
def spWaysOn : Sp := fun vs H Q _ => ∃ (a : Addr) (R : List (Nat × Nat)), vs = [.ref a] ∧ Rn H a R ∧ 1 ≤ R.length ∧ R.length ≤ 100000 ∧ ∀ p H', Same H H' → H p = none → H' p = some (.lst (nint (wys (ns_ R)))) → Q (.ref p) H'
def spInitL (C : Addr) : Sp := fun vs H Q _ => ∃ (H0 : Hp) (p t dx : Addr) (v : Int × Int), vs = [.ref p, .ref t] ∧ Same H0 H ∧ H0 p = none ∧ H p = some (.ins C dx []) ∧ Tup2 H t v ∧ t ≠ p ∧ Good v ∧ stp v ≤ 2000 ∧ ∀ H' : Hp, Same H0 H' → LdAt C H' p v → Q .non H'
def spCountL (C : Addr) : Sp := fun vs H Q _ => ∃ (p : Addr) (v : Int × Int), vs = [.ref p] ∧ LdAt C H p v ∧ Good v ∧ Q (.int (wy (ns_ (rl v)) : Nat)) H
def spDanceL (C : Addr) : Sp := fun vs H Q _ => ∃ (p : Addr) (v : Int × Int) (k : Nat), vs = [.ref p, .int (k : Int)] ∧ LdAt C H p v ∧ Good v ∧ stp v ≤ 2000 ∧ k < wy (ns_ (rl v)) ∧ ∀ H', Same H H' → Q (.str (S (ld (rl v) k))) H'
def spRankL (C : Addr) : Sp := fun vs H Q _ => ∃ (p : Addr) (v : Int × Int) (k : Nat), vs = [.ref p, .str (S (ld (rl v) k))] ∧ LdAt C H p v ∧ Good v ∧ stp v ≤ 2000 ∧ k < wy (ns_ (rl v)) ∧ ∀ H', Same H H' → Q (.int (k : Int)) H'
theorem stp8 {v : Int × Int} (g : Good v) (h : stp v ≤ 7000) : v.1.natAbs < 2 ^ 8000 ∧ v.2.natAbs < 2 ^ 8000 := by
  have := stp_size _ v g rfl
  have e : 2 ^ stp v < 2 ^ 8000 := Nat.pow_lt_pow_right (by decide) (by omega)
  exact ⟨Nat.lt_of_le_of_lt this.1 e, Nat.lt_of_le_of_lt this.2 e⟩
theorem rl_fit {v : Int × Int} (g : Good v) : 1 ≤ (rl v).length ∧ (rl v).length ≤ stp v + 1 ∧ (ns_ (rl v)).sum ≤ stp v := by
  have a := quo_stp g
  have b := rl_ne g
  have c : 0 < (rl v).length := List.length_pos_iff.mpr b
  have d : (ns_ (rl v)).sum = (quo v).sum := by rw [ns_rl, List.sum_reverse]
  have e := rl_len v
  omega
theorem ns_len (R : List (Nat × Nat)) : (ns_ R).length = R.length := List.length_map ..
theorem ns_drop (R : List (Nat × Nat)) (i : Nat) : ns_ (R.drop i) = (ns_ R).drop i := List.map_drop ..
theorem nint_len (ns : List Nat) : (nint ns).length = ns.length := List.length_map ..
theorem nint_at {ns : List Nat} {i n : Nat} (h : ns[i]? = some n) : (nint ns)[i]? = some (V.int (n : Int)) := by
  unfold nint
  rw [List.getElem?_map, h]
  rfl
/-- the ways as they stand after k turns -/
def wyk (ns : List Nat) (k : Nat) : List Nat := (List.range ns.length).map fun i => if ns.length - 2 - k ≤ i then wy (ns.drop i) else 1
theorem wyk_len (ns : List Nat) (k : Nat) : (wyk ns k).length = ns.length := by unfold wyk; rw [List.length_map, List.length_range]
theorem wyk_at {ns : List Nat} {k i : Nat} (h : i < ns.length) : (wyk ns k)[i]? = some (if ns.length - 2 - k ≤ i then wy (ns.drop i) else 1) := by
  unfold wyk
  rw [List.getElem?_map, List.getElem?_range h]
  rfl
theorem wy_short : ∀ {ns : List Nat}, ns.length ≤ 2 → wy ns = 1
  | [], _ => rfl
  | [_], _ => rfl
  | [_, _], _ => rfl
  | _ :: _ :: _ :: _, h => by simp at h
theorem wyk_zero (ns : List Nat) : wyk ns 0 = List.replicate ns.length 1 := by
  apply List.ext_getElem?
  intro i
  by_cases h : i < ns.length
  · rw [wyk_at h, List.getElem?_replicate, if_pos h]
    split
    · rw [wy_short (by rw [List.length_drop]; omega)]
    · rfl
  · rw [List.getElem?_eq_none (by rw [wyk_len]; omega), List.getElem?_eq_none (by rw [List.length_replicate]; omega)]
theorem wyk_end (ns : List Nat) {k : Nat} (h : ns.length ≤ k + 2) : wyk ns k = wys ns := by
  unfold wyk wys
  apply List.map_congr_left
  intro i _
  rw [if_pos (by omega)]
theorem wyk_set {ns : List Nat} {k : Nat} (h : k + 3 ≤ ns.length) : (wyk ns k).set (ns.length - 3 - k) (wy (ns.drop (ns.length - 3 - k))) = wyk ns (k + 1) := by
  apply List.ext_getElem?
  intro i
  by_cases hi : i < ns.length
  · rw [List.getElem?_set, wyk_at hi, wyk_at hi, wyk_len]
    by_cases e : ns.length - 3 - k = i
    · rw [if_pos e, if_pos (by omega), if_pos (by omega), e]
    · rw [if_neg e]
      by_cases c : ns.length - 2 - k ≤ i
      · rw [if_pos c, if_pos (by omega)]
      · rw [if_neg c, if_neg (by omega)]
  · rw [List.getElem?_eq_none (by rw [List.length_set, wyk_len]; omega), List.getElem?_eq_none (by rw [wyk_len]; omega)]
theorem wy_drop {ns : List Nat} {j n1 : Nat} (h : j + 3 ≤ ns.length) (h1 : ns[j + 1]? = some n1) : wy (ns.drop j) = wy (ns.drop (j + 1)) + (if n1 = 1 then wy (ns.drop (j + 2)) else 0) := by
  have e0 : ns.drop j = ns[j] :: ns.drop (j + 1) := List.drop_eq_getElem_cons (by omega)
  have e1 : ns.drop (j + 1) = n1 :: ns.drop (j + 2) := by
    rw [List.drop_eq_getElem_cons (show j + 1 < ns.length by omega)]
    congr 1
    exact (List.getElem?_eq_some_iff.mp h1).2
  have e2 : ns.drop (j + 2) = ns[j + 2] :: ns.drop (j + 3) := List.drop_eq_getElem_cons (by omega)
  rw [e0, e1, e2, wy_three, ← e2]
theorem ns_at {R : List (Nat × Nat)} {i : Nat} {r : Nat × Nat} (h : R[i]? = some r) : (ns_ R)[i]? = some r.2 := by
  unfold ns_
  rw [List.getElem?_map, h]
  rfl
theorem ixN_nat {n k : Nat} (h : k < n) : ixN n (k : Int) = some k := by
  unfold ixN
  rw [if_pos (by omega), if_pos (by omega)]
  rfl
end
section
variable {P : Program} {w : World} {K : PySem.W.Frag} {mg : Str → Option Value} {base : Heap} {f : Addr} {fd : FuncData}
theorem ok_ways_on (F : Fun K "ways_on" "ways_on" s_ways_on f fd) (y_range : mg "range" = none) (y_len : mg "len" = none)  : FnOk P w K mg base CX0 1 f fd ["all_runs"] spWaysOn := by
  refine F.ok sc_ways_on (fun vs H Q E h => ?_) (fun cdv A outer s H vs Q E hr h => ?_)
  · obtain ⟨a, R, rfl, hR, r1, rz, q⟩ := h
    rfl
  obtain ⟨a, R, rfl, hR, r1, rz, q⟩ := h
  refine ⟨_, (pss_cons (ps_setLc (i := 1) (own := [("_", 3)]) (g := (gName 3)) (tt := tYes) (by rfl) sc_ways_on.nd rfl rfl (sw_true rfl rfl rfl (by decide +kernel)) (pi_list (pv 0)) (blkOk_by (own := [("_", 3)]) (N := ["all_runs", "ways", "at", "_"]) (sc := defScope s_ways_on) (by decide +kernel)) (fun _ _ _ _ _ => pg_name (i := 3) sc_ways_on.nd rfl (Or.inl rfl)) (fun _ _ _ _ _ => pts_nil) (fun _ _ _ _ _ => pe_int))
    (pss_cons (ps_for PassesOwn.never rfl (pi_range3 rfl y_range (pa_cons (pe_op op_sub (pe_callB call_len_seq rfl y_len PySem.boot_len (pa_cons (pv 0) pa_nil)) pe_int) (pa_cons (pe_un un_neg pe_int) (pa_cons (pe_un un_neg pe_int) pa_nil)))) (pg_name (i := 2) sc_ways_on.nd rfl (.inl rfl))
    (pss_cons (ps_asg (pe_ix ix_list (pv 1) (pe_op op_add (pv 2) pe_int) (fun _ _ => rfl)) (pg_sub (pv 1) (pv 2) set_list))
    (pss_one (ps_if (pt_cmpR op_eq (pe_ix ix_tup (pe_ix ix_list (pv 0) (pe_op op_add (pv 2) pe_int) (fun _ _ => rfl)) pe_int (fun _ _ => rfl)) pe_int (nomark _)) (pss_one (ps_augS (pv 1) (pv 2) pget_at (pe_ix ix_list (pv 1) (pe_op op_add (pv 2) pe_int) (fun _ _ => rfl)) ip_add set_list)) pss_nil))))
    (pss_one (ps_ret (pv 1))))), ?_⟩
  obtain ⟨ts, ha, tl, tv⟩ := hR
  have nl := ns_len R
  refine ⟨_, rfl, a, rfl, ⟨_, SqL.of ha⟩, fun D hD => lc_list (K := K) (a := a) (xs := ts.map V.ref) (fun i G => Same H G ∧ G D = some (.lst (nint (List.replicate i 1)))) ⟨same_new hD _, upd_same⟩ ?_ ?_ ?_⟩
  · rintro i G _ ⟨sG, _⟩
    exact SqL.of (sG _ _ ha)
  · rintro i x G hx ⟨sG, hG⟩
    have hi : i < ts.length := by
      have := (List.getElem?_eq_some_iff.mp hx).1
      rw [List.length_map] at this
      exact this
    refine ⟨rfl, _, hG, Nat.lt_of_lt_of_le (show (nint (List.replicate i 1)).length < 16777216 by rw [nint_len, List.length_replicate]; omega) sizeLine_big, same_upd sG hD, ?_⟩
    rw [upd_same, List.replicate_succ']
    unfold nint
    rw [List.map_append]
    rfl
  · rintro G ⟨sG, hG⟩
    rw [List.length_map, tl, ← nl, ← wyk_zero] at hG
    have ha' := sG _ _ ha
    have step := RgC.neg (i := ((R.length : Nat) : Int) - 3) (j := -1) (by omega) (by omega) (by omega) (by omega)
    rw [show (((R.length : Nat) : Int) - 3 - -1).toNat = R.length - 2 by omega] at step
    have el : ((ts.map V.ref).length : Int) = ((R.length : Nat) : Int) := by rw [List.length_map, tl]
    refine ⟨_, rfl, a, _, rfl, .inl (SqL.of ha'), ?_⟩
    rw [el]
    refine ⟨_, _, rfl, rfl, _, rfl, _, rfl, _, _, _, R.length - 2, rfl, step, for_rangeC (fun i σ F => ∃ (x2 : Option V), σ = [some (.ref a), some (.ref D), x2, none] ∧ Same H F ∧ F D = some (.lst (nint (wyk (ns_ R) i)))) ?_ ?_ ?_⟩
    · exact ⟨_, rfl, sG, hG⟩
    · rintro i σ F hi ⟨x2, rfl, sF, hF⟩
      obtain ⟨j, hj⟩ : ∃ j : Nat, j = R.length - 3 - i := ⟨_, rfl⟩
      have ek : (((R.length : Nat) : Int) - 3 + (i : Int) * -1) = (j : Int) := by omega
      rw [ek]
      have j3 : j + 3 ≤ (ns_ R).length := by omega
      have wl := wyk_len (ns_ R) i
      have ag := wyk_at (ns := ns_ R) (k := i) (i := j + 1) (by omega)
      rw [if_pos (by omega)] at ag
      obtain ⟨r', hr1⟩ : ∃ r', R[j + 1]? = some r' := ⟨_, List.getElem?_eq_getElem (by omega)⟩
      obtain ⟨u, hu1⟩ : ∃ u, ts[j + 1]? = some u := ⟨_, List.getElem?_eq_getElem (by omega)⟩
      have T := sF _ _ (tv (j + 1) u r' hu1 hr1)
      have wd_ := wy_drop (ns := ns_ R) (j := j) j3 (ns_at hr1)
      have ws := wyk_set (ns := ns_ R) (k := i) (by omega)
      rw [show (ns_ R).length - 3 - i = j by omega] at ws
      have ha2 := sF _ _ ha
      have e1 : ((j : Int) + 1) = ((j + 1 : Nat) : Int) := rfl
      refine ⟨_, rfl, _, rfl, _, _, rfl, rfl, D, _, _, _, rfl, rfl, SqL.of hF, at_of (j := j + 1) e1 (nint_at ag), _, rfl, _, rfl, D, _, _, j, rfl, rfl, hF, ixN_nat (by rw [nint_len, wl]; omega), ?_⟩
      have nF := nint_at (ns := (wyk (ns_ R) i)) (i := j) (n := wy ((ns_ R).drop (j + 1)))
      have ns1 : (nint (wyk (ns_ R) i)).set j (V.int ((wy ((ns_ R).drop (j + 1)) : Nat) : Int)) = nint ((wyk (ns_ R) i).set j (wy ((ns_ R).drop (j + 1)))) := by
        unfold nint
        rw [List.map_set]
      rw [ns1]
      have s1 := same_upd (o := .lst (nint ((wyk (ns_ R) i).set j (wy ((ns_ R).drop (j + 1)))))) sF hD
      have h1 : (upd F D (.lst (nint ((wyk (ns_ R) i).set j (wy ((ns_ R).drop (j + 1))))))) D = some (.lst (nint ((wyk (ns_ R) i).set j (wy ((ns_ R).drop (j + 1)))))) := upd_same
      have ha3 : (upd F D (.lst (nint ((wyk (ns_ R) i).set j (wy ((ns_ R).drop (j + 1))))))) a = some (.lst (ts.map V.ref)) := s1 _ _ ha
      have T3 := s1 _ _ (tv (j + 1) u r' hu1 hr1)
      generalize upd F D (.lst (nint ((wyk (ns_ R) i).set j (wy ((ns_ R).drop (j + 1)))))) = F1 at *
      refine ⟨_, rfl, _, rfl, _, _, rfl, rfl, a, _, _, _, rfl, rfl, SqL.of ha3, at_of (j := j + 1) e1 (by rw [List.getElem?_map, hu1]; rfl), u, _, _, _, rfl, rfl, SqT.of T3, rfl, rfl, _, rfl, ite2 (fun c => ?_) (fun c => ?_)⟩
      · have c1 : r'.2 = 1 := by
          have : ((r'.2 : Nat) : Int) = 1 := V.int.inj (of_decide_eq_true c)
          omega
        rw [if_pos c1] at wd_
        have ag2 : ((wyk (ns_ R) i).set j (wy ((ns_ R).drop (j + 1))))[j + 2]? = some (wy ((ns_ R).drop (j + 2))) := by
          rw [List.getElem?_set, if_neg (by omega), wyk_at (by omega), if_pos (by omega)]
        have ag0 : ((wyk (ns_ R) i).set j (wy ((ns_ R).drop (j + 1))))[j]? = some (wy ((ns_ R).drop (j + 1))) := by
          rw [List.getElem?_set, if_pos rfl, if_pos (by rw [wl]; omega)]
        refine ⟨_, rfl, _, rfl, D, _, j, _, rfl, rfl, SqL.of h1, nint_at ag0, _, rfl, _, rfl, _, _, rfl, rfl, D, _, _, _, rfl, rfl, SqL.of h1, at_of (j := j + 2) rfl (nint_at ag2), _, _, rfl, rfl, D, _, _, j, rfl, rfl, h1, ixN_nat (by rw [nint_len, List.length_set, wl]; omega), ?_⟩
        refine ⟨_, rfl, same_upd s1 hD, ?_⟩
        rw [upd_same, ← ws, wd_]
        unfold nint
        rw [List.map_set, List.set_set, List.map_set]
        rfl
      · have c1 : r'.2 ≠ 1 := fun z => c (decide_eq_true (by rw [z]; rfl))
        rw [if_neg c1] at wd_
        refine ⟨_, rfl, s1, ?_⟩
        rw [h1, ← ws, wd_]
        rfl
    · rintro σ F ⟨x2, rfl, sF, hF⟩
      rw [wyk_end _ (by omega)] at hF
      exact ⟨_, rfl, q D F sF hD hF⟩
end
section
variable {P : Program} {w : World} {K : PySem.W.Frag} {mg : Str → Option Value} {base : Heap} {f : Addr} {fd : FuncData}
theorem ok_L__init__ {C : Addr} (F : Fun K "__init__" "LeastDances.__init__" s_L__init__ f fd) (T : TxL K mg C) (D_runs : Dfn P w K mg base "runs" 2 ["fraction"] spRuns) (D_ways_on : Dfn P w K mg base "ways_on" 2 ["all_runs"] spWaysOn)  : FnOk P w K mg base CX0 3 f fd ["self", "fraction"] (spInitL C) := by
  refine F.ok sc_L__init__ (fun vs H Q E h => ?_) (fun cdv A outer s H vs Q E hr h => ?_)
  · obtain ⟨H0, p, t, dx, v, rfl, s0, p0, hp, hT, ntp, g, zs, q⟩ := h
    rfl
  obtain ⟨H0, p, t, dx, v, rfl, s0, p0, hp, hT, ntp, g, zs, q⟩ := h
  refine ⟨_, (pss_cons (ps_fld (pv 0) (pv 1) rfl)
    (pss_cons (ps_fld (pv 0) (pe_do D_runs hr (pa_cons (pv 1) pa_nil)) rfl)
    (pss_one (ps_fld (pv 0) (pe_do D_ways_on hr (pa_cons (pe_fld (pv 0) rfl) pa_nil)) rfl)))), ?_⟩
  have b8 := stp8 g (by omega)
  have rf := rl_fit g
  refine ⟨_, rfl, _, rfl, p, C, dx, [], rfl, hp, T.cl, T.nF, (by show 0 < 1000; decide), ?_⟩
  have s1 : Same H0 (upd H p (.ins C dx (putF "fraction" (.ref t) []))) := same_upd s0 p0
  have h1 : (upd H p (.ins C dx (putF "fraction" (.ref t) []))) p = some (.ins C dx (putF "fraction" (.ref t) [])) := upd_same
  have T1 : Tup2 (upd H p (.ins C dx (putF "fraction" (.ref t) []))) t v := by unfold Tup2; rw [upd_ne ntp]; exact hT
  generalize upd H p (.ins C dx (putF "fraction" (.ref t) [])) = H1 at *
  refine ⟨_, rfl, t, v, rfl, T1, g, b8.1, b8.2, fun r H2 s2 nr hr => ?_⟩
  have hr' : Rn H2 r (rl v) := hr
  have h2 := s2 _ _ h1
  have npr : p ≠ r := fun z => by rw [← z, h1] at nr; cases nr
  refine ⟨_, rfl, p, C, dx, _, rfl, h2, T.cl, T.nR, (by show 1 < 1000; decide), ?_⟩
  have keep2 : ∀ (H' : Hp) (o : HO) (b : Addr) (u : HO), b ≠ p → H' b = some u → (upd H' p o) b = some u := fun H' o b u n h => by rw [upd_ne n]; exact h
  have tupp : ∀ (H' : Hp) (a : Addr) (xs : List V) (fs : List (Str × V)), H' p = some (.ins C dx fs) → H' a = some (.tup xs) → a ≠ p := fun H' a xs fs e1 e2 z => by rw [z, e1] at e2; cases e2
  have R3 : Rn (upd H2 p (.ins C dx (putF "runs" (.ref r) (putF "fraction" (.ref t) [])))) r (rl v) := by
    obtain ⟨ts, e1, e2, e3⟩ := hr'
    exact ⟨ts, keep2 _ _ _ _ npr.symm e1, e2, fun i u x h1' h2' => keep2 _ _ _ _ (tupp _ _ _ _ h2 (e3 i u x h1' h2')) (e3 i u x h1' h2')⟩
  have T3 : Tup2 (upd H2 p (.ins C dx (putF "runs" (.ref r) (putF "fraction" (.ref t) [])))) t v := keep2 _ _ _ _ ntp (T1.same s2)
  have s3 : Same H0 (upd H2 p (.ins C dx (putF "runs" (.ref r) (putF "fraction" (.ref t) [])))) := same_upd (s1.trans s2) p0
  have h3 : (upd H2 p (.ins C dx (putF "runs" (.ref r) (putF "fraction" (.ref t) [])))) p = some (.ins C dx (putF "runs" (.ref r) (putF "fraction" (.ref t) []))) := upd_same
  generalize upd H2 p (.ins C dx (putF "runs" (.ref r) (putF "fraction" (.ref t) []))) = H3 at *
  have lr : (putF "runs" (.ref r) (putF "fraction" (.ref t) [])).lookup ("runs" : Str) = some (V.ref r) := by rw [lookup_putF, if_pos rfl]
  refine ⟨_, rfl, p, C, dx, _, _, rfl, h3, T.cl, T.nR, lr, r, rl v, rfl, R3, rf.1, by omega, fun w' H4 s4 nw hw => ?_⟩
  have h4 := s4 _ _ h3
  have npw : p ≠ w' := fun z => by rw [← z, h3] at nw; cases nw
  refine ⟨_, rfl, p, C, dx, _, rfl, h4, T.cl, T.nW, (by show 2 < 1000; decide), ?_⟩
  have R4 := R3.same s4
  refine q _ (same_upd (s3.trans s4) p0) ⟨dx, t, r, w', upd_same, keep2 _ _ _ _ ntp (T3.same s4), ?_, keep2 _ _ _ _ npw.symm hw⟩
  obtain ⟨ts, e1, e2, e3⟩ := R4
  exact ⟨ts, keep2 _ _ _ _ npr.symm e1, e2, fun i u x h1' h2' => keep2 _ _ _ _ (tupp _ _ _ _ h4 (e3 i u x h1' h2')) (e3 i u x h1' h2')⟩
end
section
variable {P : Program} {w : World} {K : PySem.W.Frag} {mg : Str → Option Value} {base : Heap} {f : Addr} {fd : FuncData}
theorem ok_Ldance_count {C : Addr} (F : Fun K "dance_count" "LeastDances.dance_count" s_Ldance_count f fd) (T : TxL K mg C)   : FnOk P w K mg base CX0 1 f fd ["self"] (spCountL C) := by
  refine F.ok sc_Ldance_count (fun vs H Q E h => ?_) (fun cdv A outer s H vs Q E hr h => ?_)
  · obtain ⟨p, v, rfl, ob, g, q⟩ := h
    rfl
  obtain ⟨p, v, rfl, ob, g, q⟩ := h
  refine ⟨_, (pss_one (ps_ret (pe_ix ix_list (pe_fld (pv 0) rfl) pe_int (fun _ _ => rfl)))), ?_⟩
  obtain ⟨dx, t, r, w', hp, hT, hR, hw⟩ := ob
  have rf := rl_fit g
  have e0 : (nint (wys (ns_ (rl v))))[0]? = some (V.int ((wy (ns_ (rl v)) : Nat) : Int)) := nint_at (by rw [wys_at (by rw [ns_len]; omega)]; rfl)
  exact ⟨_, rfl, p, C, dx, _, _, rfl, hp, T.cl, T.nW, lf_ways _ _ _, w', _, _, _, rfl, rfl, SqL.of hw, at_of (j := 0) rfl e0, q⟩
end
section
variable {P : Program} {w : World} {K : PySem.W.Frag} {mg : Str → Option Value} {base : Heap} {f : Addr} {fd : FuncData}
theorem ok_Ldance {C : Addr} (F : Fun K "dance" "LeastDances.dance" s_Ldance f fd) (T : TxL K mg C) (y_len : mg "len" = none) {pr gg : Addr} {fdC : FuncData} (PR : PropOf K C "dance_count" pr gg) (GC : FnOk P w K mg base CX0 1 gg fdC ["self"] (spCountL C)) (bC : Binds K fdC ["self"] []) : FnOk P w K mg base CX0 3 f fd ["self", "rank"] (spDanceL C) := by
  refine F.ok sc_Ldance (fun vs H Q E h => ?_) (fun cdv A outer s H vs Q E hr h => ?_)
  · obtain ⟨p, v, k, rfl, ob, g, zs, hk, q⟩ := h
    rfl
  obtain ⟨p, v, k, rfl, ob, g, zs, hk, q⟩ := h
  refine ⟨_, (pss_cons (ps_if (PW.pt (pw_or (pt_cmpR op_lt (pv 1) pe_int (nomark _)) (pw_or1 (pt_cmpR op_ge (pv 1) (pe_prop (pv 0) T.cl PR GC (hr.mono (by decide)) bC .nil pass0 rfl) (nomark _))))) (pss_one ps_never) pss_nil)
    (pss_cons (ps_asg (pe_ix ix_list (pe_fld (pv 0) rfl) pe_int (fun _ _ => rfl)) (pg_tup (by rfl) (pgs_cons (pg_name (i := 2) sc_Ldance.nd rfl (.inl rfl)) (pgs_cons (pg_name (i := 3) sc_Ldance.nd rfl (.inl rfl)) pgs_nil))))
    (pss_cons (ps_set (i := 4) sc_Ldance.nd rfl (.inl rfl) (pe_lst (pa_cons (pe_op op_mul_str (pv 2) (pv 3)) pa_nil)))
    (pss_cons (ps_set (i := 5) sc_Ldance.nd rfl (.inl rfl) pe_int)
    (pss_cons (ps_while PassesOwn.never (pt_cmpR op_lt (pe_op op_add (pv 5) pe_int) (pe_callB call_len_seq rfl y_len PySem.boot_len (pa_cons (pe_fld (pv 0) rfl) pa_nil)) (nomark _)) (pss_cons (ps_if (pt_cmpR op_lt (pv 1) (pe_ix ix_list (pe_fld (pv 0) rfl) (pe_op op_add (pv 5) pe_int) (fun _ _ => rfl)) (nomark _)) (pss_cons (ps_aug (i := 5) sc_Ldance.nd rfl (.inl rfl) pe_int ip_add)
    (pss_one (ps_expr (pe_bm PySem.F.plainAttrs_list PySem.F.slot_list_append PySem.F.type_list_append mt_append (pv 4) (pa_cons pe_str pa_nil))))) (pss_cons (ps_aug (i := 1) sc_Ldance.nd rfl (.inl rfl) (pe_ix ix_list (pe_fld (pv 0) rfl) (pe_op op_add (pv 5) pe_int) (fun _ _ => rfl)) ip_sub)
    (pss_cons (ps_aug (i := 5) sc_Ldance.nd rfl (.inl rfl) pe_int ip_add)
    (pss_one (ps_expr (pe_bm PySem.F.plainAttrs_list PySem.F.slot_list_append PySem.F.type_list_append mt_append (pv 4) (pa_cons (pe_op op_add_str (pe_op op_add_str (pv 2) pe_str) (pv 2)) pa_nil)))))))
    (pss_cons (ps_asg (pe_ix ix_list (pe_fld (pv 0) rfl) (pv 5) (fun _ _ => rfl)) (pg_tup (by rfl) (pgs_cons (pg_name (i := 2) sc_Ldance.nd rfl (.inl rfl)) (pgs_cons (pg_name (i := 3) sc_Ldance.nd rfl (.inl rfl)) pgs_nil))))
    (pss_one (ps_expr (pe_bm PySem.F.plainAttrs_list PySem.F.slot_list_append PySem.F.type_list_append mt_append (pv 4) (pa_cons (pe_op op_mul_str (pv 2) (pv 3)) pa_nil)))))))
    (pss_one (ps_ret (pe_join pe_str (pv 4))))))))), ?_⟩
  obtain ⟨dx, t, r, w', hp, hT, hR, hw⟩ := id ob
  obtain ⟨ts, hr, tl, tv⟩ := id hR
  have rf := rl_fit g
  have one : 1 ≤ sizeLine := fits (by decide)
  have big : ∀ x ∈ rl v, x.2 ≤ 2000 := fun x hx => by
    have m : x.2 ∈ ns_ (rl v) := List.mem_map.mpr ⟨x, hx, rfl⟩
    have := le_sum m
    omega
  have alt := alt_rl v
  have ld0 := ld_rl_len g hk
  have wl := wys_len (ns_ (rl v))
  have nl := ns_len (rl v)
  generalize hRR : rl v = R at *
  refine ⟨_, rfl, _, _, rfl, rfl, _, rfl, ite2 (fun c => absurd (of_decide_eq_true c) (by omega)) (fun _ => ?_)⟩
  refine ⟨_, rfl, _, rfl, p, dx, _, rfl, hp, p, v, rfl, ob, g, _, _, rfl, rfl, _, rfl, ?_⟩
  rw [hRR]
  refine ite2 (fun c => absurd (of_decide_eq_true c) (by omega)) (fun _ => ?_)
  obtain ⟨x0, R', rfl⟩ : ∃ x0 R', R = x0 :: R' := by
    cases R with
    | nil => exact absurd rf.1 (by decide)
    | cons x R' => exact ⟨x, R', rfl⟩
  obtain ⟨u0, hu0⟩ : ∃ u0, ts[0]? = some u0 := ⟨_, List.getElem?_eq_getElem (by omega)⟩
  have T0 := tv 0 u0 x0 hu0 rfl
  refine ⟨_, rfl, p, C, dx, _, _, rfl, hp, T.cl, T.nR, lf_runs _ _ _, r, _, _, _, rfl, rfl, SqL.of hr, at_of (j := 0) rfl (by rw [List.getElem?_map, hu0]; rfl), ?_⟩
  refine ⟨u0, _, rfl, SqT.of T0, rfl, _, _, rfl, _, _, rfl, rfl, ?_⟩
  have b0 := big x0 List.mem_cons_self
  refine ⟨_, rfl, _, rfl, [x0.1], (x0.2 : Int), rfl, rfl, by omega, by omega, by rw [Int.toNat_natCast]; show 1 * x0.2 ≤ _; omega, ?_⟩
  rw [Int.toNat_natCast, flat_one]
  refine ⟨one, fun wp hwp => ?_⟩
  have s1 := same_new hwp (.lst [V.str (S (List.replicate x0.2 x0.1))])
  refine while_by (fun σ G => ∃ (at_ k' : Nat) (x : Nat × Nat) (R'' : List (Nat × Nat)) (Ws : List (List Nat)), σ = [some (.ref p), some (.int (k' : Int)), some (.str (S [x.1])), some (.int (x.2 : Int)), some (.ref wp), some (.int (at_ : Int))] ∧ Same H G ∧ G wp = some (.lst ((Ws.map S).map V.str)) ∧ (x0 :: R').drop at_ = x :: R'' ∧ k' < wy (ns_ (x :: R'')) ∧ Ws.flatten ++ ldt (x :: R'') k' = ld (x0 :: R') k ∧ Ws.length ≤ 2 * at_ + 1) (fun σ _ => match σ with | [_, _, _, _, _, some (.int a)] => (5000 - a).toNat | _ => 0) ⟨0, k, x0, R', [wd x0], rfl, s1, upd_same, rfl, hk, by rw [ld_ldt]; simp, Nat.le_refl _⟩ ?_ ?_
  · rintro σ G ⟨a, k', x, R'', Ws, rfl, sG, hG, ed, hk', ew, zw⟩
    have hp' := sG _ _ hp
    have hr' := sG _ _ hr
    have hw' := sG _ _ hw
    have ela : a + (x :: R'').length = (x0 :: R').length := by
      have := congrArg List.length ed
      rw [List.length_drop] at this
      have h2 : (x :: R'').length = R''.length + 1 := rfl
      omega
    have e1 : ((a : Int) + 1) = ((a + 1 : Nat) : Int) := rfl
    refine ⟨_, rfl, _, _, rfl, rfl, _, rfl, p, C, dx, _, _, rfl, hp', T.cl, T.nR, lf_runs _ _ _, r, _, rfl, .inl (SqL.of hr'), _, _, rfl, rfl, _, rfl, ite2 (fun c => ?_) (fun c => ?_)⟩
    · have c' : a + 1 < (x0 :: R').length := by
        have : (a : Int) + 1 < ((ts.map V.ref).length : Int) := of_decide_eq_true c
        rw [List.length_map, tl] at this
        omega
      obtain ⟨y, R3, rfl⟩ : ∃ y R3, R'' = y :: R3 := by
        cases R'' with
        | nil =>
          have : ([x] : List (Nat × Nat)).length = 1 := rfl
          omega
        | cons y R3 => exact ⟨y, R3, rfl⟩
      have ed1 : (x0 :: R').drop (a + 1) = y :: R3 := by
        have := congrArg (List.drop 1) ed
        rw [List.drop_drop] at this
        exact this
      have ew1 : (nint (wys (ns_ (x0 :: R'))))[a + 1]? = some (V.int ((wy (ns_ (y :: R3)) : Nat) : Int)) := nint_at (by rw [wys_at (by omega), ← ns_drop, ed1])
      have ldte : ldt (x :: y :: R3) k' = if k' < wy (ns_ (y :: R3)) then 82 :: ld (y :: R3) k' else x.1 :: 82 :: x.1 :: ld R3 (k' - wy (ns_ (y :: R3))) := rfl
      refine ⟨_, rfl, _, rfl, p, C, dx, _, _, rfl, hp', T.cl, T.nW, lf_ways _ _ _, _, rfl, _, _, rfl, rfl, w', _, _, _, rfl, rfl, SqL.of hw', at_of (j := a + 1) e1 ew1, _, _, rfl, rfl, _, rfl, ite2 (fun c2 => ?A) (fun c2 => ?B)⟩
      case' A =>
        have c2' : k' < wy (ns_ (y :: R3)) := by
          have : (k' : Int) < ((wy (ns_ (y :: R3)) : Nat) : Int) := of_decide_eq_true c2
          omega
        rw [if_pos c2'] at ldte
        refine ⟨_, rfl, _, _, rfl, rfl, _, rfl, .inl ⟨rfl, _, SqL.of hG⟩, wp, _, _, rfl, rfl, hG, Nat.lt_of_lt_of_le (show ((Ws.map S).map V.str).length < 16777216 by rw [List.length_map, List.length_map]; omega) sizeLine_big, ?_⟩
        rw [e_R]
        have s2 := same_upd (o := .lst ((Ws.map S).map V.str ++ [V.str (S [82])])) sG hwp
        have hG2 : (upd G wp (.lst ((Ws.map S).map V.str ++ [V.str (S [82])]))) wp = some (.lst (((Ws ++ [[82]]).map S).map V.str)) := by rw [upd_same, List.map_append, List.map_append]; rfl
        have ew2 : (Ws ++ [[82]]).flatten ++ ld (y :: R3) k' = ld (x0 :: R') k := by
          rw [← ew, ldte, List.flatten_append, List.append_assoc]
          rfl
        have kk : k' < wy (ns_ (y :: R3)) := c2'
        have edn := ed1
        have zw2 : (Ws ++ [[82]]).length ≤ 2 * a + 2 := by rw [List.length_append]; show Ws.length + 1 ≤ _; omega
        have al : a + 1 < ts.length := by omega
        generalize upd G wp (.lst ((Ws.map S).map V.str ++ [V.str (S [82])])) = G2 at *
        generalize Ws ++ [[82]] = W2 at hG2 ew2 zw2
        obtain ⟨an, han⟩ : ∃ an : Nat, an = a + 1 := ⟨_, rfl⟩
        have e2 : ((a : Int) + 1) = (an : Int) := by omega
        have zw3 : W2.length ≤ 2 * an := by omega
        have lan : a < an := by omega
        rw [← han] at edn al
        dsimp only
        rw [e2]
        generalize k' = kn at kk ew2 ⊢
        generalize y = yn at kk ew2 edn
        generalize R3 = Rn3 at kk ew2 edn
      case' B =>
        have c2' : ¬ k' < wy (ns_ (y :: R3)) := fun z => c2 (decide_eq_true (by omega))
        rw [if_neg c2'] at ldte
        obtain ⟨n2, r', f1, f2, f3⟩ := wy_else (n0 := x.2) (n1 := y.2) (r := ns_ R3) (k := k') hk' c2'
        obtain ⟨z, R4, rfl⟩ : ∃ z R4, R3 = z :: R4 := by
          cases R3 with
          | nil => cases f1
          | cons z R4 => exact ⟨z, R4, rfl⟩
        have kk : k' - wy (ns_ (y :: z :: R4)) < wy (ns_ (z :: R4)) := by rw [← f1] at f3; exact f3
        have edn : (x0 :: R').drop (a + 2) = z :: R4 := by
          have := congrArg (List.drop 1) ed1
          rw [List.drop_drop] at this
          exact this
        refine ⟨_, rfl, _, rfl, p, C, dx, _, _, rfl, hp', T.cl, T.nW, lf_ways _ _ _, _, rfl, _, _, rfl, rfl, w', _, _, _, rfl, rfl, SqL.of hw', at_of (j := a + 1) e1 ew1, _, _, rfl, rfl, ?_⟩
        refine ⟨_, rfl, _, _, rfl, rfl, _, rfl, .inl ⟨rfl, _, SqL.of hG⟩, _, rfl, _, _, rfl, rfl, by rw [e_R, S_len, S_len]; exact fits (by show 1 + 1 ≤ 16777216; decide), ?_⟩
        rw [e_R, S_app]
        refine ⟨_, rfl, _, _, rfl, rfl, by rw [S_len, S_len]; exact fits (by show 2 + 1 ≤ 16777216; decide), ?_⟩
        rw [S_app]
        refine ⟨wp, _, _, rfl, rfl, hG, Nat.lt_of_lt_of_le (show ((Ws.map S).map V.str).length < 16777216 by rw [List.length_map, List.length_map]; omega) sizeLine_big, ?_⟩
        have s2 := same_upd (o := .lst ((Ws.map S).map V.str ++ [V.str (S ([x.1] ++ [82] ++ [x.1]))])) sG hwp
        have hG2 : (upd G wp (.lst ((Ws.map S).map V.str ++ [V.str (S ([x.1] ++ [82] ++ [x.1]))]))) wp = some (.lst (((Ws ++ [[x.1] ++ [82] ++ [x.1]]).map S).map V.str)) := by rw [upd_same, List.map_append, List.map_append]; rfl
        have ew2 : (Ws ++ [[x.1] ++ [82] ++ [x.1]]).flatten ++ ld (z :: R4) (k' - wy (ns_ (y :: z :: R4))) = ld (x0 :: R') k := by
          rw [← ew, ldte, List.flatten_append, List.append_assoc]
          rfl
        have zw2 : (Ws ++ [[x.1] ++ [82] ++ [x.1]]).length ≤ 2 * a + 2 := by rw [List.length_append]; show Ws.length + 1 ≤ _; omega
        have al : a + 2 < ts.length := by
          have h2 : (x :: y :: z :: R4).length = R4.length + 3 := rfl
          omega
        generalize upd G wp (.lst ((Ws.map S).map V.str ++ [V.str (S ([x.1] ++ [82] ++ [x.1]))])) = G2 at *
        generalize Ws ++ [[x.1] ++ [82] ++ [x.1]] = W2 at hG2 ew2 zw2
        obtain ⟨an, han⟩ : ∃ an : Nat, an = a + 2 := ⟨_, rfl⟩
        have e2 : ((a : Int) + 2) = (an : Int) := by omega
        have zw3 : W2.length ≤ 2 * an := by omega
        have lan : a < an := by omega
        rw [← han] at edn al
        have ek : (k' : Int) - ((wy (ns_ (y :: z :: R4)) : Nat) : Int) = ((k' - wy (ns_ (y :: z :: R4)) : Nat) : Int) := by omega
        dsimp only
        rw [e2, ek]
        generalize k' - wy (ns_ (y :: z :: R4)) = kn at kk ew2 ⊢
        generalize z = yn at kk ew2 edn
        generalize R4 = Rn3 at kk ew2 edn
      all_goals
        obtain ⟨u, hu⟩ : ∃ u, ts[an]? = some u := ⟨_, List.getElem?_eq_getElem al⟩
        have hxn : (x0 :: R')[an]? = some yn := by
          have := congrArg (fun l => l[0]?) edn
          simpa using this
        have Tu := s2 _ _ (tv an u yn hu hxn)
        have bn := big yn (List.mem_of_getElem? hxn)
        refine ⟨_, rfl, p, C, dx, _, _, rfl, s2 _ _ hp, T.cl, T.nR, lf_runs _ _ _, _, rfl, r, _, _, _, rfl, rfl, SqL.of (s2 _ _ hr), at_of (j := an) rfl (by rw [List.getElem?_map, hu]; rfl), ?_⟩
        refine ⟨u, _, rfl, SqT.of Tu, rfl, _, _, rfl, _, _, rfl, rfl, ?_⟩
        refine ⟨_, rfl, .inl ⟨rfl, _, SqL.of hG2⟩, _, rfl, _, rfl, [yn.1], (yn.2 : Int), rfl, rfl, by omega, by omega, by rw [Int.toNat_natCast]; show 1 * yn.2 ≤ _; omega, ?_⟩
        rw [Int.toNat_natCast, flat_one]
        refine ⟨wp, _, _, rfl, rfl, hG2, Nat.lt_of_lt_of_le (show ((W2.map S).map V.str).length < 16777216 by rw [List.length_map, List.length_map]; omega) sizeLine_big, ?_⟩
        refine ⟨⟨an, kn, yn, Rn3, W2 ++ [wd yn], rfl, same_upd s2 hwp, by rw [upd_same, List.map_append, List.map_append]; rfl, edn, kk, by rw [← ew2, ld_ldt, List.flatten_append, List.append_assoc]; simp, by rw [List.length_append]; show W2.length + 1 ≤ _; omega⟩, ?_⟩
        show (5000 - (an : Int)).toNat < (5000 - (a : Int)).toNat
        omega
    · have c' : ¬ a + 1 < (x0 :: R').length := fun z => c (decide_eq_true (by rw [List.length_map, tl]; omega))
      have r0 : R'' = [] := by
        cases R'' with
        | nil => rfl
        | cons y R3 =>
          have h2 : (x :: y :: R3).length = R3.length + 2 := rfl
          omega
      subst r0
      have ew' : Ws.flatten = ld (x0 :: R') k := by
        rw [← ew]
        exact (List.append_nil _).symm
      have fl : (Ws.map List.length).sum = (ld (x0 :: R') k).length := by rw [← ew', List.length_flatten]
      refine ⟨⟨_, rfl⟩, _, rfl, S [], wp, Ws.map S, e_empty ▸ rfl, rfl, .inl (SqL.of hG), ?_, ?_⟩
      · rw [List.map_map, S_len, List.length_map]
        have e3 : (List.map (Str.length ∘ S) Ws).sum = (Ws.map List.length).sum := by
          congr 1
        rw [e3, fl]
        show _ + _ * 0 ≤ 16777216
        omega
      · rw [join_E, ew']
        exact q G sG
  · rintro σ H' Q1 Q2 hm ⟨v0, f0, i1, j1, f1, f1', v2, f2, a1, a2, a3, a4, a5, a6, a7, a8, a9, a10, b1, b2, b3, b4, i3, j3, f3, f3', b, e3, qq⟩
    exact ⟨v0, f0, i1, j1, f1, f1', v2, f2, a1, a2, a3, a4, a5, a6, a7, a8, a9, a10, b1, b2, b3, b4, i3, j3, f3, f3', b, e3, hm _ _ qq⟩
end
section
variable {P : Program} {w : World} {K : PySem.W.Frag} {mg : Str → Option Value} {base : Heap} {f : Addr} {fd : FuncData}
theorem ok_Lrank_of {C : Addr} (F : Fun K "rank_of" "LeastDances.rank_of" s_Lrank_of f fd) (T : TxL K mg C) (D_num : Dfn P w K mg base "number" 3 ["dance"] spNum) (D_steps : Dfn P w K mg base "steps" 3 ["fraction"] spSteps) (y_len : mg "len" = none)  : FnOk P w K mg base CX0 4 f fd ["self", "dance"] (spRankL C) := by
  refine F.ok sc_Lrank_of (fun vs H Q E h => ?_) (fun cdv A outer s H vs Q E hr h => ?_)
  · obtain ⟨p, v, k, rfl, ob, g, zs, hk, q⟩ := h
    rfl
  obtain ⟨p, v, k, rfl, ob, g, zs, hk, q⟩ := h
  refine ⟨_, (pss_cons (ps_if (PW.pt (pw_or (pt_cmpR op_ne (pe_callB call_len_str rfl y_len PySem.boot_len (pa_cons (pv 1) pa_nil)) (pe_do D_steps hr (pa_cons (pe_fld (pv 0) rfl) pa_nil)) (nomark _)) (pw_or1 (pt_cmpR (op_neD hr.units) (pe_do D_num hr (pa_cons (pv 1) pa_nil)) (pe_fld (pv 0) rfl) (nomark _))))) (pss_one ps_never) pss_nil)
    (pss_cons (ps_set (i := 2) sc_Lrank_of.nd rfl (.inl rfl) pe_int)
    (pss_cons (ps_set (i := 3) sc_Lrank_of.nd rfl (.inl rfl) pe_int)
    (pss_cons (ps_set (i := 4) sc_Lrank_of.nd rfl (.inl rfl) (pe_ix ix_tup (pe_ix ix_list (pe_fld (pv 0) rfl) pe_int (fun _ _ => rfl)) pe_int (fun _ _ => rfl)))
    (pss_cons (ps_while PassesOwn.never (pt_cmpR op_lt (pe_op op_add (pv 3) pe_int) (pe_callB call_len_seq rfl y_len PySem.boot_len (pa_cons (pe_fld (pv 0) rfl) pa_nil)) (nomark _)) (pss_cons (ps_if (pt_cmpR op_eq (pe_ix ix_str (pv 1) (pv 4) (fun _ _ => rfl)) pe_str (nomark _)) (pss_cons (ps_aug (i := 3) sc_Lrank_of.nd rfl (.inl rfl) pe_int ip_add)
    (pss_one (ps_aug (i := 4) sc_Lrank_of.nd rfl (.inl rfl) pe_int ip_add))) (pss_cons (ps_aug (i := 2) sc_Lrank_of.nd rfl (.inl rfl) (pe_ix ix_list (pe_fld (pv 0) rfl) (pe_op op_add (pv 3) pe_int) (fun _ _ => rfl)) ip_add)
    (pss_cons (ps_aug (i := 3) sc_Lrank_of.nd rfl (.inl rfl) pe_int ip_add)
    (pss_one (ps_aug (i := 4) sc_Lrank_of.nd rfl (.inl rfl) pe_int ip_add)))))
    (pss_one (ps_aug (i := 4) sc_Lrank_of.nd rfl (.inl rfl) (pe_ix ix_tup (pe_ix ix_list (pe_fld (pv 0) rfl) (pv 3) (fun _ _ => rfl)) pe_int (fun _ _ => rfl)) ip_add))))
    (pss_one (ps_ret (pv 2)))))))), ?_⟩
  obtain ⟨dx, t, r, w', hp0, hT0, hR0, hw0⟩ := id ob
  have b8 := stp8 g (by omega)
  have rf := rl_fit g
  have alt := alt_rl v
  have ld0 := ld_rl_len g hk
  have run0 := ld_rl_run g hk
  have wl := wys_len (ns_ (rl v))
  have nl := ns_len (rl v)
  have al_ := fun x (hx : x ∈ rl v) => al_or (quo v) (fl v) (fl_or v) x (List.mem_reverse.mp hx)
  generalize hd : ld (rl v) k = d at *
  have dz : (S d).length ≤ sizeLine := by rw [S_len]; exact fits (by omega)
  refine ⟨_, rfl, _, rfl, dz, _, rfl, p, C, dx, _, _, rfl, hp0, T.cl, T.nF, lf_frac _ _ _, t, v, rfl, hT0, g, b8.1, b8.2, fun H1 s1 => ⟨rfl, _, rfl, ?_⟩⟩
  rw [S_len, ld0, decide_eq_true rfl]
  refine iteF ?_
  refine ⟨_, rfl, d, rfl, fun t1 H2 s2 T1 => ⟨_, rfl, p, C, dx, _, _, rfl, s2 _ _ (s1 _ _ hp0), T.cl, T.nF, lf_frac _ _ _, _, _, dp_tup2 T1, dp_tup2 ((hT0.same s1).same s2), sh2 _ _, sh2 _ _, ?_⟩⟩
  rw [eqv2, decide_eq_true run0]
  refine ⟨_, rfl, iteF ?_⟩
  have S2 := s1.trans s2
  have hp := S2 _ _ hp0
  have hw := S2 _ _ hw0
  obtain ⟨ts, hr, tl, tv⟩ := hR0.same S2
  generalize hRR : rl v = R at *
  obtain ⟨x0, R', rfl⟩ : ∃ x0 R', R = x0 :: R' := by
    cases R with
    | nil => exact absurd rf.1 (by decide)
    | cons x R' => exact ⟨x, R', rfl⟩
  obtain ⟨u0, hu0⟩ : ∃ u0, ts[0]? = some u0 := ⟨_, List.getElem?_eq_getElem (by omega)⟩
  have T0 := tv 0 u0 x0 hu0 rfl
  refine ⟨_, rfl, p, C, dx, _, _, rfl, hp, T.cl, T.nR, lf_runs _ _ _, r, _, _, _, rfl, rfl, SqL.of hr, at_of (j := 0) rfl (by rw [List.getElem?_map, hu0]; rfl), u0, _, _, _, rfl, rfl, SqT.of T0, rfl, ?_⟩
  refine while_by (fun σ G => G = H2 ∧ ∃ (a k' rk b : Nat) (x : Nat × Nat) (R'' : List (Nat × Nat)), σ = [some (.ref p), some (.str (S d)), some (.int (rk : Int)), some (.int (a : Int)), some (.int (b : Int))] ∧ rk + k' = k ∧ (x0 :: R').drop a = x :: R'' ∧ k' < wy (ns_ (x :: R'')) ∧ d.drop b = ldt (x :: R'') k') (fun σ _ => match σ with | [_, _, _, some (.int a), _] => (5000 - a).toNat | _ => 0) ⟨rfl, 0, k, 0, x0.2, x0, R', rfl, by omega, rfl, hk, ?_⟩ ?_ ?_
  · rw [← hd, ld_ldt, List.drop_append_of_le_length (by rw [wd_len]; exact Nat.le_refl _), List.drop_eq_nil_of_le (by rw [wd_len]; exact Nat.le_refl _), List.nil_append]
  · rintro σ _ ⟨rfl, a, k', rk, b, x, R'', rfl, ek, ed, hk', edr⟩
    have ela : a + (x :: R'').length = (x0 :: R').length := by
      have := congrArg List.length ed
      rw [List.length_drop] at this
      have h2 : (x :: R'').length = R''.length + 1 := rfl
      omega
    have e1 : ((a : Int) + 1) = ((a + 1 : Nat) : Int) := rfl
    have hx0 : (x0 :: R')[a]? = some x := by
      have := congrArg (fun l => l[0]?) ed
      simpa using this
    have xl := al_ x (List.mem_of_getElem? hx0)
    refine ⟨_, rfl, _, _, rfl, rfl, _, rfl, p, C, dx, _, _, rfl, hp, T.cl, T.nR, lf_runs _ _ _, r, _, rfl, .inl (SqL.of hr), _, _, rfl, rfl, _, rfl, ite2 (fun c => ?_) (fun c => ?_)⟩
    · have c' : a + 1 < (x0 :: R').length := by
        have : (a : Int) + 1 < ((ts.map V.ref).length : Int) := of_decide_eq_true c
        rw [List.length_map, tl] at this
        omega
      obtain ⟨y, R3, rfl⟩ : ∃ y R3, R'' = y :: R3 := by
        cases R'' with
        | nil =>
          have : ([x] : List (Nat × Nat)).length = 1 := rfl
          omega
        | cons y R3 => exact ⟨y, R3, rfl⟩
      have ed1 : (x0 :: R').drop (a + 1) = y :: R3 := by
        have := congrArg (List.drop 1) ed
        rw [List.drop_drop] at this
        exact this
      have ew1 : (nint (wys (ns_ (x0 :: R'))))[a + 1]? = some (V.int ((wy (ns_ (y :: R3)) : Nat) : Int)) := nint_at (by rw [wys_at (by omega), ← ns_drop, ed1])
      have ldte : ldt (x :: y :: R3) k' = if k' < wy (ns_ (y :: R3)) then 82 :: ld (y :: R3) k' else x.1 :: 82 :: x.1 :: ld R3 (k' - wy (ns_ (y :: R3))) := rfl
      rw [ldte] at edr
      by_cases c2 : k' < wy (ns_ (y :: R3))
      · rw [if_pos c2] at edr
        have hc : d[b]? = some 82 := by
          have := congrArg (fun l => l[0]?) edr
          simpa using this
        have hcs : (S d).cps.toList[b]? = some 82 := by rw [S_list]; exact hc
        have edn : d.drop (b + 1 + y.2) = ldt (y :: R3) k' := by
          have := congrArg (List.drop (1 + y.2)) edr
          rw [List.drop_drop] at this
          rw [show b + 1 + y.2 = b + (1 + y.2) by omega, this, show 1 + y.2 = y.2 + 1 by omega, List.drop_succ_cons, ld_ldt, List.drop_append_of_le_length (by rw [wd_len]; exact Nat.le_refl _), List.drop_eq_nil_of_le (by rw [wd_len]; exact Nat.le_refl _), List.nil_append]
        have al : a + 1 < ts.length := by omega
        obtain ⟨u, hu⟩ : ∃ u, ts[a + 1]? = some u := ⟨_, List.getElem?_eq_getElem al⟩
        have hxn : (x0 :: R')[a + 1]? = some y := by
          have := congrArg (fun l => l[0]?) ed1
          simpa using this
        have Tu := tv (a + 1) u y hu hxn
        refine ⟨_, rfl, _, rfl, _, _, 82, rfl, rfl, dz, atI_nat hcs, rfl, _, rfl, ?_⟩
        rw [show decide (V.str ⟨#[82]⟩ = V.str "R") = true from decide_eq_true ((sign_eq e_R).mpr rfl)]
        refine iteT ⟨_, rfl, _, _, rfl, rfl, _, rfl, _, _, rfl, rfl, ?_⟩
        refine ⟨_, rfl, _, rfl, p, C, dx, _, _, rfl, hp, T.cl, T.nR, lf_runs _ _ _, _, rfl, r, _, _, _, rfl, rfl, SqL.of hr, at_of (j := a + 1) e1 (by rw [List.getElem?_map, hu]; rfl), u, _, _, _, rfl, rfl, SqT.of Tu, rfl, _, _, rfl, rfl, ⟨rfl, a + 1, k', rk, b + 1 + y.2, y, R3, rfl, ek, ed1, c2, edn⟩, ?_⟩
        show (5000 - ((a : Int) + 1)).toNat < (5000 - (a : Int)).toNat
        omega
      · rw [if_neg c2] at edr
        obtain ⟨n2, r', f1, f2, f3⟩ := wy_else (n0 := x.2) (n1 := y.2) (r := ns_ R3) (k := k') hk' c2
        obtain ⟨z, R4, rfl⟩ : ∃ z R4, R3 = z :: R4 := by
          cases R3 with
          | nil => cases f1
          | cons z R4 => exact ⟨z, R4, rfl⟩
        have kk : k' - wy (ns_ (y :: z :: R4)) < wy (ns_ (z :: R4)) := by rw [← f1] at f3; exact f3
        have ed2 : (x0 :: R').drop (a + 2) = z :: R4 := by
          have := congrArg (List.drop 1) ed1
          rw [List.drop_drop] at this
          exact this
        have hc : d[b]? = some x.1 := by
          have := congrArg (fun l => l[0]?) edr
          simpa using this
        have hcs : (S d).cps.toList[b]? = some x.1 := by rw [S_list]; exact hc
        have edn : d.drop (b + 3 + z.2) = ldt (z :: R4) (k' - wy (ns_ (y :: z :: R4))) := by
          have := congrArg (List.drop (3 + z.2)) edr
          rw [List.drop_drop] at this
          rw [show b + 3 + z.2 = b + (3 + z.2) by omega, this, show 3 + z.2 = z.2 + 1 + 1 + 1 by omega, List.drop_succ_cons, List.drop_succ_cons, List.drop_succ_cons, ld_ldt, List.drop_append_of_le_length (by rw [wd_len]; exact Nat.le_refl _), List.drop_eq_nil_of_le (by rw [wd_len]; exact Nat.le_refl _), List.nil_append]
        have al : a + 2 < ts.length := by
          have h2 : (x :: y :: z :: R4).length = R4.length + 3 := rfl
          omega
        obtain ⟨u, hu⟩ : ∃ u, ts[a + 2]? = some u := ⟨_, List.getElem?_eq_getElem al⟩
        have hxn : (x0 :: R')[a + 2]? = some z := by
          have := congrArg (fun l => l[0]?) ed2
          simpa using this
        have Tu := tv (a + 2) u z hu hxn
        refine ⟨_, rfl, _, rfl, _, _, x.1, rfl, rfl, dz, atI_nat hcs, rfl, _, rfl, ?_⟩
        rw [show decide (V.str ⟨#[x.1]⟩ = V.str "R") = false from decide_eq_false (fun zz => by have := (sign_eq e_R).mp zz; omega)]
        refine iteF ⟨_, rfl, _, rfl, p, C, dx, _, _, rfl, hp, T.cl, T.nW, lf_ways _ _ _, _, rfl, _, _, rfl, rfl, w', _, _, _, rfl, rfl, SqL.of hw, at_of (j := a + 1) e1 ew1, _, _, rfl, rfl, ?_⟩
        refine ⟨_, rfl, _, _, rfl, rfl, _, rfl, _, _, rfl, rfl, ?_⟩
        refine ⟨_, rfl, _, rfl, p, C, dx, _, _, rfl, hp, T.cl, T.nR, lf_runs _ _ _, _, rfl, r, _, _, _, rfl, rfl, SqL.of hr, at_of (j := a + 2) rfl (by rw [List.getElem?_map, hu]; rfl), u, _, _, _, rfl, rfl, SqT.of Tu, rfl, _, _, rfl, rfl, ⟨rfl, a + 2, k' - wy (ns_ (y :: z :: R4)), rk + wy (ns_ (y :: z :: R4)), b + 3 + z.2, z, R4, rfl, by omega, ed2, kk, edn⟩, ?_⟩
        show (5000 - ((a : Int) + 2)).toNat < (5000 - (a : Int)).toNat
        omega
    · have c' : ¬ a + 1 < (x0 :: R').length := fun z => c (decide_eq_true (by rw [List.length_map, tl]; omega))
      have r0 : R'' = [] := by
        cases R'' with
        | nil => rfl
        | cons y R3 =>
          have h2 : (x :: y :: R3).length = R3.length + 2 := rfl
          omega
      subst r0
      have w1 : wy (ns_ [x]) = 1 := rfl
      have : rk = k := by omega
      subst this
      exact ⟨_, rfl, q _ S2⟩
  · rintro σ H' Q1 Q2 hm ⟨v0, f0, i1, j1, f1, f1', v2, f2, a1, a2, a3, a4, a5, a6, a7, a8, a9, a10, b1, b2, b3, b4, i3, j3, f3, f3', b, e3, qq⟩
    exact ⟨v0, f0, i1, j1, f1, f1', v2, f2, a1, a2, a3, a4, a5, a6, a7, a8, a9, a10, b1, b2, b3, b4, i3, j3, f3, f3', b, e3, hm _ _ qq⟩
end
section
variable {P : Program} {w : World} {K : PySem.W.Frag} {mg : Str → Option Value} {base : Heap} {f : Addr} {fd : FuncData}
theorem ok_law_steps (F : Fun K "_law_steps" "_law_steps" s_law_steps f fd) (y_abs : mg "abs" = none) (y_int : mg "int" = none)  : FnOk P w K mg base CX0 1 f fd ["value"] spSteps := by
  refine F.ok sc_law_steps (fun vs H Q E h => ?_) (fun cdv A outer s H vs Q E hr h => ?_)
  · obtain ⟨t, v, rfl, hT, g, z1, z2, q⟩ := h
    rfl
  obtain ⟨t, v, rfl, hT, g, z1, z2, q⟩ := h
  refine ⟨_, (pss_cons (ps_set (i := 1) sc_law_steps.nd rfl (.inl rfl) (pe_callB call_abs rfl y_abs (by decide +kernel) (pa_cons (pe_ix ix_tup (pv 0) pe_int (fun _ _ => rfl)) pa_nil)))
    (pss_cons (ps_set (i := 2) sc_law_steps.nd rfl (.inl rfl) (pe_ix ix_tup (pv 0) pe_int (fun _ _ => rfl)))
    (pss_cons (ps_if (pt_cmpR op_eq (pv 2) pe_int (nomark _)) (pss_one (ps_ret pe_int)) pss_nil)
    (pss_cons (ps_set (i := 3) sc_law_steps.nd rfl (.inl rfl) (pe_op op_sub pe_int pe_int))
    (pss_cons (ps_while PassesOwn.never (pt_cmpR op_gt (pv 2) pe_int (nomark _)) (pss_cons (ps_set (i := 3) sc_law_steps.nd rfl (.inl rfl) (pe_op op_add (pe_op op_add (pv 3) pe_int) (pe_op op_fdivW (pv 1) (pv 2))))
    (pss_one (ps_par (i := 1) (j := 2) (by rfl) sc_law_steps.nd rfl rfl (by decide) rfl rfl (pa_cons (pv 2) (pa_cons (pe_op op_modN (pe_callTy call_int1 rfl y_int (by decide +kernel) (pa_cons (pv 1) pa_nil)) (pv 2)) pa_nil)) (by rfl)))))
    (pss_one (ps_ret (pv 3)))))))), ?_⟩
  obtain ⟨p, q'⟩ := v
  refine ⟨_, rfl, t, _, _, _, rfl, rfl, SqT.of hT, rfl, _, rfl, ?_⟩
  have e2 : (if p < 0 then -p else p) = (p.natAbs : Int) := by split <;> omega
  simp only [e2]
  refine ⟨_, rfl, t, _, _, _, rfl, rfl, SqT.of hT, rfl, ?_⟩
  refine ⟨_, rfl, rfl, _, rfl, ite2 (fun c => ?_) (fun c => ?_)⟩
  · have k : q' = 0 := V.int.inj (of_decide_eq_true c)
    subst k
    have := q H (Same.refl H)
    rw [stp_inf] at this
    exact this
  have k : ¬ q' = 0 := fun z => c (decide_eq_true (congrArg V.int z))
  have h0 : 0 < q' := by
    rcases g.1 with h1 | h1
    · exact h1
    · cases h1; exact absurd rfl k
  have es := stp_fin (p := p) h0
  refine ⟨_, _, rfl, rfl, ?_⟩
  refine while_by (fun σ G => G = H ∧ ∃ (x y : Nat) (a : Int), σ = [some (.ref t), some (.int (x : Int)), some (.int (y : Int)), some (.int a)] ∧ a + (EQ x y : Int) = (stp (p, q') : Int) ∧ y < 2 ^ 8000) (fun σ _ => match σ with | [_, _, some (.int b), _] => b.natAbs | _ => 0) ⟨rfl, p.natAbs, q'.natAbs, 0 - 1, by rw [Int.natAbs_of_nonneg (Int.le_of_lt h0)]; rfl, by omega, z2⟩ ?_ ?_
  · rintro σ _ ⟨rfl, x, y, a, rfl, ea, yb⟩
    refine ⟨_, rfl, _, _, rfl, rfl, _, rfl, ite2 (fun c1 => ?_) (fun c1 => ?_)⟩
    · have y0 : 0 < y := by
        have : (0 : Int) < (y : Int) := of_decide_eq_true c1
        omega
      have gd := wide_div (i := (x : Int)) (j := (y : Int)) (b := 8000) (by omega) (by rw [Int.natAbs_natCast]; exact yb) (by decide) (by decide)
      refine ⟨_, rfl, _, _, rfl, rfl, _, rfl, _, rfl, _, _, rfl, rfl, gd, _, _, rfl, rfl, ?_⟩
      refine ⟨_, rfl, _, rfl, .inl ⟨_, rfl, _, rfl, _, _, rfl, rfl, (show (y : Int) ≠ 0 by omega), _, _, rfl, ⟨rfl, y, x % y, a + 1 + ((x / y : Nat) : Int), ?_, ?_, Nat.lt_trans (Nat.mod_lt _ y0) yb⟩, ?_⟩⟩
      · have em : ((x : Int).fmod (y : Int)) = ((x % y : Nat) : Int) := by
          rw [Int.fmod_eq_emod_of_nonneg _ (Int.natCast_nonneg y)]
          rfl
        rw [← em]
        rfl
      · rw [EQ_step y0] at ea
        generalize EQ y (x % y) = e3 at ea ⊢
        generalize x / y = e4 at ea ⊢
        omega
      · show ((x : Int).fmod (y : Int)).natAbs < (y : Int).natAbs
        exact fmod_less (by omega)
    · have y0 : y = 0 := by
        have : ¬ (0 : Int) < (y : Int) := fun z => c1 (decide_eq_true z)
        omega
      subst y0
      rw [EQ_zero] at ea
      have : a = (stp (p, q') : Int) := by omega
      subst this
      exact ⟨_, rfl, q _ (Same.refl _)⟩
  · rintro σ H' Q1 Q2 hm ⟨v, e, i, j, e1, e2, b, e3, qq⟩
    exact ⟨v, e, i, j, e1, e2, b, e3, hm _ _ qq⟩
end
theorem lg {x : Int} {n : Nat} (h0 : 0 ≤ x) (h : x ≤ 2 ^ n) : x.natAbs.log2 ≤ n := by
  obtain ⟨k, rfl⟩ := Int.eq_ofNat_of_zero_le h0
  rw [Int.natAbs_natCast]
  by_cases z : k = 0
  · subst z; exact Nat.zero_le _
  · have hk : k ≤ 2 ^ n := by
      have e : ((2 ^ n : Nat) : Int) = (2 : Int) ^ n := by rw [Int.natCast_pow]; rfl
      rw [← e] at h
      omega
    have : k.log2 < n + 1 := (Nat.log2_lt z).mpr (by rw [Nat.pow_succ]; have := Nat.pow_pos (n := n) (show 0 < 2 by decide); omega)
    omega
theorem lg8 {k : Nat} (h : k < 2 ^ 8000) : k.log2 ≤ 8000 := by
  by_cases z : k = 0
  · subst z; exact Nat.zero_le _
  · exact Nat.le_of_lt ((Nat.log2_lt z).mpr h)
/-! ### how many ways lead to a fraction: a step back at a time -/
theorem wy_head (a b : Nat) (r : List Nat) : wy (a :: r) = wy (b :: r) := by
  match r with
  | [] => rfl
  | [c] => rfl
  | c :: d :: s => rw [wy_three, wy_three]
def pw (v : Int × Int) : Nat := wy (quo v)
theorem pw_pos (v : Int × Int) : 1 ≤ pw v := wy_pos _
theorem quo_fin {p q : Int} (h : 0 < q) : quo (p, q) = QL p.natAbs q.natAbs := if_neg (by show ¬ q = 0; omega)
/-- from one on, only the call that brings it nearer to 0 -/
theorem ql_sub {p q : Nat} (h0 : 0 < q) (h : q ≤ p) : wy (QL (p - q) q) = wy (QL p q) := by
  rw [QL_step h0, QL_step h0, Nat.mod_eq_sub_mod h]
  exact wy_head _ _ _
/-- below one: turned, and where it is over a half, the call that brings it over 0 -/
theorem ql_turn {p q : Nat} (h0 : 0 < p) (h : p < q) (co : Nat.gcd p q = 1) : wy (QL p q) = wy (QL q p) + if q < 2 * p then wy (QL (q - p) q) else 0 := by
  have hq : 0 < q := by omega
  have e0 : QL p q = 0 :: QL q p := by rw [QL_step hq, Nat.div_eq_of_lt h, Nat.mod_eq_of_lt h]
  have e1 : QL q p = q / p :: QL p (q % p) := QL_step h0
  by_cases c : q < 2 * p
  · rw [if_pos c]
    have d1 : q / p = 1 := by
      refine Nat.div_eq_of_lt_le (by omega) (by omega)
    have m1 : q % p = q - p := by
      have := Nat.div_add_mod q p
      rw [d1] at this
      omega
    have r0 : 0 < q - p := by omega
    have e2 : QL p (q - p) = p / (q - p) :: QL (q - p) (p % (q - p)) := QL_step r0
    have e3 : QL (q - p) q = 0 :: QL q (q - p) := by rw [QL_step hq, Nat.div_eq_of_lt (by omega), Nat.mod_eq_of_lt (by omega)]
    have e4 : QL q (q - p) = q / (q - p) :: QL (q - p) (q % (q - p)) := QL_step r0
    have m2 : q % (q - p) = p % (q - p) := by
      rw [Nat.mod_eq_sub_mod (show q - p ≤ q by omega), show q - (q - p) = p by omega]
    have d2 : q / (q - p) = p / (q - p) + 1 := by
      rw [Nat.div_eq_sub_div r0 (show q - p ≤ q by omega), show q - (q - p) = p by omega]
    have big : 1 ≤ p / (q - p) := (Nat.one_le_div_iff r0).mpr (by omega)
    rw [e0, e1, d1, m1, e2, wy_three, if_pos rfl, e3, e4, m2, d2]
    congr 1
    generalize QL (q - p) (p % (q - p)) = R
    match R with
    | [] => rfl
    | x :: s => rw [wy_three 0 (p / (q - p) + 1) x s, if_neg (by omega), Nat.add_zero]; exact wy_head _ _ _
  · rw [if_neg c, Nat.add_zero, e0, e1]
    generalize QL p (q % p) = R
    have d1 : q / p ≠ 1 := fun e => by
      have h1 := Nat.div_add_mod q p
      have h2 := Nat.mod_lt q h0
      rw [e] at h1
      have : q = 2 * p ∨ 2 * p < q := by omega
      omega
    match R with
    | [] => rfl
    | x :: s => rw [wy_three, if_neg d1, Nat.add_zero]
/-- what a call gives that brings it a step nearer -/
def tm (v : Int × Int) (c : Nat) : Nat := if stp (called v c) + 1 = stp v then pw (called v c) else 0
theorem tm_yes {v : Int × Int} {c : Nat} (h : stp (called v c) + 1 = stp v) : tm v c = pw (called v c) := if_pos h
theorem tm_no {v : Int × Int} {c : Nat} (h : stp (called v c) + 1 ≠ stp v) : tm v c = 0 := if_neg h
theorem c_turn_pos {p q : Int} (h : 0 < p) : called (p, q) 82 = (0 - q, p) := by
  unfold called
  rw [if_neg (by decide), if_neg (by decide), if_pos (show 0 < (p, q).1 from h)]
theorem c_turn_neg {p q : Int} (h : p < 0) : called (p, q) 82 = (q, 0 - p) := by
  unfold called
  rw [if_neg (by decide), if_neg (by decide), if_neg (show ¬ 0 < (p, q).1 by show ¬ 0 < p; omega), if_pos (show (p, q).1 < 0 from h)]
/-- turned: the stp and the ways of it, by the sizes alone -/
theorem turn_stp {p q : Int} (h : p ≠ 0) : stp (called (p, q) 82) + 1 = EQ q.natAbs p.natAbs := by
  rcases Int.lt_or_le 0 p with c | c
  · rw [c_turn_pos c]
    have b := stp_fin (p := 0 - q) c
    rwa [show (0 - q).natAbs = q.natAbs by omega] at b
  · have c2 : p < 0 := by omega
    rw [c_turn_neg c2]
    have b := stp_fin (p := q) (q := 0 - p) (by omega)
    rwa [show (0 - p).natAbs = p.natAbs by omega] at b
theorem turn_pw {p q : Int} (h : p ≠ 0) : pw (called (p, q) 82) = wy (QL q.natAbs p.natAbs) := by
  unfold pw
  rcases Int.lt_or_le 0 p with c | c
  · rw [c_turn_pos c, quo_fin c, show (0 - q).natAbs = q.natAbs by omega]
  · have c2 : p < 0 := by omega
    rw [c_turn_neg c2, quo_fin (by omega), show (0 - p).natAbs = p.natAbs by omega]
theorem EQ_same {p q : Nat} (h0 : 0 < p) (h : q = 2 * p) : EQ (q - p) q = EQ p q := by rw [show q - p = p by omega]
/-- the ways of a fraction: those of the fractions one step nearer -/
theorem pw_rec {v : Int × Int} (g : Good v) (n : v ≠ (0, 1)) : pw v = tm v 82 + tm v 84 + tm v 85 := by
  obtain ⟨p, q⟩ := v
  have hq : 0 < q ∨ (p = 1 ∧ q = 0) := by
    rcases g.1 with h | h
    · exact .inl h
    · cases h; exact .inr ⟨rfl, rfl⟩
  rcases hq with h | ⟨rfl, rfl⟩
  · have a := stp_fin (p := p) h
    have co : Nat.gcd p.natAbs q.natAbs = 1 := g.2
    have s84 := stp_fin (p := p + q) h
    have s85 := stp_fin (p := p - q) h
    have e84 : called (p, q) 84 = (p + q, q) := rfl
    have e85 : called (p, q) 85 = (p - q, q) := rfl
    have p84 : pw (p + q, q) = wy (QL (p + q).natAbs q.natAbs) := by unfold pw; rw [quo_fin h]
    have p85 : pw (p - q, q) = wy (QL (p - q).natAbs q.natAbs) := by unfold pw; rw [quo_fin h]
    have pv : pw (p, q) = wy (QL p.natAbs q.natAbs) := by unfold pw; rw [quo_fin h]
    have qn : 0 < q.natAbs := by omega
    have p0 : p ≠ 0 := fun z => by
      subst z
      have h2 : Int.gcd 0 q = 1 := g.2
      rw [Int.gcd_zero_left] at h2
      exact n (by rw [show q = 1 by omega])
    have t1 := turn_stp (q := q) p0
    have t2 := turn_pw (q := q) p0
    by_cases big : q.natAbs ≤ p.natAbs
    · -- from one on
      have no82 : tm (p, q) 82 = 0 := tm_no (by
        intro z
        have z2 : EQ q.natAbs p.natAbs + 1 = EQ p.natAbs q.natAbs := by omega
        by_cases e : q.natAbs = p.natAbs
        · rw [e] at z2; omega
        · have := EQ_swap (show q.natAbs < p.natAbs by omega)
          omega)
      rcases Int.lt_or_le p 0 with c | c
      · have y : tm (p, q) 84 = pw (p, q) := by
          have e : p.natAbs = (p + q).natAbs + q.natAbs := by omega
          have k := EQ_add (p := (p + q).natAbs) qn
          rw [← e] at k
          rw [tm_yes (by rw [e84]; omega), e84, p84, pv, show (p + q).natAbs = p.natAbs - q.natAbs by omega]
          exact ql_sub qn big
        have x : tm (p, q) 85 = 0 := tm_no (by
          rw [e85]
          have e : (p - q).natAbs = p.natAbs + q.natAbs := by omega
          rw [e, EQ_add qn] at s85
          omega)
        rw [no82, y, x]; omega
      · have y : tm (p, q) 85 = pw (p, q) := by
          have e : p.natAbs = (p - q).natAbs + q.natAbs := by omega
          have k := EQ_add (p := (p - q).natAbs) qn
          rw [← e] at k
          rw [tm_yes (by rw [e85]; omega), e85, p85, pv, show (p - q).natAbs = p.natAbs - q.natAbs by omega]
          exact ql_sub qn big
        have x : tm (p, q) 84 = 0 := tm_no (by
          rw [e84]
          have e : (p + q).natAbs = p.natAbs + q.natAbs := by omega
          rw [e, EQ_add qn] at s84
          omega)
        rw [no82, y, x]; omega
    · -- below one
      have sm : p.natAbs < q.natAbs := by omega
      have pn : 0 < p.natAbs := by omega
      have y82 : tm (p, q) 82 = wy (QL q.natAbs p.natAbs) := by
        have := EQ_swap sm
        rw [tm_yes (by omega), t2]
      have hrec := ql_turn pn sm co
      have near : ∀ r : Nat, r = q.natAbs - p.natAbs → (EQ r q.natAbs + 1 = EQ p.natAbs q.natAbs ↔ q.natAbs < 2 * p.natAbs) := fun r hr => by
        subst hr
        by_cases c1 : 2 * p.natAbs < q.natAbs
        · have := EQ_half pn c1
          omega
        · by_cases c2 : q.natAbs = 2 * p.natAbs
          · have := EQ_same pn c2
            omega
          · have k := EQ_half (p := q.natAbs - p.natAbs) (q := q.natAbs) (by omega) (by omega)
            rw [show q.natAbs - (q.natAbs - p.natAbs) = p.natAbs by omega] at k
            omega
      have fin : ∀ r : Nat, r = q.natAbs - p.natAbs → (if EQ r q.natAbs + 1 = EQ p.natAbs q.natAbs then wy (QL r q.natAbs) else 0) = if q.natAbs < 2 * p.natAbs then wy (QL (q.natAbs - p.natAbs) q.natAbs) else 0 := fun r hr => by
        by_cases c : q.natAbs < 2 * p.natAbs
        · rw [if_pos c, if_pos ((near r hr).mpr c), hr]
        · rw [if_neg c, if_neg (fun z => c ((near r hr).mp z))]
      rcases Int.lt_or_le p 0 with c | c
      · have x : tm (p, q) 85 = 0 := tm_no (by
          rw [e85]
          have e : (p - q).natAbs = p.natAbs + q.natAbs := by omega
          rw [e, EQ_add qn] at s85
          omega)
        have y : tm (p, q) 84 = if q.natAbs < 2 * p.natAbs then wy (QL (q.natAbs - p.natAbs) q.natAbs) else 0 := by
          rw [← fin _ (show (p + q).natAbs = q.natAbs - p.natAbs by omega)]
          unfold tm
          rw [e84, p84, ← s84, ← a]
          by_cases z : stp (p + q, q) + 1 = stp (p, q)
          · rw [if_pos z, if_pos (by omega)]
          · rw [if_neg z, if_neg (by omega)]
        rw [y82, x, y, pv, hrec]
        omega
      · have x : tm (p, q) 84 = 0 := tm_no (by
          rw [e84]
          have e : (p + q).natAbs = p.natAbs + q.natAbs := by omega
          rw [e, EQ_add qn] at s84
          omega)
        have y : tm (p, q) 85 = if q.natAbs < 2 * p.natAbs then wy (QL (q.natAbs - p.natAbs) q.natAbs) else 0 := by
          rw [← fin _ (show (p - q).natAbs = q.natAbs - p.natAbs by omega)]
          unfold tm
          rw [e85, p85, ← s85, ← a]
          by_cases z : stp (p - q, q) + 1 = stp (p, q)
          · rw [if_pos z, if_pos (by omega)]
          · rw [if_neg z, if_neg (by omega)]
        rw [y82, x, y, pv, hrec, Nat.add_zero]
  · have a1 : stp ((1 : Int), (0 : Int)) = 1 := stp_inf
    have b1 : tm (1, 0) 82 = pw (0, 1) := tm_yes (by
      show stp (0, 1) + 1 = stp (1, 0)
      rw [stp_zero, a1])
    have b2 : tm (1, 0) 84 = 0 := tm_no (by
      show stp (1 + 0, 0) + 1 ≠ stp (1, 0)
      rw [stp_inf, a1]; decide)
    have b3 : tm (1, 0) 85 = 0 := tm_no (by
      show stp (1 - 0, 0) + 1 ≠ stp (1, 0)
      rw [stp_inf, a1]; decide)
    have c1 : pw (1, 0) = 1 := rfl
    have c2 : pw (0, 1) = 1 := by
      unfold pw
      rw [quo_fin (by decide)]
      show wy (QL 0 1) = 1
      rw [QL_step (by decide), show 0 % 1 = 0 from rfl, QL_zero]
      rfl
    rw [b1, b2, b3, c1, c2]
/-- the call that brings it nearer to 0 by a twist -/
def tw (v : Int × Int) : Int × Int := if 0 < v.1 then (v.1 - v.2, v.2) else (v.1 + v.2, v.2)
def rv (v : Int × Int) : Int × Int := called v 82
def cd (v : Int × Int) (c : Nat) : Prop := stp (called v c) + 1 = stp v
instance (v : Int × Int) (c : Nat) : Decidable (cd v c) := inferInstanceAs (Decidable (_ = _))
theorem cd_big {p q : Int} (h : 0 < q) (big : q.natAbs ≤ p.natAbs) (g : Good (p, q)) : ¬ cd (p, q) 82 ∧ (cd (p, q) 85 ↔ 0 < p) ∧ (cd (p, q) 84 ↔ p < 0) := by
  have a := stp_fin (p := p) h
  have qn : 0 < q.natAbs := by omega
  have s84 := stp_fin (p := p + q) h
  have s85 := stp_fin (p := p - q) h
  have t1 := turn_stp (p := p) (q := q) (by omega)
  unfold cd
  refine ⟨fun z => ?_, ?_, ?_⟩
  · have z2 : EQ q.natAbs p.natAbs + 1 = EQ p.natAbs q.natAbs := by omega
    by_cases e : q.natAbs = p.natAbs
    · rw [e] at z2; omega
    · have := EQ_swap (show q.natAbs < p.natAbs by omega)
      omega
  · show stp (p - q, q) + 1 = stp (p, q) ↔ _
    rcases Int.lt_or_le p 0 with c | c
    · have e : (p - q).natAbs = p.natAbs + q.natAbs := by omega
      rw [e, EQ_add qn] at s85
      omega
    · have e : p.natAbs = (p - q).natAbs + q.natAbs := by omega
      have k := EQ_add (p := (p - q).natAbs) qn
      rw [← e] at k
      omega
  · show stp (p + q, q) + 1 = stp (p, q) ↔ _
    rcases Int.lt_or_le p 0 with c | c
    · have e : p.natAbs = (p + q).natAbs + q.natAbs := by omega
      have k := EQ_add (p := (p + q).natAbs) qn
      rw [← e] at k
      omega
    · have e : (p + q).natAbs = p.natAbs + q.natAbs := by omega
      rw [e, EQ_add qn] at s84
      omega
theorem near_half {a b : Nat} (pn : 0 < a) (sm : a < b) : EQ (b - a) b + 1 = EQ a b ↔ b < 2 * a := by
  by_cases c1 : 2 * a < b
  · have := EQ_half pn c1
    omega
  · by_cases c2 : b = 2 * a
    · have := EQ_same pn c2
      omega
    · have k := EQ_half (p := b - a) (q := b) (by omega) (by omega)
      rw [show b - (b - a) = a by omega] at k
      omega
theorem cd_small {p q : Int} (h : 0 < q) (p0 : p ≠ 0) (sm : p.natAbs < q.natAbs) : cd (p, q) 82 ∧ (cd (p, q) 85 ↔ 0 < p ∧ q.natAbs < 2 * p.natAbs) ∧ (cd (p, q) 84 ↔ p < 0 ∧ q.natAbs < 2 * p.natAbs) := by
  have a := stp_fin (p := p) h
  have qn : 0 < q.natAbs := by omega
  have pn : 0 < p.natAbs := by omega
  have s84 := stp_fin (p := p + q) h
  have s85 := stp_fin (p := p - q) h
  have t1 := turn_stp (p := p) (q := q) p0
  have nh := near_half pn sm
  unfold cd
  refine ⟨?_, ?_, ?_⟩
  · have := EQ_swap sm
    omega
  · show stp (p - q, q) + 1 = stp (p, q) ↔ _
    rcases Int.lt_or_le p 0 with c | c
    · have e : (p - q).natAbs = p.natAbs + q.natAbs := by omega
      rw [e, EQ_add qn] at s85
      omega
    · rw [show (p - q).natAbs = q.natAbs - p.natAbs by omega] at s85
      omega
  · show stp (p + q, q) + 1 = stp (p, q) ↔ _
    rcases Int.lt_or_le p 0 with c | c
    · rw [show (p + q).natAbs = q.natAbs - p.natAbs by omega] at s84
      omega
    · have e : (p + q).natAbs = p.natAbs + q.natAbs := by omega
      rw [e, EQ_add qn] at s84
      omega
/-- the fractions one step nearer, in the order in which the law asks -/
def dn (v : Int × Int) : List (Int × Int) := ([82, 85, 84].filter fun c => decide (cd v c)).map (called v)
theorem dn_big {v : Int × Int} (g : Good v) (h : 0 < v.2) (big : v.2.natAbs ≤ v.1.natAbs) : dn v = [tw v] := by
  obtain ⟨p, q⟩ := v
  obtain ⟨a, b, c⟩ := cd_big h big g
  have p0 : p ≠ 0 := fun z => by have big : q.natAbs ≤ p.natAbs := big; have h : 0 < q := h; omega
  unfold dn tw
  rcases Int.lt_or_le 0 p with k | k
  · rw [if_pos (show 0 < (p, q).1 from k)]
    simp [List.filter, a, b.mpr k, show ¬ cd (p, q) 84 from fun z => by have := c.mp z; omega]
    rfl
  · rw [if_neg (show ¬ 0 < (p, q).1 by show ¬ 0 < p; omega)]
    simp [List.filter, a, c.mpr (show p < 0 by omega), show ¬ cd (p, q) 85 from fun z => by have := b.mp z; omega]
    rfl
theorem dn_small {v : Int × Int} (h : 0 < v.2) (p0 : v.1 ≠ 0) (sm : v.1.natAbs < v.2.natAbs) : dn v = rv v :: (if v.2.natAbs < 2 * v.1.natAbs then [tw v] else []) := by
  obtain ⟨p, q⟩ := v
  obtain ⟨a, b, c⟩ := cd_small h p0 sm
  have p0 : p ≠ 0 := p0
  unfold dn tw rv
  by_cases hf : q.natAbs < 2 * p.natAbs
  · rw [if_pos (show (p, q).2.natAbs < 2 * (p, q).1.natAbs from hf)]
    rcases Int.lt_or_le 0 p with k | k
    · rw [if_pos (show 0 < (p, q).1 from k)]
      simp [List.filter, a, b.mpr ⟨k, hf⟩, show ¬ cd (p, q) 84 from fun z => by have := (c.mp z).1; omega]
      rfl
    · rw [if_neg (show ¬ 0 < (p, q).1 by show ¬ 0 < p; omega)]
      simp [List.filter, a, c.mpr ⟨by omega, hf⟩, show ¬ cd (p, q) 85 from fun z => by have := (b.mp z).1; omega]
      rfl
  · rw [if_neg (show ¬ (p, q).2.natAbs < 2 * (p, q).1.natAbs from hf)]
    simp [List.filter, a, show ¬ cd (p, q) 85 from fun z => hf (b.mp z).2, show ¬ cd (p, q) 84 from fun z => hf (c.mp z).2]
theorem dn_inf : dn (1, 0) = [(0, 1)] := by
  have a1 : stp ((1 : Int), (0 : Int)) = 1 := stp_inf
  have a : cd (1, 0) 82 := by
    show stp (0, 1) + 1 = stp (1, 0)
    rw [stp_zero, a1]
  have b : ¬ cd (1, 0) 84 := by
    show ¬ stp (1 + 0, 0) + 1 = stp (1, 0)
    rw [stp_inf, a1]; decide
  have c : ¬ cd (1, 0) 85 := by
    show ¬ stp (1 - 0, 0) + 1 = stp (1, 0)
    rw [stp_inf, a1]; decide
  unfold dn
  simp [List.filter, a, b, c]
  rfl
/-- the ways by the fractions one step nearer -/
theorem pw_dn {v : Int × Int} (g : Good v) (n : v ≠ (0, 1)) : pw v = ((dn v).map pw).sum := by
  rw [pw_rec g n]
  unfold dn tm
  by_cases a : cd v 82 <;> by_cases b : cd v 85 <;> by_cases c : cd v 84 <;>
    simp [List.filter, a, b, c, show (stp (called v 82) + 1 = stp v) = cd v 82 from rfl, show (stp (called v 85) + 1 = stp v) = cd v 85 from rfl, show (stp (called v 84) + 1 = stp v) = cd v 84 from rfl] <;> omega
/-! ### the law's levels: fractions with their numbers -/
abbrev Lw := List ((Int × Int) × Nat)
def bump : Lw → Int × Int → Nat → Lw
  | [], k, n => [(k, n)]
  | e :: d, k, n => if e.1 = k then (k, e.2 + n) :: d else e :: bump d k n
theorem bump_nil (k : Int × Int) (n : Nat) : bump [] k n = [(k, n)] := rfl
theorem bump_same (k : Int × Int) (a n : Nat) (d : Lw) : bump ((k, a) :: d) k n = (k, a + n) :: d := by
  unfold bump
  exact if_pos rfl
theorem bump_other {e k : Int × Int} (h : e ≠ k) (a n : Nat) (d : Lw) : bump ((e, a) :: d) k n = (e, a) :: bump d k n := by
  conv => lhs; unfold bump
  exact if_neg h
def sumP (d : Lw) : Nat := (d.map fun e => e.2 * pw e.1).sum
theorem sumP_bump : ∀ (d : Lw) (k : Int × Int) (n : Nat), sumP (bump d k n) = sumP d + n * pw k
  | [], k, n => by simp [bump, sumP]
  | e :: d, k, n => by
    unfold bump
    by_cases h : e.1 = k
    · rw [if_pos h]
      unfold sumP
      rw [List.map_cons, List.map_cons, List.sum_cons, List.sum_cons]
      show (e.2 + n) * pw k + _ = e.2 * pw e.1 + _ + n * pw k
      rw [h, Nat.add_mul]
      omega
    · rw [if_neg h]
      have ih := sumP_bump d k n
      unfold sumP at ih ⊢
      rw [List.map_cons, List.map_cons, List.sum_cons, List.sum_cons, ih]
      omega
def spread (d : Lw) (x : (Int × Int) × Nat) : Lw := (dn x.1).foldl (fun d k => bump d k x.2) d
def nextL (lv : Lw) : Lw := lv.foldl spread []
theorem sumP_spread (d : Lw) (x : (Int × Int) × Nat) (g : Good x.1) (n : x.1 ≠ (0, 1)) : sumP (spread d x) = sumP d + x.2 * pw x.1 := by
  rw [pw_dn g n]
  unfold spread
  generalize dn x.1 = ks
  induction ks generalizing d with
  | nil => simp
  | cons k r ih =>
    rw [List.foldl_cons, ih, sumP_bump, List.map_cons, List.sum_cons, Nat.mul_add]
    omega
theorem sumP_next {lv : Lw} (h : ∀ x ∈ lv, Good x.1 ∧ x.1 ≠ (0, 1)) : sumP (nextL lv) = sumP lv := by
  have go : ∀ (lv d : Lw), (∀ x ∈ lv, Good x.1 ∧ x.1 ≠ (0, 1)) → sumP (lv.foldl spread d) = sumP d + sumP lv := by
    intro lv
    induction lv with
    | nil => intro d _; simp [sumP]
    | cons x r ih =>
      intro d h
      obtain ⟨g, n⟩ := h x List.mem_cons_self
      rw [List.foldl_cons, ih _ fun y hy => h y (List.mem_cons_of_mem _ hy), sumP_spread d x g n]
      have e : sumP (x :: r) = x.2 * pw x.1 + sumP r := by unfold sumP; rw [List.map_cons, List.sum_cons]
      omega
  have := go lv [] h
  unfold nextL
  rw [this]
  simp [sumP]
/-- a fraction between a half and one -/
def Mid (u : Int × Int) : Prop := 0 < u.2 ∧ u.1 ≠ 0 ∧ u.1.natAbs < u.2.natAbs ∧ u.2.natAbs < 2 * u.1.natAbs
theorem mid_facts {u : Int × Int} (g : Good u) (m : Mid u) : dn (rv u) = [tw (rv u)] ∧ dn (tw u) = [rv (tw u)] ∧ dn (rv (tw u)) = [rv (tw (rv u))] ∧
    dn (tw (rv u)) = rv (tw (rv u)) :: (if (tw (rv u)).2.natAbs < 2 * (tw (rv u)).1.natAbs then [tw (tw (rv u))] else []) ∧ tw (rv u) ≠ rv (tw u) ∧ rv u ≠ tw u ∧
    (Good (tw (rv u)) → (tw (rv u)).2.natAbs < 2 * (tw (rv u)).1.natAbs → Mid (tw (rv u))) := by
  obtain ⟨p, q⟩ := u
  obtain ⟨hq, p0, sm, hf⟩ := m
  have hq : 0 < q := hq
  have p0 : p ≠ 0 := p0
  have sm : p.natAbs < q.natAbs := sm
  have hf : q.natAbs < 2 * p.natAbs := hf
  have gr : Good (rv (p, q)) := g.called 82
  rcases Int.lt_or_le 0 p with c | c
  · have e1 : rv (p, q) = (0 - q, p) := c_turn_pos c
    have e2 : tw (p, q) = (p - q, q) := if_pos c
    have e3 : tw (0 - q, p) = (0 - q + p, p) := if_neg (show ¬ 0 < (0 - q, p).1 by show ¬ 0 < 0 - q; omega)
    have e4 : rv (p - q, q) = (q, 0 - (p - q)) := c_turn_neg (by omega)
    have e5 : tw (q, 0 - (p - q)) = (q - (0 - (p - q)), 0 - (p - q)) := if_pos hq
    have e6 : rv (0 - q + p, p) = (p, 0 - (0 - q + p)) := c_turn_neg (by omega)
    have gt : Good (rv (p - q, q)) := by
      have : Good (called (p, q) 85) := g.called 85
      exact Good.called this 82
    rw [e1] at gr
    rw [e4] at gt
    rw [e1, e2, e3, e4, e6]
    refine ⟨?_, ?_, ?_, ?_, ?_, ?_, fun _ h => ⟨by show 0 < p; omega, by show 0 - q + p ≠ 0; omega, by show (0 - q + p).natAbs < p.natAbs; omega, h⟩⟩
    · rw [dn_big gr (show 0 < p from c) (by show p.natAbs ≤ (0 - q).natAbs; omega), e3]
    · rw [dn_small (v := (p - q, q)) hq (by show p - q ≠ 0; omega) (by show (p - q).natAbs < q.natAbs; omega), if_neg (by show ¬ q.natAbs < 2 * (p - q).natAbs; omega), e4]
    · rw [dn_big gt (by show 0 < 0 - (p - q); omega) (by show (0 - (p - q)).natAbs ≤ q.natAbs; omega), e5]
      congr 2 <;> omega
    · rw [dn_small (v := (0 - q + p, p)) c (by show 0 - q + p ≠ 0; omega) (by show (0 - q + p).natAbs < p.natAbs; omega), e6]
    · intro z
      have := (Prod.mk.inj z).1
      omega
    · intro z
      have := (Prod.mk.inj z).1
      omega
  · have c2 : p < 0 := by omega
    have e1 : rv (p, q) = (q, 0 - p) := c_turn_neg c2
    have e2 : tw (p, q) = (p + q, q) := if_neg (show ¬ 0 < (p, q).1 by show ¬ 0 < p; omega)
    have e3 : tw (q, 0 - p) = (q - (0 - p), 0 - p) := if_pos hq
    have e4 : rv (p + q, q) = (0 - q, p + q) := c_turn_pos (by omega)
    have e5 : tw (0 - q, p + q) = (0 - q + (p + q), p + q) := if_neg (show ¬ 0 < (0 - q, p + q).1 by show ¬ 0 < 0 - q; omega)
    have e6 : rv (q - (0 - p), 0 - p) = (0 - (0 - p), q - (0 - p)) := c_turn_pos (by omega)
    have gt : Good (rv (p + q, q)) := by
      have : Good (called (p, q) 84) := g.called 84
      exact Good.called this 82
    rw [e1] at gr
    rw [e4] at gt
    rw [e1, e2, e3, e4, e6]
    refine ⟨?_, ?_, ?_, ?_, ?_, ?_, fun _ h => ⟨by show 0 < 0 - p; omega, by show q - (0 - p) ≠ 0; omega, by show (q - (0 - p)).natAbs < (0 - p).natAbs; omega, h⟩⟩
    · rw [dn_big gr (by show 0 < 0 - p; omega) (by show (0 - p).natAbs ≤ q.natAbs; omega), e3]
    · rw [dn_small (v := (p + q, q)) hq (by show p + q ≠ 0; omega) (by show (p + q).natAbs < q.natAbs; omega), if_neg (by show ¬ q.natAbs < 2 * (p + q).natAbs; omega), e4]
    · rw [dn_big gt (by show 0 < p + q; omega) (by show (p + q).natAbs ≤ (0 - q).natAbs; omega), e5]
      congr 2 <;> omega
    · rw [dn_small (v := (q - (0 - p), 0 - p)) (by show 0 < 0 - p; omega) (by show q - (0 - p) ≠ 0; omega) (by show (q - (0 - p)).natAbs < (0 - p).natAbs; omega), e6]
    · intro z
      have := (Prod.mk.inj z).1
      omega
    · intro z
      have := (Prod.mk.inj z).1
      omega
/-- the forms that a level has -/
inductive Lf : Lw → Prop
  | one (u : Int × Int) (n : Nat) : Lf [(u, n)]
  | two (u : Int × Int) (n m : Nat) : Good u → Mid u → Lf [(rv u, n), (tw u, m)]
  | far (u : Int × Int) (n m : Nat) : Good u → Mid u → Lf [(tw (rv u), n), (rv (tw u), m)]
theorem Lf.len {lv : Lw} (h : Lf lv) : lv.length ≤ 2 := by cases h <;> simp
theorem Lf.nodup {lv : Lw} (h : Lf lv) : (lv.map (·.1)).Nodup := by
  cases h with
  | one u n => simp
  | two u n m g k =>
    have := (mid_facts g k).2.2.2.2.2.1
    simp [this]
  | far u n m g k =>
    have := (mid_facts g k).2.2.2.2.1
    simp [this]
theorem Lf.next {lv : Lw} (h : Lf lv) (ok : ∀ x ∈ lv, Good x.1 ∧ x.1 ≠ (0, 1)) : Lf (nextL lv) := by
  cases h with
  | one u n =>
    obtain ⟨g, nz⟩ := ok (u, n) List.mem_cons_self
    have e : nextL [(u, n)] = spread [] (u, n) := rfl
    rw [e]
    unfold spread
    rcases gdL g with hq | ⟨h1, h2⟩
    · by_cases big : u.2.natAbs ≤ u.1.natAbs
      · rw [dn_big g hq big]
        exact .one _ _
      · have p0 : u.1 ≠ 0 := fun z => by
          obtain ⟨p, q⟩ := u
          have z : p = 0 := z
          subst z
          have h2 : Int.gcd 0 q = 1 := g.2
          rw [Int.gcd_zero_left] at h2
          have hq : 0 < q := hq
          exact nz (by rw [show q = 1 by omega])
        have sm : u.1.natAbs < u.2.natAbs := by omega
        rw [show dn (u, n).1 = _ from dn_small hq p0 sm]
        by_cases hf : u.2.natAbs < 2 * u.1.natAbs
        · rw [if_pos hf]
          have m : Mid u := ⟨hq, p0, sm, hf⟩
          have ne := (mid_facts g m).2.2.2.2.2.1
          show Lf (bump (bump [] (rv u) n) (tw u) n)
          rw [bump_nil, bump_other ne, bump_nil]
          exact .two u n n g m
        · rw [if_neg hf]
          exact .one _ _
    · have eu : u = (1, 0) := by
        obtain ⟨p, q⟩ := u
        exact Prod.ext h1 h2
      rw [eu, dn_inf]
      exact .one _ _
  | two u n m g k =>
    obtain ⟨f1, f2, _, _, f5, _, _⟩ := mid_facts g k
    have e : nextL [(rv u, n), (tw u, m)] = spread (spread [] (rv u, n)) (tw u, m) := rfl
    rw [e]
    unfold spread
    rw [show dn (rv u, n).1 = [tw (rv u)] from f1, show dn (tw u, m).1 = [rv (tw u)] from f2]
    show Lf (bump (bump [] (tw (rv u)) n) (rv (tw u)) m)
    rw [bump_nil, bump_other f5, bump_nil]
    exact .far u n m g k
  | far u n m g k =>
    obtain ⟨_, _, f3, f4, _, _, f7⟩ := mid_facts g k
    have gx := (ok (tw (rv u), n) List.mem_cons_self).1
    have e : nextL [(tw (rv u), n), (rv (tw u), m)] = spread (spread [] (tw (rv u), n)) (rv (tw u), m) := rfl
    rw [e]
    unfold spread
    rw [show dn (rv (tw u), m).1 = [rv (tw (rv u))] from f3, show dn (tw (rv u), n).1 = _ from f4]
    by_cases hf : (tw (rv u)).2.natAbs < 2 * (tw (rv u)).1.natAbs
    · rw [if_pos hf]
      have mx := f7 gx hf
      have ne := (mid_facts gx mx).2.2.2.2.2.1
      show Lf (bump (bump (bump [] (rv (tw (rv u))) n) (tw (tw (rv u))) n) (rv (tw (rv u))) m)
      have e1 : bump (bump [] (rv (tw (rv u))) n) (tw (tw (rv u))) n = [(rv (tw (rv u)), n), (tw (tw (rv u)), n)] := by
        rw [bump_nil, bump_other ne, bump_nil]
      rw [e1, bump_same]
      exact .two _ _ _ gx mx
    · rw [if_neg hf]
      show Lf (bump (bump [] (rv (tw (rv u))) n) (rv (tw (rv u))) m)
      rw [bump_nil, bump_same]
      exact .one _ _
/-! ### the levels one after another -/
theorem bump_key : ∀ (d : Lw) (k : Int × Int) (n : Nat) (y : (Int × Int) × Nat), y ∈ bump d k n → y.1 = k ∨ ∃ e ∈ d, e.1 = y.1
  | [], k, n, y, h => by
    rw [bump_nil, List.mem_singleton] at h
    exact .inl (by rw [h])
  | e :: d, k, n, y, h => by
    obtain ⟨e1, e2⟩ := e
    by_cases c : e1 = k
    · subst c
      rw [bump_same] at h
      rcases List.mem_cons.mp h with h | h
      · exact .inl (by rw [h])
      · exact .inr ⟨y, List.mem_cons_of_mem _ h, rfl⟩
    · rw [bump_other c] at h
      rcases List.mem_cons.mp h with h | h
      · exact .inr ⟨(e1, e2), List.mem_cons_self, by rw [h]⟩
      · rcases bump_key d k n y h with h | ⟨z, h1, h2⟩
        · exact .inl h
        · exact .inr ⟨z, List.mem_cons_of_mem _ h1, h2⟩
theorem next_key {lv : Lw} {y : (Int × Int) × Nat} (h : y ∈ nextL lv) : ∃ x ∈ lv, y.1 ∈ dn x.1 := by
  have inner : ∀ (ks : List (Int × Int)) (n : Nat) (d : Lw), (∀ y, y ∈ ks.foldl (fun d k => bump d k n) d → y.1 ∈ ks ∨ ∃ e ∈ d, e.1 = y.1) := by
    intro ks n
    induction ks with
    | nil => intro d y h; exact .inr ⟨y, h, rfl⟩
    | cons k r ih =>
      intro d y h
      rw [List.foldl_cons] at h
      rcases ih _ y h with h | ⟨e, h1, h2⟩
      · exact .inl (List.mem_cons_of_mem _ h)
      · rcases bump_key d k n e h1 with h3 | ⟨z, h3, h4⟩
        · exact .inl (by rw [← h2, h3]; exact List.mem_cons_self)
        · exact .inr ⟨z, h3, h4.trans h2⟩
  have go : ∀ (lv d : Lw) (y : (Int × Int) × Nat), y ∈ lv.foldl spread d → (∃ x ∈ lv, y.1 ∈ dn x.1) ∨ ∃ e ∈ d, e.1 = y.1 := by
    intro lv
    induction lv with
    | nil => intro d y h; exact .inr ⟨y, h, rfl⟩
    | cons x r ih =>
      intro d y h
      rw [List.foldl_cons] at h
      rcases ih _ y h with ⟨z, h1, h2⟩ | ⟨e, h1, h2⟩
      · exact .inl ⟨z, List.mem_cons_of_mem _ h1, h2⟩
      · rcases inner _ _ _ e h1 with h3 | ⟨z, h3, h4⟩
        · exact .inl ⟨x, List.mem_cons_self, by rw [← h2]; exact h3⟩
        · exact .inr ⟨z, h3, h4.trans h2⟩
  rcases go lv [] y h with h | ⟨e, h1, _⟩
  · exact h
  · cases h1
theorem dn_facts {v u : Int × Int} (g : Good v) (h : u ∈ dn v) : Good u ∧ stp u + 1 = stp v := by
  unfold dn at h
  obtain ⟨c, hc, rfl⟩ := List.mem_map.mp h
  have k := of_decide_eq_true (List.mem_filter.mp hc).2
  exact ⟨g.called c, k⟩
def lvk (v : Int × Int) : Nat → Lw
  | 0 => [(v, 1)]
  | j + 1 => nextL (lvk v j)
structure LvOk (v : Int × Int) (j : Nat) (lv : Lw) : Prop where
  f : Lf lv
  g : ∀ x ∈ lv, Good x.1 ∧ stp x.1 + j = stp v
  s : sumP lv = pw v
theorem LvOk.nz {v : Int × Int} {j : Nat} {lv : Lw} (h : LvOk v j lv) (k : j < stp v) : ∀ x ∈ lv, Good x.1 ∧ x.1 ≠ (0, 1) := fun x hx => ⟨(h.g x hx).1, fun z => by
  have := (h.g x hx).2
  rw [z, stp_zero] at this
  omega⟩
theorem lvk_ok {v : Int × Int} (g : Good v) : ∀ j, j ≤ stp v → LvOk v j (lvk v j)
  | 0, _ => ⟨.one v 1, fun x hx => by rw [List.mem_singleton.mp hx]; exact ⟨g, rfl⟩, by simp [lvk, sumP]⟩
  | j + 1, h => by
    have ih := lvk_ok g j (by omega)
    have nz := ih.nz (by omega)
    refine ⟨ih.f.next nz, fun x hx => ?_, (sumP_next nz).trans ih.s⟩
    obtain ⟨y, hy, hm⟩ := next_key hx
    have a := ih.g y hy
    have b := dn_facts a.1 hm
    exact ⟨b.1, by omega⟩
theorem lvk_end {v : Int × Int} (g : Good v) : lvk v (stp v) = [((0, 1), pw v)] := by
  have h := lvk_ok g (stp v) (Nat.le_refl _)
  have all : ∀ x ∈ lvk v (stp v), x.1 = (0, 1) := fun x hx => stp_eq_zero (h.g x hx).1 (by have := (h.g x hx).2; omega)
  have nd := h.f.nodup
  have s := h.s
  generalize lvk v (stp v) = lv at all nd s h
  have p1 : pw (0, 1) = 1 := by
    unfold pw
    rw [quo_fin (by decide)]
    show wy (QL 0 1) = 1
    rw [QL_step (by decide), show 0 % 1 = 0 from rfl, QL_zero]
    rfl
  match lv, h.f with
  | [], f => cases f
  | [(u, n)], _ =>
    have e : u = (0, 1) := all (u, n) List.mem_cons_self
    subst e
    have : sumP [((0, 1), n)] = n := by simp [sumP, p1]
    rw [← s, this]
  | (u, n) :: (w, m) :: r, _ =>
    have e : u = (0, 1) := all (u, n) List.mem_cons_self
    have e2 : w = (0, 1) := all (w, m) (List.mem_cons_of_mem _ List.mem_cons_self)
    rw [e, e2] at nd
    simp at nd
/-! ### the least dances stand in the order of texts -/
theorem app_lt {x y : List Nat} (h : x < y) : ∀ a : List Nat, a ++ x < a ++ y
  | [] => h
  | c :: r => List.cons_lt_cons_iff.mpr (.inr ⟨rfl, app_lt h r⟩)
theorem ld_lt : ∀ (n : Nat) (R : List (Nat × Nat)) (k k' : Nat), R.length ≤ n → Alt R → k < k' → k' < wy (ns_ R) → ld R k < ld R k'
  | _, [], k, k', _, _, h, h2 => by
    have : wy (ns_ []) = 1 := rfl
    omega
  | _, [r], k, k', _, _, h, h2 => by
    have : wy (ns_ [r]) = 1 := rfl
    omega
  | 0, r :: s :: R, k, k', h0, _, _, _ => by simp at h0
  | n + 1, r :: s :: R, k, k', h0, al, h, h2 => by
    rw [ld_two, ld_two]
    refine app_lt ?_ _
    have a2 := al.tail
    have h0' : (s :: R).length ≤ n := by simp at h0 ⊢; omega
    have hw : ns_ (r :: s :: R) = r.2 :: s.2 :: ns_ R := rfl
    by_cases c : k < wy (ns_ (s :: R))
    · rw [if_pos c]
      by_cases c2 : k' < wy (ns_ (s :: R))
      · rw [if_pos c2]
        exact List.cons_lt_cons_iff.mpr (.inr ⟨rfl, ld_lt n (s :: R) k k' h0' a2 h c2⟩)
      · rw [if_neg c2]
        refine List.cons_lt_cons_iff.mpr (.inl ?_)
        rcases al.head with e | e <;> omega
    · have c2 : ¬ k' < wy (ns_ (s :: R)) := by omega
      rw [if_neg c, if_neg c2]
      rw [hw] at h2
      obtain ⟨n2, r', e1, e2, e3⟩ := wy_else h2 c2
      have lt2 : k' - wy (ns_ (s :: R)) < wy (ns_ R) := by rw [e1]; exact e3
      refine List.cons_lt_cons_iff.mpr (.inr ⟨rfl, List.cons_lt_cons_iff.mpr (.inr ⟨rfl, List.cons_lt_cons_iff.mpr (.inr ⟨rfl, ?_⟩)⟩)⟩)
      exact ld_lt n R _ _ (by simp at h0' ⊢; omega) a2.tail (by omega) lt2
/-! ### turned round, the runs give as many ways -/
theorem wy_snoc : ∀ (n : Nat) (l : List Nat) (a b c : Nat), l.length ≤ n → wy (l ++ [a, b, c]) = wy (l ++ [a, b]) + if b = 1 then wy (l ++ [a]) else 0
  | _, [], a, b, c, _ => by
    show wy [a, b, c] = wy [a, b] + _
    rw [wy_three]
    rfl
  | _, [x], a, b, c, _ => by
    show wy [x, a, b, c] = wy [x, a, b] + if b = 1 then wy [x, a] else 0
    rw [wy_three, wy_three, wy_three, wy_two, wy_two, wy_one, wy_two, wy_one]
    omega
  | 0, x :: y :: l, a, b, c, h => by simp at h
  | n + 1, x :: y :: l, a, b, c, h => by
    have h1 : (y :: l).length ≤ n := by simp at h ⊢; omega
    have i1 := wy_snoc n (y :: l) a b c h1
    have i2 := wy_snoc n l a b c (by simp at h1; omega)
    have e : ∀ t : List Nat, t ≠ [] → wy (x :: y :: (l ++ t)) = wy (y :: (l ++ t)) + if y = 1 then wy (l ++ t) else 0 := fun t ht => by
      cases k : l ++ t with
      | nil => exact absurd (List.append_eq_nil_iff.mp k).2 ht
      | cons z r => exact wy_three x y z r
    show wy (x :: y :: (l ++ [a, b, c])) = wy (x :: y :: (l ++ [a, b])) + if b = 1 then wy (x :: y :: (l ++ [a])) else 0
    rw [e _ (by simp), e _ (by simp), e _ (by simp)]
    have i1 : wy (y :: (l ++ [a, b, c])) = wy (y :: (l ++ [a, b])) + if b = 1 then wy (y :: (l ++ [a])) else 0 := i1
    rw [i1, i2]
    by_cases hb : b = 1 <;> by_cases hy : y = 1 <;> simp [hb, hy] <;> omega
theorem wy_rev : ∀ (n : Nat) (l : List Nat), l.length ≤ n → wy l.reverse = wy l
  | _, [], _ => rfl
  | _, [a], _ => rfl
  | _, [a, b], _ => rfl
  | 0, a :: b :: c :: r, h => by simp at h
  | n + 1, a :: b :: c :: r, h => by
    have i1 := wy_rev n (b :: c :: r) (by simp at h ⊢; omega)
    have i2 := wy_rev n (c :: r) (by simp at h ⊢; omega)
    rw [List.reverse_cons, List.reverse_cons] at i1
    rw [List.reverse_cons] at i2
    rw [List.reverse_cons, List.reverse_cons, List.reverse_cons, wy_three]
    have s := wy_snoc _ r.reverse c b a (Nat.le_refl _)
    have e1 : r.reverse ++ [c] ++ [b] ++ [a] = r.reverse ++ [c, b, a] := by simp
    have e2 : r.reverse ++ [c] ++ [b] = r.reverse ++ [c, b] := by simp
    rw [e1, s, ← e2, i1, i2]
theorem wy_rl (v : Int × Int) : wy (ns_ (rl v)) = pw v := by
  rw [ns_rl]
  exact wy_rev _ _ (Nat.le_refl _)
/-! ### there is no other least dance -/
def da : Nat → Int × Int → List (List Nat)
  | 0, _ => [[]]
  | n + 1, v => ([82, 85, 84].filter fun c => decide (cd v c)).flatMap fun c => (da n (called v c)).map fun l => l ++ [inv3 c]
theorem da_len : ∀ (n : Nat) {v : Int × Int}, Good v → stp v = n → (da n v).length = pw v
  | 0, v, g, e => by
    have := stp_eq_zero g e
    subst this
    have p1 : pw (0, 1) = 1 := by
      unfold pw
      rw [quo_fin (by decide)]
      show wy (QL 0 1) = 1
      rw [QL_step (by decide), show 0 % 1 = 0 from rfl, QL_zero]
      rfl
    rw [p1]; rfl
  | n + 1, v, g, e => by
    have nz : v ≠ (0, 1) := fun z => by rw [z, stp_zero] at e; omega
    rw [pw_dn g nz]
    unfold da dn
    rw [List.length_flatMap, List.map_map]
    congr 1
    refine List.map_congr_left fun c hc => ?_
    have k : stp (called v c) + 1 = stp v := of_decide_eq_true (List.mem_filter.mp hc).2
    rw [List.length_map, da_len n (g.called c) (by omega)]
    rfl
theorem inv3_inv {c : Nat} (h : c = 84 ∨ c = 85 ∨ c = 82) : inv3 (inv3 c) = c := by rcases h with rfl | rfl | rfl <;> rfl
theorem da_all : ∀ (n : Nat) (l : List Nat) {v : Int × Int}, Good v → stp v = n → Lets l → l.length = n → run (0, 1) l = v → l ∈ da n v
  | 0, l, v, g, e, hl, h, hr => by
    rw [List.length_eq_zero_iff.mp h]
    exact List.mem_singleton.mpr rfl
  | n + 1, l, v, g, e, hl, h, hr => by
    obtain ⟨l', c, rfl⟩ : ∃ l' c, l = l' ++ [c] := by
      have ne : l ≠ [] := fun z => by rw [z] at h; simp at h
      exact ⟨l.dropLast, l.getLast ne, (List.dropLast_concat_getLast ne).symm⟩
    rw [List.length_append] at h
    have h : l'.length = n := by simpa using h
    have hc : c = 84 ∨ c = 85 ∨ c = 82 := hl c (by simp)
    have hl' : Lets l' := fun x hx => hl x (by simp [hx])
    rw [run_app] at hr
    have hr : called (run (0, 1) l') c = v := hr
    have gu : Good (run (0, 1) l') := by
      have go : ∀ (m : List Nat) (w : Int × Int), Good w → Good (run w m) := by
        intro m
        induction m with
        | nil => intro w k; exact k
        | cons x r ih => intro w k; exact ih _ (k.called x)
      exact go l' _ Good.zero
    have s1 := stp_run l' Good.zero
    rw [stp_zero, h] at s1
    have s2 := (stp_near gu c).1
    rw [hr, e] at s2
    have su : stp (run (0, 1) l') = n := by omega
    have back : called v (inv3 c) = run (0, 1) l' := by rw [← hr]; exact called_inv gu hc
    have ih := da_all n l' gu su hl' h rfl
    unfold da
    refine List.mem_flatMap.mpr ⟨inv3 c, List.mem_filter.mpr ⟨?_, decide_eq_true ?_⟩, ?_⟩
    · rcases inv3_mem hc with k | k | k <;> rw [k] <;> simp
    · unfold cd
      rw [back, su, e]
    · rw [back, inv3_inv hc]
      exact List.mem_map.mpr ⟨l', ih, rfl⟩
theorem full_of {α : Type} [DecidableEq α] : ∀ (A B : List α), A.Nodup → (∀ x ∈ A, x ∈ B) → B.length ≤ A.length → ∀ x ∈ B, x ∈ A
  | [], B, _, _, h, x, hx => by
    have : B = [] := List.length_eq_zero_iff.mp (by simpa using h)
    rw [this] at hx; cases hx
  | a :: A, B, nd, sub, h, x, hx => by
    have ha := sub a List.mem_cons_self
    have nd2 := List.nodup_cons.mp nd
    by_cases e : x = a
    · rw [e]; exact List.mem_cons_self
    · refine List.mem_cons_of_mem _ (full_of A (B.erase a) nd2.2 (fun y hy => ?_) ?_ x ((List.mem_erase_of_ne e).mpr hx))
      · have ne : y ≠ a := fun z => nd2.1 (by rw [← z]; exact hy)
        exact (List.mem_erase_of_ne ne).mpr (sub y (List.mem_cons_of_mem _ hy))
      · rw [List.length_erase_of_mem ha]
        simp at h
        omega
theorem ld_all {v : Int × Int} (g : Good v) {l : List Nat} (hl : Lets l) (h : l.length = stp v) (hr : run (0, 1) l = v) : ∃ k, k < pw v ∧ ld (rl v) k = l := by
  have lt : ∀ k k', k < k' → k' < pw v → ld (rl v) k < ld (rl v) k' := fun k k' a b => ld_lt _ (rl v) k k' (Nat.le_refl _) (alt_rl v) a (by rw [wy_rl]; exact b)
  have key := full_of ((List.range (pw v)).map (ld (rl v))) (da (stp v) v) ?_ ?_ ?_ l (da_all _ l g rfl hl h hr)
  · obtain ⟨k, hk, e⟩ := List.mem_map.mp key
    exact ⟨k, List.mem_range.mp hk, e⟩
  · rw [List.nodup_iff_pairwise_ne, List.pairwise_map]
    refine List.Pairwise.imp_of_mem (fun {a b} ha hb hab => ?_) (List.pairwise_lt_range (n := pw v))
    intro z
    have := lt a b hab (List.mem_range.mp hb)
    rw [z] at this
    exact List.lt_irrefl _ this
  · intro x hx
    obtain ⟨k, hk, rfl⟩ := List.mem_map.mp hx
    have hk := List.mem_range.mp hk
    have hk2 : k < wy (ns_ (rl v)) := by rw [wy_rl]; exact hk
    exact da_all _ _ g rfl (ld_rl_lets v k) (ld_rl_len g hk2) (ld_rl_run g hk2)
  · rw [List.length_map, List.length_range, da_len _ g rfl]
    exact Nat.le_refl _
section
theorem pick_ints (ys : List Int) {r : Int} (h0 : 0 ≤ r) (h1 : r < (ys.length : Int)) : ∃ y, y ∈ ys ∧ atI (ys.map V.int) r = some (V.int y) := by
  obtain ⟨n, rfl⟩ := Int.eq_ofNat_of_zero_le h0
  have hn : n < ys.length := by omega
  exact ⟨ys[n], List.getElem_mem hn, at_of (j := n) rfl (by rw [List.getElem?_map, List.getElem?_eq_getElem hn]; rfl)⟩
theorem stp_swap {p q : Int} (hp : 0 < p) (hq : 0 ≤ q) (g : Int.gcd p q = 1) : stp (q, p) ≤ stp (p, q) + 1 := by
  rcases Int.lt_or_eq_of_le hq with h | h
  · have a := stp_fin (p := p) h
    have b := stp_fin (p := q) hp
    have := EQ_turn (p := p.natAbs) (q := q.natAbs) (by omega) (by omega)
    omega
  · subst h
    rw [Int.gcd_zero_right] at g
    rw [show p = 1 by omega, stp_zero]
    omega
theorem stp_twists (p q : Int) : ∀ c : Nat, stp ((c : Int) * q + p, q) ≤ stp (p, q) + c
  | 0 => by rw [Int.natCast_zero, Int.zero_mul, Int.zero_add]; omega
  | c + 1 => by
    have ih := stp_twists p q c
    have t := (stp_twist (p := (c : Int) * q + p) (q := q)).1
    have e : ((c + 1 : Nat) : Int) * q + p = (c : Int) * q + p + q := by
      rw [Int.natCast_add, Int.add_mul]
      show _ + 1 * q + p = _
      omega
    rw [e]
    omega
structure LF (p q : Int) (n : Nat) : Prop where
  p0 : 0 < p
  q0 : 0 ≤ q
  g : Int.gcd p q = 1
  s : stp (p, q) ≤ n
theorem LF.step {p q : Int} {n : Nat} (h : LF p q n) {c : Int} (c1 : 1 ≤ c) (c9 : c ≤ 9) : LF (c * p + q) p (n + 10) := by
  obtain ⟨k, rfl⟩ := Int.eq_ofNat_of_zero_le (show 0 ≤ c by omega)
  have hp := h.p0
  have hq := h.q0
  have e0 : 0 < (k : Int) * p := Int.mul_pos (by omega) hp
  refine ⟨by omega, by omega, ?_, ?_⟩
  · have : Int.gcd ((k : Int) * p + q) p = Int.gcd q p := by
      rw [Int.add_comm, Int.gcd_add_mul_right_left]
    rw [this, Int.gcd_comm]
    exact h.g
  · have a := stp_twists q p k
    have b := stp_swap hp hq h.g
    have := h.s
    omega
theorem LF.first : LF 1 0 1 := ⟨by decide, by decide, by decide, by rw [stp_inf]; omega⟩
theorem LF.swap {p q : Int} {n : Nat} (h : LF p q n) (hq : 0 < q) : LF q p (n + 1) := ⟨hq, by have := h.p0; omega, by rw [Int.gcd_comm]; exact h.g, by have := stp_swap h.p0 h.q0 h.g; have := h.s; omega⟩
theorem LF.good {p q : Int} {n : Nat} (h : LF p q n) (hq : 0 < q) : Good (p, q) := ⟨.inl hq, h.g⟩
theorem LF.size {p q : Int} {n : Nat} (h : LF p q n) : p.natAbs.log2 ≤ n := by
  have g : Good (p, q) := by
    rcases Int.lt_or_eq_of_le h.q0 with k | k
    · exact ⟨.inl k, h.g⟩
    · have g := h.g
      have p0 := h.p0
      rw [← k, Int.gcd_zero_right] at g
      refine ⟨.inr ?_, by rw [← k]; show Int.gcd p 0 = 1; rw [Int.gcd_zero_right]; exact g⟩
      rw [← k, show p = 1 by omega]
  have b := (stp_size (stp (p, q)) (p, q) g rfl).1
  have b2 : p.natAbs ≤ 2 ^ n := Nat.le_trans b (Nat.pow_le_pow_right (by decide) h.s)
  have e1 : ((2 ^ n : Nat) : Int) = (2 : Int) ^ n := by rw [Int.natCast_pow]; rfl
  have := h.p0
  exact lg (by omega) (by omega)
def spLongF : Sp := fun vs H Q _ => ∃ a : Addr, vs = [.ref a] ∧ Tape H a ∧ ∀ (t : Addr) (v : Int × Int) H', But a H H' → Tape H' a → Tup2 H' t v → Good v → 0 < v.2 → v.1 ≠ 0 → stp v ≤ 300 → (quo v).length ≤ 21 → Q (.ref t) H'
end
section
theorem QL_one {p q c : Nat} (hp : 0 < p) (h : q ≤ p) : (QL (c * p + q) p).length ≤ (QL p q).length + 1 := by
  rw [QL_step hp, Nat.add_comm, Nat.add_mul_mod_self_right]
  rcases Nat.lt_or_eq_of_le h with k | k
  · rw [Nat.mod_eq_of_lt k]
    exact Nat.le_refl _
  · rw [k, Nat.mod_self, QL_zero]
    show 0 + 1 ≤ _
    omega
theorem QL_swap {p q : Nat} (hp : 0 < p) (h : q ≤ p) : (QL q p).length ≤ (QL p q).length + 1 := by
  have := QL_one (c := 0) hp h
  rw [Nat.zero_mul, Nat.zero_add] at this
  exact this
theorem wy_pow : ∀ (n : Nat) (l : List Nat), l.length ≤ n → wy l ≤ 2 ^ l.length
  | _, [], _ => by decide
  | _, [_], _ => by show 1 ≤ 2 ^ 1; decide
  | _, [_, _], _ => by show 1 ≤ 2 ^ 2; decide
  | 0, _ :: _ :: _ :: _, h => by simp at h
  | n + 1, a :: b :: c :: r, h => by
    have l1 : (b :: c :: r).length ≤ n := by simp at h ⊢; omega
    have l2 : (c :: r).length ≤ n := by simp at h ⊢; omega
    have i1 := wy_pow n (b :: c :: r) l1
    have i2 := wy_pow n (c :: r) l2
    rw [wy_three]
    have e1 : 2 ^ (a :: b :: c :: r).length = 2 ^ (b :: c :: r).length * 2 := Nat.pow_succ _ _
    have e2 : 2 ^ (b :: c :: r).length = 2 ^ (c :: r).length * 2 := Nat.pow_succ _ _
    rw [e1]
    split <;> omega
theorem tot_small {v : Int × Int} (h : (quo v).length ≤ 21) : wy (ns_ (rl v)) < 2 ^ 60 := by
  have a := wy_pow _ (ns_ (rl v)) (Nat.le_refl _)
  have b : (ns_ (rl v)).length = (quo v).length := by rw [ns_len, rl_len]
  rw [b] at a
  exact Nat.lt_of_le_of_lt a (Nat.pow_lt_pow_right (by decide) (by omega))
end
section
variable {P : Program} {w : World} {K : PySem.W.Frag} {mg : Str → Option Value} {base : Heap} {f : Addr} {fd : FuncData}
theorem ok__law_long (F : Fun K "_law_long" "_law_long" s_law_long f fd) (D_take : Dfn P w K mg base "_law_take" 1 ["tape", "many"] spTake) (y_range : mg "range" = none)  : FnOk P w K mg base CX0 2 f fd ["tape"] spLongF := by
  refine F.ok sc_law_long (fun vs H Q E h => ?_) (fun cdv A outer s H vs Q E hr h => ?_)
  · obtain ⟨a, rfl, hT, q⟩ := h
    rfl
  obtain ⟨a, rfl, hT, q⟩ := h
  refine ⟨_, (pss_cons (ps_asg (pe_tup (pa_cons pe_int (pa_cons pe_int pa_nil))) (pg_tup (by rfl) (pgs_cons (pg_name (i := 1) sc_law_long.nd rfl (.inl rfl)) (pgs_cons (pg_name (i := 2) sc_law_long.nd rfl (.inl rfl)) pgs_nil))))
    (pss_cons (ps_for PassesOwn.never rfl (pi_range1 rfl y_range (pa_cons (pe_op op_add pe_int (pe_do D_take hr (pa_cons (pv 0) (pa_cons (pe_ix ix_list (pe_lst (pa_cons pe_int (pa_cons pe_int (pa_cons pe_int pa_nil)))) (pe_do D_take hr (pa_cons (pv 0) (pa_cons pe_int pa_nil))) (fun _ _ => rfl)) pa_nil)))) pa_nil)) (pg_name (i := 3) sc_law_long.nd rfl (.inl rfl))
    (pss_cons (ps_set (i := 4) sc_law_long.nd rfl (.inl rfl) (pe_ix ix_list (pe_lst (pa_cons pe_int (pa_cons pe_int (pa_cons pe_int (pa_cons pe_int (pa_cons pe_int (pa_cons pe_int (pa_cons pe_int pa_nil)))))))) (pe_do D_take hr (pa_cons (pv 0) (pa_cons pe_int pa_nil))) (fun _ _ => rfl)))
    (pss_one (ps_par (i := 1) (j := 2) (by rfl) sc_law_long.nd rfl rfl (by decide) rfl rfl (pa_cons (pe_op op_add (pe_op op_mulW (pv 4) (pv 1)) (pv 2)) (pa_cons (pv 1) pa_nil)) (by rfl)))))
    (pss_cons (ps_if (pt_cmpR op_eq (pe_do D_take hr (pa_cons (pv 0) (pa_cons pe_int pa_nil))) pe_int (nomark _)) (pss_one (ps_par (i := 1) (j := 2) (by rfl) sc_law_long.nd rfl rfl (by decide) rfl rfl (pa_cons (pv 2) (pa_cons (pv 1) pa_nil)) (by rfl))) pss_nil)
    (pss_one (ps_ret (pe_ix ix_list (pe_lst (pa_cons (pe_tup (pa_cons (pv 1) (pa_cons (pv 2) pa_nil))) (pa_cons (pe_tup (pa_cons (pe_op op_sub pe_int (pv 1)) (pa_cons (pv 2) pa_nil))) pa_nil))) (pe_do D_take hr (pa_cons (pv 0) (pa_cons pe_int pa_nil))) (fun _ _ => rfl))))))), ?_⟩
  have two : 2 ≤ sizeLine := fits (by decide)
  have three : 3 ≤ sizeLine := fits (by decide)
  have seven : 7 ≤ sizeLine := fits (by decide)
  refine ⟨two, fun t0 ht0 => ?_⟩
  have T0 := hT.same (same_new ht0 (.tup [V.int 1, .int 0]))
  have B0 : But a H _ := But.of (same_new ht0 (.tup [V.int 1, .int 0]))
  refine ⟨t0, _, rfl, SqT.of upd_same, rfl, _, _, rfl, _, _, rfl, rfl, ?_⟩
  generalize upd H t0 (.tup [V.int 1, .int 0]) = H1 at *
  refine ⟨_, rfl, three, fun lp hlp => ?_⟩
  have nl := T0.ne hlp
  refine ⟨_, rfl, a, 3, rfl, T0.same (same_new hlp _), by decide, by decide, fun r H2 r0 r1 b2 t2 => ?_⟩
  obtain ⟨z, hz, hat⟩ := pick_ints ([4, 9, 20] : List Int) r0 (show r < 3 from r1)
  have z1 : 1 ≤ z ∧ z ≤ 20 := by
    have : ∀ y ∈ ([4, 9, 20] : List Int), 1 ≤ y ∧ y ≤ 20 := by decide
    exact this z hz
  refine ⟨lp, _, _, _, rfl, rfl, SqL.of (b2 _ _ nl upd_same), hat, a, z, rfl, t2, by omega, by omega, fun d H3 d0 d1 b3 t3 => ?_⟩
  have B3 : But a H H3 := (B0.trans (But.of (same_new hlp _))).trans (b2.trans b3)
  refine ⟨_, _, rfl, rfl, 1 + d, rfl, by omega, by omega, for_range (lo := 0) (n := (1 + d).toNat) (fun i σ G => ∃ (p q : Int) (x3 x4 : Option V), σ = [some (.ref a), some (.int p), some (.int q), x3, x4] ∧ But a H G ∧ Tape G a ∧ LF p q (1 + 10 * i) ∧ (q ≤ p ∧ (QL p.natAbs q.natAbs).length ≤ i) ∧ (0 < i → 0 < q)) ?_ ?_ ?_⟩
  · exact ⟨1, 0, _, _, rfl, B3, t3, LF.first, ⟨by decide, by rw [show (0 : Int).natAbs = 0 from rfl, QL_zero]; exact Nat.le_refl 0⟩, fun z => absurd z (by omega)⟩
  · rintro i σ G hi ⟨p, q0, x3, x4, rfl, bG, tG, lf, lq, _⟩
    refine ⟨seven, fun cp hcp => ?_⟩
    have nc := tG.ne hcp
    refine ⟨_, rfl, a, 7, rfl, tG.same (same_new hcp _), by decide, by decide, fun r G2 r0 r1 b4 t4 => ?_⟩
    obtain ⟨c, hc, hat⟩ := pick_ints [1, 1, 1, 2, 2, 3, 9] r0 (show r < 7 from r1)
    have c1 : 1 ≤ c ∧ c ≤ 9 := by
      have : ∀ y ∈ ([1, 1, 1, 2, 2, 3, 9] : List Int), 1 ≤ y ∧ y ≤ 9 := by decide
      exact this c hc
    have ls := lf.size
    have lc : c.natAbs.log2 ≤ 4 := lg (by omega) (show c ≤ 2 ^ 4 by have : (2 : Int) ^ 4 = 16 := rfl; omega)
    refine ⟨cp, _, _, _, rfl, rfl, SqL.of (b4 _ _ nc upd_same), hat, ?_⟩
    refine ⟨_, rfl, _, rfl, _, _, rfl, rfl, (by show _ + _ < 1000000; omega), _, rfl, _, _, rfl, rfl, _, rfl, _, _, rfl, ?_⟩
    exact ⟨c * p + q0, p, _, _, rfl, bG.trans ((But.of (same_new hcp _)).trans b4), t4, by have := lf.step c1.1 c1.2; rw [show 1 + 10 * (i + 1) = 1 + 10 * i + 10 by omega]; exact this, ⟨by have h0 := lf.p0; have h1 := lf.q0; have h2 : 1 * p ≤ c * p := Int.mul_le_mul_of_nonneg_right c1.1 (Int.le_of_lt h0); rw [Int.one_mul] at h2; omega, by
      have h0 := lf.p0
      have h1 := lf.q0
      obtain ⟨c', rfl⟩ := Int.eq_ofNat_of_zero_le (show 0 ≤ c by omega)
      obtain ⟨p', rfl⟩ := Int.eq_ofNat_of_zero_le (show 0 ≤ p by omega)
      obtain ⟨q', rfl⟩ := Int.eq_ofNat_of_zero_le h1
      have e : ((c' : Int) * (p' : Int) + (q' : Int)).natAbs = c' * p' + q' := by
        rw [← Int.natCast_mul, ← Int.natCast_add]
        rfl
      rw [e]
      have := QL_one (c := c') (p := p') (q := q') (by omega) (by omega)
      have l2 := lq.2
      rw [Int.natAbs_natCast, Int.natAbs_natCast] at l2
      rw [Int.natAbs_natCast]
      omega⟩, fun _ => lf.p0⟩
  · rintro σ G ⟨p, q0, x3, x4, rfl, bG, tG, lf, lq, qp⟩
    have qp := qp (by omega)
    have ln : (QL p.natAbs q0.natAbs).length ≤ 20 := Nat.le_trans lq.2 (by omega)
    have lf : LF p q0 300 := ⟨lf.p0, lf.q0, lf.g, by have := lf.s; omega⟩
    have lf2 : LF p q0 299 ∧ LF q0 p 300 := by
      have : LF p q0 299 := ⟨lf.p0, lf.q0, lf.g, by have := LF.s ‹LF p q0 (1 + 10 * (1 + d).toNat)›; omega⟩
      exact ⟨this, this.swap qp⟩
    refine ⟨_, rfl, a, 2, rfl, tG, by decide, by decide, fun r G2 r0 r1 b4 t4 => ⟨rfl, _, rfl, ite2 (fun c => ?A) (fun c => ?B)⟩⟩
    case' A =>
      refine ⟨_, rfl, _, rfl, _, _, rfl, ?_⟩
      have lx := lf2.2
      have ly := lf.p0
      have lz : (QL q0.natAbs p.natAbs).length ≤ 21 := by
        have h0 := lf.p0
        have h1 := lf.q0
        have h2 := lq.1
        have := QL_swap (p := p.natAbs) (q := q0.natAbs) (by omega) (by omega)
        omega
      clear lf lf2 qp lq ln
      generalize p = u at lx ly lz ⊢
      generalize q0 = p at lx lz ⊢
      generalize u = q0 at lx ly lz ⊢
    case' B =>
      have lx := lf
      have ly := qp
      have lz : (QL p.natAbs q0.natAbs).length ≤ 21 := Nat.le_succ_of_le ln
      clear lf lf2 qp lq ln
    all_goals
      have gx := lx.good ly
      refine ⟨_, rfl, _, rfl, two, fun ta hta => ?_⟩
      refine ⟨_, rfl, _, _, rfl, rfl, _, rfl, two, fun tb htb => ⟨two, fun lp2 hlp2 => ?_⟩⟩
      have sa := same_new hta (.tup [V.int p, .int q0])
      have sb := same_new htb (.tup [V.int (0 - p), .int q0])
      have sl := same_new hlp2 (.lst [V.ref ta, .ref tb])
      have t5 := ((t4.same sa).same sb).same sl
      refine ⟨_, rfl, a, 2, rfl, t5, by decide, by decide, fun r2 G3 r20 r21 b5 t6 => ?_⟩
      have nl2 := ((t4.same sa).same sb).ne hlp2
      have Ta : Tup2 G3 ta (p, q0) := (((show Tup2 _ ta (p, q0) from upd_same).same sb).same sl).but b5 t5
      have Tb : Tup2 G3 tb (0 - p, q0) := ((show Tup2 _ tb (0 - p, q0) from upd_same).same sl).but b5 t5
      have BB : But a H G3 := ((bG.trans b4).trans (((But.of sa).trans (But.of sb)).trans (But.of sl))).trans b5
      have p0 := lx.p0
      have hs := lx.s
      rcases (show r2 = 0 ∨ r2 = 1 by omega) with e | e
      · refine ⟨lp2, _, _, _, rfl, rfl, SqL.of (b5 _ _ nl2 upd_same), (show atI [V.ref ta, V.ref tb] r2 = some (V.ref ta) by rw [e]; rfl), ?_⟩
        exact q ta (p, q0) G3 BB t6 Ta gx ly (by show p ≠ 0; omega) hs (by rw [quo_fin ly]; exact lz)
      · refine ⟨lp2, _, _, _, rfl, rfl, SqL.of (b5 _ _ nl2 upd_same), (show atI [V.ref ta, V.ref tb] r2 = some (V.ref tb) by rw [e]; rfl), ?_⟩
        have gn : Good (0 - p, q0) := by
          rw [show 0 - p = -p by omega]
          exact ⟨.inl ly, by show Int.gcd (-p) q0 = 1; rw [Int.neg_gcd]; exact gx.2⟩
        refine q tb (0 - p, q0) G3 BB t6 Tb gn ly (by show 0 - p ≠ 0; omega) ?_ ?_
        · rw [show 0 - p = -p by omega, stp_neg]
          exact hs
        · rw [quo_fin ly, show (0 - p).natAbs = p.natAbs by omega]
          exact lz
end
section
/-! ### a level as a dict -/
def enc (d : Lw) : List (List Key × V) := d.map fun e => (kyv e.1, V.int (e.2 : Int))
def fd (d : Lw) (k : Int × Int) : Option Nat := (d.find? fun e => decide (e.1 = k)).map (·.2)
theorem fd_cons_eq {k : Int × Int} (n : Nat) (d : Lw) : fd ((k, n) :: d) k = some n := by simp [fd]
theorem fd_cons_ne {e k : Int × Int} (h : e ≠ k) (n : Nat) (d : Lw) : fd ((e, n) :: d) k = fd d k := by simp [fd, h]
theorem valV_enc : ∀ (d : Lw) (k : Int × Int), valV (enc d) (kyv k) = (fd d k).map fun n => V.int (n : Int)
  | [], k => rfl
  | (e, n) :: d, k => by
    by_cases h : e = k
    · subst h
      rw [fd_cons_eq]
      exact valV_pos (p := (kyv e, V.int (n : Int))) rfl
    · rw [fd_cons_ne h, ← valV_enc d k]
      exact valV_neg (p := (kyv e, V.int (n : Int))) fun z => h (kyv_inj z)
theorem putK_ne {p : List Key × V} {r : List (List Key × V)} {k : List Key} {y : V} (h : p.1 ≠ k) : putK (p :: r) k y = p :: putK r k y := by
  unfold putK
  rw [List.any_cons, decide_eq_false h, Bool.false_or]
  by_cases c : (r.any fun kv => decide (kv.1 = k)) = true
  · rw [if_pos c, if_pos c, List.map_cons, if_neg h]
  · rw [if_neg c, if_neg c]; rfl
theorem putK_eq {p : List Key × V} {r : List (List Key × V)} {k : List Key} {y : V} (h : p.1 = k) (n : ∀ q ∈ r, q.1 ≠ k) : putK (p :: r) k y = (k, y) :: r := by
  unfold putK
  rw [List.any_cons, decide_eq_true h, Bool.true_or, if_pos rfl, List.map_cons, if_pos h, h]
  congr 1
  have : r.map (fun kv => if kv.1 = k then (kv.1, y) else kv) = r.map id := List.map_congr_left fun q hq => if_neg (n q hq)
  rw [this, List.map_id]
theorem put_enc : ∀ (d : Lw) (k : Int × Int) (n : Nat), (d.map (·.1)).Nodup → putK (enc d) (kyv k) (V.int (((fd d k).getD 0 + n : Nat) : Int)) = enc (bump d k n)
  | [], k, n, _ => by
    rw [bump_nil]
    show [(kyv k, V.int ((0 + n : Nat) : Int))] = [(kyv k, V.int (n : Int))]
    rw [Nat.zero_add]
  | (e, m) :: d, k, n, nd => by
    have nd2 := List.nodup_cons.mp nd
    by_cases h : e = k
    · subst h
      rw [bump_same, fd_cons_eq]
      refine putK_eq rfl fun q hq z => ?_
      obtain ⟨x, hx, rfl⟩ := List.mem_map.mp hq
      exact nd2.1 (List.mem_map.mpr ⟨x, hx, kyv_inj z⟩)
    · rw [bump_other h, fd_cons_ne h]
      show putK ((kyv e, V.int (m : Int)) :: enc d) _ _ = (kyv e, V.int (m : Int)) :: enc (bump d k n)
      rw [putK_ne (fun z => h (kyv_inj z)), put_enc d k n nd2.2]
theorem bump_nodup : ∀ (d : Lw) (k : Int × Int) (n : Nat), (d.map (·.1)).Nodup → ((bump d k n).map (·.1)).Nodup
  | [], k, n, _ => by rw [bump_nil]; simp
  | (e, m) :: d, k, n, nd => by
    have nd2 := List.nodup_cons.mp nd
    by_cases h : e = k
    · subst h
      rw [bump_same]; exact nd
    · rw [bump_other h, List.map_cons]
      refine List.nodup_cons.mpr ⟨fun z => ?_, bump_nodup d k n nd2.2⟩
      obtain ⟨y, hy, ey⟩ := List.mem_map.mp z
      rcases bump_key d k n y hy with a | ⟨x, hx, ex⟩
      · exact h (ey.symm.trans a)
      · exact nd2.1 (List.mem_map.mpr ⟨x, hx, ex.trans ey⟩)
theorem bump_len : ∀ (d : Lw) (k : Int × Int) (n : Nat), (bump d k n).length ≤ d.length + 1
  | [], k, n => by rw [bump_nil]; simp
  | (e, m) :: d, k, n => by
    by_cases h : e = k
    · subst h
      rw [bump_same]; simp
    · rw [bump_other h]
      have := bump_len d k n
      simp
      omega
theorem fd_mem {d : Lw} (nd : (d.map (·.1)).Nodup) {e : (Int × Int) × Nat} (h : e ∈ d) : fd d e.1 = some e.2 := by
  induction d with
  | nil => cases h
  | cons a r ih =>
    obtain ⟨a1, a2⟩ := a
    have nd2 := List.nodup_cons.mp nd
    rcases List.mem_cons.mp h with rfl | h
    · exact fd_cons_eq _ _
    · rw [fd_cons_ne (fun z => nd2.1 (List.mem_map.mpr ⟨e, h, z.symm⟩))]
      exact ih nd2.2 h
end
section
theorem tbl3 {c : Nat} (h : c = 82 ∨ c = 84 ∨ c = 85) : valV (mergeK [] [((.inr "T" : Key), V.str "U"), (.inr "U", .str "T"), (.inr "R", .str "R")]) (.inr (S [c]) : Key) = some (.str (S [inv3 c])) := by
  rcases h with rfl | rfl | rfl <;> decide +kernel
end
section
theorem e_RTU : (("RTU" : Str)) = S [82, 84, 85] := by decide +kernel
theorem getD_enc (d : Lw) (k : Int × Int) : (valV (enc d) (kyv k)).getD (V.int 0) = V.int (((fd d k).getD 0 : Nat) : Int) := by
  rw [valV_enc]
  cases fd d k <;> rfl
theorem three_take {m c : Nat} (h : ([82, 84, 85] : List Nat)[m]? = some c) : ([82, 85, 84] : List Nat).take (m + 1) = ([82, 85, 84] : List Nat).take m ++ [inv3 c] ∧ (c = 82 ∨ c = 84 ∨ c = 85) := by
  match m, h with
  | 0, h => cases h; exact ⟨rfl, .inl rfl⟩
  | 1, h => cases h; exact ⟨rfl, .inr (.inl rfl)⟩
  | 2, h => cases h; exact ⟨rfl, .inr (.inr rfl)⟩
theorem keys_at {H : Hp} : ∀ {d : Lw} {bs : List Addr}, IsKeys H (enc d) bs → bs.length = d.length ∧ ∀ (i : Nat) (b : Addr) (e : (Int × Int) × Nat), bs[i]? = some b → d[i]? = some e → Tup2 H b e.1
  | [], [], _ => ⟨rfl, fun i b e h => by cases h⟩
  | [], _ :: _, h => nomatch h
  | _ :: _, [], h => nomatch h
  | e :: d, b :: bs, h => by
    cases h with
    | cons h1 h2 =>
      obtain ⟨l, k⟩ := keys_at (d := d) h2
      refine ⟨by simp [l], fun i b2 e2 hb he => ?_⟩
      match i, hb, he with
      | 0, hb, he => cases hb; cases he; exact h1
      | i + 1, hb, he => exact k i b2 e2 hb he
end
section
def spLWays : Sp := fun vs H Q _ => ∃ (t : Addr) (v : Int × Int), vs = [.ref t] ∧ Tup2 H t v ∧ Good v ∧ stp v ≤ 2000 ∧ ∀ d H' kvs, Same H H' → H d = none → H' d = some (.dT kvs) → valV kvs (kyv (0, 1)) = some (.int (pw v)) → Q (.ref d) H'
end
section
variable {P : Program} {w : World} {K : PySem.W.Frag} {mg : Str → Option Value} {base : Heap} {f : Addr} {fd : FuncData}
theorem ok__law_ways (F : Fun K "_law_ways" "_law_ways" s_law_ways f fd) (D_law_steps : Dfn P w K mg base "_law_steps" 2 ["value"] spSteps) (D_called : Dfn P w K mg base "_law_called" 2 ["value", "letter"] (spCalled K)) (y_range : mg "range" = none) (y_list : mg "list" = none)  : FnOk P w K mg base CX0 3 f fd ["value"] spLWays := by
  refine F.ok sc_law_ways (fun vs H Q E h => ?_) (fun cdv A outer s H vs Q E hr h => ?_)
  · obtain ⟨t, v, rfl, ht, g, hs, q⟩ := h
    rfl
  obtain ⟨t, v, rfl, ht, g, hs, q⟩ := h
  have hu := hu_of hr
  refine ⟨_, (pss_cons (ps_set (i := 1) sc_law_ways.nd rfl (.inl rfl) (pe_disp1T (Nat.lt_of_succ_lt hu) (pv 0) pe_int))
    (pss_cons (ps_set (i := 2) sc_law_ways.nd rfl (.inl rfl) (pe_lst (pa_cons (pv 0) pa_nil)))
    (pss_cons (ps_for PassesOwn.never rfl (pi_range1 rfl y_range (pa_cons (pe_do D_law_steps hr (pa_cons (pv 0) pa_nil)) pa_nil)) (pg_name (i := 3) sc_law_ways.nd rfl (.inl rfl))
    (pss_cons (ps_set (i := 4) sc_law_ways.nd rfl (.inl rfl) pe_dnewT)
    (pss_cons (ps_for PassesOwn.never rfl (pi_list (pv 2)) (pg_name (i := 5) sc_law_ways.nd rfl (.inl rfl))
    (pss_one (ps_for PassesOwn.never rfl (pi_str pe_str) (pg_name (i := 6) sc_law_ways.nd rfl (.inl rfl))
    (pss_cons (ps_set (i := 7) sc_law_ways.nd rfl (.inl rfl) (pe_do D_called hr (pa_cons (pv 5) (pa_cons (pe_dget hu (pe_disp (pps_cons pe_str pe_str (pps_cons pe_str pe_str (pps_cons pe_str pe_str pps_nil))) (by rfl) (by rfl) (fun z => by cases z) (by decide)) (pv 6) (fun _ _ => rfl)) pa_nil))))
    (pss_one (ps_if (pt_cmpR op_eq (pe_do D_law_steps hr (pa_cons (pv 7) pa_nil)) (pe_op op_sub (pe_do D_law_steps hr (pa_cons (pv 5) pa_nil)) pe_int) (nomark _)) (pss_one (ps_dput hu (pv 4) (pv 7) (pe_op op_add (pe_dget2 hu (pv 4) (pv 7) pe_int (by constructor <;> rfl)) (pe_dget hu (pv 1) (pv 5) (fun _ _ => rfl))) rfl)) pss_nil))))))
    (pss_cons (ps_for PassesOwn.never rfl (pi_list (pe_callTy (call_list_dT rfl) rfl y_list (by decide +kernel) (pa_cons (pv 4) pa_nil))) (pg_name (i := 5) sc_law_ways.nd rfl (.inl rfl))
    (pss_one (ps_dput hu (pv 1) (pv 5) (pe_dget hu (pv 4) (pv 5) (fun _ _ => rfl)) rfl)))
    (pss_one (ps_set (i := 2) sc_law_ways.nd rfl (.inl rfl) (pe_callTy (call_list_dT rfl) rfl y_list (by decide +kernel) (pa_cons (pv 4) pa_nil))))))))
    (pss_one (ps_ret (pv 1)))))), ?_⟩
  have one : 1 ≤ sizeLine := fits (by decide)
  obtain ⟨p0, q0⟩ := stp_size (stp v) v g rfl
  refine fun dp hdp => ⟨_, rfl, upd_same, kyv v, t, .int 1, rfl, (same_new hdp _) _ _ ht, ?_⟩
  have S0 : Same H (upd (upd H dp (.dT [])) dp (.dT [(kyv v, V.int 1)])) := same_upd (same_new hdp _) hdp
  have eD : (upd (upd H dp (.dT [])) dp (.dT [(kyv v, V.int 1)])) dp = some (.dT [(kyv v, V.int 1)]) := upd_same
  generalize upd (upd H dp (.dT [])) dp (.dT [(kyv v, V.int 1)]) = G0 at S0 eD ⊢
  refine ⟨_, rfl, one, fun lp hlp => ?_⟩
  have s1 := same_new hlp (.lst [V.ref t])
  have eL : upd G0 lp (.lst [V.ref t]) lp = some (.lst [V.ref t]) := upd_same
  generalize upd G0 lp (.lst [V.ref t]) = G1 at s1 eL ⊢
  have S1 := S0.trans s1
  have nld : lp ≠ dp := fun z => by rw [z, eD] at hlp; cases hlp
  have big : ∀ n, n ≤ 2000 → (2 : Nat) ^ n < 2 ^ 8000 := fun n h => Nat.pow_lt_pow_right (by decide) (by omega)
  refine ⟨_, rfl, t, v, rfl, S1 _ _ ht, g, Nat.lt_of_le_of_lt p0 (big _ hs), Nat.lt_of_le_of_lt q0 (big _ hs), fun G2 s2 => ⟨(stp v : Int), rfl, by omega, by omega, for_range (lo := 0) (n := ((stp v : Int)).toNat) (fun j σ G => ∃ (x3 x4 x5 x6 x7 : Option V) (lq : Addr) (kvs : List (List Key × V)), σ = [some (.ref t), some (.ref dp), some (.ref lq), x3, x4, x5, x6, x7] ∧ Same H G ∧ G dp = some (.dT kvs) ∧ kvs.length ≤ 1 + 2 * j ∧ (∀ e ∈ lvk v j, valV kvs (kyv e.1) = some (.int (e.2 : Int))) ∧ LvAt G lq ((lvk v j).map (·.1))) ?_ ?_ ?_⟩⟩
  · refine ⟨_, _, _, _, _, lp, _, rfl, S1.trans s2, s2 _ _ (s1 _ _ eD), by show 1 ≤ 1 + 2 * 0; decide, fun e he => ?_, [t], s2 _ _ eL, rfl, fun i t1 u a b => ?_⟩
    · rw [List.mem_singleton.mp he]; exact valV_pos rfl
    · match i, a, b with
      | 0, a, b => cases a; cases b; exact (S1.trans s2) _ _ ht
  · rintro j σ G hj ⟨x3, x4, x5, x6, x7, lq, kvs, rfl, SG, hD, kl, hk, hL⟩
    have hj : j < stp v := by omega
    have ok := lvk_ok g j (by omega)
    have nz := ok.nz hj
    have l2 := ok.f.len
    obtain ⟨ts, tq, tl, tv⟩ := id hL
    rw [List.length_map] at tl
    have nqd : lq ≠ dp := ne_of tq hD (fun z => nomatch z)
    refine fun bp hbp => ?_
    have s3 := same_new hbp (.dT [])
    have eB : upd G bp (.dT []) bp = some (.dT []) := upd_same
    generalize upd G bp (.dT []) = G3 at s3 eB ⊢
    have tq3 := s3 _ _ tq
    have hD3 := s3 _ _ hD
    have nbd : bp ≠ dp := fun z => by rw [z, hD] at hbp; cases hbp
    have nqb : lq ≠ bp := fun z => by rw [z] at tq; rw [tq] at hbp; cases hbp
    refine ⟨_, rfl, lq, rfl, ⟨_, SqL.of tq3⟩, for_list (K := K) (a := lq) (xs := ts.map V.ref) (fun i σ F => ∃ (x5 x6 x7 : Option V) (d : Lw), σ = [some (.ref t), some (.ref dp), some (.ref lq), some (.int (0 + (j : Int))), some (.ref bp), x5, x6, x7] ∧ But bp G3 F ∧ F bp = some (.dT (enc d)) ∧ d = ((lvk v j).take i).foldl spread [] ∧ (d.map (·.1)).Nodup ∧ d.length ≤ 3 * i) ⟨_, _, _, [], rfl, But.refl _ _, eB, rfl, List.nodup_nil, Nat.le_refl _⟩ (fun i σ F hi h => ?_) ?_ ?_⟩
    · obtain ⟨x5, x6, x7, d, _, bF, _⟩ := h
      exact SqL.of (bF _ _ nqb tq3)
    · rintro i x σ F hx ⟨x5, x6, x7, d, rfl, bF, hB, ed, nd, dl⟩
      rw [List.getElem?_map] at hx
      obtain ⟨t1, ht1, rfl⟩ := Option.map_eq_some_iff.mp hx
      have hi : i < (lvk v j).length := by rw [← tl]; exact (List.getElem?_eq_some_iff.mp ht1).1
      have hei : (lvk v j)[i]? = some (lvk v j)[i] := List.getElem?_eq_getElem hi
      generalize (lvk v j)[i] = e at hei
      have em := List.mem_of_getElem? hei
      have T1 : Tup2 G3 t1 e.1 := s3 _ _ (tv i t1 e.1 ht1 (by rw [List.getElem?_map, hei]; rfl))
      have ge := ok.g e em
      obtain ⟨pe, qe⟩ := stp_size (stp e.1) e.1 ge.1 rfl
      have nt1 : t1 ≠ bp := fun z => by rw [z] at T1; rw [show G3 bp = _ from T1] at eB; cases eB
      rw [e_RTU]
      refine ⟨_, rfl, for_str (l := [82, 84, 85]) (fun m σ F => ∃ (x6 x7 : Option V) (d2 : Lw), σ = [some (.ref t), some (.ref dp), some (.ref lq), some (.int (0 + (j : Int))), some (.ref bp), some (.ref t1), x6, x7] ∧ But bp G3 F ∧ F bp = some (.dT (enc d2)) ∧ d2 = (((([82, 85, 84] : List Nat).take m).filter fun c => decide (cd e.1 c)).map (called e.1)).foldl (fun d k => bump d k e.2) d ∧ (d2.map (·.1)).Nodup ∧ d2.length ≤ d.length + m) ?_ ?_ ?_⟩
      · exact ⟨_, _, d, rfl, bF, hB, rfl, nd, Nat.le_refl _⟩
      · rintro m c σ F1 hc ⟨x6, x7, d2, rfl, bF1, hB1, ed2, nd2, dl2⟩
        obtain ⟨tk, hc3⟩ := three_take hc
        have hm : m < 3 := (List.getElem?_eq_some_iff.mp hc).1
        refine ⟨_, rfl, fun p hp => ⟨upd_same, [((.inr "T" : Key), V.str "U"), (.inr "U", .str "T"), (.inr "R", .str "R")], rfl, by show 3 ≤ 15; decide, ?_⟩⟩
        have s4 : Same F1 (upd (upd F1 p (.dK [])) p (.dK (mergeK [] [((.inr "T" : Key), V.str "U"), (.inr "U", .str "T"), (.inr "R", .str "R")]))) := fun b o h => by
          rw [upd_ne (ne_of_none h hp), upd_ne (ne_of_none h hp)]; exact h
        have get := DGet.k (H := upd (upd F1 p (.dK [])) p (.dK (mergeK [] [((.inr "T" : Key), V.str "U"), (.inr "U", .str "T"), (.inr "R", .str "R")]))) (k := .inr (S [c])) upd_same
        rw [tbl3 hc3] at get
        generalize upd (upd F1 p (.dK [])) p (.dK (mergeK [] [((.inr "T" : Key), V.str "U"), (.inr "U", .str "T"), (.inr "R", .str "R")])) = F2 at s4 get ⊢
        have T1F := bF1 _ _ nt1 T1
        refine ⟨_, rfl, p, .str (S [inv3 c]), rfl, get, t1, e.1, inv3 c, rfl, s4 _ _ T1F, fun t' F3 s5 T2 => ?_⟩
        have gc := ge.1.called (inv3 c)
        have near := (stp_near ge.1 (inv3 c)).1
        obtain ⟨pc, qc⟩ := stp_size (stp (called e.1 (inv3 c))) _ gc rfl
        have se : stp e.1 ≤ 2000 := by omega
        have big2 : ∀ n, n ≤ 2001 → (2 : Nat) ^ n < 2 ^ 8000 := fun n h => Nat.pow_lt_pow_right (by decide) (by omega)
        refine ⟨_, rfl, t', called e.1 (inv3 c), rfl, T2, gc, Nat.lt_of_le_of_lt pc (big2 _ (by omega)), Nat.lt_of_le_of_lt qc (big2 _ (by omega)), fun F4 s6 => ⟨_, rfl, t1, e.1, rfl, s6 _ _ (s5 _ _ (s4 _ _ T1F)), ge.1, Nat.lt_of_le_of_lt pe (big2 _ (by omega)), Nat.lt_of_le_of_lt qe (big2 _ (by omega)), fun F5 s7 => ?_⟩⟩
        have SF := s4.trans (s5.trans (s6.trans s7))
        have hB5 := SF _ _ hB1
        have bF5 := bF1.trans (But.of SF)
        have T25 := s7 _ _ (s6 _ _ T2)
        refine ⟨_, _, rfl, rfl, rfl, _, rfl, ite2 (fun c1 => ?_) (fun c1 => ?_)⟩
        · have yes : cd e.1 (inv3 c) := by
            have := V.int.inj (of_decide_eq_true c1)
            unfold cd
            omega
          have hD5 := bF5 _ _ (Ne.symm nbd) hD3
          have gw : DGet F5 dp (.ref t1) (some (V.int (e.2 : Int))) := by
            have := DGet.t (k := kyv e.1) hD5 (SF _ _ T1F)
            rw [hk e em] at this
            exact this
          refine ⟨_, rfl, bp, rfl, .inr ⟨_, .inl hB5⟩, _, rfl, _, DGet.t (k := kyv (called e.1 (inv3 c))) hB5 T25, _, rfl, _, rfl, dp, _, rfl, gw, _, _, getD_enc _ _, rfl, _, rfl, _, rfl, bp, _, rfl, DPut.t (k := kyv (called e.1 (inv3 c))) hB5 T25 (Nat.lt_of_lt_of_le (by unfold enc; rw [List.length_map]; omega) sizeLine_big), ?_⟩
          refine ⟨_, _, bump d2 (called e.1 (inv3 c)) e.2, rfl, bF5.trans But.upd, ?_, ?_, bump_nodup _ _ _ nd2, by have := bump_len d2 (called e.1 (inv3 c)) e.2; omega⟩
          · rw [upd_same, ← put_enc d2 (called e.1 (inv3 c)) e.2 nd2]
            rfl
          · rw [tk, List.filter_append, show ([inv3 c] : List Nat).filter (fun c => decide (cd e.1 c)) = [inv3 c] by simp [List.filter, yes], List.map_append, List.foldl_append, ← ed2]
            rfl
        · have no : ¬ cd e.1 (inv3 c) := fun z => c1 (decide_eq_true (by
            unfold cd at z
            congr 1
            omega))
          refine ⟨_, _, d2, rfl, bF5, hB5, ?_, nd2, by omega⟩
          rw [tk, List.filter_append, show ([inv3 c] : List Nat).filter (fun c => decide (cd e.1 c)) = [] by simp [List.filter, no], List.append_nil]
          exact ed2
      · rintro σ F1 ⟨x6, x7, d2, rfl, bF1, hB1, ed2, nd2, dl2⟩
        refine ⟨_, _, _, d2, rfl, bF1, hB1, ?_, nd2, by have : d2.length ≤ d.length + 3 := dl2; omega⟩
        rw [List.take_add_one, hei, List.foldl_append, ← ed, ed2]
        rfl
    · rintro σ F ⟨x5, x6, x7, d, rfl, bF, hB, ed, nd, dl⟩
      rw [List.length_map, tl, List.take_length] at ed
      have ed : d = lvk v (j + 1) := ed
      have ok2 := lvk_ok g (j + 1) (by omega)
      have d2len : d.length ≤ 2 := by rw [ed]; exact ok2.f.len
      have hDF := bF _ _ (Ne.symm nbd) hD3
      have SGF : Same G F := (But.of s3 |>.trans bF).same (Same.refl G) hbp
      refine ⟨_, rfl, bp, _, rfl, .inl hB, fun l1 bs hl1 kb => ?_⟩
      obtain ⟨kl1, kt1⟩ := keys_at kb
      have s8 := same_new hl1 (.lst (bs.map V.ref))
      have eL1 : upd F l1 (.lst (bs.map V.ref)) l1 = some (.lst (bs.map V.ref)) := upd_same
      generalize upd F l1 (.lst (bs.map V.ref)) = F1 at s8 eL1 ⊢
      have nl1d : l1 ≠ dp := fun z => by rw [z, hDF] at hl1; cases hl1
      refine ⟨l1, rfl, ⟨_, SqL.of eL1⟩, for_list (K := K) (a := l1) (xs := bs.map V.ref) (fun i σ F' => ∃ (x5 x6 x7 : Option V) (kvs2 : List (List Key × V)), σ = [some (.ref t), some (.ref dp), some (.ref lq), some (.int (0 + (j : Int))), some (.ref bp), x5, x6, x7] ∧ But dp F1 F' ∧ F' dp = some (.dT kvs2) ∧ kvs2.length ≤ kvs.length + i ∧ ∀ e ∈ d.take i, valV kvs2 (kyv e.1) = some (.int (e.2 : Int))) ⟨_, _, _, kvs, rfl, But.refl _ _, s8 _ _ hDF, Nat.le_refl _, fun e h => by cases h⟩ (fun i σ F' hi h => ?_) ?_ ?_⟩
      · obtain ⟨_, _, _, _, _, b', _⟩ := h
        exact SqL.of (b' _ _ nl1d eL1)
      · rintro i x σ F' hx ⟨y5, y6, y7, kvs2, rfl, b', hD', kl', hk'⟩
        rw [List.getElem?_map] at hx
        obtain ⟨b1, hb1, rfl⟩ := Option.map_eq_some_iff.mp hx
        have hi : i < d.length := by rw [← kl1]; exact (List.getElem?_eq_some_iff.mp hb1).1
        have hei : d[i]? = some d[i] := List.getElem?_eq_getElem hi
        generalize d[i] = e at hei
        have em := List.mem_of_getElem? hei
        have Tb := kt1 i b1 e hb1 hei
        have ntb : b1 ≠ dp := fun z => by rw [z] at Tb; rw [show F dp = _ from Tb] at hDF; cases hDF
        have Tb' := b' _ _ ntb (s8 _ _ Tb)
        have hB' := b' _ _ nbd (s8 _ _ hB)
        have gb : DGet F' bp (.ref b1) (some (V.int (e.2 : Int))) := by
          have := DGet.t (k := kyv e.1) hB' Tb'
          rw [valV_enc, fd_mem nd em] at this
          exact this
        refine ⟨_, rfl, _, rfl, bp, _, rfl, gb, _, rfl, _, rfl, dp, _, rfl, DPut.t (k := kyv e.1) hD' Tb' (Nat.lt_of_lt_of_le (by omega) sizeLine_big), ?_⟩
        refine ⟨_, _, _, _, rfl, b'.trans But.upd, upd_same, by have := length_putK kvs2 (kyv e.1) (V.int (e.2 : Int)); omega, fun y hy => ?_⟩
        rw [List.take_add_one, hei] at hy
        rw [valV_put]
        rcases List.mem_append.mp hy with h | h
        · by_cases z : kyv y.1 = kyv e.1
          · rw [if_pos z]
            have ym : y ∈ d := List.mem_of_mem_take h
            have a1 := fd_mem nd ym
            rw [kyv_inj z, fd_mem nd em] at a1
            rw [Option.some.inj a1]
          · rw [if_neg z]; exact hk' y h
        · have : y = e := by simpa using h
          rw [this, if_pos rfl]
      · rintro σ F' ⟨y5, y6, y7, kvs2, rfl, b', hD', kl', hk'⟩
        rw [List.length_map, kl1, List.take_length] at hk'
        rw [List.length_map, kl1] at kl'
        have hB' := b' _ _ nbd (s8 _ _ hB)
        have SH : Same H F' := b'.same ((SG.trans SGF).trans s8) hdp
        refine ⟨_, rfl, bp, _, rfl, .inl hB', fun l2 bs2 hl2 kb2 => ?_⟩
        obtain ⟨kl2, kt2⟩ := keys_at kb2
        have s9 := same_new hl2 (.lst (bs2.map V.ref))
        refine ⟨_, _, _, _, _, l2, kvs2, rfl, SH.trans s9, s9 _ _ hD', by omega, by rw [← ed]; exact hk', bs2, upd_same, by rw [kl2, ← ed, List.length_map], fun i b u hb hu => ?_⟩
        rw [← ed, List.getElem?_map] at hu
        obtain ⟨e, he, rfl⟩ := Option.map_eq_some_iff.mp hu
        exact s9 _ _ (kt2 i b e hb he)
  · rintro σ G ⟨x3, x4, x5, x6, x7, lq, kvs, rfl, SG, hD, kl, hk, hL⟩
    rw [Int.toNat_natCast, lvk_end g] at hk
    exact ⟨_, rfl, q dp G kvs SG hdp hD (hk _ List.mem_cons_self)⟩
end
section
def spIsLeast : Sp := fun vs H Q _ => ∃ (d : List Nat) (t : Addr) (v : Int × Int), vs = [.str (S d), .ref t] ∧ Tup2 H t v ∧ Good v ∧ stp v ≤ 2000 ∧ d.length = stp v ∧ run (0, 1) d = v ∧ ∀ H', Same H H' → Q (.bl true) H'
end
section
variable {P : Program} {w : World} {K : PySem.W.Frag} {mg : Str → Option Value} {base : Heap} {f : Addr} {fd : FuncData}
theorem ok__law_is_least (F : Fun K "_law_is_least" "_law_is_least" s_law_is_least f fd) (D_number : Dfn P w K mg base "_law_number" 2 ["dance"] (spNumber K)) (D_law_steps : Dfn P w K mg base "_law_steps" 2 ["value"] spSteps) (y_len : mg "len" = none) (y_isinstance : mg "isinstance" = none) (y_str : mg "str" = none)  : FnOk P w K mg base CX0 3 f fd ["dance", "value"] spIsLeast := by
  refine F.ok sc_law_is_least (fun vs H Q E h => ?_) (fun cdv A outer s H vs Q E hr h => ?_)
  · obtain ⟨d, t, v, rfl, ht, g, zs, hl, hr_, q⟩ := h
    rfl
  obtain ⟨d, t, v, rfl, ht, g, zs, hl, hr_, q⟩ := h
  refine ⟨_, (pss_one (ps_ret (pe_and (pe_callB call_isi rfl y_isinstance (by decide +kernel) (pa_cons (pv 0) (pa_cons (pe_bltn (v := .ty "str") rfl y_str (by decide +kernel) rfl) pa_nil))) (pe_and (pe_cmpR op_eq (pe_callB call_len_str rfl y_len PySem.boot_len (pa_cons (pv 0) pa_nil)) (pe_do D_law_steps hr (pa_cons (pv 1) pa_nil)) (nomark _)) (pe_one (pe_cmpR (op_eqD hr.units) (pe_do D_number hr (pa_cons (pv 0) pa_nil)) (pv 1) (nomark _))))))), ?_⟩
  have b8 := stp8 g (by omega)
  refine ⟨_, rfl, _, _, _, _, true, rfl, .ty _, .base (.str _), kit_ty (by decide +kernel), _, rfl, iteT ?_⟩
  refine ⟨_, rfl, _, rfl, by rw [S_len]; exact fits (by omega), _, rfl, t, v, rfl, ht, g, b8.1, b8.2, fun H1 s1 => ⟨rfl, _, rfl, ?_⟩⟩
  rw [S_len, hl, decide_eq_true rfl]
  refine iteT ?_
  refine ⟨_, rfl, d, rfl, fun t1 H2 s2 T1 => ⟨_, rfl, _, _, dp_tup2 T1, dp_tup2 ((ht.same s1).same s2), sh2 _ _, sh2 _ _, ?_⟩⟩
  rw [eqv2, decide_eq_true hr_]
  exact q H2 (s1.trans s2)
end
section
def spLPlace : Sp := fun vs H Q _ => ∃ (a : Addr) (n : Nat), vs = [.ref a, .int (n : Int)] ∧ Tape H a ∧ 1 ≤ n ∧ n < 2 ^ 8000 ∧ ∀ (k : Nat) (H' : Hp), k < n → But a H H' → Tape H' a → Q (.int (k : Int)) H'
end
section
variable {P : Program} {w : World} {K : PySem.W.Frag} {mg : Str → Option Value} {base : Heap} {f : Addr} {fd : FuncData}
theorem ok__law_place (F : Fun K "_law_place" "_law_place" s_law_place f fd) (D_take : Dfn P w K mg base "_law_take" 1 ["tape", "many"] spTake) (y_range : mg "range" = none) (y_int : mg "int" = none)  : FnOk P w K mg base CX0 2 f fd ["tape", "many"] spLPlace := by
  refine F.ok sc_law_place (fun vs H Q E h => ?_) (fun cdv A outer s H vs Q E hr h => ?_)
  · obtain ⟨a, n, rfl, tp, n1, n2, q⟩ := h
    rfl
  obtain ⟨a, n, rfl, tp, n1, n2, q⟩ := h
  refine ⟨_, (pss_cons (ps_set (i := 2) sc_law_place.nd rfl (.inl rfl) pe_int)
    (pss_cons (ps_for PassesOwn.never rfl (pi_range1 rfl y_range (pa_cons pe_int pa_nil)) (pg_name (i := 3) sc_law_place.nd rfl (.inl rfl))
    (pss_one (ps_set (i := 2) sc_law_place.nd rfl (.inl rfl) (pe_op op_add (pe_op op_mulW (pv 2) pe_int) (pe_do D_take hr (pa_cons (pv 0) (pa_cons pe_int pa_nil)))))))
    (pss_one (ps_ret (pe_ix ix_list (pe_lst (pa_cons (pe_op op_modN (pe_callTy call_int1 rfl y_int (by decide +kernel) (pa_cons (pv 2) pa_nil)) (pv 1)) (pa_cons (pe_op op_modN (pe_callTy call_int1 rfl y_int (by decide +kernel) (pa_cons (pv 2) pa_nil)) (pv 1)) (pa_cons pe_int (pa_cons (pe_op op_sub (pv 1) pe_int) pa_nil))))) (pe_do D_take hr (pa_cons (pv 0) (pa_cons pe_int pa_nil))) (fun _ _ => rfl)))))), ?_⟩
  refine ⟨8, rfl, by decide, by decide, for_range (lo := 0) (n := 8) (fun i σ G => ∃ (x3 : Option V) (z : Nat), σ = [some (.ref a), some (.int (n : Int)), some (.int (z : Int)), x3] ∧ But a H G ∧ Tape G a ∧ z < 2 ^ (21 * i + 1)) ⟨_, 0, rfl, But.refl _ _, tp, by decide⟩ ?_ ?_⟩
  · rintro i σ G hi ⟨x3, z, rfl, bG, tG, hz⟩
    have zl : (z : Int).natAbs.log2 ≤ 200 := by
      rw [Int.natAbs_natCast]
      by_cases e : z = 0
      · rw [e]; decide
      · have : z < 2 ^ 200 := Nat.lt_trans hz (Nat.pow_lt_pow_right (by decide) (by omega))
        exact Nat.le_of_lt ((Nat.log2_lt e).mpr this)
    have l2 : (1000003 : Int).natAbs.log2 = 19 := by decide +kernel
    have cm : CMulW (z : Int) 1000003 := by
      show (z : Int).natAbs.log2 + (1000003 : Int).natAbs.log2 < 1000000
      omega
    refine ⟨_, rfl, _, _, rfl, rfl, cm, _, rfl, a, 1000003, rfl, tG, by decide, by decide, fun r G1 r0 r1 b1 t1 => ?_⟩
    obtain ⟨m, rfl⟩ := Int.eq_ofNat_of_zero_le r0
    have e20 : (2 : Nat) ^ 21 = 2097152 := rfl
    refine ⟨_, _, rfl, rfl, ⟨_, z * 1000003 + m, rfl, bG.trans b1, t1, ?_⟩⟩
    rw [show 21 * (i + 1) + 1 = (21 * i + 1) + 21 by omega, Nat.pow_add, e20]
    generalize 2 ^ (21 * i + 1) = X at hz ⊢
    omega
  · rintro σ G ⟨x3, z, rfl, bG, tG, hz⟩
    have nz : (n : Int) ≠ 0 := by omega
    have fm : (z : Int).fmod (n : Int) = ((z % n : Nat) : Int) := by
      rw [Int.fmod_eq_emod_of_nonneg _ (by omega)]
      rfl
    have ml : z % n < n := Nat.mod_lt _ (by omega)
    refine ⟨_, rfl, .inl ⟨_, rfl, _, rfl, _, _, rfl, rfl, nz, _, rfl, .inl ⟨_, rfl, _, rfl, _, _, rfl, rfl, nz, _, rfl, _, _, rfl, rfl, fits (by show 4 ≤ 16777216; decide), fun lp hlp => ?_⟩⟩⟩
    have fm2 : (fun i j : Int => V.int (i.fmod j)) (z : Int) (n : Int) = V.int ((z % n : Nat) : Int) := congrArg V.int fm
    rw [fm2]
    have s1 := same_new hlp (.lst [V.int ((z % n : Nat) : Int), V.int ((z % n : Nat) : Int), V.int 0, V.int ((n : Int) - 1)])
    have nl := tG.ne hlp
    refine ⟨_, rfl, a, 4, rfl, tG.same s1, by decide, by decide, fun r G1 r0 r1 b1 t1 => ?_⟩
    have pick : ∃ k : Nat, atI [V.int ((z % n : Nat) : Int), V.int ((z % n : Nat) : Int), V.int 0, V.int ((n : Int) - 1)] r = some (V.int (k : Int)) ∧ k < n := by
      obtain e | e | e | e : r = (0 : Nat) ∨ r = (1 : Nat) ∨ r = (2 : Nat) ∨ r = (3 : Nat) := by omega
      · exact ⟨z % n, at_of e rfl, ml⟩
      · exact ⟨z % n, at_of e rfl, ml⟩
      · exact ⟨0, at_of e rfl, by omega⟩
      · exact ⟨n - 1, at_of e (by show some (V.int ((n : Int) - 1)) = _; rw [show ((n - 1 : Nat) : Int) = (n : Int) - 1 by omega]), by omega⟩
    obtain ⟨k, hk, kn⟩ := pick
    exact ⟨lp, _, r, _, rfl, rfl, SqL.of (b1 _ _ nl upd_same), hk, q k G1 kn ((bG.trans (But.of s1)).trans b1) t1⟩
end
/-! what a run does not wake stays: generators that sleep are put out of reach, and stand as they were -/
section


def pz : GenState → GenState
  | .suspended _ l c p fs cl => .suspended (fun _ => .unsupported "") l c p fs cl
  | .fresh c => .fresh c
  | .running => .running
  | .finished => .finished
def slp : GenState → Bool
  | .suspended .. => true
  | _ => false
def isRet : Frame → Bool
  | .gen .. => false
  | .ret .. => true
def gOk : GenState → Bool
  | .suspended _ _ _ _ fs _ => fs.all isRet
  | _ => true
def eOk : End → Bool
  | .susp _ _ _ _ _ _ fs => fs.all isRet
  | .ret _ => true
structure Fj (G z : Array GenState) : Prop where
  sz : G.size ≤ z.size
  fz : ∀ (i : Nat) (x : GenState), G[i]? = some x → slp x = true → z[i]? = some (pz x)
  ok : ∀ (i : Nat) (y : GenState), z[i]? = some y → (∀ x, G[i]? = some x → slp x = false) → gOk y = true
def one1 (G : Array GenState) (i : Nat) (y : GenState) : GenState := match G[i]? with
  | some x => if slp x = true then x else y
  | none => y
def bk (G z : Array GenState) : Array GenState := z.mapIdx (one1 G)
def back (G : Array GenState) (s : Shared) : Shared := { s with gens := bk G s.gens }
theorem bk_get (G z : Array GenState) (i : Nat) : (bk G z)[i]? = z[i]?.map (one1 G i) := by
  unfold bk
  rw [Array.getElem?_mapIdx]
theorem bk_size (G z : Array GenState) : (bk G z).size = z.size := by unfold bk; rw [Array.size_mapIdx]
def Fro (G : Array GenState) (g : Nat) : Prop := ∃ x, G[g]? = some x ∧ slp x = true
theorem one1_fro {G : Array GenState} {i : Nat} {x y : GenState} (h : G[i]? = some x) (k : slp x = true) : one1 G i y = x := by
  unfold one1
  rw [h]
  show (if slp x = true then x else y) = x
  rw [if_pos k]
theorem one1_not {G : Array GenState} {i : Nat} {y : GenState} (h : ¬ Fro G i) : one1 G i y = y := by
  unfold one1
  cases e : G[i]? with
  | none => rfl
  | some x =>
    show (if slp x = true then x else y) = y
    rw [if_neg fun k => h ⟨x, e, k⟩]
theorem not_fro {G : Array GenState} {i : Nat} (h : ¬ Fro G i) : ∀ x, G[i]? = some x → slp x = false := fun x e => by
  cases k : slp x with
  | false => rfl
  | true => exact absurd ⟨x, e, k⟩ h
theorem Fj.push {G z : Array GenState} (J : Fj G z) {y : GenState} (k : gOk y = true) : Fj G (z.push y) := by
  refine ⟨by rw [Array.size_push]; have := J.sz; omega, fun i x h k => ?_, fun i y' h n => ?_⟩
  · have := J.fz i x h k
    rw [Array.getElem?_push]
    have l : i < z.size := (Array.getElem?_eq_some_iff.mp this).1
    rw [if_neg (by omega)]
    exact this
  · rw [Array.getElem?_push] at h
    split at h
    · cases h; exact k
    · exact J.ok i y' h n
theorem bk_push {G z : Array GenState} (J : Fj G z) (y : GenState) : bk G (z.push y) = (bk G z).push y := by
  apply Array.ext_getElem?
  intro i
  rw [bk_get, Array.getElem?_push, Array.getElem?_push, bk_size, bk_get]
  by_cases e : i = z.size
  · rw [if_pos e, if_pos e]
    have n : ¬ Fro G i := fun ⟨x, h, _⟩ => by
      have := (Array.getElem?_eq_some_iff.mp h).1
      have := J.sz
      omega
    show some (one1 G i y) = _
    rw [one1_not n]
  · rw [if_neg e, if_neg e]
theorem Fj.set {G z : Array GenState} (J : Fj G z) {g : Nat} (n : ¬ Fro G g) {y : GenState} (k : gOk y = true) : Fj G (z.setIfInBounds g y) := by
  refine ⟨by rw [Array.size_setIfInBounds]; exact J.sz, fun i x h k => ?_, fun i y' h m => ?_⟩
  · have ne : g ≠ i := fun e => n (e ▸ ⟨x, h, k⟩)
    rw [Array.getElem?_setIfInBounds_ne ne]
    exact J.fz i x h k
  · by_cases e : g = i
    · subst e
      rw [Array.getElem?_setIfInBounds] at h
      rw [if_pos rfl] at h
      split at h
      · cases h; exact k
      · cases h
    · rw [Array.getElem?_setIfInBounds_ne e] at h
      exact J.ok i y' h m
theorem bk_set {G z : Array GenState} {g : Nat} (n : ¬ Fro G g) (y : GenState) : bk G (z.setIfInBounds g y) = (bk G z).setIfInBounds g y := by
  apply Array.ext_getElem?
  intro i
  rw [bk_get, Array.getElem?_setIfInBounds, Array.getElem?_setIfInBounds, bk_size, bk_get]
  by_cases e : g = i
  · rw [if_pos e, if_pos e]
    subst e
    split
    · show some (one1 G g y) = _
      rw [one1_not n]
    · rfl
  · rw [if_neg e, if_neg e]
theorem back_set {G : Array GenState} {s : Shared} {g : Nat} (n : ¬ Fro G g) (y : GenState) : back G (s.setGen g y) = (back G s).setGen g y := by
  unfold back Shared.setGen
  rw [bk_set n]
theorem Fj.awake {G z : Array GenState} (J : Fj G z) {g : Nat} {y : GenState} (h : z[g]? = some y) (k : slp y = false) : ¬ Fro G g := fun ⟨x, e, hx⟩ => by
  have := J.fz g x e hx
  rw [h] at this
  cases this
  cases x <;> simp [slp, pz] at hx k
theorem back_at {G : Array GenState} {s : Shared} {g : Nat} {y : GenState} (n : ¬ Fro G g) (h : s.gens[g]? = some y) : (back G s).gens[g]? = some y := by
  show (bk G s.gens)[g]? = _
  rw [bk_get, h]
  show some (one1 G g y) = _
  rw [one1_not n]
theorem split_ok : ∀ fs : List Frame, fs.all isRet = true → splitAtGen fs = none
  | [], _ => rfl
  | .gen .. :: _, h => by simp [isRet] at h
  | .ret .. :: r, h => by
    have := split_ok r (by simpa [isRet] using h)
    show (splitAtGen r).map _ = none
    rw [this]
    rfl
theorem no_unsup {M : Model} {Γ : Ctx} {p : Pos} {t : Sem PySem.Fin} {fs : List Frame} {s s' : Shared} {e : End} (h : Runs M Γ p t fs s e s') : ∀ w, t ≠ .unsupported w := by
  induction h with
  | segRet _ _ ih _ => exact ih
  | segGen _ _ ih _ => exact ih
  | segSuspOut _ _ ih => exact ih
  | segSuspGen _ _ _ _ ih _ => exact ih
  | _ => intro w z; cases z
theorem end_ok {e : End} (h : eOk e = true) : gOk e.genState = true := by
  cases e with
  | ret r => rfl
  | susp v g l k c p fs => exact h
theorem seen_back {G : Array GenState} {s : Shared} (J : Fj G s.gens) {g : Nat} {st : GenState} (q : s.gens[g]? = some st) : ∃ st', (back G s).gens[g]? = some st' ∧ st'.seen = st.seen := by
  refine ⟨one1 G g st, ?_, ?_⟩
  · show (bk G s.gens)[g]? = _
    rw [bk_get, q]
    rfl
  · by_cases f : Fro G g
    · obtain ⟨x, h, k⟩ := f
      rw [one1_fro h k]
      have := J.fz g x h k
      rw [q] at this
      cases this
      cases x <;> rfl
    · rw [one1_not f]
theorem push_back {G : Array GenState} {s : Shared} (J : Fj G s.gens) {y : GenState} : back G { s with gens := s.gens.push y } = { back G s with gens := (back G s).gens.push y } := by
  unfold back
  rw [bk_push J]
theorem back_size (G : Array GenState) (s : Shared) : (back G s).gens.size = s.gens.size := bk_size _ _
theorem fz_stuck {M : Model} {Γ : Ctx} {p p0 : Pos} {G : Array GenState} {s s1 s2 : Shared} (J : Fj G s.gens) {g : Nat} {k0 : Resume → Sem PySem.Fin} {l0 : List Value} {c0 : Code} {fs : List Frame} {cl : Bool} {r : Resume} {e : End}
    (q : s.gens[g]? = some (.suspended k0 l0 c0 p0 fs cl)) (h : Runs M Γ p (k0 r) fs s1 e s2) : ¬ Fro G g := fun ⟨x, hx, k⟩ => by
  have := J.fz _ x hx k
  rw [q] at this
  cases x with
  | suspended k2 l2 c2 p2 f2 cl2 =>
    injection this with z
    injection z with z1 z2 z3 z4 z5 z6
    subst z1
    exact absurd rfl (no_unsup h "")
  | _ => cases k
theorem runs_bk {M : Model} {Γ : Ctx} {p : Pos} {t : Sem PySem.Fin} {fs : List Frame} {s s' : Shared} {e : End} (h : Runs M Γ p t fs s e s') :
    ∀ G : Array GenState, Fj G s.gens → fs.all isRet = true → Fj G s'.gens ∧ eOk e = true ∧ Runs M Γ p t fs (back G s) e (back G s') := by
  induction h with
  | done => exact fun G J _ => ⟨J, rfl, .done⟩
  | raise => exact fun G J _ => ⟨J, rfl, .raise⟩
  | again q _ ih => intro G J F; obtain ⟨a, b, c⟩ := ih G J rfl; exact ⟨a, b, .again q c⟩
  | rule _ ih => intro G J F; obtain ⟨a, b, c⟩ := ih G J rfl; exact ⟨a, b, .rule c⟩
  | «at» _ ih => intro G J F; obtain ⟨a, b, c⟩ := ih G J rfl; exact ⟨a, b, .at c⟩
  | load q _ ih => intro G J F; obtain ⟨a, b, c⟩ := ih G J rfl; exact ⟨a, b, .load q c⟩
  | update q _ ih => intro G J F; obtain ⟨a, b, c⟩ := ih G J rfl; exact ⟨a, b, .update q c⟩
  | loadIfAlive _ ih => intro G J F; obtain ⟨a, b, c⟩ := ih G J rfl; exact ⟨a, b, .loadIfAlive c⟩
  | point _ ih => intro G J F; obtain ⟨a, b, c⟩ := ih G J rfl; exact ⟨a, b, .point c⟩
  | alloc _ ih => intro G J F; obtain ⟨a, b, c⟩ := ih G J rfl; exact ⟨a, b, .alloc c⟩
  | fresh _ ih => intro G J F; obtain ⟨a, b, c⟩ := ih G J rfl; exact ⟨a, b, .fresh c⟩
  | ask _ ih => intro G J F; obtain ⟨a, b, c⟩ := ih G J rfl; exact ⟨a, b, .ask c⟩
  | choose n _ ih => intro G J F; obtain ⟨a, b, c⟩ := ih G J rfl; exact ⟨a, b, .choose n c⟩
  | os _ ih => intro G J F; obtain ⟨a, b, c⟩ := ih G J rfl; exact ⟨a, b, .os c⟩
  | handled _ ih => intro G J F; obtain ⟨a, b, c⟩ := ih G J rfl; exact ⟨a, b, .handled c⟩
  | stack _ ih => intro G J F; obtain ⟨a, b, c⟩ := ih G J rfl; exact ⟨a, b, .stack c⟩
  | thread _ ih => intro G J F; obtain ⟨a, b, c⟩ := ih G J rfl; exact ⟨a, b, .thread c⟩
  | genState q _ ih =>
    intro G J F
    obtain ⟨a, b, c⟩ := ih G J rfl
    obtain ⟨st', e1, e2⟩ := seen_back J q
    exact ⟨a, b, .genState e1 (by rw [e2]; exact c)⟩
  | newGen _ ih =>
    intro G J F
    obtain ⟨a, b, c⟩ := ih G (J.push rfl) rfl
    rw [push_back J] at c
    exact ⟨a, b, .newGen (by rw [back_size]; exact c)⟩
  | call _ _ ih1 ih2 =>
    intro G J F
    obtain ⟨a, _, c⟩ := ih1 G J rfl
    obtain ⟨a2, b2, c2⟩ := ih2 G a rfl
    exact ⟨a2, b2, .call c c2⟩
  | callSusp _ ih =>
    intro G J F
    obtain ⟨a, b, c⟩ := ih G J rfl
    refine ⟨a, ?_, .callSusp c⟩
    show List.all (_ ++ [_]) isRet = true
    rw [List.all_append, show List.all _ isRet = true from b]
    rfl
  | yield => exact fun G J _ => ⟨J, rfl, .yield⟩
  | resumeFresh q _ qt _ ih1 ih2 =>
    intro G J F
    have n := J.awake q rfl
    obtain ⟨a, b, c⟩ := ih1 G (J.set n rfl) rfl
    obtain ⟨a2, b2, c2⟩ := ih2 G (a.set n (end_ok b)) rfl
    rw [back_set n] at c c2
    exact ⟨a2, b2, .resumeFresh (back_at n q) c qt c2⟩
  | resumeSuspended q h1 qt _ ih1 ih2 =>
    intro G J F
    have n := fz_stuck J q h1
    obtain ⟨a, b, c⟩ := ih1 G (J.set n rfl) (J.ok _ _ q (not_fro n))
    obtain ⟨a2, b2, c2⟩ := ih2 G (a.set n (end_ok b)) rfl
    rw [back_set n] at c c2
    exact ⟨a2, b2, .resumeSuspended (back_at n q) c qt c2⟩
  | resumeJustStarted q nv _ ih =>
    intro G J F
    obtain ⟨a, b, c⟩ := ih G J rfl
    exact ⟨a, b, .resumeJustStarted (back_at (J.awake q rfl) q) nv c⟩
  | resumeThrowFresh q _ ih =>
    intro G J F
    have n := J.awake q rfl
    obtain ⟨a, b, c⟩ := ih G (J.set n rfl) rfl
    rw [back_set n] at c
    exact ⟨a, b, .resumeThrowFresh (back_at n q) c⟩
  | resumeRunning q _ ih =>
    intro G J F
    obtain ⟨a, b, c⟩ := ih G J rfl
    exact ⟨a, b, .resumeRunning (back_at (J.awake q rfl) q) c⟩
  | resumeFinished q _ ih =>
    intro G J F
    obtain ⟨a, b, c⟩ := ih G J rfl
    exact ⟨a, b, .resumeFinished (back_at (J.awake q rfl) q) c⟩
  | segRet _ _ ih1 ih2 =>
    intro G J F
    obtain ⟨a, _, c⟩ := ih1 G J rfl
    obtain ⟨a2, b2, c2⟩ := ih2 G a (by simpa [isRet] using F)
    exact ⟨a2, b2, .segRet c c2⟩
  | segGen _ _ _ _ => intro G J F; simp [isRet] at F
  | segSuspOut q _ ih =>
    intro G J F
    obtain ⟨a, b, c⟩ := ih G J rfl
    refine ⟨a, ?_, .segSuspOut q c⟩
    show List.all (_ ++ _) isRet = true
    rw [List.all_append, show List.all _ isRet = true from b, F]
    rfl
  | segSuspGen q _ _ _ _ _ =>
    intro G J F
    rw [split_ok _ F] at q
    cases q
theorem wakes_bk {M : Model} {Γ : Ctx} {p : Pos} {g : Nat} {r : Resume} {s s' : Shared} {res : GenResult} {G : Array GenState} (J : Fj G s.gens) (h : Wakes M Γ p g r s res s') : Fj G s'.gens ∧ Wakes M Γ p g r (back G s) res (back G s') := by
  unfold Wakes at h
  cases q : s.gens[g]? with
  | none => rw [q] at h; exact h.elim
  | some st =>
    rw [q] at h
    cases st with
    | fresh c =>
      have n := J.awake q rfl
      unfold Wakes
      rw [back_at n q]
      cases r with
      | send v =>
        cases v with
        | none =>
          obtain ⟨e1, s1, hr, qt, er, rfl⟩ := h
          obtain ⟨a, b, c⟩ := runs_bk hr G (J.set n rfl) rfl
          rw [back_set n] at c
          exact ⟨a.set n (end_ok b), e1, _, c, qt, er, back_set n _⟩
        | _ => obtain ⟨er, rfl⟩ := h; exact ⟨J, er, rfl⟩
      | throw x =>
        obtain ⟨er, rfl⟩ := h
        exact ⟨J.set n rfl, er, back_set n _⟩
    | suspended k0 l0 c0 p0 fs cl =>
      obtain ⟨e1, s1, hr, qt, er, rfl⟩ := h
      have n := fz_stuck J q hr
      obtain ⟨a, b, c⟩ := runs_bk hr G (J.set n rfl) (J.ok _ _ q (not_fro n))
      rw [back_set n] at c
      unfold Wakes
      rw [back_at n q]
      exact ⟨a.set n (end_ok b), e1, _, c, qt, er, back_set n _⟩
    | running =>
      obtain ⟨er, rfl⟩ := h
      unfold Wakes
      rw [back_at (J.awake q rfl) q]
      exact ⟨J, er, rfl⟩
    | finished =>
      obtain ⟨er, rfl⟩ := h
      unfold Wakes
      rw [back_at (J.awake q rfl) q]
      exact ⟨J, er, rfl⟩
theorem wp_bk {α : Type} (M : Model) (Γ : Ctx) (G : Array GenState) (t : Sem α) : ∀ (Q : α → Pos → Shared → Prop) (E : Value → Pos → Shared → Prop) (p : Pos) (s : Shared), Fj G s.gens → PySem.Sem.wp M Γ t Q E p s →
    PySem.Sem.wp M Γ t (fun a p' s' => ∃ z, s' = back G z ∧ Fj G z.gens ∧ Q a p' z) (fun e p' s' => ∃ z, s' = back G z ∧ Fj G z.gens ∧ E e p' z) p (back G s) := by
  induction t with
  | pure a => intro Q E p s J h; exact ⟨s, rfl, J, h⟩
  | raise e => intro Q E p s J h; exact ⟨s, rfl, J, h⟩
  | unsupported _ => intro Q E p s _ h; exact h
  | finish _ => intro Q E p s _ h; exact h
  | rule _ k ih => intro Q E p s J h; exact ih () Q E p s J h
  | «at» p' k ih => intro Q E p s J h; exact ih () Q E p' s J h
  | load a _ k ih => intro Q E p s J h; obtain ⟨o, ho, h⟩ := h; exact ⟨o, ho, ih o Q E p s J h⟩
  | update a _ f k ih => intro Q E p s J h; exact ⟨h.1, ih () Q E p { s with heap := s.heap.update a f } J h.2⟩
  | loadIfAlive a k ih => intro Q E p s J h; exact ih _ Q E p s J h
  | point _ k ih => intro Q E p s J h; exact ih () Q E p s J h
  | register _ _ => intro Q E p s _ h; exact h
  | alloc o k ih => intro Q E p s J h; exact ih _ Q E p { s with heap := s.heap.push o } J h
  | fresh k ih => intro Q E p s J h; exact ih _ Q E p { s with toks := s.toks + 1 } J h
  | ask k ih => intro Q E p s J h; exact ih _ Q E p s J h
  | choose src m k ih => intro Q E p s J h; exact ⟨h.1, ih _ Q E p { s with drawn := s.drawn.bump src } J h.2⟩
  | os q _ k ih => intro Q E p s J h; exact ih _ Q E p { s with os := (Os.step s.os q).1 } J h
  | call c hd _ _ k ih =>
    intro Q E p s J h
    obtain ⟨r, s', hr, h⟩ := h
    obtain ⟨a, _, c2⟩ := runs_bk hr G J rfl
    exact ⟨r, back G s', c2, ih r Q E p s' a h⟩
  | handled own k ih => intro Q E p s J h; exact ih _ Q E p s J h
  | genState g k ih =>
    intro Q E p s J h
    obtain ⟨st, q, h⟩ := h
    obtain ⟨st', e1, e2⟩ := seen_back J q
    exact ⟨st', e1, by rw [e2]; exact ih _ Q E p s J h⟩
  | newGen c k ih =>
    intro Q E p s J h
    have := ih _ Q E p { s with gens := s.gens.push (.fresh c) } (J.push rfl) h
    rw [push_back J] at this
    show PySem.Sem.wp M Γ (k (back G s).gens.size) _ _ p { back G s with gens := (back G s).gens.push (.fresh c) }
    rw [back_size]
    exact this
  | resume g r _ k ih =>
    intro Q E p s J h
    obtain ⟨res, s', hw, h⟩ := h
    obtain ⟨a, b⟩ := wakes_bk J hw
    exact ⟨res, back G s', b, ih res Q E p s' a h⟩
  | yield _ _ _ _ => intro Q E p s _ h; exact h
  | stack k ih => intro Q E p s J h; exact ih _ Q E p s J h
  | fork _ _ => intro Q E p s _ h; exact h
  | thread k ih => intro Q E p s J h; exact ih _ Q E p s J h
  | await _ _ _ _ _ => intro Q E p s _ h; exact h
/-- s is f with its sleeping generators as they were when f began -/
def Fz (G : Array GenState) (s f : Shared) : Prop := s = back G f ∧ Fj G f.gens
theorem wpAny_fz {α : Type} {M : Model} {A : Around} {t : Sem α} {Q : α → Shared → Prop} {E : Value → Shared → Prop} {G : Array GenState} {s f : Shared} (z : Fz G s f) (h : wpAny M A t Q E f) :
    wpAny M A t (fun a s' => ∃ f', Fz G s' f' ∧ Q a f') (fun e s' => ∃ f', Fz G s' f' ∧ E e f') s := by
  obtain ⟨rfl, J⟩ := z
  refine wpAny_mono (fun Γ p hΓ => wp_bk M Γ G t _ _ p f J (h Γ p hΓ) : wpAny M A t (fun a s' => ∃ z, s' = back G z ∧ Fj G z.gens ∧ Q a z) (fun e s' => ∃ z, s' = back G z ∧ Fj G z.gens ∧ E e z) (back G f)) (fun _ _ ⟨z, a, b, c⟩ => ⟨z, ⟨a, b⟩, c⟩) fun _ _ ⟨z, a, b, c⟩ => ⟨z, ⟨a, b⟩, c⟩
theorem Fz.start (s : Shared) : Fz s.gens s { s with gens := s.gens.map pz } := by
  have get : ∀ i, (s.gens.map pz)[i]? = s.gens[i]?.map pz := fun i => Array.getElem?_map
  refine ⟨?_, by rw [Array.size_map]; exact Nat.le_refl _, fun i x h k => ?_, fun i y h n => ?_⟩
  · unfold back
    have : bk s.gens (s.gens.map pz) = s.gens := by
      apply Array.ext_getElem?
      intro i
      rw [bk_get, get]
      cases e : s.gens[i]? with
      | none => rfl
      | some x =>
        show some (one1 s.gens i (pz x)) = some x
        by_cases f : Fro s.gens i
        · obtain ⟨y, h, k⟩ := f
          rw [one1_fro h k]
          rw [e] at h
          cases h
          rfl
        · rw [one1_not f]
          have := not_fro f x e
          cases x <;> first | rfl | cases this
    show s = { s with gens := bk s.gens (s.gens.map pz) }
    rw [this]
  · show (s.gens.map pz)[i]? = _
    rw [get, h]
    rfl
  · have h : (s.gens.map pz)[i]? = some y := h
    rw [get] at h
    cases e : s.gens[i]? with
    | none => rw [e] at h; cases h
    | some x =>
      rw [e] at h
      have h : pz x = y := Option.some.inj h
      have := n x e
      subst h
      cases x <;> first | rfl | cases this
theorem Fz.at {G : Array GenState} {s f : Shared} (z : Fz G s f) {g : Nat} {x : GenState} (h : G[g]? = some x) (k : slp x = true) : s.gens[g]? = some x := by
  obtain ⟨rfl, J⟩ := z
  show (bk G f.gens)[g]? = _
  rw [bk_get, J.fz g x h k]
  show some (one1 G g (pz x)) = _
  rw [one1_fro h k]
theorem Fz.bare {G : Array GenState} {s f : Shared} (z : Fz G s f) (hG : PyProof.Rows.AllBare G) (hf : PyProof.Rows.AllBare f.gens) : PyProof.Rows.AllBare s.gens := by
  obtain ⟨rfl, J⟩ := z
  intro y hy
  obtain ⟨i, hi, e⟩ := Array.mem_iff_getElem.mp hy
  have h : (bk G f.gens)[i]? = some y := by rw [← e]; exact Array.getElem?_eq_getElem hi
  rw [bk_get] at h
  cases q : f.gens[i]? with
  | none => rw [q] at h; cases h
  | some u =>
    rw [q] at h
    have h : one1 G i u = y := Option.some.inj h
    by_cases w : Fro G i
    · obtain ⟨x, hx, k⟩ := w
      rw [one1_fro hx k] at h
      subst h
      exact hG _ (Array.mem_of_getElem? hx)
    · rw [one1_not w] at h
      subst h
      exact hf _ (Array.mem_of_getElem? q)
theorem pz_bare {x : GenState} : (pz x).bare = x.bare := by cases x <;> rfl
theorem Fz.start_bare {s : Shared} (h : PyProof.Rows.AllBare s.gens) : PyProof.Rows.AllBare (s.gens.map pz) := fun y hy => by
  obtain ⟨x, hx, rfl⟩ := Array.mem_map.mp hy
  rw [pz_bare]
  exact h x hx
end
/-! a generator that sleeps and is woken by the frame that made it: what it keeps, what it wants -/
section
open PySem PySem.Spec PyProof.Rows GenW
/-- where it stands: the objects that it reads (as they are by Hg), its frame, its own object, the frames below, the module's objects -/
structure GP where
  ds : List Addr
  Hg : Hp
  L : Addr
  a : Addr
  outer : List Env
  base : Heap
structure Clo (ds : List Addr) (H : Hp) : Prop where
  kind : ∀ a ∈ ds, ∀ o, H a = some o → (∃ xs, o = .lst xs) ∨ (∃ xs, o = .tup xs) ∨ (∃ p, o = .own p) ∨ (∃ C dx fs, o = .ins C dx fs ∧ dx ∈ ds)
  bk : ∀ a b, H b = some (.own a) → b ∈ ds → a ∈ ds
structure GP.Ok (gp : GP) : Prop where
  clo : Clo gp.ds gp.Hg
  out : ∀ b, b ∉ gp.ds → gp.Hg b = none
  dd : ∀ b ∈ gp.ds, ∃ o, gp.Hg b = some o
  dL : gp.L ∉ gp.ds
  dF : ∀ b ∈ frs gp.outer, b ∉ gp.ds
  dB : ∀ b o, gp.base.get? b = some o → b ∉ gp.ds
  bL : gp.base.objs.size ≤ gp.L
  fL : ∀ b ∈ frs gp.outer, b < gp.L
/-- between s₀, where it is woken, and s, where it sleeps again -/
structure KpW (P : Program) (w : World) (gp : GP) (s₀ s : Shared) : Prop where
  os : s.os = s₀.os
  bare : AllBare s.gens
  keep : ∀ b o, s₀.heap.get? b = some o → b ∉ gp.ds → b ≠ gp.L → b ∉ frs gp.outer → s.heap.get? b = some o
  slot : ∀ b o, s₀.heap.get? b = some o → b ∈ frs gp.outer → ∃ sl, s.heap.get? b = some { o with slots := sl }
  there : ∀ b o, s₀.heap.get? b = some o → ∃ o', s.heap.get? b = some o'
  ds : ∃ H', HOk P w H' s.heap ∧ ∀ b ∈ gp.ds, ∀ o, gp.Hg b = some o → H' b = some o
/-- between s, where it sleeps, and s', where it is woken -/
structure Wk (P : Program) (w : World) (gp : GP) (s s' : Shared) : Prop where
  os : s'.os = s.os
  bare : AllBare s'.gens
  keep : ∀ b o, b = gp.L ∨ b = gp.a → s.heap.get? b = some o → s'.heap.get? b = some o
  hok : HOk P w gp.Hg s'.heap
  bs : ∀ b o, gp.base.get? b = some o → s'.heap.get? b = some o
  funs : s'.heap.FunFrames gp.base gp.outer
/-- all that stands is tracked, to the letter, but what changes -/
def hw (gp : GP) (h : Heap) : Hp := fun b => if b ∈ gp.ds then gp.Hg b else if b = gp.L ∨ b ∈ frs gp.outer ∨ (gp.base.get? b).isSome = true then none else (h.get? b).map fun o => HO.ext fun h' => h'.get? b = some o
theorem hw_ds {gp : GP} {h : Heap} {b : Addr} (k : b ∈ gp.ds) : hw gp h b = gp.Hg b := if_pos k
theorem hw_none {gp : GP} {h : Heap} {b : Addr} (n : b ∉ gp.ds) (k : b = gp.L ∨ b ∈ frs gp.outer ∨ (gp.base.get? b).isSome = true) : hw gp h b = none := by
  unfold hw
  rw [if_neg n, if_pos k]
theorem hw_ext {gp : GP} {h : Heap} {b : Addr} {o : Obj} (n : b ∉ gp.ds) (k : ¬ (b = gp.L ∨ b ∈ frs gp.outer ∨ (gp.base.get? b).isSome = true)) (e : h.get? b = some o) : hw gp h b = some (HO.ext fun h' => h'.get? b = some o) := by
  unfold hw
  rw [if_neg n, if_neg k, e]
  rfl
/-- an object of these kinds, by another abstract heap -/
theorem obj_by {P : Program} {w : World} {H H2 H3 : Hp} {h h2 : Heap} {a : Addr} {o : HO} {ds : List Addr} (k : (∃ xs, o = .lst xs) ∨ (∃ xs, o = .tup xs) ∨ (∃ p, o = .own p) ∨ (∃ C dx fs, o = .ins C dx fs ∧ dx ∈ ds)) (x : ObjOk P w H h a o) (y : ObjOk P w H2 h2 a o)
    (c : ∀ dx ∈ ds, H2 dx = some (.own a) → H3 dx = some (.own a)) : ObjOk P w H3 h a o := by
  rcases k with ⟨xs, rfl⟩ | ⟨xs, rfl⟩ | ⟨p, rfl⟩ | ⟨C, dx, fs, rfl, hd⟩
  · exact x
  · exact x
  · exact x
  · obtain ⟨_, r⟩ := x
    exact ⟨c dx hd y.1, r⟩
theorem hw_ok {P : Program} {w : World} {gp : GP} (ok : gp.Ok) {h : Heap} (k : HOk P w gp.Hg h) : HOk P w (hw gp h) h := by
  intro b o e
  by_cases m : b ∈ gp.ds
  · rw [hw_ds m] at e
    exact obj_by (ok.clo.kind b m o e) (k b o e) (k b o e) fun dx hd q => by rw [hw_ds hd]; exact q
  · by_cases z : b = gp.L ∨ b ∈ frs gp.outer ∨ (gp.base.get? b).isSome = true
    · rw [hw_none m z] at e; cases e
    · cases q : h.get? b with
      | none =>
        unfold hw at e
        rw [if_neg m, if_neg z, q] at e
        cases e
      | some u =>
        rw [hw_ext m z q] at e
        cases e
        exact ⟨q, ⟨u, q⟩, fun h1 h2 e1 k => k u e1⟩
def cutS (s : Shared) (n : Nat) : Shared := { s with heap := { s.heap with objs := (s.heap.objs.toList.take n).toArray } }
theorem cut_get (s : Shared) (n b : Nat) : (cutS s n).heap.get? b = if b < n then s.heap.get? b else none := by
  have e : (cutS s n).heap.objs[b]? = if b < n then s.heap.objs[b]? else none := by
    show (s.heap.objs.toList.take n).toArray[b]? = _
    rw [List.getElem?_toArray, List.getElem?_take, Array.getElem?_toList]
  unfold Heap.get?
  rw [e]
  by_cases k : b < n
  · rw [if_pos k, if_pos k]
  · rw [if_neg k, if_neg k]
theorem cut_size (s : Shared) (n : Nat) : (cutS s n).heap.objs.size ≤ n := by
  show (s.heap.objs.toList.take n).toArray.size ≤ n
  rw [List.size_toArray, List.length_take]
  omega
def cg (P : Program) (w : World) (K : PySem.W.Frag) (mg : Str → Option Value) (gp : GP) (N : List Str) (env : Env) (A : Around) (s : Shared) : Cx where
  prog := P
  w := w
  K := K
  mg := mg
  base := gp.base
  A := A
  N := N
  s_0 := cutS s gp.L
  H_0 := hw gp s.heap
  env := env
  outer := gp.outer
  stack := env :: gp.outer
  ex := []
  calm := true
  fn := fun _ => true
  pn := []
  xe := fun _ _ => False
/-- what stands of the generator's frame, once and for all -/
structure GE (K : PySem.W.Frag) (mg : Str → Option Value) (gp : GP) (env : Env) (A : Around) : Prop where
  mod : Mod K mg gp.base
  kind : env.scope.kind = .function
  glob : env.globals = mainGlobals
  blt : env.builtins = builtinsNs
  loc : env.locals = gp.L
  fr : env.frame = some gp.L
  cells : env.cells = []
  nocell : ∀ x, env.kindOf x ≠ some .cell ∧ env.kindOf x ≠ some .free
  hd : A.handled = none
  frames : A.frames = some (env :: gp.outer)
theorem fun_mem {h h' base : Heap} : ∀ {l : List Env}, h.FunFrames base l → (∀ b ∈ frs l, ∀ o, h.get? b = some o → ∃ sl, h'.get? b = some { o with slots := sl }) → h'.FunFrames base l
  | [], _, _ => trivial
  | env :: l, f, k => by
    obtain ⟨hk, ⟨L, o, hf, hn, ho, hd⟩, hr⟩ := f
    obtain ⟨sl, e⟩ := k L (List.mem_filterMap.mpr ⟨env, List.mem_cons_self, hf⟩) o ho
    refine ⟨hk, ⟨L, _, hf, hn, e, hd⟩, fun_mem hr fun b hb => k b ?_⟩
    obtain ⟨e2, h2, q⟩ := List.mem_filterMap.mp hb
    exact List.mem_filterMap.mpr ⟨e2, List.mem_cons_of_mem _ h2, q⟩
theorem fun_cut {s : Shared} {gp : GP} (ok : gp.Ok) (f : s.heap.FunFrames gp.base gp.outer) : (cutS s gp.L).heap.FunFrames gp.base gp.outer :=
  fun_mem f fun b m o e => ⟨o.slots, by rw [cut_get, if_pos (ok.fL b m)]; exact e⟩
/-- its frame's names, at s -/
def LocG (N : List Str) (env : Env) (L : Addr) (σ : L2.St) (s : Shared) : Prop := ∃ m, s.heap.Ns L m ∧ ∀ (i : Nat) (x : Str) (v : V), N[i]? = some x → σ[i]? = some (some v) → Vis env.scope x → ∃ u, RelV v u ∧ Look env s.heap m x u
section
variable {P : Program} {w : World} {K : PySem.W.Frag} {mg : Str → Option Value} {gp : GP} {N : List Str} {env : Env} {A : Around} {s s' : Shared} {σ : L2.St} {H : Hp}
theorem LocG.move (ge : GE K mg gp env A) (x : LocG N env gp.L σ s) (k : ∀ o, s.heap.get? gp.L = some o → s'.heap.get? gp.L = some o) : LocG N env gp.L σ s' := by
  obtain ⟨m, hn, hl⟩ := x
  refine ⟨m, hn.at' k, fun i x v e1 e2 e3 => ?_⟩
  obtain ⟨u, r, l⟩ := hl i x v e1 e2 e3
  refine ⟨u, r, ?_⟩
  rcases l with l | ⟨c, _⟩
  · exact .inl l
  · exact absurd c (fun z => z.elim (ge.nocell x).1 (ge.nocell x).2)
/-- woken: the state is one of ours -/
theorem inv_wake (ge : GE K mg gp env A) (ok : gp.Ok) (hok : HOk P w gp.Hg s.heap) (bs : ∀ b o, gp.base.get? b = some o → s.heap.get? b = some o) (funs : s.heap.FunFrames gp.base gp.outer) (bare : AllBare s.gens) (loc : LocG N env gp.L σ s) (len : σ.length = N.length) :
    Inv (cg P w K mg gp N env A s) [] σ (hw gp s.heap) s := by
  have nc : ∀ x c, (cg P w K mg gp N env A s).env.cells.lookup x = some c → False := fun x c e => by
    have e : env.cells.lookup x = some c := e
    rw [ge.cells] at e
    cases e
  have cutk : ∀ b o, (cutS s gp.L).heap.get? b = some o → s.heap.get? b = some o := fun b o e => by
    rw [cut_get] at e
    split at e
    · exact e
    · cases e
  have bL : ∀ b o, gp.base.get? b = some o → b < gp.L := fun b o e => Nat.lt_of_lt_of_le (Heap.lt_size e) ok.bL
  have lt : gp.L < s.heap.objs.size := let ⟨_, hn, _⟩ := loc; hn.lt
  refine ⟨⟨ge.mod, ge.kind, ge.glob, ge.blt, ?_, fun x y c e => (nc x c e).elim, fun x h => ?_, fun x c _ e => (nc x c e).elim, fun _ => ge.hd, ge.frames, .inr ⟨rfl, ?_⟩, (fun b z => nomatch z), fun b o e => ⟨?_, ?_⟩, ?_, (fun b o _ z => nomatch z), (fun b z => nomatch z), fun_cut ok funs, fun b m => ?_⟩,
    rfl, bare, ⟨fun b o e _ _ _ => cutk b o e, fun b o e _ _ _ => ⟨o.slots, cutk b o e⟩, fun b o _ n _ => n, fun b o e _ => ⟨o, cutk b o e⟩, fun _ _ e => e, fun _ _ _ e => e, fun b ps e => ⟨#[], by rw [show hw gp s.heap b = some (HO.tbl ps) from e]; simp⟩⟩, ?_, fun x c e => (nc x c e).elim, ?_, fun x c e => (nc x c e).elim, (fun p hp => nomatch hp), hw_ok ok hok, len⟩
  · show (cutS s gp.L).heap.objs.size ≤ env.locals
    rw [ge.loc]
    exact cut_size s gp.L
  · exact h.elim (fun z => absurd z (ge.nocell x).1) (fun z => absurd z (ge.nocell x).2)
  · show env.frame = some env.locals
    rw [ge.loc]
    exact ge.fr
  · show (cutS s gp.L).heap.get? b = some o
    rw [cut_get, if_pos (bL b o e)]
    exact bs b o e
  · exact hw_none (ok.dB b o e) (.inr (.inr (by rw [show gp.base.get? b = some o from e]; rfl)))
  · refine Nat.le_trans ok.bL ?_
    have l1 : (cutS s gp.L).heap.objs.size = min gp.L s.heap.objs.size := by
      show (s.heap.objs.toList.take gp.L).toArray.size = _
      rw [List.size_toArray, List.length_take, Array.length_toList]
    show gp.L ≤ (cutS s gp.L).heap.objs.size
    rw [l1]
    exact Nat.le_min.mpr ⟨Nat.le_refl _, Nat.le_of_lt lt⟩
  · exact hw_none (ok.dF b m) (.inr (.inl m))
  · show ∃ m, s.heap.Ns env.locals m ∧ _
    rw [ge.loc]
    exact loc
  · show hw gp s.heap env.locals = none
    rw [ge.loc]
    exact hw_none ok.dL (.inl rfl)
/-- from the waking on, what was is kept -/
theorem kp_of (ge : GE K mg gp env A) (ok : gp.Ok) {s₀ : Shared} (I : Inv (cg P w K mg gp N env A s₀) [] σ H s) (sm : Same (hw gp s₀.heap) H) (bs : ∀ b o, gp.base.get? b = some o → s₀.heap.get? b = some o) (h0 : HOk P w gp.Hg s₀.heap) : KpW P w gp s₀ s := by
  have fu : Un (frs gp.outer) [] (hw gp s₀.heap) H (cutS s₀ gp.L).heap s.heap := I.base
  have keep : ∀ b o, s₀.heap.get? b = some o → b ∉ gp.ds → b ≠ gp.L → b ∉ frs gp.outer → s.heap.get? b = some o := fun b o e n1 n2 n3 => by
    by_cases z : (gp.base.get? b).isSome = true
    · obtain ⟨u, hu⟩ := Option.isSome_iff_exists.mp z
      have e2 := bs b u hu
      rw [e] at e2
      cases e2
      exact I.bk b o hu
    · have t := sm b _ (hw_ext n1 (fun q => q.elim n2 fun q => q.elim n3 z) e)
      exact (I.hok b _ t).1
  have slot : ∀ b o, s₀.heap.get? b = some o → b ∈ frs gp.outer → ∃ sl, s.heap.get? b = some { o with slots := sl } := fun b o e m =>
    fu.slot b o (by rw [cut_get, if_pos (ok.fL b m)]; exact e) (hw_none (ok.dF b m) (.inr (.inl m))) m (fun z => nomatch z)
  have dsk : ∀ b ∈ gp.ds, ∀ o, gp.Hg b = some o → H b = some o := fun b m o e => sm b o (by rw [hw_ds m]; exact e)
  refine ⟨I.os, I.bare, keep, slot, fun b o e => ?_, H, I.hok, dsk⟩
  by_cases m : b ∈ gp.ds
  · obtain ⟨u, q⟩ := ok.dd b m
    have x := I.hok b u (dsk b m u q)
    rcases ok.clo.kind b m u q with ⟨xs, rfl⟩ | ⟨xs, rfl⟩ | ⟨p, rfl⟩ | ⟨C, dx, fs, rfl, _⟩
    · obtain ⟨_, _, _, _, e⟩ := x
      exact ⟨_, e⟩
    · obtain ⟨_, _, _, ob, e, _⟩ := x
      exact ⟨_, e⟩
    · obtain ⟨ob, e⟩ := x
      exact ⟨_, e⟩
    · obtain ⟨_, _, _, e, _⟩ := x
      exact ⟨_, e⟩
  · by_cases z : b = gp.L
    · obtain ⟨m', ⟨ob, _, _, e2, _⟩, _⟩ := I.loc
      have e2 : s.heap.get? env.locals = some ob := e2
      rw [ge.loc] at e2
      exact ⟨ob, by rw [z]; exact e2⟩
    · by_cases f : b ∈ frs gp.outer
      · obtain ⟨sl, x⟩ := slot b o e f
        exact ⟨_, x⟩
      · exact ⟨o, keep b o e m z f⟩
end
section
variable {X : Cx} {pins : List (Addr × Obj)} {σ : L2.St} {H : Hp} {s s0 s1 : Shared} {gp : GP}
/-- the frame that woke it goes on -/
theorem after_kp (ok : gp.Ok) (I : Inv X pins σ H s) (hst : X.stack = gp.outer) (kp : KpW X.prog X.w gp s0 s1) (hs : s0.heap = s.heap) (ho : s0.os = s.os) (ag : ∀ b ∈ gp.ds, H b = gp.Hg b) (hL : H gp.L = none)
    (exL : (gp.L ∈ X.ex ∨ X.s_0.heap.objs.size ≤ gp.L) ∧ gp.L ≠ X.env.locals ∧ (∀ x c, X.env.cells.lookup x = some c → c ≠ gp.L) ∧ ∀ p ∈ X.pn ++ pins, p.1 ≠ gp.L) : Inv X pins σ H s1 := by
  have nd : ∀ b, H b = none → b ∉ gp.ds := fun b n m => by
    obtain ⟨o, q⟩ := ok.dd b m
    rw [← ag b m, n] at q
    cases q
  refine I.call' (ch := [gp.L]) (kp.os.trans ho) ⟨fun b o e n nf nx => ?_, fun b o e n m nx => ?_, fun b o _ n _ => n, fun b o e _ => kp.there b o (by rw [hs]; exact e), fun _ _ e => e, fun _ _ _ e => e, fun b ps e => ⟨#[], by rw [e]; simp⟩⟩ (fun b o e => ?_) kp.bare fun b hb => by
    rw [List.mem_singleton.mp hb]
    exact exL
  · exact kp.keep b o (by rw [hs]; exact e) (nd b n) (fun z => nx (List.mem_singleton.mpr z)) (by rw [← hst]; exact nf)
  · exact kp.slot b o (by rw [hs]; exact e) (by rw [← hst]; exact m)
  · by_cases m : b ∈ gp.ds
    · obtain ⟨H', hk, hd⟩ := kp.ds
      have q : gp.Hg b = some o := by rw [← ag b m]; exact e
      exact obj_by (ok.clo.kind b m o q) (hk b o (hd b m o q)) (I.hok b o e) fun _ _ z => z
    · refine (I.hok b o e).stay (fun c u hc q => ?_) (fun _ z => z) fun _ _ z => z
      have tr : ∃ u, H c = some u := hc.elim (fun z => ⟨o, by rw [z]; exact e⟩) fun z => ⟨_, z⟩
      obtain ⟨u', tr⟩ := tr
      refine kp.keep c u (by rw [hs]; exact q) (fun z => ?_) (fun z => ?_) (fun z => ?_)
      · rcases hc with y | y
        · exact m (by rw [← y]; exact z)
        · exact m (ok.clo.bk b c (by rw [← ag c z]; exact y) z)
      · rw [z, hL] at tr; cases tr
      · rw [I.stkFree c (by rw [hst]; exact z)] at tr; cases tr
/-- it may be woken -/
theorem wk_of (ok : gp.Ok) (I : Inv X pins σ H s1) (hst : X.stack = gp.outer) (hb : X.base = gp.base) (ag : ∀ b ∈ gp.ds, H b = gp.Hg b) (os : s1.os = s.os) (keep : ∀ b o, b = gp.L ∨ b = gp.a → s.heap.get? b = some o → s1.heap.get? b = some o) : Wk X.prog X.w gp s s1 := by
  refine ⟨os, I.bare, keep, fun b o e => ?_, fun b o e => I.bk b o (by rw [hb]; exact e), by rw [← hst, ← hb]; exact I.stack⟩
  by_cases m : b ∈ gp.ds
  · have x := I.hok b o (by rw [ag b m]; exact e)
    exact obj_by (ok.clo.kind b m o e) x x fun dx hd q => by rw [← ag dx hd]; exact q
  · rw [ok.out b m] at e
    cases e
theorem Wk.run {P : Program} {w : World} (x : Wk P w gp s s1) (g : Nat) : Wk P w gp s (s1.setGen g .running) := ⟨x.os, allBare_setGen x.bare rfl, x.keep, x.hok, x.bs, x.funs⟩
end
/-! ### next(generator) -/
/-- the rest of its run, where there is one -/
def GoesOn (M : Model) (A : Around) (R : GenEnd) (Y : Protocol) : Nat → GenState → Resume → Shared → Prop
  | 0 => fun _ _ _ => False
  | m + 1 => fun gs r s => gs.Goes M A R Y m r s
section
variable {M : Model}
theorem resume_slp {A : Around} {R : GenEnd} {Y : Protocol} {n : Nat} {E : Value → Shared → Prop} {s : Shared} {g : Nat} {gs : GenState} {r : Resume} {l : List Value} {α : Type} {k : GenResult → Sem α} {Q : α → Shared → Prop} (at_ : s.gens[g]? = some gs) (goes : gs.Goes M A R Y n r (s.setGen g .running))
    (fin : ∀ x s1, R n (s.setGen g .running) x s1 → wpAny M A (k (End.ret x).result) Q E (s1.setGen g .finished))
    (out : ∀ v s1 gs', gs'.bare = true → slp gs' = true → Y (n - 1) (s.setGen g .running) v s1 (GoesOn M A R Y n gs') → wpAny M A (k (.yielded v)) Q E (s1.setGen g gs')) :
    wpAny M A (.resume g r l k) Q E s := by
  intro Γ p hΓ
  rw [Sem.wp_resume]
  have woken : ∀ c, (Γ.wake c p).Woken A := fun c => hΓ.wake c p
  have both : ∀ e1 s1, SegEnd R Y n (Seg.next M A R Y n) (s.setGen g .running) e1 s1 → e1.quiet = true ∧ PySem.Sem.wp M Γ (k e1.result) (fun a _ s' => Q a s') (fun e _ s' => E e s') p (s1.setGen g e1.genState) := by
    intro e1 s1 he
    cases e1 with
    | ret x => exact ⟨rfl, fin x s1 he Γ p hΓ⟩
    | susp v g0 l0 k0 c0 p0 fs0 =>
      refine ⟨he.1, out v s1 _ (End.bare_of_quiet he.1) rfl ?_ Γ p hΓ⟩
      cases n with
      | zero => exact he.2
      | succ m => exact he.2
  cases gs with
  | running => exact False.elim goes
  | finished => exact False.elim goes
  | fresh c =>
    obtain ⟨rfl, h⟩ := goes
    obtain ⟨e1, s1, run, he⟩ := seg_iff.mp h (Γ.wake c p) p rfl (woken c)
    obtain ⟨b1, b2⟩ := both e1 s1 he
    refine ⟨_, _, ?_, b2⟩
    unfold Wakes
    rw [at_]
    exact ⟨e1, s1, run, b1, rfl, rfl⟩
  | suspended k0 l0 c0 p0 fs0 cl =>
    obtain ⟨e1, s1, run, he⟩ := seg_iff.mp goes (Γ.wake c0 p) p0 rfl (woken c0)
    obtain ⟨b1, b2⟩ := both e1 s1 he
    refine ⟨_, _, ?_, b2⟩
    unfold Wakes
    rw [at_]
    exact ⟨e1, s1, run, b1, rfl, rfl⟩
end
section
variable {P : Program} {w : World} {A : Around} {E : Value → Shared → Prop} {s : Shared}
theorem next_slp {a : Addr} {g n : Nat} {gs : GenState} {F : Nat → Shared → Shared → Prop} {Y : Protocol} {Q : Option Value → Shared → Prop} (calm : A.handled = none) (nl : s.heap.NoLimit) (room : A.depth < recursionLimit) (ig : s.heap.IsGen a g) (at_ : s.gens[g]? = some gs)
    (goes : gs.Goes (model P w) A.in1 (fun n s₀ r s₁ => (r = .ok (.ret .none) ∨ r = .ok .next) ∧ F n s₀ s₁) Y n (.send .none) (s.setGen g .running))
    (out : ∀ v s1 gs', gs'.bare = true → slp gs' = true → Y (n - 1) (s.setGen g .running) v s1 (GoesOn (model P w) A.in1 (fun n s₀ r s₁ => (r = .ok (.ret .none) ∨ r = .ok .next) ∧ F n s₀ s₁) Y n gs') → Q (some v) (s1.setGen g gs'))
    (fin : ∀ s1, F n (s.setGen g .running) s1 → ∀ h', (∀ b o, s1.heap.get? b = some o → h'.get? b = some o) → Q none { s1.setGen g .finished with heap := h' }) :
    wpAny (model P w) A (pyNext (.ref a)) Q E s := by
  unfold pyNext
  refine wpAny_bind (wpAny_attempt (wpAny_callSpecial?_slot (name := Str.ofString "__next__") ig.typeIs slot_gen_next (wpAny_call_entry slot_gen_next ig.typeIs entry_gen_next ?_ (args_gen_next _))))
  show wpAny _ A.in1 (Builtin.Generator.genWake (.ref a) (.send .none)) _ _ s
  unfold Builtin.Generator.genWake
  refine wpAny_bind (wpAny_holding (wpAny_genNumber ig (wpAny_bind (wpAny_genState at_ ?_))))
  cases gs with
  | running => exact False.elim goes
  | finished => exact False.elim goes
  | _ =>
    refine wpAny_bind (wpAny_roomToWake nl room ?_)
    show wpAny _ A.in1 (.resume g (.send .none) [] _) _ _ s
    refine resume_slp at_ goes (fun x s1 hx => ?_) (fun v s1 gs' hb hk hv => ?_)
    · obtain ⟨hr, hp⟩ := hx
      have res : End.result (.ret x) = .returned .none := by rcases hr with hr | hr <;> rw [hr] <;> rfl
      rw [res]
      show wpAny _ A.in1 (newExc (.type "StopIteration") [] >>= _) _ _ _
      refine wpAny_bind ?_
      simp only [newExc, newTuple]
      refine wpAny_bind (wpAny_newObj_type ?_ (by size_fits))
      refine wpAny_bind (m := firstArgMember _ _) (wpAny_of_eq (a := Value.none) (by first | rfl | (simp only [firstArgMember]; rfl)) ?_)
      refine wpAny_newObj_type ?_ (by size_fits)
      simp only [raiseNew]
      refine wpAny_bind (wpAny_bind (wpAny_handled ?_))
      first | rw [show A.in1.handled = none from calm] | rw [calm]
      refine wpAny_throw ?_
      refine wpAny_bind (wpAny_isInstance (T := "StopIteration") (b := true) ⟨_, Heap.get?_push_size _ rfl, rfl⟩ isSubtype_stop ?_)
      exact wpAny_pure (fin s1 hp _ fun b o hb => Heap.get?_push_of_some _ (Heap.get?_push_of_some _ hb))
    · exact wpAny_pure ⟨v, rfl, wpAny_pure (out v s1 gs' hb hk hv)⟩
end
end
/-! dances(start), a generator method: the least dances of v from the rank on, one each time that it is woken -/
section
open PySem PySem.Spec PyProof.Rows GenW
def wTst : Expr := match defBody s_Ldances with
  | [_, .While t _ _ _] => t
  | _ => .Name "" ⟨0, 0, 0, 0⟩
def wBdy : List Stmt := match defBody s_Ldances with
  | [_, .While _ b _ _] => b
  | _ => []
theorem sc_Ldances : GScope ["self", "start", "rank"] ["self", "start"] (defScope s_Ldances) := ⟨rfl, rfl, rfl, by decide +kernel, rfl, by decide +kernel, by decide +kernel⟩
abbrev envD (L f : Addr) (cdv : Value) : Env := envOfC "LeastDances.dances" (defScope s_Ldances) L f cdv
abbrev ND : List Str := ["self", "start", "rank"]
def itD (v : Int × Int) (k : Nat) : V := .str (S (ld (rl v) k))
def totD (v : Int × Int) : Nat := wy (ns_ (rl v))
def FD (P : Program) (w : World) (gp : GP) : Nat → Shared → Shared → Prop := fun n s₀ s₁ => n = 0 ∧ KpW P w gp s₀ s₁
def RD (P : Program) (w : World) (gp : GP) : GenEnd := fun n s₀ r s₁ => (r = .ok (.ret .none) ∨ r = .ok .next) ∧ FD P w gp n s₀ s₁
def YD (P : Program) (w : World) (gp : GP) (v : Int × Int) : Protocol := fun n s₀ u s kap => ∃ k, totD v = k + n + 1 ∧ RelV (itD v k) u ∧ KpW P w gp s₀ s ∧ (∃ o, s.heap.get? gp.L = some o ∧ ∀ c, o.data ≠ .cell c) ∧ ∀ s', Wk P w gp s s' → kap (.send .none) s'
theorem nocell_D (L f : Addr) (cdv : Value) : ∀ x, (envD L f cdv).kindOf x ≠ some .cell ∧ (envD L f cdv).kindOf x ≠ some .free := fun x => by
  have h : ∀ y ∈ (defScope s_Ldances).names, y.2 ≠ .cell ∧ y.2 ≠ .free := by decide +kernel
  exact ⟨fun z => (h _ (PySem.mem_of_lookup z)).1 rfl, fun z => (h _ (PySem.mem_of_lookup z)).2 rfl⟩
section
variable {P : Program} {w : World} {K : PySem.W.Frag} {mg : Str → Option Value} {gp : GP} {f : Addr} {cdv : Value} {A : Around} {C : Addr} {p : Addr} {v : Int × Int} {g1 g2 pr : Addr} {fd1 fd2 : FuncData}
theorem ge_D (mod : Mod K mg gp.base) (hd : A.handled = none) (fr : A.frames = some gp.outer) : GE K mg gp (envD gp.L f cdv) (A.deeper (envD gp.L f cdv)) :=
  ⟨mod, rfl, rfl, rfl, rfl, rfl, rfl, nocell_D _ _ _, hd, Around.frames_deeper fr⟩
theorem frame_no_cell {s : Shared} {m : Str → Option Value} {L : Addr} (h : s.heap.Ns L m) : ∃ o, s.heap.get? L = some o ∧ ∀ c, o.data ≠ .cell c := by
  obtain ⟨o, es, ep, ho, hd, _⟩ := h
  exact ⟨o, ho, fun c z => by rw [hd] at z; cases z⟩
/-- the loop of its body -/
theorem loop_D (T : TxL K mg C) (MD : Meth K C "dance" g1) (GD : FnOk P w K mg gp.base CX0 3 g1 fd1 ["self", "rank"] (spDanceL C)) (BD : Binds K fd1 ["self", "rank"] []) (PR : PropOf K C "dance_count" pr g2) (GC : FnOk P w K mg gp.base CX0 1 g2 fd2 ["self"] (spCountL C)) (BC : Binds K fd2 ["self"] [])
    (mod : Mod K mg gp.base) (hr : Room 4 A) (fr : A.frames = some gp.outer) (ok : gp.Ok) (ob : LdAt C gp.Hg p v) (gv : Good v) (zs : stp v ≤ 2000) (st : Int) {c0 : Code} {kk : Result → Sem PySem.Fin} {l kp : List Value} {pp : Pos} (hov : A.over c0 [] = A.deeper (envD gp.L f cdv))
    (hend : ∀ n s₀ s, FD P w gp n s₀ s → Seg (model P w) A (RD P w gp) (YD P w gp v) n s₀ c0 (kk (.ok .next)) [] s) :
    ∀ (m k : Nat) (s₀ s : Shared) (H : Hp), m = totD v - k → HOk P w gp.Hg s₀.heap → (∀ b o, gp.base.get? b = some o → s₀.heap.get? b = some o) → Inv (cg P w K mg gp ND (envD gp.L f cdv) (A.deeper (envD gp.L f cdv)) s₀) [] [some (.ref p), some (.int st), some (.int (k : Int))] H s → Same (hw gp s₀.heap) H →
      Seg (model P w) A (RD P w gp) (YD P w gp v) m s₀ (.whileLoop wTst wBdy [] (envD gp.L f cdv)) ((model P w).den (.whileLoop wTst wBdy [] (envD gp.L f cdv))) (.ret kk none false l c0 pp kp :: []) s := by
  have ge := ge_D (f := f) (cdv := cdv) mod hr.hd fr
  have hr3 := hr.deeper (envD gp.L f cdv)
  have over : A.over (.whileLoop wTst wBdy [] (envD gp.L f cdv)) (.ret kk none false l c0 pp kp :: []) = A.deeper (envD gp.L f cdv) := (over_loop rfl rfl).trans hov
  have ldk : ∀ {s₀ : Shared} {H : Hp}, Same (hw gp s₀.heap) H → LdAt C H p v := fun {s₀ H} sm => by
    have tr : ∀ b o, gp.Hg b = some o → H b = some o := fun b o e => by
      by_cases m : b ∈ gp.ds
      · exact sm b o (by rw [hw_ds m]; exact e)
      · rw [ok.out b m] at e; cases e
    exact ob.same tr
  intro m
  induction m with
  | zero =>
    intro k s₀ s H hm hok bs I sm
    refine seg_whileLoop ?_
    rw [over]
    have o1 := ldk sm
    obtain ⟨dx, t, r, w', hp, _⟩ := id o1
    refine wpAny_mono ((show PT (cg P w K mg gp ND (envD gp.L f cdv) (A.deeper (envD gp.L f cdv)) s₀) wTst _ from (pt_cmpR op_lt (pv 2) (pe_prop (pv 0) T.cl PR GC (hr3.mono (by decide)) BC .nil pass0 rfl) (nomark _))).run [] s _ H (fun b H' => b = false ∧ H' = H) I
      ⟨_, rfl, _, rfl, p, dx, _, rfl, hp, p, v, rfl, o1, gv, _, _, rfl, rfl, _, rfl, decide_eq_false (by unfold totD at hm; omega), rfl⟩) (fun b s1 hb => ?_) fun x s1 hx => False.elim hx
    obtain ⟨H1, I1, rfl, rfl⟩ := hb
    rw [if_neg Bool.false_ne_true]
    refine seg_execs_nil ?_
    exact seg_leaf (.ok .next) (hend 0 s₀ s1 ⟨rfl, kp_of ge ok I1 sm bs hok⟩)
  | succ m ih =>
    intro k s₀ s H hm hok bs I sm
    refine seg_whileLoop ?_
    rw [over]
    have o1 := ldk sm
    obtain ⟨dx, t, r, w', hp, _⟩ := id o1
    refine wpAny_mono ((show PT (cg P w K mg gp ND (envD gp.L f cdv) (A.deeper (envD gp.L f cdv)) s₀) wTst _ from (pt_cmpR op_lt (pv 2) (pe_prop (pv 0) T.cl PR GC (hr3.mono (by decide)) BC .nil pass0 rfl) (nomark _))).run [] s _ H (fun b H' => b = true ∧ H' = H) I
      ⟨_, rfl, _, rfl, p, dx, _, rfl, hp, p, v, rfl, o1, gv, _, _, rfl, rfl, _, rfl, decide_eq_true (by unfold totD at hm; omega), rfl⟩) (fun b s1 hb => ?_) fun x s1 hx => False.elim hx
    obtain ⟨H1, I1, rfl, rfl⟩ := hb
    rw [if_pos rfl]
    have kt : k < wy (ns_ (rl v)) := by unfold totD at hm; omega
    refine seg_execs_cons (seg_Expr_Yield rfl rfl rfl ?_)
    rw [over]
    refine wpAny_mono ((pe_meth (X := cg P w K mg gp ND (envD gp.L f cdv) (A.deeper (envD gp.L f cdv)) s₀) (pv 0) T.cl MD GD hr3 BD .nil pass0 (pa_cons (pv 2) pa_nil)).run [] s1 _ H1 (fun x H' => x = itD v k ∧ Same H1 H') I1
      ⟨_, rfl, p, dx, _, rfl, hp, lf_no _ _ _ (by decide +kernel) (by decide +kernel) (by decide +kernel), _, rfl, p, v, k, rfl, o1, gv, zs, kt, fun H' s' => ⟨rfl, s'⟩⟩) (fun u s2 hu => ?_) fun x s2 hx => False.elim hx
    obtain ⟨x, H2, I2, rx, rfl, sm2⟩ := hu
    intro kap hk
    have lc : LocG ND (envD gp.L f cdv) gp.L _ s2 := I2.loc
    refine ⟨k, by omega, rx, kp_of ge ok I2 (sm.trans sm2) bs hok, (let ⟨mm, hn, _⟩ := lc; frame_no_cell hn), fun s3 wk => hk .none s3 ?_⟩
    have I3 := inv_wake (A := A.deeper (envD gp.L f cdv)) (N := ND) ge ok wk.hok wk.bs wk.funs wk.bare (lc.move ge fun o e => wk.keep _ _ (.inl rfl) e) rfl
    show Seg _ _ _ _ m s3 _ _ _ s3
    refine seg_execs_cons (seg_wrap ?_)
    rw [over]
    refine wpAny_mono ((ps_aug (X := cg P w K mg gp ND (envD gp.L f cdv) (A.deeper (envD gp.L f cdv)) s3) (i := 2) sc_Ldances.nd rfl (.inl rfl) pe_int ip_add).run [] s3 _ _ { nx := fun σ' H' => σ' = [some (.ref p), some (.int st), some (.int ((k + 1 : Nat) : Int))] ∧ H' = hw gp s3.heap, rt := fun _ _ => False } I3
      ⟨_, rfl, _, _, rfl, rfl, rfl, rfl⟩) (fun fl s4 hf => ?_) fun x s4 hx => False.elim hx
    cases fl with
    | next =>
      obtain ⟨σ4, H4, I4, rfl, rfl⟩ := hf
      exact seg_again rfl (ih (k + 1) s3 s4 _ (by omega) wk.hok wk.bs I4 (Same.refl _))
    | brk => obtain ⟨_, _, _, q⟩ := hf; exact False.elim q
    | cont => obtain ⟨_, _, _, q⟩ := hf; exact False.elim q
    | ret u => obtain ⟨_, _, _, _, _, q⟩ := hf; exact False.elim q
/-- its run from the first waking on -/
theorem seg_D (T : TxL K mg C) (MD : Meth K C "dance" g1) (GD : FnOk P w K mg gp.base CX0 3 g1 fd1 ["self", "rank"] (spDanceL C)) (BD : Binds K fd1 ["self", "rank"] []) (PR : PropOf K C "dance_count" pr g2) (GC : FnOk P w K mg gp.base CX0 1 g2 fd2 ["self"] (spCountL C)) (BC : Binds K fd2 ["self"] [])
    (mod : Mod K mg gp.base) (hr : Room 4 A) (fr : A.frames = some gp.outer) (ok : gp.Ok) (ob : LdAt C gp.Hg p v) (gv : Good v) (zs : stp v ≤ 2000) (k : Nat) {s : Shared} (hok : HOk P w gp.Hg s.heap) (bs : ∀ b o, gp.base.get? b = some o → s.heap.get? b = some o) (funs : s.heap.FunFrames gp.base gp.outer) (bare : AllBare s.gens)
    (loc : LocG ND (envD gp.L f cdv) gp.L [some (.ref p), some (.int (k : Int)), none] s) :
    Seg (model P w) A (RD P w gp) (YD P w gp v) (totD v - k) s (.func (defBody s_Ldances) (envD gp.L f cdv)) ((model P w).den (.func (defBody s_Ldances) (envD gp.L f cdv))) [] s := by
  have ge := ge_D (f := f) (cdv := cdv) mod hr.hd fr
  have I0 := inv_wake (A := A.deeper (envD gp.L f cdv)) (N := ND) ge ok hok bs funs bare loc rfl
  refine seg_func (seg_execs_cons (seg_wrap ?_))
  rw [over_func]
  refine wpAny_mono ((ps_set (X := cg P w K mg gp ND (envD gp.L f cdv) (A.deeper (envD gp.L f cdv)) s) (i := 2) sc_Ldances.nd rfl (.inl rfl) (pv 1)).run [] s _ _ { nx := fun σ' H' => σ' = [some (.ref p), some (.int (k : Int)), some (.int (k : Int))] ∧ H' = hw gp s.heap, rt := fun _ _ => False } I0
    ⟨_, rfl, rfl, rfl⟩) (fun fl s1 hf => ?_) fun x s1 hx => False.elim hx
  cases fl with
  | next =>
    obtain ⟨σ1, H1, I1, rfl, rfl⟩ := hf
    refine seg_execs_cons (seg_While fun pp => ?_)
    refine loop_D T MD GD BD PR GC BC mod hr fr ok ob gv zs (k : Int) over_func (fun n s₀ s' hF => ?_) (totD v - k) k s s1 _ rfl hok bs I1 (Same.refl _)
    exact seg_end (.ok (.ret .none)) ⟨.inl rfl, hF⟩
  | brk => obtain ⟨_, _, _, q⟩ := hf; exact False.elim q
  | cont => obtain ⟨_, _, _, q⟩ := hf; exact False.elim q
  | ret u => obtain ⟨_, _, _, _, _, q⟩ := hf; exact False.elim q
end
end
section
open PySem PySem.Spec PyProof.Rows GenW
def hrs (ds : List Addr) (H : Hp) : Hp := fun b => if b ∈ ds then H b else none
theorem hrs_in {ds : List Addr} {H : Hp} {b : Addr} (h : b ∈ ds) : hrs ds H b = H b := if_pos h
theorem hrs_out {ds : List Addr} {H : Hp} {b : Addr} (h : b ∉ ds) : hrs ds H b = none := if_neg h
/-- the objects of an object of the class -/
theorem ds_of {P : Program} {w : World} {C : Addr} {H : Hp} {h : Heap} {p : Addr} {v : Int × Int} (hok : HOk P w H h) (gv : Good v) (ob : LdAt C H p v) : ∃ ds : List Addr, LdAt C (hrs ds H) p v ∧ Clo ds (hrs ds H) ∧ ∀ b ∈ ds, ∃ o, H b = some o ∧ o ≠ .lst [] := by
  obtain ⟨dx, t, r, w', hp, hT, ⟨ts, h1, h2, h3⟩, hw⟩ := ob
  have own : H dx = some (.own p) := (hok p _ hp).1
  have rf := rl_fit gv
  have t3 : ∀ b ∈ ts, ∃ xs, H b = some (.tup xs) := fun b hb => by
    obtain ⟨i, hi⟩ := List.mem_iff_getElem?.mp hb
    have li := (List.getElem?_eq_some_iff.mp hi).1
    have lx : (rl v)[i]? = some (rl v)[i] := List.getElem?_eq_getElem (by omega)
    exact ⟨_, h3 i b _ hi lx⟩
  refine ⟨p :: dx :: t :: r :: w' :: ts, ?_, ⟨fun a ha o e => ?_, fun a b e hb => ?_⟩, fun b hb => ?_⟩
  · refine ⟨dx, t, r, w', by rw [hrs_in (by simp)]; exact hp, ?_, ⟨ts, by rw [hrs_in (by simp)]; exact h1, h2, fun i u x e1 e2 => ?_⟩, by rw [hrs_in (by simp)]; exact hw⟩
    · show hrs _ H t = _
      rw [hrs_in (by simp)]
      exact hT
    · rw [hrs_in (by simp [List.mem_of_getElem? e1])]
      exact h3 i u x e1 e2
  · rw [hrs_in ha] at e
    simp only [List.mem_cons] at ha
    rcases ha with rfl | rfl | rfl | rfl | rfl | ha
    · rw [hp] at e; cases e
      exact .inr (.inr (.inr ⟨_, _, _, rfl, by simp⟩))
    · rw [own] at e; cases e
      exact .inr (.inr (.inl ⟨_, rfl⟩))
    · rw [show H _ = _ from hT] at e; cases e
      exact .inr (.inl ⟨_, rfl⟩)
    · rw [h1] at e; cases e
      exact .inl ⟨_, rfl⟩
    · rw [hw] at e; cases e
      exact .inl ⟨_, rfl⟩
    · obtain ⟨xs, q⟩ := t3 _ ha
      rw [q] at e; cases e
      exact .inr (.inl ⟨_, rfl⟩)
  · rw [hrs_in hb] at e
    simp only [List.mem_cons] at hb
    rcases hb with rfl | rfl | rfl | rfl | rfl | hb
    · rw [hp] at e; cases e
    · rw [own] at e; cases e
      simp
    · rw [show H _ = _ from hT] at e; cases e
    · rw [h1] at e; cases e
    · rw [hw] at e; cases e
    · obtain ⟨xs, q⟩ := t3 _ hb
      rw [q] at e; cases e
  · simp only [List.mem_cons] at hb
    rcases hb with rfl | rfl | rfl | rfl | rfl | hb
    · exact ⟨_, hp, fun z => nomatch z⟩
    · exact ⟨_, own, fun z => nomatch z⟩
    · exact ⟨_, hT, fun z => nomatch z⟩
    · refine ⟨_, h1, fun z => ?_⟩
      have z : ts.map V.ref = [] := HO.lst.inj z
      have : ts.length = 0 := by rw [← List.length_map (f := V.ref), z]; rfl
      omega
    · refine ⟨_, hw, fun z => ?_⟩
      have z : nint (wys (ns_ (rl v))) = [] := HO.lst.inj z
      have : (nint (wys (ns_ (rl v)))).length = 0 := by rw [z]; rfl
      rw [nint_len, wys_len, ns_len] at this
      omega
    · obtain ⟨xs, q⟩ := t3 _ hb
      exact ⟨_, q, fun z => nomatch z⟩
/-- what a call of the method gives: a generator that has not begun -/
structure MadeD (P : Program) (w : World) (base : Heap) (outer : List Env) (v : Int × Int) (k lev : Nat) (H : Hp) (s : Shared) (u : Value) (s' : Shared) (gp : GP) (g : Nat) (go : Obj) (c : Code) : Prop where
  val : u = .ref gp.a
  ok : gp.Ok
  eo : gp.outer = outer
  eb : gp.base = base
  ag : ∀ b ∈ gp.ds, H b = gp.Hg b
  nb : ∀ b ∈ gp.ds, ∃ o, H b = some o ∧ o ≠ .lst []
  l0 : s.heap.objs.size ≤ gp.L
  l1 : gp.L < gp.a
  keep : ∀ b o, s.heap.get? b = some o → s'.heap.get? b = some o
  os : s'.os = s.os
  bare : AllBare s'.gens
  gen : s'.heap.get? gp.a = some go
  ig : ∀ h : Heap, h.get? gp.a = some go → h.IsGen gp.a g
  gc : ∀ c, go.data ≠ .cell c
  oL : ∃ o, s'.heap.get? gp.L = some o ∧ ∀ c, o.data ≠ .cell c
  at_ : s'.gens[g]? = some (.fresh c)
  run : ∀ (A : Around) (s2 : Shared), Room lev A → A.frames = some outer → Wk P w gp s' s2 → Seg (model P w) A (RD P w gp) (YD P w gp v) (totD v - k) s2 c ((model P w).den c) [] s2
theorem made_D {P : Program} {w : World} {K : PySem.W.Frag} {mg : Str → Option Value} {base : Heap} {f : Addr} {fd : FuncData} {C p g1 g2 pr : Addr} {v : Int × Int} {fd1 fd2 : FuncData} (F : Fun K "dances" "LeastDances.dances" s_Ldances f fd)
    (T : TxL K mg C) (MD : Meth K C "dance" g1) (GD : FnOk P w K mg base CX0 3 g1 fd1 ["self", "rank"] (spDanceL C)) (BD : Binds K fd1 ["self", "rank"] []) (PR : PropOf K C "dance_count" pr g2) (GC : FnOk P w K mg base CX0 1 g2 fd2 ["self"] (spCountL C)) (BC : Binds K fd2 ["self"] [])
    {A : Around} {outer : List Env} {s : Shared} {H : Hp} {args : Args} {us : List Value} {k : Nat} (room : Room 4 A) (e0 : Env0 P w K mg base A outer s H) (hb : BindsTo s fd args ((["self", "start"] : List Str).zip us)) (vals : Vals [.ref p, .int (k : Int)] us) (ob : LdAt C H p v) (gv : Good v) (zs : stp v ≤ 2000) :
    codeAny (model P w) A (.call (.ref f) args) (fun r s' => match r with | .ok (.ret u) => ∃ gp g go c, MadeD P w base outer v k 4 H s u s' gp g go c | _ => False) s := by
  obtain ⟨_, _, _, _, _, _, cdv, _, _, rfl, lk, hcd⟩ := F.ex
  have kin : K.In s.heap := e0.mod.kin.keeps fun x o q => (e0.bs x o q).1
  have nolim : s.heap.NoLimit := e0.mod.nolimit.keeps fun x o q => (e0.bs x o q).1
  have kinds : ∀ z ∈ (["self", "start"] : List Str).zip us, (defScope s_Ldances).names.lookup z.1 = some .local ∨ ((defScope s_Ldances).names.lookup z.1 = some .cell ∧ ((cellsFrom (s.heap.objs.size + 1) (defScope s_Ldances).names []).lookup z.1).isSome = true) := fun ⟨n, x⟩ hz =>
    (sc_Ldances.par n (List.of_mem_zip hz).1).elim .inl fun q => .inr ⟨q, PySem.W.cellsFrom_some _ _ _ (.inl q)⟩
  refine codeAny_call_generator room.depth (kin _ _ lk) rfl sc_Ldances.co sc_Ldances.gen rfl (PySem.W.codeRec_of kin hcd) (hb _ _ _ _ ?_)
  refine wpAny_newFunctionEnv_cells sc_Ldances.kind kinds fun env he s1 x => ?_
  subst he
  refine ⟨nolim.keeps x.toInCall.keep, ?_⟩
  obtain ⟨ds, obr, clo, dsf⟩ := ds_of e0.hok gv ob
  obtain ⟨h1, tk1, es1, hk1⟩ := x.done
  have os1 : s1.os = s.os := by rw [es1]
  have gen1 : s1.gens = s.gens := by rw [es1]
  have lt1 : s.heap.objs.size < s1.heap.objs.size := x.toInCall.ns.lt
  have kp1 : ∀ b o, s.heap.get? b = some o → s1.heap.get? b = some o := x.toInCall.keep
  have I1 := inv_startG (E := fun _ _ _ => False) sc_Ldances room.hd e0 rfl vals x
  have lc : LocG ND (envD s.heap.objs.size f cdv) s.heap.objs.size [some (.ref p), some (.int (k : Int)), none] s1 := I1.loc
  have main : ∀ (go : Obj) (nm qn : Value) (tk2 : Nat), go.cls = .type "generator" → go.data = .fields #[.int s1.gens.size 0, nm, qn] → go.slots = #[] → (∀ h : Heap, (h.push go).get? h.objs.size = some go) →
      MadeD P w base outer v k 4 H s (.ref s1.heap.objs.size) { s1 with gens := s1.gens.push (.fresh (.func (defBody s_Ldances) (envD s.heap.objs.size f cdv))), toks := tk2, heap := s1.heap.push go } ⟨ds, hrs ds H, s.heap.objs.size, s1.heap.objs.size, outer, base⟩ s1.gens.size go (.func (defBody s_Ldances) (envD s.heap.objs.size f cdv)) := by
    intro go nm qn tk2 hgc hgd hgs hgp
    have dlt : ∀ b ∈ ds, b < s.heap.objs.size := fun b hb => by
      obtain ⟨o, q, _⟩ := dsf b hb
      exact (e0.hok b o q).lt
    have ok : GP.Ok ⟨ds, hrs ds H, s.heap.objs.size, s1.heap.objs.size, outer, base⟩ := {
      clo := clo
      out := fun b n => hrs_out n
      dd := fun b m => by
        obtain ⟨o, q, _⟩ := dsf b m
        exact ⟨o, by show hrs ds H b = _; rw [hrs_in m]; exact q⟩
      dL := fun m => absurd (dlt _ m) (Nat.lt_irrefl _)
      dF := fun b m n => by
        obtain ⟨o, q, _⟩ := dsf b n
        rw [e0.frf b m] at q
        cases q
      dB := fun b o e n => by
        obtain ⟨u, q, _⟩ := dsf b n
        rw [(e0.bs b o e).2] at q
        cases q
      bL := e0.bsz
      fL := fun b m => by
        obtain ⟨_, o, ho, _⟩ := e0.funs.mem m
        exact Heap.lt_size ho }
    have pushed : (s1.heap.push go).get? s1.heap.objs.size = some go := hgp _
    refine ⟨rfl, ok, rfl, rfl, fun b m => (hrs_in m).symm, dsf, Nat.le_refl _, lt1, fun b o e => Heap.get?_push_of_some _ (kp1 b o e), os1, AllBare.push (by rw [gen1]; exact e0.bare) rfl, pushed, fun h e => ⟨go, nm, qn, e, hgc, hgd, hgs⟩, (fun c z => by rw [hgd] at z; cases z), ?_, Array.getElem?_push_size .., fun A' s2 room' fr' wk => ?_⟩
    · obtain ⟨m, hn, _⟩ := lc
      obtain ⟨o, ho, hc⟩ := frame_no_cell hn
      exact ⟨o, Heap.get?_push_of_some _ ho, hc⟩
    · have ge := ge_D (K := K) (mg := mg) (gp := ⟨ds, hrs ds H, s.heap.objs.size, s1.heap.objs.size, outer, base⟩) (f := f) (cdv := cdv) e0.mod room'.hd fr'
      exact seg_D (gp := ⟨ds, hrs ds H, s.heap.objs.size, s1.heap.objs.size, outer, base⟩) T MD GD BD PR GC BC e0.mod room' fr' ok obr gv zs k wk.hok wk.bs wk.funs wk.bare (lc.move ge fun o e => wk.keep _ _ (.inl rfl) (Heap.get?_push_of_some _ e))
  exact ⟨_, _, _, _, main _ _ _ _ rfl rfl rfl fun h => Heap.get?_push_size _ rfl⟩
end
section
open PySem PySem.Spec PyProof.Rows GenW
variable {X : Cx}
theorem inv_gens {pins : List (Addr × Obj)} {σ : L2.St} {H : Hp} {s : Shared} {G : Array GenState} (I : Inv X pins σ H s) (h : AllBare G) : Inv X pins σ H { s with gens := G } :=
  ⟨I.ok, I.os, h, I.base, I.loc, I.cell, I.free, I.freeC, I.pin, I.hok, I.len⟩
theorem inv_back {pins : List (Addr × Obj)} {σ : L2.St} {H : Hp} {G : Array GenState} {s f : Shared} (z : Fz G s f) (hG : AllBare G) (I : Inv X pins σ H f) : Inv X pins σ H s := by
  have b := z.bare hG I.bare
  obtain ⟨rfl, _⟩ := z
  exact inv_gens (G := bk G f.gens) I b
theorem Wk.step {P : Program} {w : World} {gp : GP} {s1 s7 s2 : Shared} (x : Wk P w gp s7 s2) (os : s7.os = s1.os) (k : ∀ b o, b = gp.L ∨ b = gp.a → s1.heap.get? b = some o → s7.heap.get? b = some o) : Wk P w gp s1 s2 :=
  ⟨x.os.trans os, x.bare, fun b o m e => x.keep b o m (k b o m e), x.hok, x.bs, x.funs⟩
/-- for x in o.dances(e) -/
def tForD (C : Addr) (ta : TE) (t : TA) (g : TG) (tb : TS) : TS := fun D σ H => ta σ H fun x H1 => ∃ p dx fs, x = V.ref p ∧ H1 p = some (.ins C dx fs) ∧ fs.lookup ("dances" : Str) = none ∧ t σ H1 fun vs H2 => ∃ (v : Int × Int) (k : Nat), vs = [V.int (k : Int)] ∧ LdAt C H2 p v ∧ Good v ∧ stp v ≤ 2000 ∧
  ∃ (Bad : Addr → Prop) (W : Nat → L2.St → Hp → Prop), (∀ b, Bad b → H2 b = none ∨ H2 b = some (.lst [])) ∧ W 0 σ H2 ∧ (∀ i σ' H', W i σ' H' → ∀ b o, ¬ Bad b → H2 b = some o → H' b = some o) ∧
    (∀ i σ' H', W i σ' H' → i < totD v - k → g (itD v (k + i)) σ' H' fun σ2 H3 => tb { nx := W (i + 1), ct := W (i + 1), bk := D.nx, rt := D.rt } σ2 H3) ∧ ∀ σ' H', W (totD v - k) σ' H' → D.nx σ' H'
theorem ps_forD {C f g1 g2 pr : Addr} {fd fd1 fd2 : FuncData} {o e : Expr} {ta : TE} {t : TA} {tg : Expr} {g : TG} {body : List Stmt} {tb : TS} {apos pos' pos : Pos} {pl : Sem Bool} (F : Fun X.K "dances" "LeastDances.dances" s_Ldances f fd) (bF : Binds X.K fd ["self", "start"] []) (MF : Meth X.K C "dances" f)
    (T : TxL X.K X.mg C) (MD : Meth X.K C "dance" g1) (GD : FnOk X.prog X.w X.K X.mg X.base CX0 3 g1 fd1 ["self", "rank"] (spDanceL C)) (BD : Binds X.K fd1 ["self", "rank"] []) (PR : PropOf X.K C "dance_count" pr g2) (GC : FnOk X.prog X.w X.K X.mg X.base CX0 1 g2 fd2 ["self"] (spCountL C)) (BC : Binds X.K fd2 ["self"] [])
    (room : Room 5 X.A) (hxe : ∀ u s, X.xe u s → False) (ho : PE X o ta) (ha : PA X [e] t) (hg : PG X tg g) (hb : PSs X body tb)
    (plain : starEach [e] X.env = (false, eval e X.env) :: starEach [] X.env := by rfl) (hpl : (backTo pos' (starEach [] X.env)).any (·.1) = false := by rfl)
    (split : eval (.Call (.Attribute o "dances" apos) [e] [] pos') X.env = (do
      let v ← eval o X.env
      standAt apos.atName
      let (g, first) ← holding [v] (getMethod v "dances" pl)
      callWith pos' g first (backTo pos' (starEach [e] X.env)) (backToKw pos' (keywordEach [] X.env))) := by rfl)
    (hs : ∀ x, foldedSetIterable (.Call (.Attribute o "dances" apos) [e] [] pos') X.env x = pure x := by intro _; rfl) :
    PS X (.For tg (.Call (.Attribute o "dances" apos) [e] [] pos') body [] pos) (tForD C ta t g tb) := by
  refine ⟨fun pins s σ H D I h => wpAny_For ?_ hs⟩
  refine PySem.W.methodCall_KW (pl := pl) (thn (ho.run pins s σ H _ I h) fun u s1 h1 => ?_) split
  obtain ⟨x, H1, I1, rx, p, dx, fs, rfl, hp, lk, q⟩ := h1
  obtain rfl : u = .ref p := rx
  refine getmeth_ok I1 hp T.cl MF lk (PySem.W.callWith_K (first := [.ref p]) (h₀ := X.base) I.ok.mod.kin MF.kp (thn (ha.run pos' pins s1 σ H1 _ I1 q) fun us s2 h2 => ?_) plain hpl)
  obtain ⟨vs, H2, I2, rv, v, k, rfl, ob, gv, zs, Bad, W, hbad, w0, wkeep, turn, hend⟩ := h2
  refine ⟨I2.kIn, ?_⟩
  have vals : Vals [.ref p, .int (k : Int)] (.ref p :: us) := .cons rfl rv
  have bd := bF s2 (.ref p :: us) I2.kIn (by rw [List.append_nil, ← vals.length]; rfl)
  rw [List.append_nil] at bd
  refine wpAny_call (codeAny_mono (made_D F T MD GD BD PR GC BC (A := X.A) (outer := X.stack) (args := ⟨.ref p :: us, []⟩) (room.mono (by decide)) I2.env0 bd vals ob gv zs) fun res s3 hr3 => ?_)
  cases res with
  | error er => exact False.elim hr3
  | ok fl =>
  cases fl with
  | next => exact False.elim hr3
  | brk => exact False.elim hr3
  | cont => exact False.elim hr3
  | ret u =>
  obtain ⟨gp, gn, go, c, M⟩ := hr3
  obtain rfl := M.val
  show wpAny _ X.A (pyIter (.ref gp.a)) _ _ s3
  refine wpAny_pyIter_gen (M.ig _ M.gen) ?_
  obtain ⟨oL0, hoL0, hcL0⟩ := M.oL
  -- the generator's own objects are new
  have sL : s2.heap.objs.size ≤ gp.L := M.l0
  have sA : s2.heap.objs.size ≤ gp.a := Nat.le_of_lt (Nat.lt_of_le_of_lt sL M.l1)
  have new : ∀ b, s2.heap.objs.size ≤ b → H2 b = none ∧ b ≠ X.env.locals ∧ b ∉ X.fs ∧ (b ∈ X.ex ∨ X.s_0.heap.objs.size ≤ b) ∧ (∀ x c, X.env.cells.lookup x = some c → c ≠ b) ∧ ∀ q ∈ X.pn ++ pins, q.1 ≠ b := fun b hb =>
    I2.fpOk hb (I2.hok.fresh hb)
  obtain ⟨nL1, nL2, nL3, nL4, nL5, nL6⟩ := new gp.L sL
  obtain ⟨nA1, nA2, nA3, nA4, nA5, nA6⟩ := new gp.a sA
  have neAL : gp.a ≠ gp.L := Nat.ne_of_gt M.l1
  have I3 : Inv X pins σ H2 s3 := I2.call' (ch := []) M.os (Un.kept M.keep) (I2.hok.kept M.keep) M.bare (fun b z => nomatch z)
  have pinned : ∀ {σ' : L2.St} {H' : Hp} {s' : Shared} {oL : Obj}, Inv X pins σ' H' s' → s'.heap.get? gp.a = some go → s'.heap.get? gp.L = some oL → (∀ c, oL.data ≠ .cell c) → H' gp.a = none → H' gp.L = none → Inv X ((gp.a, go) :: (gp.L, oL) :: pins) σ' H' s' := fun {σ' H' s' oL} J e1 e2 hc n1 n2 =>
    J.pins_of fun q hq => by
      rcases List.mem_cons.mp hq with rfl | hq
      · exact ⟨e1, n1, nA2, nA3, M.gc⟩
      · rcases List.mem_cons.mp hq with rfl | hq
        · exact ⟨e2, n2, nL2, nL3, hc⟩
        · exact J.pin q (List.mem_append_right _ hq)
  have agree : ∀ i σ' H', W i σ' H' → ∀ b ∈ gp.ds, H' b = gp.Hg b := fun i σ' H' wi b m => by
    obtain ⟨o', q, ne⟩ := M.nb b m
    rw [← M.ag b m, q]
    refine wkeep i σ' H' wi b o' (fun z => ?_) q
    rcases hbad b z with y | y
    · rw [y] at q; cases q
    · rw [y] at q; cases q; exact ne rfl
  have room1 : Room 4 X.A.in1 := ⟨room.hd, by have := room.dp; show X.A.depth + 3 * 4 + 5 < _; omega, by have := room.un; show X.A.units + 1 + 16 * 4 + 200 < _; omega⟩
  have fr1 : X.A.in1.frames = some X.stack := I2.ok.frames
  refine codeAny_forLoop_any (fun n s' => ∃ i σ' H' oL gs, n = totD v - k - i ∧ i ≤ totD v - k ∧ W i σ' H' ∧ Inv X ((gp.a, go) :: (gp.L, oL) :: pins) σ' H' s' ∧ (∀ c, oL.data ≠ .cell c) ∧ s'.gens[gn]? = some gs ∧
      ∀ s'', Wk X.prog X.w gp s' s'' → gs.Goes (model X.prog X.w) X.A.in1 (RD X.prog X.w gp) (YD X.prog X.w gp v) (totD v - k - i) (.send .none) s'') ?_ (totD v - k)
    ⟨0, σ, H2, oL0, _, rfl, Nat.zero_le _, w0, pinned I3 M.gen hoL0 hcL0 nA1 nL1, hcL0, M.at_, fun s'' wk => ⟨rfl, M.run X.A.in1 s'' room1 fr1 wk⟩⟩
  rintro n s' ⟨i, σ', H', oL, gs, rfl, hi, wi, J, hcL, at_, goes⟩
  have pa := J.pin (gp.a, go) (List.mem_append_right _ List.mem_cons_self)
  have pL := J.pin (gp.L, oL) (List.mem_append_right _ (List.mem_cons_of_mem _ List.mem_cons_self))
  have ag := agree i σ' H' wi
  have hst : X.stack = gp.outer := M.eo.symm
  have hbs : X.base = gp.base := M.eb.symm
  have Ja : Inv X ((gp.a, go) :: pins) σ' H' s' := J.pins_of fun q hq => by
    rcases List.mem_cons.mp hq with rfl | hq
    · exact pa
    · exact J.pin q (List.mem_append_right _ (List.mem_cons_of_mem _ (List.mem_cons_of_mem _ hq)))
  have exL : (gp.L ∈ X.ex ∨ X.s_0.heap.objs.size ≤ gp.L) ∧ gp.L ≠ X.env.locals ∧ (∀ x c, X.env.cells.lookup x = some c → c ≠ gp.L) ∧ ∀ q ∈ X.pn ++ (gp.a, go) :: pins, q.1 ≠ gp.L := ⟨nL4, nL2, nL5, fun q hq => by
    rcases List.mem_append.mp hq with hq | hq
    · exact nL6 q (List.mem_append_left _ hq)
    · rcases List.mem_cons.mp hq with rfl | hq
      · exact neAL
      · exact nL6 q (List.mem_append_right _ hq)⟩
  have wk0 : Wk X.prog X.w gp s' s' := wk_of M.ok J hst hbs ag rfl fun _ _ _ e => e
  have gl : gn < s'.gens.size := (Array.getElem?_eq_some_iff.mp at_).1
  refine wpAny_gsz (n := gn + 1) gl (next_slp (F := FD X.prog X.w gp) (Y := YD X.prog X.w gp v) room.hd J.nolimit (by have := room.dp; omega) (M.ig _ pa.1) at_ (goes _ (wk0.run gn)) (fun u s1 gs' hbare hslp hy => ?_) (fun s1 hF h' hk => ?_))
  · intro hsz
    obtain ⟨kk, ek, ru, kp, ⟨oL', hoL', hcL'⟩, wake⟩ := hy
    have J1 : Inv X ((gp.a, go) :: pins) σ' H' s1 := after_kp M.ok Ja hst kp rfl rfl ag pL.2.1 exL
    have wk1 : Wk X.prog X.w gp s1 s1 := wk_of M.ok J1 hst hbs ag rfl fun _ _ _ e => e
    cases em : totD v - k - i with
    | zero =>
      have := wake s1 wk1
      rw [em] at this
      exact False.elim this
    | succ m =>
    rw [em] at ek wake
    have ekk : kk = k + i := by omega
    subst ekk
    have J2 : Inv X ((gp.a, go) :: (gp.L, oL') :: pins) σ' H' s1 := by
      refine J1.pins_of fun q hq => ?_
      rcases List.mem_cons.mp hq with rfl | hq
      · exact J1.pin (gp.a, go) (List.mem_append_right _ List.mem_cons_self)
      · rcases List.mem_cons.mp hq with rfl | hq
        · exact ⟨hoL', pL.2.1, nL2, nL3, hcL'⟩
        · exact J1.pin q (List.mem_append_right _ (List.mem_cons_of_mem _ hq))
    have gb : AllBare (s1.setGen gn gs').gens := allBare_setGen J1.bare hbare
    have J3 : Inv X ((gp.a, go) :: (gp.L, oL') :: pins) σ' H' (s1.setGen gn gs') := inv_gens J2 gb
    have at3 : (s1.setGen gn gs').gens[gn]? = some gs' := setGen_at (by rw [setGen_size] at hsz; omega)
    have z0 := Fz.start (s1.setGen gn gs')
    have J4 : Inv X ((gp.a, go) :: (gp.L, oL') :: pins) σ' H' { s1.setGen gn gs' with gens := (s1.setGen gn gs').gens.map pz } := inv_gens J3 (Fz.start_bare gb)
    obtain ⟨og, nm, qn, ho1, ho2, ho3, _⟩ := M.ig _ (J3.pin (gp.a, go) (List.mem_append_right _ List.mem_cons_self)).1
    refine go_of ho1 ho2 ho3 (by decide) ?_
    refine wpAny_mono (wpAny_fz z0 (hg.run _ _ σ' H' (itD v (k + i)) u _ J4 ru (turn i σ' H' wi (by omega)))) (fun _ s6 h6 => ?_) fun er s6 h6 => ?_
    · obtain ⟨f6, z6, σ6, H6, I6, q6⟩ := h6
      refine wpAny_mono (wpAny_fz z6 (hb.run _ f6 σ6 H6 _ I6 q6)) (fun fl s7 h7 => ?_) fun er s7 h7 => ?_
      · obtain ⟨f7, z7, q7⟩ := h7
        have again : ∀ {σ7 : L2.St} {H7 : Hp}, Inv X ((gp.a, go) :: (gp.L, oL') :: pins) σ7 H7 f7 → W (i + 1) σ7 H7 → ∃ m', m' < m + 1 ∧ ∃ i σ' H' oL gs, m' = totD v - k - i ∧ i ≤ totD v - k ∧ W i σ' H' ∧ Inv X ((gp.a, go) :: (gp.L, oL) :: pins) σ' H' s7 ∧ (∀ c, oL.data ≠ .cell c) ∧ s7.gens[gn]? = some gs ∧
            ∀ s'', Wk X.prog X.w gp s7 s'' → gs.Goes (model X.prog X.w) X.A.in1 (RD X.prog X.w gp) (YD X.prog X.w gp v) (totD v - k - i) (.send .none) s'' := fun {σ7 H7} I7 w7 => by
          have I7 := inv_back z7 gb I7
          have e1 : totD v - k - (i + 1) = m := by omega
          refine ⟨m, Nat.lt_succ_self m, i + 1, σ7, H7, oL', gs', e1.symm, by omega, w7, I7, hcL', z7.at at3 hslp, fun s'' wk => ?_⟩
          rw [e1]
          refine wake s'' (wk.step (I7.os.trans J1.os.symm) fun b o' hb' e => ?_)
          rcases hb' with rfl | rfl
          · rw [hoL'] at e
            cases e
            exact (I7.pin (gp.L, oL') (List.mem_append_right _ (List.mem_cons_of_mem _ List.mem_cons_self))).1
          · rw [(J1.pin (gp.a, go) (List.mem_append_right _ List.mem_cons_self)).1] at e
            cases e
            exact (I7.pin (gp.a, go) (List.mem_append_right _ List.mem_cons_self)).1
        have drop : ∀ {σ7 : L2.St} {H7 : Hp}, Inv X ((gp.a, go) :: (gp.L, oL') :: pins) σ7 H7 f7 → Inv X pins σ7 H7 s7 := fun {σ7 H7} I7 =>
          (inv_back z7 gb I7).pins_of fun q hq => (inv_back z7 gb I7).pin q (List.mem_append_right _ (List.mem_cons_of_mem _ (List.mem_cons_of_mem _ hq)))
        cases fl with
        | next => obtain ⟨σ7, H7, I7, w7⟩ := q7; exact again I7 w7
        | cont => obtain ⟨σ7, H7, I7, w7⟩ := q7; exact again I7 w7
        | brk => obtain ⟨σ7, H7, I7, w7⟩ := q7; exact ⟨σ7, H7, drop I7, w7⟩
        | ret u => obtain ⟨x7, σ7, H7, I7, r7, w7⟩ := q7; exact ⟨x7, σ7, H7, drop I7, r7, w7⟩
      · obtain ⟨f7, _, hx⟩ := h7
        exact False.elim (hxe _ _ hx)
    · obtain ⟨f6, _, hx⟩ := h6
      exact False.elim (hxe _ _ hx)
  · intro hsz
    obtain ⟨em, kp⟩ := hF
    have J1 : Inv X ((gp.a, go) :: pins) σ' H' s1 := after_kp M.ok Ja hst kp rfl rfl ag pL.2.1 exL
    have J2 := (inv_gens J1 (allBare_setGen (g := gn) (x := .finished) J1.bare rfl)).kept (t' := s1.toks) hk
    have ei : i = totD v - k := by omega
    subst ei
    refine wpAny_execs_nil ⟨σ', H', J2.pins_of fun q hq => J2.pin q (List.mem_append_right _ (List.mem_cons_of_mem _ hq)), hend σ' H' wi⟩
end
section
theorem sh_nil : SeqAt.shaped (.list []) = true := by decide +kernel
theorem nil_self : (!PyData.eqv (.list []) (.list [])) = false := by decide +kernel
theorem lets_so {l : List Nat} (h : Lets l) : PyData.strOk (S l) = true := by
  show l.toArray.all _ = true
  rw [List.all_toArray, List.all_eq_true]
  intro c hc
  rcases h c hc with rfl | rfl | rfl <;> decide
/-- texts of letters, as data -/
def pys (ls : List (List Nat)) : PyData := .list (ls.map fun l => .str (S l))
def vls (ls : List (List Nat)) : List V := ls.map fun l => .str (S l)
theorem lay_pys : ∀ {ls : List (List Nat)}, (∀ l ∈ ls, Lets l) → PyData.canLayAll0 (ls.map fun l => .str (S l)) = true ∧ PyData.depthAll (ls.map fun l => .str (S l)) = 0
  | [], _ => by simp [PyData.canLayAll0, PyData.depthAll]
  | l :: ls, h => by
    obtain ⟨a, b⟩ := lay_pys fun x hx => h x (List.mem_cons_of_mem _ hx)
    refine ⟨by simp [PyData.canLayAll0, PyData.canLay0, a, lets_so (h l List.mem_cons_self)], by simp [PyData.depthAll, PyData.depth, b]⟩
theorem sh_pys {ls : List (List Nat)} (h : ∀ l ∈ ls, Lets l) : SeqAt.shaped (pys ls) = true := by
  obtain ⟨a, b⟩ := lay_pys h
  unfold SeqAt.shaped pys
  rw [Bool.and_eq_true, decide_eq_true_eq]
  exact ⟨by simp only [PyData.canLay0]; exact a, by simp only [PyData.depth]; omega⟩
theorem eqv_pys {ls : List (List Nat)} (h : ∀ l ∈ ls, Lets l) : PyData.eqv (pys ls) (pys ls) = true := by
  refine SeqAt.eqv_refl _ ?_
  unfold pys
  simp only [PyData.canLay0]
  exact (lay_pys h).1
theorem dpa_pys {K : PySem.W.Frag} {H : Hp} : ∀ ls : List (List Nat), DpAll K H (vls ls) (ls.map fun l => .str (S l))
  | [] => .nil
  | l :: ls => .cons (.str _) (dpa_pys ls)
theorem dp_pys {K : PySem.W.Frag} {H : Hp} {a : Addr} {ls : List (List Nat)} (h : H a = some (.lst (vls ls))) : Dp K H (.ref a) (pys ls) := .lst (SqL.of h) (dpa_pys ls)
end
section
/-- the dances of v from the rank k on -/
def dsF (v : Int × Int) (k n : Nat) : List (List Nat) := (List.range n).map fun i => ld (rl v) (k + i)
theorem dsF_len (v : Int × Int) (k n : Nat) : (dsF v k n).length = n := by unfold dsF; rw [List.length_map, List.length_range]
theorem dsF_succ (v : Int × Int) (k n : Nat) : dsF v k (n + 1) = dsF v k n ++ [ld (rl v) (k + n)] := by
  unfold dsF
  rw [List.range_succ, List.map_append]
  rfl
theorem dsF_lets (v : Int × Int) (k n : Nat) : ∀ l ∈ dsF v k n, Lets l := fun l hl => by
  obtain ⟨i, _, rfl⟩ := List.mem_map.mp hl
  exact ld_rl_lets v _
theorem vls_succ (v : Int × Int) (k n : Nat) : vls (dsF v k n) ++ [V.str (S (ld (rl v) (k + n)))] = vls (dsF v k (n + 1)) := by
  rw [dsF_succ]
  unfold vls
  rw [List.map_append]
  rfl
theorem vls_len (ls : List (List Nat)) : (vls ls).length = ls.length := by unfold vls; rw [List.length_map]
def spWalk (C : Addr) : Sp := fun vs H Q _ => ∃ (p : Addr) (v : Int × Int) (k : Nat), vs = [.ref p, .int (k : Int), .int (totD v : Int)] ∧ LdAt C H p v ∧ Good v ∧ stp v ≤ 2000 ∧ k < totD v ∧ totD v < 2 ^ 60 ∧ ∀ H', Same H H' → Q (.bl true) H'
end
section
variable {P : Program} {w : World} {K : PySem.W.Frag} {mg : Str → Option Value} {base : Heap} {f : Addr} {fd : FuncData}
theorem ok__law_walk (F : Fun K "_law_walk" "_law_walk" s_law_walk f fd) (y_len : mg "len" = none) (y_range : mg "range" = none) (y_min : mg "min" = none) {fS pr gg : Addr} {fdS fdC : FuncData} (TLd : TxL K mg CL) (FS : Fun K "dances" "LeastDances.dances" s_Ldances fS fdS) (bS : Binds K fdS ["self", "start"] []) (MS : Meth K CL "dances" fS) (PR : PropOf K CL "dance_count" pr gg) (GC : FnOk P w K mg base CX0 1 gg fdC ["self"] (spCountL CL)) (bC : Binds K fdC ["self"] []) (DM_dance : MDfnL P w K mg base CL "dance" 3 ["self", "rank"] (spDanceL CL)) : FnOk P w K mg base CX0 6 f fd ["least", "begin", "many"] (spWalk CL) := by
  refine F.ok sc_law_walk (fun vs H Q E h => ?_) (fun cdv A outer s H vs Q E hr h => ?_)
  · obtain ⟨p, v, k, rfl, ob, gv, zs, kn, n60, q⟩ := h
    rfl
  obtain ⟨p, v, k, rfl, ob, gv, zs, kn, n60, q⟩ := h
  obtain ⟨g_dance, fd_dance, G_dance, B_dance, M_dance⟩ := DM_dance.ex
  refine ⟨_, (pss_cons (ps_set (i := 3) sc_law_walk.nd rfl (.inl rfl) (pe_lst pa_nil))
    (pss_cons (ps_forD FS bS MS TLd M_dance G_dance B_dance PR GC bC (hr.mono (by decide)) (fun _ _ z => z) (pv 0) (pa_cons (pv 1) pa_nil) (pg_name (i := 4) sc_law_walk.nd rfl (.inl rfl))
    (pss_cons (ps_expr (pe_bm PySem.F.plainAttrs_list PySem.F.slot_list_append PySem.F.type_list_append mt_append (pv 3) (pa_cons (pv 4) pa_nil)))
    (pss_one (ps_if (pt_cmpR op_eq (pe_callB call_len_seq rfl y_len PySem.boot_len (pa_cons (pv 3) pa_nil)) pe_int (nomark _)) (pss_one ps_break) pss_nil))))
    (pss_one (ps_ret (pe_cmpR (op_eqD hr.units) (pv 3) (pe_lc (own := [("k", 5)]) (g := (gName 5)) (tt := tYes) (by rfl) sc_law_walk.nd (pi_range2 rfl y_range (pa_cons (pv 1) (pa_cons (pe_callB (call_min2 rfl) rfl y_min (by decide +kernel) (pa_cons (pv 2) (pa_cons (pe_op op_add (pv 1) pe_int) pa_nil))) pa_nil))) (blkOk_by (own := [("k", 5)]) (N := ["least", "begin", "many", "found", "dance", "k"]) (sc := defScope s_law_walk) (by decide +kernel)) (fun _ _ _ _ _ => pg_name (i := 5) sc_law_walk.nd rfl (Or.inl rfl)) (fun _ _ _ _ _ => pts_nil) (fun _ _ _ _ _ => (pe_meth (pv 0) TLd.cl M_dance G_dance (hr.mono (by decide)) B_dance .nil pass0 (pa_cons (pv 5) pa_nil)))) (nomark _)))))), ?_⟩
  have zero : 0 ≤ sizeLine := Nat.zero_le _
  refine ⟨zero, fun D hD => ?_⟩
  have s1 := same_new hD (.lst [])
  have hL : upd H D (.lst []) D = some (.lst []) := upd_same
  generalize upd H D (.lst []) = H1 at *
  obtain ⟨dx1, ft, fr, fw', hp1, _⟩ := id (ob.same s1)
  refine ⟨_, rfl, p, dx1, _, rfl, hp1, lf_no _ _ _ (by decide +kernel) (by decide +kernel) (by decide +kernel), _, rfl, v, k, rfl, ob.same s1, gv, zs, (fun b => b = D), (fun i σ F => ∃ x4 : Option V, σ = [some (.ref p), some (.int (k : Int)), some (.int (totD v : Int)), some (.ref D), x4, none] ∧ Same H F ∧ But D H1 F ∧ F D = some (.lst (vls (dsF v k i))) ∧ i ≤ 2), (fun b e => .inr (by rw [e]; exact hL)), ⟨_, rfl, s1, But.refl _ _, hL, Nat.zero_le _⟩, ?K, ?T, ?E⟩
  case K =>
    rintro i σ F ⟨x4, rfl, _, bF, _, _⟩ b o nb e
    exact bF b o nb e
  case' T =>
    rintro i σ F ⟨x4, rfl, sF, bF, hF, i2⟩ hi
    have k3 : k + i < wy (ns_ (rl v)) := by unfold totD at hi; omega
    have lv : (vls (dsF v k i)).length = i := by rw [vls_len, dsF_len]
    refine ⟨_, rfl, .inl ⟨rfl, _, SqL.of hF⟩, _, rfl, D, _, _, rfl, rfl, hF, Nat.lt_of_lt_of_le (by rw [lv]; omega) sizeLine_big, ?_⟩
    have hF2 : upd F D (.lst (vls (dsF v k i) ++ [itD v (k + i)])) D = some (.lst (vls (dsF v k (i + 1)))) := by
      rw [upd_same]
      exact congrArg (fun x => some (HO.lst x)) (vls_succ v k i)
    have sF2 : Same H (upd F D (.lst (vls (dsF v k i) ++ [itD v (k + i)]))) := same_upd sF hD
    have bF2 := bF.trans (But.upd (H := F) (a := D) (o := .lst (vls (dsF v k i) ++ [itD v (k + i)])))
    generalize upd F D (.lst (vls (dsF v k i) ++ [itD v (k + i)])) = F2 at *
    have l2 : (vls (dsF v k (i + 1))).length = i + 1 := by rw [vls_len, dsF_len]
    refine ⟨_, rfl, D, _, rfl, .inl (SqL.of hF2), rfl, _, rfl, ?_⟩
    rw [l2]
    refine ite2 (fun c => ?A) (fun c => ⟨_, rfl, sF2, bF2, hF2, by have : ¬ i + 1 = 3 := fun z => c (by rw [z]; rfl); omega⟩)
    case' A =>
      have i3 : i + 1 = 3 := by have := V.int.inj (of_decide_eq_true c); omega
      have ec : i + 1 = min 3 (totD v - k) := by omega
      rw [ec] at hF2
      clear hF sF bF bF2 l2 lv i3 ec c i2
      generalize F2 = G0 at hF2 sF2
  case' E =>
    rintro σ F ⟨x4, rfl, sF2, bF, hF2, i2⟩
    have ec : totD v - k = min 3 (totD v - k) := by omega
    rw [ec] at hF2
    clear bF i2 ec
    generalize F = G0 at hF2 sF2
  all_goals
    obtain ⟨cn, hcn⟩ : ∃ cn, cn = min 3 (totD v - k) := ⟨_, rfl⟩
    rw [← hcn] at hF2
    have em : (if (k : Int) + 3 < (totD v : Int) then (k : Int) + 3 else (totD v : Int)) = ((k + cn : Nat) : Int) := by split <;> omega
    have k60 : (2 : Int) ^ 60 < 2 ^ 62 := by decide
    have t60 : (totD v : Int) < 2 ^ 60 := by exact_mod_cast n60
    refine ⟨_, rfl, _, rfl, _, rfl, _, rfl, _, _, rfl, rfl, _, _, rfl, ?_⟩
    rw [em]
    refine ⟨_, _, rfl, ⟨by omega, by omega, by omega, by omega⟩, fun E hE => lc_range (lo := (k : Int)) (n := (((k + cn : Nat) : Int) - (k : Int)).toNat) (fun j G => Same G0 G ∧ G E = some (.lst (vls (dsF v k j)))) ⟨same_new hE _, upd_same⟩ ?_ ?_⟩
    · rintro j G hj ⟨sG, hG⟩
      have hj : j < cn := by omega
      have kj : k + j < wy (ns_ (rl v)) := by unfold totD at hcn; omega
      have oG := (ob.same sF2).same sG
      obtain ⟨dx3, ft3, fr3, fw3, hp3, _⟩ := id oG
      have lv3 : (vls (dsF v k j)).length = j := by rw [vls_len, dsF_len]
      refine ⟨rfl, _, rfl, p, dx3, _, rfl, hp3, lf_no _ _ _ (by decide +kernel) (by decide +kernel) (by decide +kernel), _, rfl, p, v, k + j, rfl, oG, gv, zs, kj, fun G1 s2 => ⟨_, s2 _ _ hG, Nat.lt_of_lt_of_le (by rw [lv3]; omega) sizeLine_big, fun b o e => ?_, ?_⟩⟩
      · have q1 := s2 _ _ (sG _ _ e)
        rw [upd_ne (ne_of_none e hE)]
        exact q1
      · rw [upd_same]
        exact congrArg (fun x => some (HO.lst x)) (vls_succ v k j)
    · rintro G ⟨sG, hG⟩
      rw [show (((k + cn : Nat) : Int) - (k : Int)).toNat = cn by omega] at hG
      refine ⟨_, _, dp_pys (sG _ _ hF2), dp_pys hG, sh_pys (dsF_lets v k cn), sh_pys (dsF_lets v k cn), ?_⟩
      rw [eqv_pys (dsF_lets v k cn)]
      exact q G (sF2.trans sG)
end
section
def spLaw (K : PySem.W.Frag) : Sp := fun vs H Q _ => ∃ (a : Addr) (ns : List Int), vs = [.ref a] ∧ SqL K H a (ns.map V.int) ∧ ns.length ≤ 63 ∧ ∀ H', Q (.bl true) H'
def spLawK (K : PySem.W.Frag) : Sp := spLaw K
theorem Tape.nil_ne {H : Hp} {a b : Addr} (t : Tape H a) {o : HO} (h : H b = some o) (k : ∀ (x : Int) (c : Bool) (y z : Int), o ≠ .lst [.int x, .bl c, .int y, .int z]) : b ≠ a := fun e => by
  obtain ⟨x, y, z, c, q⟩ := t
  rw [e, q] at h
  exact k _ _ _ _ (Option.some.inj h).symm
theorem tup2_but {H H' : Hp} {a t : Addr} {v : Int × Int} (h : Tup2 H t v) (tp : Tape H a) (b : But a H H') : Tup2 H' t v := b _ _ (tp.nil_ne h fun _ _ _ _ z => nomatch z) h
theorem LdAt.but {C : Addr} {H H' : Hp} {a p : Addr} {v : Int × Int} (h : LdAt C H p v) (tp : Tape H a) (b : But a H H') : LdAt C H' p v := by
  obtain ⟨dx, t, r, w, h1, h2, ⟨ts, r1, r2, r3⟩, h4⟩ := h
  refine ⟨dx, t, r, w, b _ _ (tp.nil_ne h1 fun _ _ _ _ z => nomatch z) h1, tup2_but h2 tp b, ⟨ts, b _ _ (tp.nil_ne r1 fun x c y u z => ?_) r1, r2, fun i u x e1 e2 => ?_⟩, b _ _ (tp.nil_ne h4 fun x c y u z => ?_) h4⟩
  · match ts, z with
    | [], z => cases z
    | _ :: _, z => cases z
  · exact b _ _ (tp.nil_ne (r3 i u x e1 e2) fun _ _ _ _ z => nomatch z) (r3 i u x e1 e2)
  · unfold nint at z
    match wys (ns_ (rl v)), z with
    | [], z => cases z
    | [_], z => cases z
    | _ :: _ :: _, z => cases z
end
section
variable {P : Program} {w : World} {K : PySem.W.Frag} {mg : Str → Option Value} {base : Heap} {f : Addr} {fd : FuncData}
theorem ok_law (F : Fun K "law" "law" s_law f fd) (D_tape : Dfn P w K mg base "_law_tape" 6 ["script", "k"] (spTape K)) (D__law_long : Dfn P w K mg base "_law_long" 6 ["tape"] spLongF) (D__law_ways : Dfn P w K mg base "_law_ways" 6 ["value"] spLWays) (D_same1 : Dfn P w K mg base "_law_same" 6 ["told", "due"] (spSame 1)) (D__law_place : Dfn P w K mg base "_law_place" 6 ["tape", "many"] spLPlace) (D__law_is_least : Dfn P w K mg base "_law_is_least" 6 ["dance", "value"] spIsLeast) (y_range : mg "range" = none) (D_walk : Dfn P w K mg base "_law_walk" 6 ["least", "begin", "many"] (spWalk CL)) {pr gg : Addr} {fdC : FuncData} (TLd : TxL K mg CL) (PR : PropOf K CL "dance_count" pr gg) (GC : FnOk P w K mg base CX0 1 gg fdC ["self"] (spCountL CL)) (bC : Binds K fdC ["self"] []) {fI : Addr} {fdI : FuncData} (ML : Mk K CL fI) (GI : FnOk P w K mg base CX0 3 fI fdI ["self", "fraction"] (spInitL CL)) (bI : Binds K fdI ["self", "fraction"] []) (DM_dance : MDfnL P w K mg base CL "dance" 3 ["self", "rank"] (spDanceL CL)) (DM_rank_of : MDfnL P w K mg base CL "rank_of" 4 ["self", "dance"] (spRankL CL)) : FnOk P w K mg base CX0 7 f fd ["script"] (spLaw K) := by
  refine F.ok sc_law (fun vs H Q E h => ?_) (fun cdv A outer s H vs Q E hr h => ?_)
  · obtain ⟨sa, ns, rfl, hS, h63, q⟩ := h
    rfl
  obtain ⟨sa, ns, rfl, hS, h63, q⟩ := h
  have hu := hu_of hr
  obtain ⟨g_dance, fd_dance, G_dance, B_dance, M_dance⟩ := DM_dance.ex
  obtain ⟨g_rank_of, fd_rank_of, G_rank_of, B_rank_of, M_rank_of⟩ := DM_rank_of.ex
  refine ⟨_, (pss_cons (ps_for PassesOwn.never rfl (pi_range1 rfl y_range (pa_cons pe_int pa_nil)) (pg_name (i := 1) sc_law.nd rfl (.inl rfl))
    (pss_cons (ps_set (i := 2) sc_law.nd rfl (.inl rfl) (pe_do D_tape hr (pa_cons (pv 0) (pa_cons (pv 1) pa_nil))))
    (pss_cons (ps_set (i := 3) sc_law.nd rfl (.inl rfl) (pe_do D__law_long hr (pa_cons (pv 2) pa_nil)))
    (pss_cons (ps_set (i := 4) sc_law.nd rfl (.inl rfl) (pe_make ML GI (hr.mono (by decide)) rfl TLd.mgC bI .nil pass0 (pa_cons (pv 3) pa_nil)))
    (pss_cons (ps_set (i := 5) sc_law.nd rfl (.inl rfl) (pe_dget hu (pe_do D__law_ways hr (pa_cons (pv 3) pa_nil)) (pe_tup (pa_cons pe_int (pa_cons pe_int pa_nil))) (fun _ _ => rfl)))
    (pss_cons (ps_if (pt_not (pt_val (pe_do D_same1 hr (pa_cons (pe_prop (pv 4) TLd.cl PR GC (hr.mono (by decide)) bC .nil pass0 rfl) (pa_cons (pv 5) pa_nil))))) (pss_one (ps_ret pe_bl)) pss_nil)
    (pss_cons (ps_set (i := 6) sc_law.nd rfl (.inl rfl) (pe_do D__law_place hr (pa_cons (pv 2) (pa_cons (pv 5) pa_nil))))
    (pss_cons (ps_set (i := 7) sc_law.nd rfl (.inl rfl) (pe_meth (pv 4) TLd.cl M_dance G_dance (hr.mono (by decide)) B_dance .nil pass0 (pa_cons (pv 6) pa_nil)))
    (pss_cons (ps_if (PW.pt (pw_or (pt_not (pt_val (pe_do D__law_is_least hr (pa_cons (pv 7) (pa_cons (pv 3) pa_nil))))) (pw_or1 (pt_not (pt_val (pe_do D_same1 hr (pa_cons (pe_meth (pv 4) TLd.cl M_rank_of G_rank_of (hr.mono (by decide)) B_rank_of .nil pass0 (pa_cons (pv 7) pa_nil)) (pa_cons (pv 6) pa_nil)))))))) (pss_one (ps_ret pe_bl)) pss_nil)
    (pss_cons (ps_if (pt_cmpR op_lt (pe_op op_add (pv 6) pe_int) (pv 5) (nomark _)) (pss_cons (ps_set (i := 8) sc_law.nd rfl (.inl rfl) (pe_meth (pv 4) TLd.cl M_dance G_dance (hr.mono (by decide)) B_dance .nil pass0 (pa_cons (pe_op op_add (pv 6) pe_int) pa_nil)))
    (pss_one (ps_if (PW.pt (pw_or (pt_not (pt_val (pe_do D__law_is_least hr (pa_cons (pv 8) (pa_cons (pv 3) pa_nil))))) (pw_or1 (pt_cmpR op_le_str (pv 8) (pv 7) (nomark _))))) (pss_one (ps_ret pe_bl)) pss_nil))) pss_nil)
    (pss_one (ps_if (pt_not (pt_val (pe_do D_walk hr (pa_cons (pv 4) (pa_cons (pv 6) (pa_cons (pv 5) pa_nil)))))) (pss_one (ps_ret pe_bl)) pss_nil))))))))))))
    (pss_one (ps_ret pe_bl))), ?_⟩
  have two : 2 ≤ sizeLine := fits (by decide)
  refine ⟨2, rfl, by decide, by decide, for_range (lo := 0) (n := 2) (fun i σ F => ∃ (x1 x2 x3 x4 x5 x6 x7 x8 : Option V), σ = [some (.ref sa), x1, x2, x3, x4, x5, x6, x7, x8] ∧ Same H F) ?_ ?_ ?_⟩
  · exact ⟨_, _, _, _, _, _, _, _, rfl, Same.refl H⟩
  · rintro i σ H0 hi ⟨x1, x2, x3, x4, x5, x6, x7, x8, rfl, S0⟩
    refine ⟨_, rfl, _, rfl, sa, ns, 0 + (i : Int), rfl, S0.seq hS, by omega, fun tp H1 s1 ntp t1 => ?_⟩
    have B1 : But tp H0 H1 := But.of s1
    refine ⟨_, rfl, tp, rfl, t1, fun u v H7 b2 t7 T7 g ga2 ga1 zs zq => ?_⟩
    have B7 := B1.trans b2
    refine ⟨_, rfl, ?_⟩
    intro p dx np ndx ndp
    have SP : Same H7 (upd (upd H7 dx (.own p)) p (.ins CL dx [])) := fun b o e => by
      rw [upd_ne (ne_of_none e np), upd_ne (ne_of_none e ndx)]
      exact e
    refine ⟨H7, p, u, dx, v, rfl, SP, np, upd_same, T7.same SP, ne_of_none T7 np, g, by omega, fun H8 s8 ob => ⟨rfl, ?_⟩⟩
    have w0 := wy_rl v
    refine ⟨_, rfl, u, v, rfl, T7.same s8, g, by omega, fun d H9 kvs s9 nd hd hk => ⟨two, fun tk htk => ?_⟩⟩
    have s10 := same_new htk (.tup [V.int 0, .int 1])
    have Tk : Tup2 (upd H9 tk (.tup [V.int 0, .int 1])) tk (0, 1) := upd_same
    have hd10 := s10 _ _ hd
    generalize upd H9 tk (.tup [V.int 0, .int 1]) = H10 at *
    have get := DGet.t (k := kyv (0, 1)) hd10 Tk
    rw [hk] at get
    refine ⟨d, _, rfl, get, ?_⟩
    have S10 : Same H7 H10 := s8.trans (s9.trans s10)
    have t10 := t7.same S10
    have B10 := B7.trans (But.of S10)
    have ob10 : LdAt CL H10 p v := ob.same (s9.trans s10)
    have T10 : Tup2 H10 u v := T7.same S10
    clear get hk hd hd10 Tk ob
    have pwp := pw_pos v
    have n60 := tot_small zq
    have pt : pw v = totD v := w0.symm
    rw [pt] at pwp
    obtain ⟨dx1, ft, fr, fw', hp1, _⟩ := id ob10
    refine ⟨_, rfl, p, dx1, _, rfl, hp1, p, v, rfl, ob10, g, ?_⟩
    rw [pt]
    refine ⟨_, rfl, _, _, .int (totD v : Int), rfl, rfl, rfl, ⟨_, rfl, iteF ?_⟩⟩
    refine ⟨_, rfl, _, rfl, tp, totD v, rfl, t10, pwp, Nat.lt_trans n60 (Nat.pow_lt_pow_right (by decide) (by decide)), fun k H11 kn b11 t11 => ?_⟩
    have kn' : k < wy (ns_ (rl v)) := kn
    have ob11 := ob10.but t10 b11
    have T11 := tup2_but T10 t10 b11
    have B11 := B10.trans b11
    obtain ⟨dx2, ft2, fr2, fw2, hp2, _⟩ := id ob11
    refine ⟨_, rfl, p, dx2, _, rfl, hp2, lf_no _ _ _ (by decide +kernel) (by decide +kernel) (by decide +kernel), _, rfl, p, v, k, rfl, ob11, g, by omega, kn', fun H12 s12 => ?_⟩
    refine ⟨_, rfl, _, rfl, ld (rl v) k, u, v, rfl, T11.same s12, g, by omega, ld_rl_len g kn', ld_rl_run g kn', fun H13 s13 => ⟨_, rfl, iteF ?_⟩⟩
    have S13 := s12.trans s13
    have ob13 := ob11.same S13
    obtain ⟨dx3, ft3, fr3, fw3, hp3, _⟩ := id ob13
    refine ⟨_, rfl, p, dx3, _, rfl, hp3, lf_no _ _ _ (by decide +kernel) (by decide +kernel) (by decide +kernel), _, rfl, p, v, k, rfl, ob13, g, by omega, kn', fun H14 s14 => ?_⟩
    refine ⟨_, rfl, _, _, .int (k : Int), rfl, rfl, rfl, ⟨_, rfl, iteF ?_⟩⟩
    have S14 := S13.trans s14
    have ob14 := ob13.same s14
    have e1 : (k : Int) + 1 = ((k + 1 : Nat) : Int) := rfl
    refine ⟨_, rfl, _, _, rfl, rfl, _, rfl, _, _, rfl, rfl, _, rfl, ite2 (fun c => ?A) (fun c => ?B)⟩
    case' A =>
      have k1 : k + 1 < totD v := by
        have : (k : Int) + 1 < (totD v : Int) := of_decide_eq_true c
        omega
      have k1' : k + 1 < wy (ns_ (rl v)) := k1
      obtain ⟨dx4, ft4, fr4, fw4, hp4, _⟩ := id ob14
      refine ⟨_, rfl, p, dx4, _, rfl, hp4, lf_no _ _ _ (by decide +kernel) (by decide +kernel) (by decide +kernel), _, rfl, _, _, rfl, rfl, p, v, k + 1, rfl, ob14, g, by omega, k1', fun H15 s15 => ?_⟩
      refine ⟨_, rfl, _, rfl, ld (rl v) (k + 1), u, v, rfl, (T11.same S14).same s15, g, by omega, ld_rl_len g k1', ld_rl_run g k1', fun H16 s16 => ⟨_, rfl, iteF ?_⟩⟩
      refine ⟨_, rfl, _, rfl, _, _, rfl, rfl, _, rfl, ?_⟩
      have lt : (S (ld (rl v) k)).cps.toList < (S (ld (rl v) (k + 1))).cps.toList := by
        rw [S_list, S_list]
        exact ld_lt _ (rl v) k (k + 1) (Nat.le_refl _) (alt_rl v) (Nat.lt_succ_self k) k1'
      rw [decide_eq_true lt]
      refine iteF ?_
      have obE := (ob14.same s15).same s16
      have SE := (s15.trans s16)
      clear c k1 k1' hp4 lt
      generalize H16 = HE at obE SE ⊢
    case' B =>
      obtain ⟨HE, hHE⟩ : ∃ HE, HE = H14 := ⟨_, rfl⟩
      have SE : Same H14 HE := hHE ▸ Same.refl _
      have obE : LdAt CL HE p v := hHE ▸ ob14
      rw [← hHE]
      clear c hHE
    all_goals
      refine ⟨_, rfl, _, rfl, _, rfl, p, v, k, rfl, obE, g, by omega, kn, n60, fun HF sF => ⟨_, rfl, iteF ⟨_, _, _, _, _, _, _, _, rfl, ?_⟩⟩⟩
      have BF : But tp H0 HF := B11.trans (But.of (S14.trans (SE.trans sF)))
      exact S0.trans (BF.same (Same.refl H0) ntp)
  · rintro σ F ⟨x1, x2, x3, x4, x5, x6, x7, x8, rfl, S0⟩
    exact q F
end
def d_after : He.DefD := ⟨("after", none), "after", "after", defArgs s_after, defBody s_after, defScope s_after, [], []⟩
def d_turned : He.DefD := ⟨("turned", none), "turned", "turned", defArgs s_turned, defBody s_turned, defScope s_turned, [], []⟩
def d_quotients : He.DefD := ⟨("quotients", none), "quotients", "quotients", defArgs s_quotients, defBody s_quotients, defScope s_quotients, [], []⟩
def d_number : He.DefD := ⟨("number", none), "number", "number", defArgs s_number, defBody s_number, defScope s_number, [], []⟩
def d_steps : He.DefD := ⟨("steps", none), "steps", "steps", defArgs s_steps, defBody s_steps, defScope s_steps, [], []⟩
def d_runs : He.DefD := ⟨("runs", none), "runs", "runs", defArgs s_runs, defBody s_runs, defScope s_runs, [], []⟩
def d_ways_on : He.DefD := ⟨("ways_on", none), "ways_on", "ways_on", defArgs s_ways_on, defBody s_ways_on, defScope s_ways_on, [], []⟩
def d__law_tape : He.DefD := ⟨("_law_tape", none), "_law_tape", "_law_tape", defArgs s_law_tape, defBody s_law_tape, defScope s_law_tape, [], []⟩
def d__law_take : He.DefD := ⟨("_law_take", none), "_law_take", "_law_take", defArgs s_law_take, defBody s_law_take, defScope s_law_take, [], []⟩
def d__law_called : He.DefD := ⟨("_law_called", none), "_law_called", "_law_called", defArgs s_law_called, defBody s_law_called, defScope s_law_called, [], []⟩
def d__law_number : He.DefD := ⟨("_law_number", none), "_law_number", "_law_number", defArgs s_law_number, defBody s_law_number, defScope s_law_number, [], []⟩
def d__law_same : He.DefD := ⟨("_law_same", none), "_law_same", "_law_same", defArgs s_law_same, defBody s_law_same, defScope s_law_same, [], []⟩
def d__law_steps : He.DefD := ⟨("_law_steps", none), "_law_steps", "_law_steps", defArgs s_law_steps, defBody s_law_steps, defScope s_law_steps, [], []⟩
def d__law_ways : He.DefD := ⟨("_law_ways", none), "_law_ways", "_law_ways", defArgs s_law_ways, defBody s_law_ways, defScope s_law_ways, [], []⟩
def d__law_long : He.DefD := ⟨("_law_long", none), "_law_long", "_law_long", defArgs s_law_long, defBody s_law_long, defScope s_law_long, [], []⟩
def d__law_place : He.DefD := ⟨("_law_place", none), "_law_place", "_law_place", defArgs s_law_place, defBody s_law_place, defScope s_law_place, [], []⟩
def d__law_is_least : He.DefD := ⟨("_law_is_least", none), "_law_is_least", "_law_is_least", defArgs s_law_is_least, defBody s_law_is_least, defScope s_law_is_least, [], []⟩
def d__law_walk : He.DefD := ⟨("_law_walk", none), "_law_walk", "_law_walk", defArgs s_law_walk, defBody s_law_walk, defScope s_law_walk, [], []⟩
def d_law : He.DefD := ⟨("law", none), "law", "law", defArgs s_law, defBody s_law, defScope s_law, [], []⟩
def d_LeastDances__init__ : He.DefD := ⟨("LeastDances", some "__init__"), "__init__", "LeastDances.__init__", defArgs s_L__init__, defBody s_L__init__, defScope s_L__init__, [], []⟩
def d_LeastDancesdance : He.DefD := ⟨("LeastDances", some "dance"), "dance", "LeastDances.dance", defArgs s_Ldance, defBody s_Ldance, defScope s_Ldance, [], []⟩
def d_LeastDancesrank_of : He.DefD := ⟨("LeastDances", some "rank_of"), "rank_of", "LeastDances.rank_of", defArgs s_Lrank_of, defBody s_Lrank_of, defScope s_Lrank_of, [], []⟩
def d_LeastDancesdances : He.DefD := ⟨("LeastDances", some "dances"), "dances", "LeastDances.dances", defArgs s_Ldances, defBody s_Ldances, defScope s_Ldances, [], []⟩
def gAd (K : PySem.W.Frag) : Addr := match PySem.W.recIn K (He.ma K (He.ga K "LeastDances") "dance_count") "property" with
  | some (.ref g :: _) => g
  | _ => 0
def fnG (K : PySem.W.Frag) : He.FnW := match K.lookup (gAd K) with
  | some ⟨_, _, .func fd, _⟩ => some (fd.name, fd.qualname, fd.params, fd.body, fd.scope, fd.globals, fd.closure, fd.builtins)
  | _ => none
def recB (K : PySem.W.Frag) : Bool := match PySem.W.recIn K (He.ma K (He.ga K "LeastDances") "dance_count") "property" with
  | some (.ref _ :: _) => true
  | _ => false
def fnB (K : PySem.W.Frag) : Bool := PySem.W.keepIn K (.ref (gAd K)) && (match K.lookup (gAd K) with
  | some ⟨_, _, .func fd, _⟩ => PySem.W.codeIn K fd.code "LeastDances.dance_count" && (He.dflB K fd.defaults [] && He.kwdB K fd.kwdefaults [])
  | _ => false)
def prB (K : PySem.W.Frag) : Bool := He.eqO (PySem.W.findIn K (.ref (He.ga K "LeastDances")) "dance_count") (some (some (.ref (He.ma K (He.ga K "LeastDances") "dance_count")))) && (He.eqO (PySem.W.specialIn K (.ref (He.ma K (He.ga K "LeastDances") "dance_count")) "__get__") (some (some (.builtin "property.__get__"))) && (decide (PySem.W.takesIn K (.ref (He.ma K (He.ga K "LeastDances") "dance_count")) = some true) && (recB K && fnB K)))
def d_count : He.DefD := ⟨("LeastDances", some "dance_count"), "dance_count", "LeastDances.dance_count", defArgs s_Ldance_count, defBody s_Ldance_count, defScope s_Ldance_count, [], []⟩
theorem getFunD {K : PySem.W.Frag} (e : fnG K = d_count.val) (c : fnB K = true) : ∃ fd, FunD K d_count.name d_count.qual d_count.params d_count.body d_count.scope (d_count.dvs K) (d_count.kws K) (gAd K) fd := by
  obtain ⟨kp, c2⟩ := He.ba c
  unfold fnG at e
  cases q : K.lookup (gAd K) with
  | none =>
    rw [q] at c2
    cases c2
  | some o =>
    obtain ⟨oc, od, dt, osl⟩ := o
    rw [q] at c2 e
    cases dt with
    | func fd =>
      obtain ⟨n1, n2, n3, n4, n5, n6, n7, n8, n9, n10, n11, n12, n13, n14, n15⟩ := fd
      have e2 : (some (n1, n2, n3, n4, n5, n6, n7, n15) : He.FnW) = some (d_count.name, d_count.qual, d_count.params, .stmts d_count.body, d_count.scope, mainGlobals, [], builtinsNs) := e
      simp only [Option.some.injEq, Prod.mk.injEq] at e2
      obtain ⟨h1, h2, h3, h4, h5, h6, h7, h8⟩ := e2
      subst h1 h2 h3 h4 h5 h6 h7 h8
      have c3 : (PySem.W.codeIn K n13 d_count.qual && (He.dflB K n8 (d_count.dvs K) && He.kwdB K n9 (d_count.kws K))) = true := c2
      obtain ⟨k1, k2⟩ := He.ba c3
      obtain ⟨k3, k4⟩ := He.ba k2
      exact ⟨_, ⟨oc, od, n8, n9, n10, n11, n12, n13, n14, osl, rfl, q, k1, He.dflB_ok k3, He.kwdB_ok k4⟩, kp⟩
    | _ => cases c2
theorem prop_ok {K : PySem.W.Frag} (c : prB K = true) : PropOf K (He.ga K "LeastDances") "dance_count" (He.ma K (He.ga K "LeastDances") "dance_count") (gAd K) := by
  obtain ⟨c1, c⟩ := He.ba c
  obtain ⟨c2, c⟩ := He.ba c
  obtain ⟨c3, c⟩ := He.ba c
  obtain ⟨c4, _⟩ := He.ba c
  refine ⟨He.eqO_ok c1, He.eqO_ok c2, of_decide_eq_true c3, ?_⟩
  unfold recB at c4
  unfold gAd
  cases q : PySem.W.recIn K (He.ma K (He.ga K "LeastDances") "dance_count") "property" with
  | none => rw [q] at c4; cases c4
  | some l =>
    rw [q] at c4
    cases l with
    | nil => cases c4
    | cons v r =>
      cases v with
      | ref g => exact ⟨r, rfl⟩
      | _ => cases c4
def hookY (n : Nat) (fa : List He.Fa) (fn : List He.DefD) (ts : List He.Tab) (tf : List He.Defn) (ex : PySem.W.Frag → Bool) : PySem.W.Hook where
  α := He.AlX × He.FnW
  obs := fun s => (He.obsX n fa fn ts tf ex s.heap.get?, fnG (He.frT s.heap.get? (He.asD s.heap.get? n)))
  val := fun w => (He.valX fn ts w, d_count.val)
  says := fun w h => ∃ K : PySem.W.Frag, K.In h ∧ He.SaysX fa fn ts tf ex w h K ∧ fnG K = d_count.val
  of := fun _ _ e => ⟨_, He.frT_in, He.saysX_of (congrArg (fun z : He.AlX × He.FnW => z.1) e), congrArg (fun z : He.AlX × He.FnW => z.2) e⟩
  keeps := fun _ _ _ ⟨K, hK, c, d⟩ k => ⟨K, PySem.W.Frag.In.keeps hK k, ⟨c.t, c.more, c.hd, c.out, fun p hp => k _ _ (c.empty p hp)⟩, d⟩
theorem obsY_eq {n : Nat} {fa : List He.Fa} {fn : List He.DefD} {ts : List He.Tab} {tf : List He.Defn} {ex : PySem.W.Frag → Bool} {g : Addr → Option Obj} {s : Shared} (h : ∀ a, g a = s.heap.get? a) : ((He.obsX n fa fn ts tf ex g, fnG (He.frT g (He.asD g n))) : He.AlX × He.FnW) = (hookY n fa fn ts tf ex).obs s := by
  have e : g = s.heap.get? := funext h
  rw [e] <;> rfl
def dfs : List He.DefD := [d_after, d_turned, d_quotients, d_number, d_steps, d_runs, d_ways_on, d__law_tape, d__law_take, d__law_called, d__law_number, d__law_same, d__law_steps, d__law_ways, d__law_long, d__law_place, d__law_is_least, d__law_walk, d_law, d_LeastDances__init__, d_LeastDancesdance, d_LeastDancesrank_of, d_LeastDancesdances]
def fas : List He.Fa := [.glo "after", .glo "turned", .glo "quotients", .glo "number", .glo "steps", .glo "runs", .glo "ways_on", .glo "_law_tape", .glo "_law_take", .glo "_law_called", .glo "_law_number", .glo "_law_same", .glo "_law_steps", .glo "_law_ways", .glo "_law_long", .glo "_law_place", .glo "_law_is_least", .glo "_law_walk", .glo "law", .free "len", .free "abs", .free "int", .free "range", .free "isinstance", .free "tuple", .free "list", .free "str", .free "bool", .free "sum", .free "enumerate", .free "min", .cls "LeastDances", .noat "LeastDances" "fraction", .noat "LeastDances" "runs", .noat "LeastDances" "ways", .glo "LeastDances", .mkr "LeastDances", .meth "LeastDances" "dance", .meth "LeastDances" "rank_of", .meth "LeastDances" "dances"]
def tbs : List He.Tab := []
def tfs : List He.Defn := []
def exs (K : PySem.W.Frag) : Bool := prB K
abbrev Rw : PySem.W.OpenRow := PySem.W.OpenLaw.row PySem.Challenge.rw_ropedance_k20_whole_many_least_dances
abbrev hk : PySem.W.Hook := hookY 6 fas dfs tbs tfs exs
def ob (s : PySem.W.SharedT) : He.AlX × He.FnW := (He.obsX 6 fas dfs tbs tfs exs (HandSHeadRun.getT s), fnG (He.frT (HandSHeadRun.getT s) (He.asD (HandSHeadRun.getT s) 6)))
theorem ob_eq (s : PySem.W.SharedT) : ob s = hk.obs s.abs := obsY_eq (HandSHeadRun.getT_eq s)
theorem head_run (w : World) : HandSHeadRun.RunEq Rw (PySem.W.view Rw.prog [26]) hk ob 6000 ["after", "turned", "quotients", "number", "steps", "runs", "ways_on", "_law_tape", "_law_take", "_law_called", "_law_number", "_law_same", "_law_steps", "_law_ways", "_law_long", "_law_place", "_law_is_least", "_law_walk", "RopeError", "NoDance", "LeastDances"] w := by
  intro os
  kernel_rfl
theorem fun_of {K : PySem.W.Frag} {d : He.DefD} {f : Addr} {fd : FuncData} {st : Stmt} (h : FunD K d.name d.qual d.params d.body d.scope (d.dvs K) (d.kws K) f fd) (ha : d.params = defArgs st) (hb : d.body = defBody st) (hs : d.scope = defScope st) (h0 : d.dfl = []) (h1 : d.kwd = []) : Fun K d.name d.qual st f fd := by
  obtain ⟨oc, od, dV, kV, doc, pm, an, cdv, ct, osl, e, lk, cd, dfl, kw⟩ := h.ex
  have e0 : d.dvs K = [] := by unfold He.DefD.dvs; rw [h0]; rfl
  rw [e0] at dfl
  have ed : dV = .none := by
    rcases dfl with ⟨_, q⟩ | ⟨q, _⟩
    · exact q
    · exact absurd rfl q
  subst ed
  rw [ha, hb, hs] at e
  exact ⟨⟨oc, od, kV, doc, pm, an, cdv, ct, osl, e, lk, cd⟩, h.kp⟩
theorem spLaw_from (K : PySem.W.Frag) : ∀ (H : Hp) (a : Addr) (ns : List Int), ns.length ≤ 63 → (∀ z ∈ ns, Builtin.Int.intBits z ≤ 1048576) → (∀ p ∈ tfs.map (He.cT K), H p.2 = some (.tbl #[])) → SqL K H a (ns.map V.int) → spLawK K [.ref a] H (fun v _ => v = .bl true) fun _ _ _ => False :=
  fun H a ns hl _ hT hS => ⟨a, ns, rfl, hS, hl, fun _ => rfl⟩
theorem all_facts {P : Program} {w : World} {K : PySem.W.Frag} {h : Heap} {mg : Str → Option Value} {fa : Addr} (X : K.In h) (G : h.Ns mainGlobals mg) (hfa : mg ("law" : Str) = some (.ref fa)) (c : He.SaysX fas dfs tbs tfs exs w h K) (cg : fnG K = d_count.val) :
    ∃ fd : FuncData, (∀ (s : Shared) (v : Value), BindsTo s fd ⟨[v], []⟩ [("script", v)]) ∧ ∀ base : Heap, K.In base → base.Ns mainGlobals mg → (∀ p ∈ tfs.map (He.cT K), LamX.TabB base mg p.1 p.2) → FnOk P w K mg base CX0 7 fa fd ["script"] (spLawK K) := by
  have cd := c.t.d
  obtain ⟨fd0, G0⟩ := cd.def_ 0 (d := d_after) rfl
  have F_after : Fun K "after" "after" s_after _ fd0 := fun_of G0 rfl rfl rfl rfl rfl
  have m_after := He.glo_ok X G (cd.fact 0 (f := .glo "after") rfl)
  have b_after := F_after.binds (ps := ["fraction", "dance"]) fun _ _ _ _ _ _ us hl => match us, hl with | [_, _], _ => rfl
  obtain ⟨fd1, G1⟩ := cd.def_ 1 (d := d_turned) rfl
  have F_turned : Fun K "turned" "turned" s_turned _ fd1 := fun_of G1 rfl rfl rfl rfl rfl
  have m_turned := He.glo_ok X G (cd.fact 1 (f := .glo "turned") rfl)
  have b_turned := F_turned.binds (ps := ["p", "q"]) fun _ _ _ _ _ _ us hl => match us, hl with | [_, _], _ => rfl
  obtain ⟨fd2, G2⟩ := cd.def_ 2 (d := d_quotients) rfl
  have F_quotients : Fun K "quotients" "quotients" s_quotients _ fd2 := fun_of G2 rfl rfl rfl rfl rfl
  have m_quotients := He.glo_ok X G (cd.fact 2 (f := .glo "quotients") rfl)
  have b_quotients := F_quotients.binds (ps := ["fraction"]) fun _ _ _ _ _ _ us hl => match us, hl with | [_], _ => rfl
  obtain ⟨fd3, G3⟩ := cd.def_ 3 (d := d_number) rfl
  have F_number : Fun K "number" "number" s_number _ fd3 := fun_of G3 rfl rfl rfl rfl rfl
  have m_number := He.glo_ok X G (cd.fact 3 (f := .glo "number") rfl)
  have b_number := F_number.binds (ps := ["dance"]) fun _ _ _ _ _ _ us hl => match us, hl with | [_], _ => rfl
  obtain ⟨fd4, G4⟩ := cd.def_ 4 (d := d_steps) rfl
  have F_steps : Fun K "steps" "steps" s_steps _ fd4 := fun_of G4 rfl rfl rfl rfl rfl
  have m_steps := He.glo_ok X G (cd.fact 4 (f := .glo "steps") rfl)
  have b_steps := F_steps.binds (ps := ["fraction"]) fun _ _ _ _ _ _ us hl => match us, hl with | [_], _ => rfl
  obtain ⟨fd5, G5⟩ := cd.def_ 5 (d := d_runs) rfl
  have F_runs : Fun K "runs" "runs" s_runs _ fd5 := fun_of G5 rfl rfl rfl rfl rfl
  have m_runs := He.glo_ok X G (cd.fact 5 (f := .glo "runs") rfl)
  have b_runs := F_runs.binds (ps := ["fraction"]) fun _ _ _ _ _ _ us hl => match us, hl with | [_], _ => rfl
  obtain ⟨fd6, G6⟩ := cd.def_ 6 (d := d_ways_on) rfl
  have F_ways_on : Fun K "ways_on" "ways_on" s_ways_on _ fd6 := fun_of G6 rfl rfl rfl rfl rfl
  have m_ways_on := He.glo_ok X G (cd.fact 6 (f := .glo "ways_on") rfl)
  have b_ways_on := F_ways_on.binds (ps := ["all_runs"]) fun _ _ _ _ _ _ us hl => match us, hl with | [_], _ => rfl
  obtain ⟨fd7, G7⟩ := cd.def_ 7 (d := d__law_tape) rfl
  have F__law_tape : Fun K "_law_tape" "_law_tape" s_law_tape _ fd7 := fun_of G7 rfl rfl rfl rfl rfl
  have m__law_tape := He.glo_ok X G (cd.fact 7 (f := .glo "_law_tape") rfl)
  have b__law_tape := F__law_tape.binds (ps := ["script", "k"]) fun _ _ _ _ _ _ us hl => match us, hl with | [_, _], _ => rfl
  obtain ⟨fd8, G8⟩ := cd.def_ 8 (d := d__law_take) rfl
  have F__law_take : Fun K "_law_take" "_law_take" s_law_take _ fd8 := fun_of G8 rfl rfl rfl rfl rfl
  have m__law_take := He.glo_ok X G (cd.fact 8 (f := .glo "_law_take") rfl)
  have b__law_take := F__law_take.binds (ps := ["tape", "many"]) fun _ _ _ _ _ _ us hl => match us, hl with | [_, _], _ => rfl
  obtain ⟨fd9, G9⟩ := cd.def_ 9 (d := d__law_called) rfl
  have F__law_called : Fun K "_law_called" "_law_called" s_law_called _ fd9 := fun_of G9 rfl rfl rfl rfl rfl
  have m__law_called := He.glo_ok X G (cd.fact 9 (f := .glo "_law_called") rfl)
  have b__law_called := F__law_called.binds (ps := ["value", "letter"]) fun _ _ _ _ _ _ us hl => match us, hl with | [_, _], _ => rfl
  obtain ⟨fd10, G10⟩ := cd.def_ 10 (d := d__law_number) rfl
  have F__law_number : Fun K "_law_number" "_law_number" s_law_number _ fd10 := fun_of G10 rfl rfl rfl rfl rfl
  have m__law_number := He.glo_ok X G (cd.fact 10 (f := .glo "_law_number") rfl)
  have b__law_number := F__law_number.binds (ps := ["dance"]) fun _ _ _ _ _ _ us hl => match us, hl with | [_], _ => rfl
  obtain ⟨fd11, G11⟩ := cd.def_ 11 (d := d__law_same) rfl
  have F__law_same : Fun K "_law_same" "_law_same" s_law_same _ fd11 := fun_of G11 rfl rfl rfl rfl rfl
  have m__law_same := He.glo_ok X G (cd.fact 11 (f := .glo "_law_same") rfl)
  have b__law_same := F__law_same.binds (ps := ["told", "due"]) fun _ _ _ _ _ _ us hl => match us, hl with | [_, _], _ => rfl
  obtain ⟨fd12, G12⟩ := cd.def_ 12 (d := d__law_steps) rfl
  have F__law_steps : Fun K "_law_steps" "_law_steps" s_law_steps _ fd12 := fun_of G12 rfl rfl rfl rfl rfl
  have m__law_steps := He.glo_ok X G (cd.fact 12 (f := .glo "_law_steps") rfl)
  have b__law_steps := F__law_steps.binds (ps := ["value"]) fun _ _ _ _ _ _ us hl => match us, hl with | [_], _ => rfl
  obtain ⟨fd13, G13⟩ := cd.def_ 13 (d := d__law_ways) rfl
  have F__law_ways : Fun K "_law_ways" "_law_ways" s_law_ways _ fd13 := fun_of G13 rfl rfl rfl rfl rfl
  have m__law_ways := He.glo_ok X G (cd.fact 13 (f := .glo "_law_ways") rfl)
  have b__law_ways := F__law_ways.binds (ps := ["value"]) fun _ _ _ _ _ _ us hl => match us, hl with | [_], _ => rfl
  obtain ⟨fd14, G14⟩ := cd.def_ 14 (d := d__law_long) rfl
  have F__law_long : Fun K "_law_long" "_law_long" s_law_long _ fd14 := fun_of G14 rfl rfl rfl rfl rfl
  have m__law_long := He.glo_ok X G (cd.fact 14 (f := .glo "_law_long") rfl)
  have b__law_long := F__law_long.binds (ps := ["tape"]) fun _ _ _ _ _ _ us hl => match us, hl with | [_], _ => rfl
  obtain ⟨fd15, G15⟩ := cd.def_ 15 (d := d__law_place) rfl
  have F__law_place : Fun K "_law_place" "_law_place" s_law_place _ fd15 := fun_of G15 rfl rfl rfl rfl rfl
  have m__law_place := He.glo_ok X G (cd.fact 15 (f := .glo "_law_place") rfl)
  have b__law_place := F__law_place.binds (ps := ["tape", "many"]) fun _ _ _ _ _ _ us hl => match us, hl with | [_, _], _ => rfl
  obtain ⟨fd16, G16⟩ := cd.def_ 16 (d := d__law_is_least) rfl
  have F__law_is_least : Fun K "_law_is_least" "_law_is_least" s_law_is_least _ fd16 := fun_of G16 rfl rfl rfl rfl rfl
  have m__law_is_least := He.glo_ok X G (cd.fact 16 (f := .glo "_law_is_least") rfl)
  have b__law_is_least := F__law_is_least.binds (ps := ["dance", "value"]) fun _ _ _ _ _ _ us hl => match us, hl with | [_, _], _ => rfl
  obtain ⟨fd17, G17⟩ := cd.def_ 17 (d := d__law_walk) rfl
  have F__law_walk : Fun K "_law_walk" "_law_walk" s_law_walk _ fd17 := fun_of G17 rfl rfl rfl rfl rfl
  have m__law_walk := He.glo_ok X G (cd.fact 17 (f := .glo "_law_walk") rfl)
  have b__law_walk := F__law_walk.binds (ps := ["least", "begin", "many"]) fun _ _ _ _ _ _ us hl => match us, hl with | [_, _, _], _ => rfl
  obtain ⟨fd18, G18⟩ := cd.def_ 18 (d := d_law) rfl
  have F_law : Fun K "law" "law" s_law _ fd18 := fun_of G18 rfl rfl rfl rfl rfl
  have m_law := He.glo_ok X G (cd.fact 18 (f := .glo "law") rfl)
  have b_law := F_law.binds (ps := ["script"]) fun _ _ _ _ _ _ us hl => match us, hl with | [_], _ => rfl
  obtain ⟨fdM0, GM0⟩ := cd.def_ 19 (d := d_LeastDances__init__) rfl
  have F_L__init__ : Fun K "__init__" "LeastDances.__init__" s_L__init__ _ fdM0 := fun_of GM0 rfl rfl rfl rfl rfl
  have b_L__init__ := F_L__init__.binds (ps := ["self", "fraction"]) fun _ _ _ _ _ _ us hl => match us, hl with | [_, _], _ => rfl
  obtain ⟨fdM1, GM1⟩ := cd.def_ 20 (d := d_LeastDancesdance) rfl
  have F_Ldance : Fun K "dance" "LeastDances.dance" s_Ldance _ fdM1 := fun_of GM1 rfl rfl rfl rfl rfl
  have b_Ldance := F_Ldance.binds (ps := ["self", "rank"]) fun _ _ _ _ _ _ us hl => match us, hl with | [_, _], _ => rfl
  obtain ⟨fdM2, GM2⟩ := cd.def_ 21 (d := d_LeastDancesrank_of) rfl
  have F_Lrank_of : Fun K "rank_of" "LeastDances.rank_of" s_Lrank_of _ fdM2 := fun_of GM2 rfl rfl rfl rfl rfl
  have b_Lrank_of := F_Lrank_of.binds (ps := ["self", "dance"]) fun _ _ _ _ _ _ us hl => match us, hl with | [_, _], _ => rfl
  obtain ⟨fdM3, GM3⟩ := cd.def_ 22 (d := d_LeastDancesdances) rfl
  have F_Ldances : Fun K "dances" "LeastDances.dances" s_Ldances _ fdM3 := fun_of GM3 rfl rfl rfl rfl rfl
  have b_Ldances := F_Ldances.binds (ps := ["self", "start"]) fun _ _ _ _ _ _ us hl => match us, hl with | [_, _], _ => rfl
  have y_len := He.free_ok X G (cd.fact 19 (f := .free "len") rfl)
  have y_abs := He.free_ok X G (cd.fact 20 (f := .free "abs") rfl)
  have y_int := He.free_ok X G (cd.fact 21 (f := .free "int") rfl)
  have y_range := He.free_ok X G (cd.fact 22 (f := .free "range") rfl)
  have y_isinstance := He.free_ok X G (cd.fact 23 (f := .free "isinstance") rfl)
  have y_tuple := He.free_ok X G (cd.fact 24 (f := .free "tuple") rfl)
  have y_list := He.free_ok X G (cd.fact 25 (f := .free "list") rfl)
  have y_str := He.free_ok X G (cd.fact 26 (f := .free "str") rfl)
  have y_bool := He.free_ok X G (cd.fact 27 (f := .free "bool") rfl)
  have y_sum := He.free_ok X G (cd.fact 28 (f := .free "sum") rfl)
  have y_enumerate := He.free_ok X G (cd.fact 29 (f := .free "enumerate") rfl)
  have y_min := He.free_ok X G (cd.fact 30 (f := .free "min") rfl)
  have fa0 := cd.fact 31 (f := .cls "LeastDances") rfl
  have fa1 := cd.fact 32 (f := .noat "LeastDances" "fraction") rfl
  have fa2 := cd.fact 33 (f := .noat "LeastDances" "runs") rfl
  have fa3 := cd.fact 34 (f := .noat "LeastDances" "ways") rfl
  have fa4 := cd.fact 35 (f := .glo "LeastDances") rfl
  have fa5 := cd.fact 36 (f := .mkr "LeastDances") rfl
  have fa6 := cd.fact 37 (f := .meth "LeastDances" "dance") rfl
  have fa7 := cd.fact 38 (f := .meth "LeastDances" "rank_of") rfl
  have fa8 := cd.fact 39 (f := .meth "LeastDances" "dances") rfl
  have e := hfa.symm.trans m_law
  cases e
  refine ⟨fd18, fun s v => ?_, fun base KB GB TB => ?_⟩
  · obtain ⟨oc, od, kV, doc, pm, an, cdv, ct, osl, e, _⟩ := F_law.ex
    rw [e]
    exact .of_eq rfl
  have moP := c.more
  unfold exs at moP
  have D_tape : Dfn P w K mg base "_law_tape" 1 _ (spTape K) := ⟨_, _, ok_tape F__law_tape y_len y_abs y_int, m__law_tape, F__law_tape.kp, b__law_tape⟩
  have D_take : Dfn P w K mg base "_law_take" 1 _ spTake := ⟨_, _, ok_take F__law_take y_int, m__law_take, F__law_take.kp, b__law_take⟩
  have D_called : Dfn P w K mg base "_law_called" 1 _ (spCalled K) := ⟨_, _, ok_called F__law_called, m__law_called, F__law_called.kp, b__law_called⟩
  have D_number : Dfn P w K mg base "_law_number" 2 _ (spNumber K) := ⟨_, _, ok_number F__law_number D_called, m__law_number, F__law_number.kp, b__law_number⟩
  have D_same0 : Dfn P w K mg base "_law_same" 0 _ (spSame 0) := ⟨_, _, none_same, m__law_same, F__law_same.kp, b__law_same⟩
  have D_same1 : Dfn P w K mg base "_law_same" 1 _ (spSame 1) := ⟨_, _, ok_same F__law_same D_same0 y_isinstance y_tuple y_list y_len y_range y_str y_int y_bool, m__law_same, F__law_same.kp, b__law_same⟩
  have D_turned : Dfn P w K mg base "turned" 1 _ spTurned := ⟨_, _, ok_turned F_turned, m_turned, F_turned.kp, b_turned⟩
  have D_after : Dfn P w K mg base "after" 2 _ spAfter := ⟨_, _, ok_after F_after D_turned, m_after, F_after.kp, b_after⟩
  have D_num : Dfn P w K mg base "number" 3 _ spNum := ⟨_, _, ok_num F_number D_after , m_number, F_number.kp, b_number⟩
  have D_quotients : Dfn P w K mg base "quotients" 1 _ (spQuo K) := ⟨_, _, ok_quotients F_quotients y_abs , m_quotients, F_quotients.kp, b_quotients⟩
  have D_steps : Dfn P w K mg base "steps" 2 _ spSteps := ⟨_, _, ok_steps F_steps D_quotients y_sum y_len , m_steps, F_steps.kp, b_steps⟩
  have D_runs : Dfn P w K mg base "runs" 2 _ spRuns := ⟨_, _, ok_runs F_runs D_quotients y_enumerate , m_runs, F_runs.kp, b_runs⟩
  have D_ways_on : Dfn P w K mg base "ways_on" 1 _ spWaysOn := ⟨_, _, ok_ways_on F_ways_on y_range y_len , m_ways_on, F_ways_on.kp, b_ways_on⟩
  have D_law_steps : Dfn P w K mg base "_law_steps" 1 _ spSteps := ⟨_, _, ok_law_steps F__law_steps y_abs y_int , m__law_steps, F__law_steps.kp, b__law_steps⟩
  have D__law_long : Dfn P w K mg base "_law_long" 2 _ spLongF := ⟨_, _, ok__law_long F__law_long D_take y_range , m__law_long, F__law_long.kp, b__law_long⟩
  have D__law_ways : Dfn P w K mg base "_law_ways" 3 _ spLWays := ⟨_, _, ok__law_ways F__law_ways (D_law_steps.mono (by decide)) (D_called.mono (by decide)) y_range y_list , m__law_ways, F__law_ways.kp, b__law_ways⟩
  have D__law_is_least : Dfn P w K mg base "_law_is_least" 3 _ spIsLeast := ⟨_, _, ok__law_is_least F__law_is_least D_number (D_law_steps.mono (by decide)) y_len y_isinstance y_str , m__law_is_least, F__law_is_least.kp, b__law_is_least⟩
  have D__law_place : Dfn P w K mg base "_law_place" 2 _ spLPlace := ⟨_, _, ok__law_place F__law_place D_take y_range y_int , m__law_place, F__law_place.kp, b__law_place⟩
  have TLd : TxL K mg (He.ga K "LeastDances") := ⟨He.cls_ok fa0, He.noat_ok fa1, He.noat_ok fa2, He.noat_ok fa3, He.glo_ok X G fa4⟩
  have PR := prop_ok moP
  have moF : fnB K = true := by
    obtain ⟨_, h⟩ := He.ba moP
    obtain ⟨_, h⟩ := He.ba h
    obtain ⟨_, h⟩ := He.ba h
    exact (He.ba h).2
  obtain ⟨fdC, GCD⟩ := getFunD cg moF
  have F_Ldance_count : Fun K "dance_count" "LeastDances.dance_count" s_Ldance_count _ fdC := fun_of GCD rfl rfl rfl rfl rfl
  have b_Ldance_count := F_Ldance_count.binds (ps := ["self"]) fun _ _ _ _ _ _ us hl => match us, hl with | [_], _ => rfl
  have GC := ok_Ldance_count (P := P) (w := w) (mg := mg) (base := base) F_Ldance_count TLd 
  have GI := ok_L__init__ (P := P) (w := w) (base := base) F_L__init__ TLd D_runs (D_ways_on.mono (by decide))
  have ML := He.mkr_ok fa5
  have GD := ok_Ldance (P := P) (w := w) (base := base) F_Ldance TLd y_len PR GC b_Ldance_count
  have GR := ok_Lrank_of (P := P) (w := w) (base := base) F_Lrank_of TLd D_num (D_steps.mono (by decide)) y_len
  have DM_dance : MDfnL P w K mg base (He.ga K "LeastDances") "dance" 3 ["self", "rank"] (spDanceL (He.ga K "LeastDances")) := ⟨_, _, GD, b_Ldance, He.meth_ok fa6⟩
  have DM_rank_of : MDfnL P w K mg base (He.ga K "LeastDances") "rank_of" 4 ["self", "dance"] (spRankL (He.ga K "LeastDances")) := ⟨_, _, GR, b_Lrank_of, He.meth_ok fa7⟩
  have D__law_walk : Dfn P w K mg base "_law_walk" 6 _ (spWalk (He.ga K "LeastDances")) := ⟨_, _, ok__law_walk F__law_walk y_len y_range y_min TLd F_Ldances b_Ldances (He.meth_ok fa8) PR GC b_Ldance_count DM_dance, m__law_walk, F__law_walk.kp, b__law_walk⟩
  exact ok_law F_law (D_tape.mono (by decide)) (D__law_long.mono (by decide)) (D__law_ways.mono (by decide)) (D_same1.mono (by decide)) (D__law_place.mono (by decide)) (D__law_is_least.mono (by decide)) y_range D__law_walk TLd PR GC b_Ldance_count ML GI b_L__init__ DM_dance DM_rank_of
end Rope
open PySem PySem.W PySem.Calls PyProof.Rows
set_option maxRecDepth 100000 in
set_option maxHeartbeats 0 in
theorem PySem.Challenge.cw_ropedance_k20_whole_many_least_dances_holds : PySem.Challenge.rw_ropedance_k20_whole_many_least_dances.Holds := by
  w_on; o_law
  refine HandSHeadRun.head_any (r := OpenLaw.row PySem.Challenge.rw_ropedance_k20_whole_many_least_dances) (q := view (OpenLaw.row PySem.Challenge.rw_ropedance_k20_whole_many_least_dances).prog [26]) (H := Rope.hk) (ob := Rope.ob) (M := 6000) (loose := ["after", "turned", "quotients", "number", "steps", "runs", "ways_on", "_law_tape", "_law_take", "_law_called", "_law_number", "_law_same", "_law_steps", "_law_ways", "_law_long", "_law_place", "_law_is_least", "_law_walk", "RopeError", "NoDance", "LeastDances"]) (d := HandSHeadRun.topDef (OpenLaw.row PySem.Challenge.rw_ropedance_k20_whole_many_least_dances).prog 26) (kwd := []) Rope.ob_eq
    (by kernel_rfl) (fun s => by kernel_rfl) Rope.head_run (by kernel_rfl) (by kernel_rfl) (by kernel_rfl) (by rfl) (by first | assumption | decide +kernel) (by decide +kernel) ⟨rfl, rfl, rfl, rfl, rfl, by decide +kernel⟩ ?hw ?hc
  case hw => w_witness2
  case hc =>
    refine LamX.walk_ofTsE (l := PySem.Challenge.rw_ropedance_k20_whole_many_least_dances) (n := 63) (k := 7) (x := "script") (CX := fun _ => L2.CX0) rfl (by decide) (by kernel_rfl) ⟨rfl, by decide, by decide⟩ ?F (fun _ _ _ _ _ z => z)
    intro w mg fa h Y G hmg0
    obtain ⟨K, KX, c, cg⟩ := Y
    have hmg : mg ("law" : PySem.Str) = some (.ref fa) := by
      have e : (HandSHeadRun.topDef (OpenLaw.row PySem.Challenge.rw_ropedance_k20_whole_many_least_dances).prog 26).name = ("law" : PySem.Str) := by kernel_rfl
      rw [← e]
      exact hmg0
    obtain ⟨fd, hb, hF⟩ := Rope.all_facts (P := (PySem.Challenge.rw_ropedance_k20_whole_many_least_dances).prog) (w := w) KX G hmg c cg
    refine ⟨K, KX, fd, Rope.tfs.map (He.cT K), Rope.spLawK K, fun p hp => ?_, fun p hp => ?_, fun p hp => ?_, hb, Rope.spLaw_from K, hF⟩
    · obtain ⟨x, hx, rfl⟩ := List.mem_map.mp hp
      exact c.empty x hx
    · obtain ⟨x, hx, rfl⟩ := List.mem_map.mp hp
      exact c.out x hx
    · obtain ⟨x, hx, rfl⟩ := List.mem_map.mp hp
      exact PySem.W.codeHd_of_K KX (c.hd x hx)
