import PyProof.Rows.All
import Wide.All
import OpenK.AllK
import Wide.FinOn
import PyProof.StrBlock2
import HandS.ForMost
import HandS.Wide
import HandS.IsInst
import HandS.Exc
import HandS.ExcOwn
import HandS.ExcCtx
import HandS.ExcIs
import HandS.Hot
import HandS.WordsExc
import HandS.Gcd
import HandS.AnyAll
import HandS.Style
import HandS.More
import PyProof.GenCompT
import PyProof.WalksPairs
import HandS.List
import HandS.Conv
import PyProof.ListStr
import PyProof.EvalArms
import HandS.Dict
import HandS.TupLe
import HandS.WideBits
import HandS.RevRange
import HandS.Deep
import HandS.Strs
import HandS.Walk
import HandS.Property
import HandS.Words
import HandS.TryOnly
import HandS.ListEq
import HandS.SetFor
import HandS.HeadHook4
import HandS.HeadEnd
import HandS.HeadWalk
import HandS.Head0
import HandS.Head1
import HandS.Head2
import HandS.Head3
import PySem.Challenge.RW_ropedance_k23_whole_undone
set_option Elab.async false
set_option linter.all false
set_option maxRecDepth 100000
set_option maxHeartbeats 4000000
namespace Rope
open PySem L2


/-! ### texts as lists of codes -/
def S (l : List Nat) : Str := ⟨l.toArray⟩
theorem S_len (l : List Nat) : (S l).length = l.length := by simp [S, Str.length]
theorem S_list (l : List Nat) : (S l).cps.toList = l := by simp [S]
theorem S_size (l : List Nat) : (S l).cps.size = l.length := by simp [S]
theorem S_get (l : List Nat) (i : Nat) : (S l).cps[i]? = l[i]? := by simp [S]
theorem S_inj {l m : List Nat} (h : S l = S m) : l = m := by
  have := congrArg (fun z : Str => z.cps.toList) h
  simpa [S] using this
theorem S_app (l m : List Nat) : S l ++ S m = S (l ++ m) := by
  show Str.append (S l) (S m) = S (l ++ m)
  simp [Str.append, S]
theorem S_mul (l : List Nat) (n : Int) : Txt.mul (S l) n = S (List.replicate n.toNat l).flatten := by
  unfold Txt.mul
  by_cases h1 : n < 1
  · rw [if_pos h1]
    have : n.toNat = 0 := by omega
    rw [this]
    rfl
  · rw [if_neg h1]
    by_cases h2 : (n == 1 || (S l).length == 0) = true
    · rw [if_pos h2]
      simp only [Bool.or_eq_true, beq_iff_eq] at h2
      rcases h2 with h2 | h2
      · subst h2
        show S l = S (List.replicate 1 l).flatten
        simp
      · rw [S_len] at h2
        have : l = [] := List.eq_nil_of_length_eq_zero h2
        subst this
        simp
    · rw [if_neg h2]
      have aux : ∀ (k : Nat) (a : Array Nat), ((List.replicate k (S l).cps).foldl (· ++ ·) a).toList = a.toList ++ (List.replicate k l).flatten := by
        intro k
        induction k with
        | zero => intro a; simp
        | succ k ih =>
          intro a
          rw [List.replicate_succ, List.foldl_cons, ih, List.replicate_succ, List.flatten_cons, Array.toList_append, List.append_assoc, S_list]
      have := aux n.toNat #[]
      unfold S
      congr 1
      apply Array.toList_inj.mp
      rw [show S l = (⟨l.toArray⟩ : Str) from rfl] at this
      rw [this]
      simp
theorem S_cut (l : List Nat) (lo hi : Option Int) : cutS (S l) lo hi = S ((l.drop (HT.sIx l.length 0 lo)).take (HT.sIx l.length l.length hi - HT.sIx l.length 0 lo)) := by
  unfold cutS
  rw [S_len, S_list]
  rfl
theorem S_take (l : List Nat) {m : Int} (h : 0 ≤ m) : cutS (S l) none (some m) = S (l.take m.toNat) := by
  obtain ⟨k, rfl⟩ := Int.eq_ofNat_of_zero_le h
  rw [S_cut, HT.sIx_none, HT.sIx_nat, List.drop_zero, Nat.sub_zero, Int.toNat_natCast]
  congr 1
  by_cases h2 : k ≤ l.length
  · rw [Nat.min_eq_left h2]
  · rw [Nat.min_eq_right (by omega), List.take_of_length_le (Nat.le_refl _), List.take_of_length_le (by omega)]
theorem S_drop (l : List Nat) {m : Int} (h : 0 ≤ m) : cutS (S l) (some m) none = S (l.drop m.toNat) := by
  obtain ⟨k, rfl⟩ := Int.eq_ofNat_of_zero_le h
  rw [S_cut, HT.sIx_none, HT.sIx_nat, Int.toNat_natCast]
  congr 1
  rw [List.take_of_length_le (by simp)]
  by_cases h2 : k ≤ l.length
  · rw [Nat.min_eq_left h2]
  · rw [Nat.min_eq_right (by omega), List.drop_length, List.drop_eq_nil_of_le (by omega)]
/-- a text times an int -/
theorem op_mul_str {X : Cx} : OpR X (binaryOp .Mult) (fun x y H Q => ∃ (l : List Nat) (n : Int), x = .str (S l) ∧ y = .int n ∧ 0 ≤ n ∧ n < 2 ^ 62 ∧ l.length * n.toNat ≤ 16777215 ∧ Q (.str (S (List.replicate n.toNat l).flatten)) H) := by
  intro pins s σ H x y v u Q I rx ry h
  obtain ⟨l, n, rfl, rfl, h0, h1, h2, q⟩ := h
  obtain ⟨t, rfl⟩ := rx
  obtain ⟨t', rfl⟩ := ry
  have e1 : decide (n < -(2 ^ 63 : Int)) = false := decide_eq_false (by omega)
  have e2 : decide (n ≥ 2 ^ 63) = false := decide_eq_false (by omega)
  refine SB.mul ⟨by rw [e1, e2]; rfl, fun z1 z2 => ?_, fun z1 z2 => ?_⟩ fun t' k => ⟨.str _, H, I.tok _, ⟨_, rfl⟩, by rw [S_mul]; exact q⟩
  · rw [S_len]
    have h3 : (l.length : Int) * n ≤ 16777215 := by
      have : ((l.length * n.toNat : Nat) : Int) ≤ 16777215 := Int.ofNat_le.mpr h2
      rw [Int.natCast_mul, Int.toNat_of_nonneg h0] at this
      exact this
    have hn : 0 < n := by omega
    intro hc
    have hc' : (2 ^ 63 - 1) / n < (l.length : Int) := hc
    have := (Int.ediv_lt_iff_lt_mul hn).mp hc'
    omega
  · rw [S_len]
    unfold Builtin.Str.tooLong
    rw [sizeLine_eq]
    exact decide_eq_false (by omega)
/-! ### the calls: a fraction by a letter -/
def called (v : Int × Int) (c : Nat) : Int × Int :=
  if c = 84 then (v.1 + v.2, v.2) else if c = 85 then (v.1 - v.2, v.2) else if 0 < v.1 then (0 - v.2, v.1) else if v.1 < 0 then (v.2, 0 - v.1) else (1, 0)
def run (v : Int × Int) (l : List Nat) : Int × Int := l.foldl called v
theorem run_nil (v : Int × Int) : run v [] = v := rfl
theorem run_app (v : Int × Int) (l m : List Nat) : run v (l ++ m) = run (run v l) m := List.foldl_append
theorem run_take {l : List Nat} {i c : Nat} (v : Int × Int) (h : l[i]? = some c) : run v (l.take (i + 1)) = called (run v (l.take i)) c := by
  rw [List.take_add_one, h, run_app]
  rfl
/-- what a fraction of the laws keeps: q positive or infinite, no common divisor -/
def Good (v : Int × Int) : Prop := (0 < v.2 ∨ v = (1, 0)) ∧ Int.gcd v.1 v.2 = 1
theorem Good.zero : Good (0, 1) := ⟨.inl (by decide), by decide⟩
theorem gcd_add' (p q : Int) : Int.gcd (p + q) q = Int.gcd p q := by
  have := Int.gcd_add_mul_right_left p q 1
  simpa using this
theorem Good.called {v : Int × Int} (h : Good v) (c : Nat) : Good (called v c) := by
  obtain ⟨p, q⟩ := v
  obtain ⟨h1, h2⟩ := h
  simp only at h1 h2
  unfold Rope.called
  by_cases c1 : c = 84
  · rw [if_pos c1]
    refine ⟨?_, ?_⟩
    · rcases h1 with h1 | h1
      · exact .inl h1
      · cases h1; exact .inr rfl
    · show Int.gcd (p + q) q = 1
      rw [gcd_add']; exact h2
  rw [if_neg c1]
  by_cases c2 : c = 85
  · rw [if_pos c2]
    refine ⟨?_, ?_⟩
    · rcases h1 with h1 | h1
      · exact .inl h1
      · cases h1; exact .inr rfl
    · show Int.gcd (p - q) q = 1
      have := gcd_add' (p - q) q
      rw [Int.sub_add_cancel] at this
      rw [← this]; exact h2
  rw [if_neg c2]
  by_cases c3 : 0 < p
  · rw [if_pos (show 0 < (p, q).1 from c3)]
    refine ⟨.inl c3, ?_⟩
    show Int.gcd (0 - q) p = 1
    rw [Int.zero_sub, Int.neg_gcd, Int.gcd_comm]; exact h2
  rw [if_neg (show ¬ 0 < (p, q).1 from c3)]
  by_cases c4 : p < 0
  · rw [if_pos (show (p, q).1 < 0 from c4)]
    refine ⟨.inl (by show 0 < 0 - p; omega), ?_⟩
    show Int.gcd q (0 - p) = 1
    rw [Int.zero_sub, Int.gcd_neg, Int.gcd_comm]; exact h2
  rw [if_neg (show ¬ (p, q).1 < 0 from c4)]
  exact ⟨.inr rfl, by decide⟩
theorem good_run : ∀ (l : List Nat) {v : Int × Int}, Good v → Good (run v l)
  | [], _, h => h
  | c :: r, _, h => good_run r (h.called c)
/-- its size grows by a bit a letter -/
theorem called_size {v : Int × Int} {n : Nat} (h1 : v.1.natAbs ≤ n) (h2 : v.2.natAbs ≤ n) (h0 : 1 ≤ n) (c : Nat) : (called v c).1.natAbs ≤ 2 * n ∧ (called v c).2.natAbs ≤ 2 * n := by
  unfold called
  repeat' split
  all_goals simp only
  all_goals omega
theorem run_size : ∀ (l : List Nat) {v : Int × Int} {n : Nat}, v.1.natAbs ≤ n → v.2.natAbs ≤ n → 1 ≤ n → (run v l).1.natAbs ≤ 2 ^ l.length * n ∧ (run v l).2.natAbs ≤ 2 ^ l.length * n
  | [], v, n, h1, h2, _ => by simpa [run] using ⟨h1, h2⟩
  | c :: r, v, n, h1, h2, h0 => by
    have q := called_size h1 h2 h0 c
    have ih := run_size r q.1 q.2 (by omega)
    have e : 2 ^ (c :: r).length * n = 2 ^ r.length * (2 * n) := by
      rw [List.length_cons, Nat.pow_succ, Nat.mul_assoc]
    rw [e]
    exact ih
/-! ### the divisor -/
theorem gcd_step (x y : Int) : Nat.gcd y.natAbs (x.fmod y).natAbs = Nat.gcd x.natAbs y.natAbs := by
  show Int.gcd y (x.fmod y) = Int.gcd x y
  have e : x.fmod y = x + y * (-(x.fdiv y)) := by
    have := Int.fmod_def x y
    rw [this, Int.mul_neg]
    rfl
  rw [e, Int.gcd_add_mul_left_right, Int.gcd_comm]
theorem fmod_less {x y : Int} (h : y ≠ 0) : (x.fmod y).natAbs < y.natAbs := by
  by_cases h0 : 0 < y
  · rw [Int.fmod_eq_emod_of_nonneg x (by omega)]
    have h1 := Int.emod_nonneg x h
    have h2 := Int.emod_lt_of_pos x h0
    omega
  · have e : x.fmod y = -((-x).fmod (-y)) := by
      have := Int.neg_fmod_neg (a := x) (b := y)
      omega
    rw [e, Int.fmod_eq_emod_of_nonneg _ (by omega)]
    have h1 := Int.emod_nonneg (-x) (b := -y) (by omega)
    have h2 := Int.emod_lt_of_pos (-x) (b := -y) (by omega)
    omega
/-- for letter in text -/
theorem for_str {l : List Nat} {g : TG} {tb : TS} {D : Ends} {σ : L2.St} {H : Hp} (Pv : Nat → L2.St → Hp → Prop) (h0 : Pv 0 σ H)
    (hs : ∀ i c σ H, l[i]? = some c → Pv i σ H → g (.str (S [c])) σ H fun σ2 H2 => tb { D with nx := Pv (i + 1), ct := Pv (i + 1), bk := D.nx } σ2 H2) (hd : ∀ σ H, Pv l.length σ H → D.nx σ H) :
    ∃ W : Nat → Nat → L2.St → Hp → Prop, (∃ m, W 0 m σ H) ∧ ∀ i m σ H, W i m σ H →
      ((Its (S l)).stop i H ∧ D.nx σ H) ∨ ((Its (S l)).go i H ∧ ∃ N : L2.St → Hp → Prop, (∀ σ' H', N σ' H' → ∃ m', m' < m ∧ W (i + 1) m' σ' H') ∧ ∀ x H', (Its (S l)).yld i H x H' → g x σ H' fun σ2 H2 => tb { D with nx := N, ct := N, bk := D.nx } σ2 H2) := by
  refine ⟨fun i m σ H => m = l.length - i ∧ i ≤ l.length ∧ Pv i σ H, ⟨l.length, by simp, Nat.zero_le _, h0⟩, ?_⟩
  rintro i m σ H ⟨rfl, hi, p⟩
  by_cases hlt : i < l.length
  · refine .inr ⟨by show i < (S l).cps.size; rw [S_size]; exact hlt, Pv (i + 1), fun σ' H' p' => ⟨l.length - (i + 1), by omega, rfl, hlt, p'⟩, fun x H' y => ?_⟩
    obtain ⟨e, c, hc, rfl⟩ := y
    subst e
    rw [S_get] at hc
    exact hs i c σ _ hc p
  · have e : i = l.length := by omega
    subst e
    exact .inl ⟨by show (S l).cps.size ≤ l.length; rw [S_size]; exact Nat.le_refl _, hd σ H p⟩

section
open PySem.F HotX
variable {prog : Program} {w : World} {A : Around} {E : Value → Shared → Prop} {s : Shared}
/-- the end of a list's walk while an exception is handled -/
theorem list_end_hot {it l x1 : Addr} {i : Nat} {items : Array Value} {Q : Option Value → Shared → Prop} (hot : HotAt A x1 s.heap) (hne : x1 ≠ it)
    (hit : s.heap.IsListIter it l i) (hl : s.heap.IsList l items) (hx : items[i]? = none)
    (hQ : ∀ h', Heap.ExtBut it s.heap h' → Q none { s with heap := h' }) : wpAny (model prog w) A (pyNext (.ref it)) Q E s := by
  obtain ⟨io, iAt, _, iDat⟩ := id hit
  obtain ⟨lo, lAt, _, ln, lDat⟩ := hl
  obtain ⟨he, xo, xv, xAt, xDat, xCtx⟩ := hot
  have typ := hit.typeIs
  unfold pyNext
  refine wpAny_bind (wpAny_attempt (wpAny_callSpecial?_slot (name := Str.ofString "__next__") typ slot_listiter_next (wpAny_call_entry slot_listiter_next typ entry_listiter_next ?body (args_listiter_next _))))
  -- the list, the place, the items: nothing is left
  show wpAny _ _ (field (.ref it) 0 >>= _) _ _ s; refine wpAny_bind (wpAny_field iAt iDat (x := .ref l) rfl ?_)
  show wpAny _ _ (if (Value.ref l == Value.none) = true then _ else _) _ _ s; rw [if_neg (show ¬ ((Value.ref l == Value.none) = true) from Bool.false_ne_true)]
  show wpAny _ _ (field (.ref it) 1 >>= _) _ _ s; refine wpAny_bind (wpAny_field iAt iDat (x := .int i 0) rfl ?_)
  show wpAny _ _ (seqItems? (.ref l) >>= _) _ _ s; refine wpAny_bind (wpAny_seqItems lAt lDat ?_); simp only [Int.toNat_natCast, hx]
  refine wpAny_bind (wpAny_rule (wpAny_bind (wpAny_setField iAt iDat (by simp) ?stop)))
  -- StopIteration is made and raised on top of the one that is handled
  show wpAny _ _ (newExc (.type "StopIteration") [] >>= _) _ _ _; refine wpAny_bind ?_; simp only [newExc, newTuple]
  refine wpAny_bind (wpAny_newObj_type (wpAny_bind (m := firstArgMember _ _) (wpAny_of_eq (a := Value.none) (by first | rfl | (simp only [firstArgMember]; rfl)) (wpAny_newObj_type ?_ (by size_fits)))) (by size_fits))
  have kept := (Heap.get?_update_other s.heap (Obj.mapFields (·.setIfInBounds 0 .none)) hne.symm).trans xAt
  have far := Heap.lt_size (Heap.get?_push_of_some { cls := .type "tuple", data := .seq #[] } kept)
  refine raiseNew_hot ⟨he, xo, xv, Heap.get?_push_of_some _ (Heap.get?_push_of_some _ kept), xDat, xCtx⟩ (Nat.ne_of_lt far) (Heap.get?_push_size _ rfl) rfl (by first | (simp; done) | (simp; omega) | (simp only [Array.size_append]; simp; omega)) ?_
  refine wpAny_bind (wpAny_isInstance (T := "StopIteration") (b := true) ⟨_, Heap.get?_update_self _ (Heap.get?_push_size _ rfl) rfl, rfl⟩ isSubtype_stop (wpAny_pure (hQ _ fun c u hc e => ?_)))
  have e2 := (Heap.SameBut.update s.heap it (Obj.mapFields (·.setIfInBounds 0 .none))).extBut c u hc e
  have e3 := Heap.get?_push_of_some { cls := .type "tuple", data := .seq #[] } e2
  exact (Heap.get?_update_other _ _ (Nat.ne_of_gt (Heap.lt_size e3))).trans (Heap.get?_push_of_some _ e3)
end
/-- a list walked while an exception is handled -/
theorem walks_list_hot {prog : Program} {w : World} {A : Around} {x1 : Addr} {o1 : Obj} {vs1 : Array Value} (hh : A.handled = some (.ref x1)) (d1 : o1.data = .fields vs1) (c1 : vs1[2]? = some .none) (I ax : Addr) (hne : ax ≠ I) (h1I : x1 ≠ I) (items : Array Value) :
    Walks prog w A I [I, ax, x1] [I] items.size (fun i v => items[i]? = some v) (fun i h => h.IsListIter I ax i ∧ h.IsList ax items ∧ h.get? x1 = some o1) where
  sub := fun b hb => by simp at hb; simp [hb]
  frame := fun _ _ _ st hk => ⟨st.1.at fun o e => hk I (by simp) o e, st.2.1.at fun o e => hk ax (by simp) o e, hk x1 (by simp) _ st.2.2⟩
  item := fun i s Q E hi st hQ => by
    exact wpAny_pyNext_list_item st.1 st.2.1 (x := items[i]) (by simp [hi]) fun h' hit' hs' => hQ _ h' s.toks (by simp [hi]) ⟨hit', st.2.1.extBut hs'.extBut hne, hs'.extBut x1 _ h1I st.2.2⟩ fun b o hb e => hs'.extBut b o (fun h => hb (by simp [h])) e
  done := fun s Q E st hQ => list_end_hot ⟨hh, o1, vs1, st.2.2, d1, c1⟩ h1I st.1 st.2.1 (by simp) fun h' he' => hQ h' s.toks fun b o hb e => he' b o (fun h => hb (by simp [h])) e
  self := fun _ _ _ _ st hQ => wpAny_pyIter_listiter st.1 hQ
section
variable {X : Cx} {a : Addr} {oe : Obj} {cls : Value} {d : Option Addr} {pn : List (Addr × Obj)}
/-- any(list of bools) within an except suite -/
theorem any_hot (hz : L2N.Zn cls d oe) (hf : ∃ vs, oe.data = .fields vs) : CallR (X.suite a ((a, oe) :: pn)) (.builtin "any") (rAny X.K) := fun pins s σ H vs us Q I r ⟨b, bs, ev, hs, q⟩ => by
  subst ev
  obtain ⟨its, rv, hl, _⟩ := Inv.list I hs
  obtain ⟨fv, hd⟩ := hf
  have here := (I.pin (a, oe) (List.mem_append_left _ List.mem_cons_self)).1
  have lt := Heap.lt_size here
  rw [Vals.ref1 r]
  have items := rv.bls
  refine call_any_walk (iter_any hl.isList fun z ez st ne => ?_); subst ez
  refine ⟨_, _, _, _, _, _, _, rfl, walks_list_hot (A := (X.suite a ((a, oe) :: pn)).A.in1) (x1 := a) (o1 := oe) rfl hd (hz.2.2 fv hd) _ b ne (Nat.ne_of_lt lt) its.toArray, ⟨st.1, st.2, Heap.get?_push_of_some _ here⟩, truth_bools items, fun h' tk hk => ?_⟩
  have all : ∀ c u, s.heap.get? c = some u → h'.get? c = some u := fun c u e => hk c u (fun m => by
    rw [List.mem_singleton.mp m] at e
    exact Nat.lt_irrefl _ (Heap.lt_size e)) (Heap.get?_push_of_some _ e)
  refine ⟨.bl (bs.any id), H, I.kept all, ?_, q⟩
  show Value.bool ((List.range its.toArray.size).any fun i => bs.getD i false) = .bool (bs.any id)
  rw [← any_range, items, List.size_toArray, List.length_map]
/-- isinstance(e, c) of the error that the suite holds -/
def rIsF (K : PySem.W.Frag) (D a : Addr) (cls : Value) (d : Option Addr) : List V → Hp → VK → Prop := fun xs H Q => cls = .ref D ∧ d = none ∧ rIsE K D a xs H Q
theorem call_isF {D : Addr} (C : ExcC X.K D) (hz : L2N.Zn cls d oe) (hf : ∃ vs, oe.data = .fields vs) : CallR (X.suite a ((a, oe) :: pn)) (.builtin "isinstance") (rIsF X.K D a cls d) := by
  intro pins s σ H xs us Q I r h
  obtain ⟨rfl, rfl, h⟩ := h
  exact call_isE C hz.zc hf pins s σ H xs us Q I r h
end
theorem takes0N {X : Cx} : L2N.Takes X (fun _ _ _ _ => False) := fun _ _ ⟨_, _, _, _, _, _, _, _, _, _, _, _, _, _, _, _, no⟩ => False.elim no
theorem okX {P : Program} {w : World} {K : PySem.W.Frag} {mg : Str → Option Value} {base : Heap} {x qual : Str} {st : Stmt} {f : Addr} {fd : FuncData} {N ps : List Str} {k : Nat} {sp : Sp} (F : Fun K x qual st f fd) (S : FnScope N ps (defScope st)) (len : ∀ vs H Q E, sp vs H Q E → vs.length = ps.length)
    (hbody : ∀ (cdv : Value) (A : Around) (outer : List Env) (s : Shared) (H : Hp) (vs : List V) (Q : VK) (E : XK), Room k (A.deeper (PyProof.Rows.envOfC qual (defScope st) s.heap.objs.size f cdv)) → sp vs H Q E →
      ∃ t, PSs (cxOf (L2N.CX P w) P w K mg base N qual (defScope st) f cdv A outer s H E) (defBody st) t ∧ t { nx := fun _ H' => Q .non H', rt := Q } (start N vs) H) : FnOk P w K mg base (L2N.CX P w) (k + 1) f fd ps sp := by
  obtain ⟨_, _, _, _, _, _, cdv, _, _, rfl, lk, hcd⟩ := F.ex
  exact fn_of lk hcd S len (hbody cdv)
/-! ### an error class of the program -/
structure Err (K : PySem.W.Frag) (mg : Str → Option Value) (x : Str) (C : Addr) : Prop where
  g : mg x = some (.ref C)
  x : PySem.W.excIn K C [.type "ValueError", .type "Exception", .type "BaseException", .type "object"] "ValueError.__new__" = true
  k : PySem.W.keepIn K (.ref C) = true
  b : PySem.W.subIn K (.ref C) (.type "BaseException") = some true
  t : PySem.W.typeIn K (.ref C) = some (.type "type")
  hd : PySem.W.hasDictIn K C = true
  hg : PySem.W.findIn K (.ref C) "__getattribute__" = some (some (.builtin "BaseException.__getattribute__"))
  hk : PySem.W.findIn K (.ref C) "__getattr__" = some none
  ha : PySem.W.findIn K (.ref C) "__class__" = some (some (.builtin "object.__class__"))
  hm : PySem.W.mroIn K C (.type "object") = some true
theorem Err.c {K : PySem.W.Frag} {mg : Str → Option Value} {x : Str} {C : Addr} (e : Err K mg x C) (hn : PySem.W.specialIn K (.builtin "object.__class__") "__get__" = some (some (.builtin "getset_descriptor.__get__"))) (ht : PySem.W.takesIn K (.builtin "object.__class__") = some true) : ExcC K C :=
  ⟨e.hg, e.hk, e.b, e.hd, e.ha, hn, ht, e.hm⟩
/-- // of great ints, of any sign -/
theorem op_fdivWN {X : Cx} : OpR X (binaryOp .FloorDiv) (rI (fun _ j => j ≠ 0 ∧ j.natAbs.log2 < 9000) fun i j => .int (i.fdiv j)) := opI fun i j _ _ _ _ _ hc q =>
  PyProof.Rows.floordiv_int hc.1 q (.inl (PyProof.noPylong_of_log2 hc.2))

/-! ### text[::-1] -/
theorem rev_pick (l : List Nat) (t : Tok) (a : Tok) : sliceMade (S l) t none none (some (-1, a)) = Made.str (S l.reverse) := by
  have hs : slicePicked (S l) none none (some (-1, a)) = (List.range l.length).reverse := by
    show sliceRange (((S l).length : Int) - 1) (-1) (-1) = _
    rw [S_len, PySem.W.krv_sliceRange, PySem.W.krv_range]
  have hf : ((List.range l.length).reverse.filterMap ((S l).cps[·]?)) = l.reverse := by
    rw [List.filterMap_reverse]
    congr 1
    have : ∀ m : List Nat, (List.range m.length).filterMap (fun i => m[i]?) = m := fun m => by
      induction m with
      | nil => rfl
      | cons c r ih =>
        rw [List.length_cons, List.range_succ_eq_map, List.filterMap_cons, List.filterMap_map]
        show c :: (List.range r.length).filterMap (fun i => r[i]?) = c :: r
        rw [ih]
    have h2 : (fun i => (S l).cps[i]?) = fun i => l[i]? := funext fun i => S_get l i
    rw [h2]
    exact this l
  unfold sliceMade
  rw [hs, hf]
  rfl
def tRevS (te : TE) : TE := fun σ H Q => te σ H fun x H1 => ∃ l : List Nat, x = .str (S l) ∧ l.length ≤ 16777216 ∧ Q (.str (S l.reverse)) H1
theorem pe_revS {X : Cx} {e : Expr} {te : TE} {k : Nat} {p1 p2 p3 pos : Pos} (he : PE X e te) : PE X (.Subscript e (.Slice none none (some (.UnaryOp .USub (.Constant (.int 1) k p1) p2)) p3) pos) (tRevS te) := by
  constructor
  intro pins s σ H Q I hyp
  apply PyProof.Rows.Subscript_
  refine thn (he.run pins s σ H _ I hyp) fun v s1 ⟨x, H1, I1, r1, l, ex, hl, q⟩ => ?_
  subst ex
  obtain ⟨tk, rfl⟩ := r1
  have minus : PO X (some (.UnaryOp .USub (.Constant (.int 1) k p1) p2)) (tPart (tUn (rU fun i => .int (-i)) (tC (.int 1)))) := po_some (pe_un un_neg pe_int)
  apply wpAny_Slice
  refine thn (po_none.run pins s1 σ H1 (fun o G => o = none ∧ G = H1) I1 ⟨rfl, rfl⟩) fun v1 s2 ⟨o1, G1, J1, a1, b1, c1⟩ => ?_
  subst b1; subst c1
  refine thn (po_none.run pins s2 σ G1 (fun o G => o = none ∧ G = G1) J1 ⟨rfl, rfl⟩) fun v2 s3 ⟨o2, G2, J2, a2, b2, c2⟩ => ?_
  subst b2; subst c2
  refine thn (minus.run pins s3 σ G2 (fun o G => o = some (-1) ∧ G = G2) J2 ⟨1, rfl, -1, rfl, rfl, rfl⟩) fun v3 s4 ⟨o3, G3, J3, a3, b3, c3⟩ => ?_
  subst b3; subst c3
  obtain ⟨y1, rfl, g1⟩ := IsPart.raw a1
  obtain ⟨y2, rfl, g2⟩ := IsPart.raw a2
  obtain ⟨y3, rfl, g3⟩ := IsPart.raw a3
  cases y1 with
  | some z => cases g1
  | none =>
  cases y2 with
  | some z => cases g2
  | none =>
  cases y3 with
  | none => cases g3
  | some z =>
  obtain ⟨z1, z2⟩ := z
  have ez : z1 = -1 := Option.some.inj g3
  subst ez
  show wpAny (model X.prog X.w) X.A (PyProof.Rows.subscriptTail e (.Slice none none (some (.UnaryOp .USub (.Constant (.int 1) k p1) p2)) p3) (.str (S l) tk) (.ref s4.heap.objs.size)) (EP X pins σ Q) X.xe { s4 with heap := s4.heap.push { cls := .type "slice", data := .fields #[partValue none, partValue none, partValue (some (-1, z2))] } }
  refine PyProof.Rows.tail_any (ops := [.str (S l) tk, .ref s4.heap.objs.size]) (typeIs_str _ _ _) PySem.F.slot_str_getitem.lookup ?_ (by with_unfolding_all rfl)
  refine wpAny_getItem_str_slice (l := none) (u := none) (st := some (-1, z2)) ⟨_, Heap.get?_push_size _ rfl, rfl, rfl⟩ (by rfl) ?_
  rw [rev_pick]
  exact ⟨by rw [S_len, List.length_reverse, sizeLine_eq]; exact hl, .str _, _, J3.kept (t' := s4.toks + 1) fun b ob w => Heap.get?_push_of_some _ w, ⟨_, rfl⟩, q⟩
/-! ### all(test for x in text), where the test may read what the top has written -/
section
open GxR
variable {X : Cx} {pins : List (Addr × Obj)} {σ : L2.St} {H : Hp} {s : Shared}
def EltG (X : Cx) (scope : Scope) (x : Str) (elt : Expr) (pb : Nat → Bool) : Prop :=
  ∀ (cenv : Env) (A' : Around) (E' : Value → Shared → Prop) (c : Nat) (t : Tok) (z : Shared) (m : Str → Option Value), X.Ok → cenv.scope = scope → cenv.globals = X.env.globals → (∀ b o, X.base.get? b = some o → z.heap.get? b = some o) →
    z.heap.Ns cenv.locals m → m x = some (.str ⟨#[c]⟩ t) → wpAny (model X.prog X.w) A' (eval elt cenv) (fun y z' => y = .bool (pb c) ∧ Keeps z z') E' z
theorem tbl_not {H : Hp} {P : Addr} {ps : Array Value} (hP : H P = some (.tbl ps)) {b : Addr} (h : H b = none) : b ≠ P := fun z => by rw [z, hP] at h; cases h
theorem gen_go {c P : Addr} {elt : Expr} {x : Str} {scope : Scope} {pb : Nat → Bool} {k : Nat} {Q' : Value → Shared → Prop} {a : Str} {o : Obj} {St : Nat → Heap → Prop} {ps : Array Value}
    (hr : Room k X.A) (TB : TabB X.base X.mg c P) (sc : GenS X.env scope x) (hel : EltG X scope x elt pb) (J : L2.Inv X pins σ H s) (hP : H P = some (.tbl ps)) (atP : s.heap.get? P = some { cls := .none, data := .fields ps }) (ltP : P < s.heap.objs.size)
    (W : ∀ A' : Around, A'.handled = none → Walks X.prog X.w A' s.heap.objs.size [s.heap.objs.size] [s.heap.objs.size] a.cps.size (SignAt a) St) (st0 : St 0 (s.heap.push o)) (code : Value) (h3 : Heap) (tk : Nat) (ps' more : Array Value) (em : ps' = ps ++ more)
    (hx : Heap.ExtBut P (s.heap.push o) h3) (hsz : (s.heap.push o).objs.size ≤ h3.objs.size) (h3P : h3.get? P = some { cls := .none, data := .fields ps' }) (ok' : TriplesOk ps'.toList) (lim : (s.heap.push o).NoLimit) (hQ : ∀ g z, Ready X pins σ H P a pb g z → Q' (.ref g) z) :
    wpAny (model X.prog X.w) X.A (builtinsFor X.env.globals X.env.builtins) (fun bi s₄ =>
      ∃ Ia fp wr n₀ Pf St₀ pz F, Value.ref s.heap.objs.size = .ref Ia ∧ (∀ A' : Around, A'.handled = none → Walks X.prog X.w A' Ia fp wr n₀ Pf St₀) ∧ St₀ 0 s₄.heap ∧ (∀ b ∈ fp, b < s₄.heap.objs.size) ∧ s₄.heap.NoLimit ∧ cStatics ∉ wr ∧
        (∀ href : Heap, (∀ b u, s₄.heap.get? b = some u → href.get? b = some u) → QuietGen X.prog X.w (genEnv scope (cloFrom X.env.cells scope.names []) s₄.heap.objs.size code bi X.env) x [] elt (List.range s₄.heap.objs.size) wr Pf pz F href) ∧
        (∀ g h₅ tk gs, gs.bare = true → s₄.heap.objs.size < g → h₅.objs.size = g + 1 → (∀ b u, s₄.heap.get? b = some u → h₅.get? b = some u) →
          WalksS X.prog X.w X.A.in4 g (g :: s₄.heap.objs.size :: List.range s₄.heap.objs.size) (s₄.heap.objs.size :: wr) (GenOnlyQ s₄.gens.size) (passing pz n₀ 0).length (fun j y => ∃ i, (passing pz n₀ 0)[j]? = some i ∧ F i y) (GenAt X.prog X.w X.A.in4 g s₄.gens.size s₄.heap.objs.size (List.range s₄.heap.objs.size) wr pz n₀ F) →
          GenAt X.prog X.w X.A.in4 g s₄.gens.size s₄.heap.objs.size (List.range s₄.heap.objs.size) wr pz n₀ F 0 { s₄ with gens := s₄.gens.push gs, toks := tk, heap := h₅ } → Q' (.ref g) { s₄ with gens := s₄.gens.push gs, toks := tk, heap := h₅ })) X.xe { s with heap := h3, toks := tk } := by
  obtain ⟨bm, ob, q1, q2, q3, q4, q5, q6, q7, q8⟩ := TB.bm
  obtain ⟨cm, cns, cnn⟩ := J.nolimit
  have cP : cStatics ≠ P := fun z => by
    obtain ⟨o2, es, ep, g1, g2, _⟩ := cns
    rw [z, atP] at g1
    cases g1
    cases g2
  have cL : cStatics < s.heap.objs.size := cns.lt
  have big : (s.heap.push o).objs.size = s.heap.objs.size + 1 := Heap.size_push ..
  have kept : ∀ b u, b ≠ P → s.heap.get? b = some u → h3.get? b = some u := fun b u n e => hx b u n (Heap.get?_push_of_some _ e)
  have bases : ∀ b u, X.base.get? b = some u → h3.get? b = some u := fun b u e => kept b u (tbl_not hP (J.bs b u e).2) (J.bk b u e)
  refine wpAny_builtinsFor (m := X.mg) (by rw [J.ok.glob]; exact J.mod.glob.keeps bases) q1 q2 (bases _ _ q5) q6 q7 q8 ?_
  refine ⟨s.heap.objs.size, [s.heap.objs.size], [s.heap.objs.size], a.cps.size, SignAt a, St, fun _ => true, fun i y => ∃ cc, a.cps[i]? = some cc ∧ y = .bool (pb cc), rfl, W, ?_, ?_, lim.extBut hx cP, ?_, ?_, ?_⟩
  · refine (W X.A hr.hd).frame _ _ _ st0 fun b hb u e => hx b u ?_ e
    rw [List.mem_singleton.mp hb]
    exact Nat.ne_of_gt ltP
  · intro b hb
    rw [List.mem_singleton.mp hb]
    exact Nat.lt_of_lt_of_le (by rw [big]; exact Nat.lt_succ_self _) hsz
  · rw [List.mem_singleton]
    exact Nat.ne_of_lt cL
  · intro href hh
    refine ⟨fun A' E' i v s₂ m₂ _ _ _ _ _ => ?_, fun A' E' i v s₂ m₂ _ hv _ hn hm hk => ?_⟩
    · rw [List.forIn_nil]
      exact wpAny_pure ⟨rfl, keeps_refl s₂⟩
    · obtain ⟨cc, u, hcc, rfl⟩ := hv
      refine wpAny_mono (hel _ A' E' cc u s₂ m₂ J.ok rfl rfl (fun b w e => ?_) hn hm) (fun y z r => ⟨⟨cc, hcc, r.1⟩, r.2⟩) fun _ _ e => e
      have lb := Heap.lt_size (J.bk b w e)
      exact hk b (List.mem_range.mpr (Nat.lt_of_lt_of_le (Nat.lt_of_lt_of_le lb (by rw [big]; exact Nat.le_succ _)) hsz)) (by rw [List.mem_singleton]; exact Nat.ne_of_lt lb) w (hh b w (bases b w e))
  · intro g h5 tk5 gs bare _ _ _ W5 at5
    have W6 := W5
    simp only [GxR.passing_true, List.length_range] at W6
    refine hQ g _ ⟨_, _, _, _, _, W6.in4_1, at5, fun j y sj Qj Ej hy hq => ?_, fun z mv => ?_⟩
    · obtain ⟨i, hi, cc, hcc, rfl⟩ := hy
      obtain ⟨_, ei⟩ := List.getElem?_eq_some_iff.mp hi
      rw [List.getElem_range] at ei
      subst ei
      have hq' : Qj (trF pb a.cps.toList j) sj := hq
      rw [trF_some (show a.cps.toList[j]? = some cc by rw [Array.getElem?_toList]; exact hcc)] at hq'
      exact wpAny_truthy_bool hq'
    · have off : ∀ b u, s.heap.get? b = some u → b ∉ h3.objs.size :: [s.heap.objs.size] := fun b u e hb => by
        have l1 := Heap.lt_size e
        have l2 : s.heap.objs.size < h3.objs.size := Nat.lt_of_lt_of_le (by rw [big]; exact Nat.lt_succ_self _) hsz
        rcases List.mem_cons.mp hb with r | r
        · rw [r] at l1; exact absurd (Nat.lt_trans l1 l2) (Nat.lt_irrefl _)
        · rw [List.mem_singleton.mp r] at l1; exact absurd l1 (Nat.lt_irrefl _)
      have five : ∀ b u, h3.get? b = some u → h5.get? b = some u := by assumption
      have L := inv_tab (more := more) (h' := z.heap) (g' := z.gens) (d' := z.drawn) (t' := z.toks) J hP (fun b u n e => mv.heap b u (off b u e) (five b u (kept b u n e))) (by rw [← em]; exact mv.heap P _ (off P _ atP) (five P _ h3P)) (PyProof.Rows.AllBare.movedS (J.bare.push bare) mv)
      rw [sh_eta s z mv.os] at L
      exact ⟨upd H P (.tbl (ps ++ more)), ⟨⟨ps ++ more, upd_same, by rw [← em]; exact ok'⟩, fun b n => upd_ne n⟩, L⟩
theorem gen_signs {c P : Addr} {elt iter : Expr} {x : Str} {px gpos : Pos} {scope : Scope} {pb : Nat → Bool} {te : TE} {k : Nat} {Q' : Value → Shared → Prop} {R : Str → Hp → Prop}
    (hr : Room k X.A) (TB : TabB X.base X.mg c P) (hcode : X.env.code = .ref c) (sc : GenS X.env scope x) (hi : PE X iter te) (hel : EltG X scope x elt pb) (hs : ∀ v, genFold iter X.env v = pure v)
    (I : L2.Inv X pins σ H s) (h : te σ H fun v G => ∃ a : Str, v = .str a ∧ TabG G P ∧ R a G) (hQ : ∀ a G g z, R a G → Ready X pins σ G P a pb g z → Q' (.ref g) z) :
    wpAny (model X.prog X.w) X.A (eval (.GeneratorExp elt [⟨.Name x px, iter, [], 0⟩] scope gpos) X.env) Q' X.xe s := by
  have room : X.A.depth < recursionLimit := by have := hr.dp; omega
  refine wpAny_GeneratorExp_walksQ hr.hd sc.co (closure_ok sc.free) sc.cell sc.dot sc.loc sc.kind room (thn (hi.run pins s σ H _ I h) fun u s1 ⟨v, G, J, rv, a, ev, ⟨ps, hP, ok⟩, hR⟩ => ?_) hs
  subst ev
  obtain ⟨t, rfl⟩ := id rv
  refine wpAny_pyIter_str fun o St W st0 => ?_
  -- the table, the sizes, what is kept
  have atP : s1.heap.get? P = some { cls := .none, data := .fields ps } := J.hok P _ hP
  have ltP : P < s1.heap.objs.size := Heap.lt_size atP
  have atP' : (s1.heap.push o).get? P = some { cls := .none, data := .fields ps } := Heap.get?_push_of_some _ atP
  have cd : PySem.W.CodeHd (s1.heap.push o) c P := TB.code.keeps fun b w e => Heap.get?_push_of_some _ (J.bk b w e)
  have lim : (s1.heap.push o).NoLimit := J.nolimit.push o
  have next : ∀ (code : Value) (h3 : Heap) (tk : Nat) (ps' more : Array Value), ps' = ps ++ more → Heap.ExtBut P (s1.heap.push o) h3 → (s1.heap.push o).objs.size ≤ h3.objs.size → h3.get? P = some { cls := .none, data := .fields ps' } → TriplesOk ps'.toList → _ :=
    fun code h3 tk ps' more em hx hsz h3P ok' => gen_go (elt := elt) hr TB sc hel J hP atP ltP W st0 code h3 tk ps' more em hx hsz h3P ok' lim fun g z rd => hQ a G g z hR rd
  refine ⟨lim, ?_⟩
  cases hf : codeAmong gpos ps.toList with
  | some cv => exact wpAny_genexprCode_hit hcode (cd.code atP' ok) hf (next cv (s1.heap.push o) s1.toks ps #[] (by simp) (Heap.ExtBut.refl _ _) (Nat.le_refl _) atP' ok)
  | none =>
    refine wpAny_genexprCodeX hcode (cd.code atP' ok) (cd.tab atP') hf fun c' h' tk hx hge hlt hco' _ htab' _ => ?_
    obtain ⟨o1, vs, f1, tf, fl, tg, inF, tx, tt, op, _, _, _, _, _, _, _, _, _, htr, _⟩ := hco'
    exact next _ h' tk _ _ rfl hx (Nat.le_trans hge (Nat.le_of_lt hlt)) htab'.2 htr
theorem pe_allG {c P : Addr} {elt iter : Expr} {x : Str} {px p pos gpos : Pos} {scope : Scope} {pb : Nat → Bool} {te : TE} {k : Nat} (hr : Room k X.A) (hg : Gl X "all") (hm : X.mg "all" = none) (TB : TabB X.base X.mg c P) (hcode : X.env.code = .ref c)
    (sc : GenS X.env scope x) (hi : PE X iter te) (hel : EltG X scope x elt pb) (hs : ∀ v, genFold iter X.env v = pure v)
    (he : starEach [.GeneratorExp elt [⟨.Name x px, iter, [], 0⟩] scope gpos] X.env = (false, eval (.GeneratorExp elt [⟨.Name x px, iter, [], 0⟩] scope gpos) X.env) :: starEach [] X.env := by rfl) :
    PE X (.Call (.Name "all" p) [.GeneratorExp elt [⟨.Name x px, iter, [], 0⟩] scope gpos] [] pos) (tAllS P pb te) := by
  constructor
  intro pins s σ H Q I hyp
  have hb : bootBuiltins "all" = some (.builtin "all") := by decide +kernel
  refine wpAny_Call_Name_kw (ld_blt I hg hm hb (PyProof.Rows.callWith_builtin1 ?_ he (by rfl)))
  rw [he]
  show wpAny _ _ (spliced ((false, eval (.GeneratorExp elt [⟨.Name x px, iter, [], 0⟩] scope gpos) X.env) :: backTo pos (starEach [] X.env))) _ _ s
  refine Calls.spliced_cons (gen_signs (R := fun a G => ∀ G', Tabbed P G G' → Q (.bl (a.cps.toList.all pb)) G') hr TB hcode sc hi hel hs I hyp fun a G g z hR rd => Calls.spliced_nil ?_)
  obtain ⟨fp, wr, Gs, F, St, W, st, tr, done⟩ := rd
  refine call_all_walkS (W.self 0 _ _ _ st ⟨g, fp, wr, Gs, _, F, St, _, rfl, W, st, tr, fun z' mv => ?_⟩)
  obtain ⟨G', tb, L⟩ := done z' mv
  refine ⟨.bl _, G', L, rfl, ?_⟩
  rw [all_signs a pb]
  exact hR G' tb
/-- x in D, D a dict that the top has written -/
theorem elt_in {scope : Scope} {x y : Str} {pb : Nat → Bool} {d : Addr} {es : Array DictEntry} {n : Nat} {p1 p2 p3 : Pos} (D : KDict X.K X.w d es n) (gy : X.mg y = some (.ref d)) (hp : ∀ c, ∃ r, PySem.W.nsIn X.K d (S [c]) = some r ∧ r.isSome = pb c)
    (hk : scope.kind = .function) (hl : scope.names.lookup x = some .local) (hy : scope.names.lookup y = some .globalImplicit) (hd : (x == ("__debug__" : Str)) = false := by decide) (hd2 : (y == ("__debug__" : Str)) = false := by decide) :
    EltG X scope x (.Compare (.Name x p1) [.In] [.Name y p2] p3) pb := by
  intro cenv A' E' c t z m ok hs hg hb hn hm
  have kind : cenv.scope.kind = .function := by rw [hs]; exact hk
  refine wpAny_Compare1 (wpAny_Name (wpAny_loadName_local kind (show cenv.scope.names.lookup x = some .local by rw [hs]; exact hl) hn hm ?_) hd)
  refine Calls.Name_function_global kind (show cenv.scope.names.lookup y = some .globalImplicit by rw [hs]; exact hy) (Calls.loadGlobal_global (by rw [hg, ok.glob]; exact ok.mod.glob.keeps hb) gy ?_) hd2
  obtain ⟨r, e1, e2⟩ := hp c
  refine wpAny_in_of (PySem.strKind_is X.prog X.w (S [c]) t) D.low (PySem.W.mapOf_K (prog := X.prog) (ok.mod.kin.keeps hb) D.at_ D.lit) ?_
  rw [PySem.W.find_K D.at_ e1, e2]
  exact ⟨rfl, keeps_tok _ _⟩
end
/-! ### ''.join of texts, comprehensions over a text -/
theorem join_empty (ys : List (List Nat)) : Txt.join (S []) (ys.map S) = S ys.flatten := by
  have go : ∀ (zs : List (List Nat)) (a : Array Nat), ((zs.map S).foldl (fun acc p => acc ++ (S []).cps ++ p.cps) a).toList = a.toList ++ zs.flatten := by
    intro zs
    induction zs with
    | nil => intro a; simp
    | cons z r ih =>
      intro a
      rw [List.map_cons, List.foldl_cons, ih]
      simp [S]
  show Builtin.Str.glued (S []) (ys.map S) = _
  unfold Builtin.Str.glued
  cases ys with
  | nil => rfl
  | cons y r =>
    have := go r (S y).cps
    show (⟨(r.map S).foldl (fun acc p => acc ++ (S []).cps ++ p.cps) (S y).cps⟩ : Str) = _
    unfold S at this ⊢
    congr 1
    apply Array.toList_inj.mp
    rw [this]
    simp
theorem join_signs (l : List Nat) : Txt.join (S []) (l.map fun c => S [c]) = S l := by
  have := join_empty (l.map fun c => [c])
  rw [List.map_map] at this
  rw [show (l.map fun c => S [c]) = l.map (S ∘ fun c => [c]) from rfl, this]
  congr 1
  induction l with
  | nil => rfl
  | cons c r ih => rw [List.map_cons, List.flatten_cons, ih (join_empty _ |>.trans rfl |> fun h => by rw [List.map_map] at h; exact h)]; rfl
theorem sum_ones (l : List Nat) : ((l.map fun c => S [c]).map (·.length)).sum = l.length := by
  induction l with
  | nil => rfl
  | cons c r ih =>
    rw [List.map_cons, List.map_cons, List.sum_cons, ih, S_len, List.length_cons]
    show 1 + r.length = r.length + 1
    omega
theorem lc_str {l : List Nat} {g : TG} {tt : TT} {te : TE} {vs : List Nat} {σ : L2.St} {H1 : Hp} {D : Addr} {Qd : Hp → Prop} (Pv : Nat → Hp → Prop) (h0 : Pv 0 (upd H1 D (.lst [])))
    (hs : ∀ i c H, l[i]? = some c → Pv i H → g (.str (S [c])) (wipe σ vs) H fun σ2 H2 => wipe σ2 vs = wipe σ vs ∧ tt σ2 H2 fun b H3 =>
      if b = true then te σ2 H3 fun y H4 => ∃ acc, H4 D = some (.lst acc) ∧ acc.length < sizeLine ∧ Pv (i + 1) (upd H4 D (.lst (acc ++ [y]))) else Pv (i + 1) H3) (hd : ∀ H, Pv l.length H → Qd H) :
    ∃ W : Nat → Nat → Hp → Prop, (∃ m, W 0 m (upd H1 D (.lst []))) ∧ ∀ i m H, W i m H →
      ((Its (S l)).stop i H ∧ Qd H) ∨ ((Its (S l)).go i H ∧ ∃ Nx : Hp → Prop, (∀ H', Nx H' → ∃ m', m' < m ∧ W (i + 1) m' H') ∧ ∀ x H', (Its (S l)).yld i H x H' → g x (wipe σ vs) H' fun σ2 H2 => wipe σ2 vs = wipe σ vs ∧ tt σ2 H2 fun b H3 =>
        if b = true then te σ2 H3 fun y H4 => ∃ acc, H4 D = some (.lst acc) ∧ acc.length < sizeLine ∧ Nx (upd H4 D (.lst (acc ++ [y]))) else Nx H3) := by
  refine ⟨fun i m H => m = l.length - i ∧ i ≤ l.length ∧ Pv i H, ⟨l.length, by simp, Nat.zero_le _, h0⟩, ?_⟩
  rintro i m H ⟨rfl, hi, p⟩
  by_cases hlt : i < l.length
  · refine .inr ⟨by show i < (S l).cps.size; rw [S_size]; exact hlt, Pv (i + 1), fun H' p' => ⟨l.length - (i + 1), by omega, rfl, hlt, p'⟩, fun x H' y => ?_⟩
    obtain ⟨e, c, hc, rfl⟩ := y
    subst e
    rw [S_get] at hc
    exact hs i c _ hc p
  · have e : i = l.length := by omega
    subst e
    exact .inl ⟨by show (S l).cps.size ≤ l.length; rw [S_size]; exact Nat.le_refl _, hd H p⟩
/-- a def whose code object is told -/
theorem okC {P : Program} {w : World} {K : PySem.W.Frag} {mg : Str → Option Value} {base : Heap} {x qual : Str} {st : Stmt} {f c : Addr} {fd : FuncData} {N ps : List Str} {k : Nat} {sp : Sp} (F : Fun K x qual st f fd) (hc : fd.code = .ref c) (S : FnScope N ps (defScope st)) (len : ∀ vs H Q E, sp vs H Q E → vs.length = ps.length)
    (body : ∀ (A : Around) (outer : List Env) (s : Shared) (H : Hp) (vs : List V) (Q : VK) (E : XK), Room k (A.deeper (PyProof.Rows.envOfC qual (defScope st) s.heap.objs.size f (.ref c))) → sp vs H Q E →
      ∃ t, PSs (cxOf CX0 P w K mg base N qual (defScope st) f (.ref c) A outer s H E).nox (defBody st) t ∧ t { nx := fun _ H' => Q .non H', rt := Q } (start N vs) H) : FnOk P w K mg base CX0 (k + 1) f fd ps sp := by
  obtain ⟨_, _, _, _, _, _, cdv, _, _, rfl, lk, hcd⟩ := F.ex
  have e : cdv = .ref c := hc
  subst e
  refine fn_of lk hcd S len fun A outer s H vs Q E hr h => ?_
  obtain ⟨t, a, b⟩ := body A outer s H vs Q E hr h
  exact ⟨t, a.nox, b⟩

/-! ### a generator expression with three names as its target, over a list of tuples -/
section
variable {prog : Program} {w : World}
abbrev gx3 (elt iter : Expr) (xa xb xc : Str) (pa pb pc pt : Pos) (kt : Nat) (scope : Scope) (pos : Pos) : Expr := .GeneratorExp elt [⟨.Tuple [.Name xa pa, .Name xb pb, .Name xc pc] kt pt, iter, [], 0⟩] scope pos
/-- the element, once the three names are bound -/
def Quiet3 (prog : Program) (w : World) (cenv : Env) (xa xb xc : Str) (elt : Expr) (fp wr : List Addr) (Pt : Nat → Array Value → Prop) (F : Nat → Value → Prop) (href : Heap) : Prop :=
  ∀ (A1 : Around) (E1 : Value → Shared → Prop) (i : Nat) (u v x : Value) (z : Shared) (m : Str → Option Value), A1.handled = none → Pt i #[u, v, x] → z.heap.Ns cenv.locals m → m xa = some u → m xb = some v → m xc = some x →
    (∀ b ∈ fp, b ∉ wr → ∀ o, href.get? b = some o → z.heap.get? b = some o) → wpAny (model prog w) A1 (eval elt cenv) (fun y z' => F i y ∧ Keeps z z') E1 z
abbrev Ends3 (C : Addr) (wr : List Addr) : GenEnd := fun n s₀ r s₁ => r = .ok .next ∧ (n = 0 ∧ GenSince C wr s₀ s₁)
theorem loop3 {A : Around} {elt iter : Expr} {xa xb xc : Str} {pa pb pc pt : Pos} {kt : Nat} {scope : Scope} {pos : Pos} {I : Addr} {fp wr : List Addr} {N : Nat} {Pt : Nat → Array Value → Prop} {St : Nat → Heap → Prop} {Mid : Nat → Addr → Heap → Prop} {cenv : Env}
    (hA : A.handled = none) (W : ∀ A1 : Around, A1.handled = none → WalksU prog w A1 I fp wr N Pt St Mid) (three : ∀ i vs, Pt i vs → ∃ u v x, vs = #[u, v, x]) (nab : xa ≠ xb) (nac : xa ≠ xc) (nbc : xb ≠ xc) (F : Nat → Value → Prop) (href : Heap)
    (ka : cenv.kindOf xa = some .local) (kb : cenv.kindOf xb = some .local) (kc : cenv.kindOf xc = some .local) (hp : (cenv.scope.kind == .class || (cenv.scope.kind == .module && cenv.locals != cenv.globals)) = false)
    (hco : cenv.scope.isCoroutine = false) (out : cenv.locals ∉ fp) (hq : Quiet3 prog w cenv xa xb xc elt fp wr Pt F href) :
    ∀ (k i : Nat) (s₀ s : Shared) (m : Str → Option Value), N - i = k → i ≤ N → St i s.heap → s.heap.Ns cenv.locals m → GenSince cenv.locals wr s₀ s → (∀ b ∈ fp, b ∉ wr → ∀ o, href.get? b = some o → s.heap.get? b = some o) →
      Seg (model prog w) A (Ends3 cenv.locals wr) (genProto cenv.locals fp wr (fun _ => true) N F) (passing (fun _ => true) N i).length s₀
        (.compLoop (gx3 elt iter xa xb xc pa pb pc pt kt scope pos) 0 (.ref I) .none cenv) ((model prog w).den (.compLoop (gx3 elt iter xa xb xc pa pb pc pt kt scope pos) 0 (.ref I) .none cenv)) [] s := by
  have hA1 : (A.over (.compLoop (gx3 elt iter xa xb xc pa pb pc pt kt scope pos) 0 (.ref I) .none cenv) []).handled = none := hA
  have outw : cenv.locals ∉ wr := fun z => out ((W A hA).sub _ z)
  intro k
  induction k with
  | zero =>
    intro i s₀ s m hk hi st ns since kept
    obtain rfl : i = N := by omega
    show Seg _ A _ _ _ s₀ _ ((compTurn (gx3 elt iter xa xb xc pa pb pc pt kt scope pos) 0 (.ref I) .none cenv).onRaise (leaving cenv)) [] s
    rw [compTurn_gen, Sem.onRaise_eq_wrap]
    refine seg_bind_wrap (wpAny_standAt (seg_bind_wrap ((W _ hA1).done s _ _ st fun h1 t1 kh => ?_)))
    refine seg_end (.ok .next) ⟨rfl, ?_, since.step fun b o _ hw e => kh b o hw e⟩
    rw [passing_end]
    rfl
  | succ k ih =>
    intro i s₀ s m hk hi st ns since kept
    have lt : i < N := by omega
    show Seg _ A _ _ _ s₀ _ ((compTurn (gx3 elt iter xa xb xc pa pb pc pt kt scope pos) 0 (.ref I) .none cenv).onRaise (leaving cenv)) [] s
    rw [compTurn_gen, Sem.onRaise_eq_wrap]
    refine seg_bind_wrap (wpAny_standAt (seg_bind_wrap ((W _ hA1).item i s _ _ lt st fun T vs h1 t1 pt1 tup mid kh => ?_)))
    obtain ⟨u, v, x, rfl⟩ := three i vs pt1
    have apart := (W _ hA1).apart i T _ mid
    refine seg_bind_wrap ((W _ hA1).go _ _ _ i T _ _ _ mid fun h2 st2 k2 => ?_)
    have tup2 : h2.IsTuple T #[u, v, x] := by
      obtain ⟨o, e, r⟩ := tup
      exact ⟨o, k2 _ o apart e, r⟩
    refine seg_bind_wrap (wpAny_assign_Tuple hA1 tup2 rfl rfl fun h3 e3 => ?_)
    have k3 : ∀ b o, h2.get? b = some o → h3.get? b = some o := fun b o e => e3 b o (Nat.ne_of_lt (Heap.lt_size e)) e
    have ns3 : h3.Ns cenv.locals m := ns.at' fun o e => k3 _ o (k2 _ o outw (kh _ o outw e))
    show wpAny _ _ (do holding [v, x] (assign (.Name xa pa) cenv u); do holding [x] (assign (.Name xb pb) cenv v); do holding [] (assign (.Name xc pc) cenv x); pure ()) _ _ _
    refine wpAny_bind (wpAny_holding (wpAny_assign_Name (wpAny_storeName_local ka ns3 (fun h4 ns4 s4 => ?_) hp)))
    refine wpAny_bind (wpAny_holding (wpAny_assign_Name (wpAny_storeName_local kb ns4 (fun h5 ns5 s5 => ?_) hp)))
    refine wpAny_bind (wpAny_holding (wpAny_assign_Name (wpAny_storeName_local kc ns5 (fun h6 ns6 s6 => wpAny_pure ?_) hp)))
    have k6 : ∀ b o, b ≠ cenv.locals → h3.get? b = some o → h6.get? b = some o := fun b o n e => Heap.SameBut.extBut s6 b o n (Heap.SameBut.extBut s5 b o n (Heap.SameBut.extBut s4 b o n e))
    have all6 : ∀ b o, b ≠ cenv.locals → b ∉ wr → s.heap.get? b = some o → h6.get? b = some o := fun b o n nw e => k6 b o n (k3 b o (k2 b o nw (kh b o nw e)))
    have st6 : St (i + 1) h6 := (W A hA).frame _ _ _ st2 fun b hb o e => k6 b o (fun z => out (z ▸ hb)) (k3 b o e)
    have kept6 : ∀ b ∈ fp, b ∉ wr → ∀ o, href.get? b = some o → h6.get? b = some o := fun b hb nw o e => all6 b o (fun z => out (z ▸ hb)) nw (kept b hb nw o e)
    refine seg_bind_wrap (wpAny_of_eq (a := true) List.forIn_nil ?_)
    rw [passing_true lt rfl, List.length_cons]
    simp only [if_true]
    have yo : ∀ y, yieldOut cenv y = yieldValue y := fun y => by simp only [yieldOut, hco, Bool.false_eq_true, if_false]
    simp only [yo]
    rw [Sem.bind_eq_wrap', Sem.bind_eq_wrap', Sem.wrap_wrap, Sem.wrap_wrap]
    refine seg_wrap (wpAny_mono (hq _ _ i u v x _ _ hA1 pt1 ns6 (by simp [nab, nac]) (by simp [nbc]) (by simp) kept6) (fun y z hy => ?_) fun _ _ e => e)
    obtain ⟨fy, h7, t7, rfl, k7⟩ := hy
    refine seg_at (seg_yield rfl rfl rfl ⟨⟨i, passing_here lt rfl, fy⟩, ?_, fun z hz => ?_⟩)
    · exact since.step fun b o n nw e => k7 b o (all6 b o n nw e)
    · refine seg_again rfl (ih (i + 1) z z _ (by omega) lt ?_ ((ns6.at' fun o e => k7 _ o e).at' fun o e => hz _ (List.mem_cons_self ..) o e) (GenSince.refl _ _ _) ?_)
      · exact (W A hA).frame _ _ _ st6 fun b hb o e => hz b (List.mem_cons_of_mem _ hb) o (k7 b o e)
      · exact fun b hb nw o e => hz b (List.mem_cons_of_mem _ hb) o (k7 b o (kept6 b hb nw o e))
theorem start3 {A : Around} {elt iter : Expr} {xa xb xc : Str} {pa pb pc pt : Pos} {kt : Nat} {scope : Scope} {pos : Pos} {I : Addr} {fp wr : List Addr} {N : Nat} {Pt : Nat → Array Value → Prop} {St : Nat → Heap → Prop} {Mid : Nat → Addr → Heap → Prop} {cenv : Env}
    (hA : A.handled = none) (W : ∀ A1 : Around, A1.handled = none → WalksU prog w A1 I fp wr N Pt St Mid) (three : ∀ i vs, Pt i vs → ∃ u v x, vs = #[u, v, x]) (nab : xa ≠ xb) (nac : xa ≠ xc) (nbc : xb ≠ xc) (F : Nat → Value → Prop) (href : Heap)
    (ka : cenv.kindOf xa = some .local) (kb : cenv.kindOf xb = some .local) (kc : cenv.kindOf xc = some .local) (hp : (cenv.scope.kind == .class || (cenv.scope.kind == .module && cenv.locals != cenv.globals)) = false)
    (hco : cenv.scope.isCoroutine = false) (out : cenv.locals ∉ fp) (hq : Quiet3 prog w cenv xa xb xc elt fp wr Pt F href)
    (s₀ s : Shared) (m : Str → Option Value) (st : St 0 s.heap) (ns : s.heap.Ns cenv.locals m) (since : GenSince cenv.locals wr s₀ s) (kept : ∀ b ∈ fp, b ∉ wr → ∀ o, href.get? b = some o → s.heap.get? b = some o) :
    Seg (model prog w) A (Ends3 cenv.locals wr) (genProto cenv.locals fp wr (fun _ => true) N F) (passing (fun _ => true) N 0).length s₀
      (.compStart (gx3 elt iter xa xb xc pa pb pc pt kt scope pos) 0 (.ref I) .none cenv) ((model prog w).den (.compStart (gx3 elt iter xa xb xc pa pb pc pt kt scope pos) 0 (.ref I) .none cenv)) [] s := by
  have hA1 : (A.over (.compStart (gx3 elt iter xa xb xc pa pb pc pt kt scope pos) 0 (.ref I) .none cenv) []).handled = none := hA
  have go := loop3 (iter := iter) (pa := pa) (pb := pb) (pc := pc) (pt := pt) (kt := kt) (scope := scope) (pos := pos) hA W three nab nac nbc F href ka kb kc hp hco out hq N 0 s₀ s m (Nat.sub_zero _) (Nat.zero_le _) st ns since kept
  show Seg _ A _ _ _ s₀ _ ((compStart (gx3 elt iter xa xb xc pa pb pc pt kt scope pos) 0 (.ref I) .none cenv).onRaise (leaving cenv)) [] s
  unfold compStart
  rw [Sem.onRaise_eq_wrap]
  show Seg _ A _ _ _ s₀ _ ((ask >>= _).wrap _ _ _ _) [] s
  refine seg_bind_wrap (wpAny_askSetting ?_)
  split
  · exact seg_again rfl go
  · first
      | exact seg_bind_wrap (wpAny_rule (seg_bind_wrap (wpAny_standAt (seg_bind_wrap ((W _ hA1).self 0 s _ _ st (seg_again rfl go))))))
      | (refine seg_bind_wrap (wpAny_rule ?_); show Seg _ A _ _ _ s₀ _ ((standAt iter.pos >>= _).wrap _ _ _ _) [] s; exact seg_bind_wrap (wpAny_standAt (seg_bind_wrap ((W _ hA1).self 0 s _ _ st (seg_again rfl go)))))
/-- what is asked once the iterator, the code and the built-ins are there -/
def Post3 (prog : Program) (w : World) (A : Around) (env : Env) (elt : Expr) (xa xb xc : Str) (scope : Scope) (cl : List (Str × Addr)) (Q : Value → Shared → Prop) (it code : Value) (bi : Addr) (z : Shared) : Prop :=
  ∃ (I : Addr) (fp wr : List Addr) (N : Nat) (Pt : Nat → Array Value → Prop) (St : Nat → Heap → Prop) (Mid : Nat → Addr → Heap → Prop) (F : Nat → Value → Prop), it = .ref I ∧ (∀ A1 : Around, A1.handled = none → WalksU prog w A1 I fp wr N Pt St Mid) ∧ (∀ i vs, Pt i vs → ∃ u v x, vs = #[u, v, x]) ∧ St 0 z.heap ∧ (∀ b ∈ fp, b < z.heap.objs.size) ∧ z.heap.NoLimit ∧ cStatics ∉ wr ∧
    (∀ href : Heap, (∀ b o, z.heap.get? b = some o → href.get? b = some o) → Quiet3 prog w (genEnv scope cl z.heap.objs.size code bi env) xa xb xc elt (List.range z.heap.objs.size) wr Pt F href) ∧
    (∀ g h5 tk gs, gs.bare = true → z.heap.objs.size < g → h5.objs.size = g + 1 → (∀ b o, z.heap.get? b = some o → h5.get? b = some o) →
      WalksS prog w A.in4 g (g :: z.heap.objs.size :: List.range z.heap.objs.size) (z.heap.objs.size :: wr) (GenOnlyQ z.gens.size) (passing (fun _ => true) N 0).length (fun j y => ∃ i, (passing (fun _ => true) N 0)[j]? = some i ∧ F i y) (GenAt prog w A.in4 g z.gens.size z.heap.objs.size (List.range z.heap.objs.size) wr (fun _ => true) N F) →
      GenAt prog w A.in4 g z.gens.size z.heap.objs.size (List.range z.heap.objs.size) wr (fun _ => true) N F 0 { z with gens := z.gens.push gs, toks := tk, heap := h5 } → Q (.ref g) { z with gens := z.gens.push gs, toks := tk, heap := h5 })
theorem walks3 {A : Around} {E : Value → Shared → Prop} {s : Shared} {env : Env} {elt iter : Expr} {xa xb xc : Str} {pa pb pc pt : Pos} {kt : Nat} {scope : Scope} {cl : List (Str × Addr)} {pos : Pos} {Q : Value → Shared → Prop}
    (hA : A.handled = none) (hco : scope.isCoroutine = false) (hcl : closureFor scope env = pure cl) (hcell : ∀ y ∈ scope.names, y.2 ≠ .cell) (hdot : scope.names.lookup (".0" : Str) = some NameKind.local)
    (ka : scope.names.lookup xa = some .local) (kb : scope.names.lookup xb = some .local) (kc : scope.names.lookup xc = some .local) (nab : xa ≠ xb) (nac : xa ≠ xc) (nbc : xb ≠ xc) (hkind : scope.kind = .function) (room : A.depth < recursionLimit)
    (h : wpAny (model prog w) A (eval iter env) (fun xv s1 => wpAny (model prog w) A (pyIter xv) (fun it s2 => s2.heap.NoLimit ∧ wpAny (model prog w) A (genexprCode env pos (env.qual ++ "<genexpr>") scope) (fun code s3 => wpAny (model prog w) A (builtinsFor env.globals env.builtins) (fun bi z => Post3 prog w A env elt xa xb xc scope cl Q it code bi z) E s3) E s2) E s1) E s)
    (hs : ∀ x, genFold iter env x = pure x) : wpAny (model prog w) A (eval (gx3 elt iter xa xb xc pa pb pc pt kt scope pos) env) Q E s := by
  refine wpAny_GeneratorExp_make hco hcl hcell hdot hkind room (wpAny_mono h (fun xv s1 q1 => wpAny_mono q1 (fun it s2 q2 => ⟨q2.1, wpAny_mono q2.2 (fun code s3 q3 => wpAny_mono q3 (fun bi z q4 => ?_) fun _ _ e => e) fun _ _ e => e⟩) fun _ _ e => e) fun _ _ e => e) hs
  obtain ⟨I, fp, wr, N, Pt, St, Mid, F, rfl, W, three, st, fps, lim, cw, hq, hQ⟩ := q4
  have cs : cStatics < z.heap.objs.size := by
    obtain ⟨_, hn, _⟩ := lim
    exact hn.lt
  intro h1 ns1 same1
  have size1 : h1.objs.size = z.heap.objs.size + 1 := by rw [same1.1, Heap.size_push]
  have keep1 : ∀ b o, z.heap.get? b = some o → h1.get? b = some o := fun b o e => Heap.SameBut.extBut same1 b o (Nat.ne_of_lt (Heap.lt_size e)) (Heap.get?_push_of_some _ e)
  have sub : ∀ b ∈ wr, b ∈ List.range z.heap.objs.size := fun b hb => List.mem_range.mpr (fps b ((W A hA).sub b hb))
  have ne1 : h1.objs.size ≠ z.heap.objs.size := by rw [size1]; exact Nat.succ_ne_self _
  have notin : h1.objs.size ∉ List.range z.heap.objs.size := fun hm => by
    have := List.mem_range.mp hm
    omega
  have keep2 : ∀ b o, z.heap.get? b = some o → (h1.push { cls := .type "generator", data := .fields #[.int z.gens.size 0, .str "<genexpr>" (z.toks + 1), .str (env.qual ++ "<genexpr>") (z.toks + 1 + 1)] }).get? b = some o := fun b o e => Heap.get?_push_of_some _ (keep1 b o e)
  have W2 : ∀ A1 : Around, A1.handled = none → WalksU prog w A1 I (List.range z.heap.objs.size) wr N Pt St Mid := fun A1 hA1 => (W A1 hA1).mono_fp fun b hb => List.mem_range.mpr (fps b hb)
  have st2 := (W A hA).frame _ _ _ st fun b _ o e => keep2 b o e
  refine hQ _ _ _ _ rfl (by omega) (by rw [Heap.size_push]) keep2 (WalksS.genexpQ (A := A.in4) hA _ _ _ _ wr (fun _ => true) N F ne1 notin sub room (List.mem_range.mpr cs) (Nat.ne_of_lt cs) cw) ?_
  refine ⟨⟨_, _, _, Heap.get?_push_size _ rfl, rfl, rfl, rfl⟩, lim.keeps keep2, _, Array.getElem?_push_size .., fun y hy => ⟨rfl, ?_⟩⟩
  refine start3 (A := A.in4.in1) (cenv := genEnv scope cl z.heap.objs.size code bi env) hA W2 three nab nac nbc F _ ka kb kc (by simp [genEnv, hkind]) hco (fun hm => Nat.lt_irrefl _ (List.mem_range.mp hm)) (hq _ keep2) y y (fun x => if x = (".0" : Str) then some (.ref I) else none) ?_ ?_ (GenSince.refl _ _ _) fun b hb _ o e => hy b (List.mem_cons_of_mem _ hb) o e
  · exact (W2 A hA).frame _ _ _ st2 fun b hb o e => hy b (List.mem_cons_of_mem _ hb) o e
  · exact Heap.Ns.at' (Heap.Ns.push ns1 _) fun o e => hy _ (List.mem_cons_self ..) o e
end

/-! ### all(test for a, b, c in list of tuples) -/
section
open GxR
theorem vals_refs : ∀ {rs : List Addr} {its : List Value}, Vals (rs.map V.ref) its → its = rs.map Value.ref
  | [], _, h => by cases h; rfl
  | a :: r, _, h => by
    cases h with
    | cons h1 h2 =>
      have e1 : _ = Value.ref a := h1
      rw [e1, vals_refs h2]
      rfl
theorem vals3 {a b c : V} {its : List Value} (h : Vals [a, b, c] its) : ∃ u v x, its = [u, v, x] ∧ RelV a u ∧ RelV b v ∧ RelV c x := by
  cases h with
  | cons h1 r =>
    cases r with
    | cons h2 r =>
      cases r with
      | cons h3 r =>
        cases r
        exact ⟨_, _, _, rfl, h1, h2, h3⟩
variable {X : Cx} {pins : List (Addr × Obj)} {σ : L2.St} {H : Hp} {s : Shared}
structure Sc3 (env : Env) (scope : Scope) (xa xb xc : Str) : Prop where
  kind : scope.kind = .function
  co : scope.isCoroutine = false
  cell : ∀ y ∈ scope.names, y.2 ≠ .cell
  dot : scope.names.lookup (".0" : Str) = some NameKind.local
  a : scope.names.lookup xa = some .local
  b : scope.names.lookup xb = some .local
  c : scope.names.lookup xc = some .local
  ab : xa ≠ xb
  ac : xa ≠ xc
  bc : xb ≠ xc
  free : ∀ y ∈ scope.names, y.2 = .free → ∃ c, env.cells.lookup y.1 = some c
/-- what the element gives for the items qs, in whatever state keeps what stood in s1 -/
def EltT (X : Cx) (s1 : Shared) (P : Addr) (scope : Scope) (xa xb xc : Str) (elt : Expr) (qs : List (V × V × V)) (pb : Nat → Bool) : Prop :=
  ∀ (cenv : Env) (A1 : Around) (E1 : Value → Shared → Prop) (i : Nat) (q : V × V × V) (u v x : Value) (z : Shared) (m : Str → Option Value), cenv.scope = scope → cenv.cells = cloFrom X.env.cells scope.names [] →
    (∀ b o, b ≠ P → s1.heap.get? b = some o → z.heap.get? b = some o) → z.heap.Ns cenv.locals m → m xa = some u → m xb = some v → m xc = some x → qs[i]? = some q → RelV q.1 u → RelV q.2.1 v → RelV q.2.2 x →
    wpAny (model X.prog X.w) A1 (eval elt cenv) (fun y z' => y = .bool (pb i) ∧ Keeps z z') E1 z
def ReadyT (X : Cx) (pins : List (Addr × Obj)) (σ : L2.St) (G : Hp) (P : Addr) (n : Nat) (pb : Nat → Bool) (g : Addr) (z : Shared) : Prop :=
  ∃ (fp wr : List Addr) (Gs : Array GenState → Array GenState → Prop) (F : Nat → Value → Prop) (St : Nat → Shared → Prop), WalksS X.prog X.w X.A.in1 g fp wr Gs n F St ∧ St 0 z ∧ TruthOf X.prog X.w X.A.in1 F pb ∧ ∀ z', Moved wr Gs z z' → ∃ G', Tabbed P G G' ∧ Inv X pins σ G' z'
/-- the tuples at ts hold the triples qs -/
def Trs (G : Hp) (l : Addr) (qs : List (V × V × V)) : Prop := ∃ ts : List Addr, G l = some (.lst (ts.map V.ref)) ∧ ts.length = qs.length ∧ ∀ (i : Nat) (t : Addr) (q : V × V × V), ts[i]? = some t → qs[i]? = some q → G t = some (.tup [q.1, q.2.1, q.2.2])
theorem walks_lt {prog : Program} {w : World} {A : Around} {I : Addr} {fp wr : List Addr} {n : Nat} {Pt : Nat → Array Value → Prop} {St : Nat → Heap → Prop} {Mid : Nat → Addr → Heap → Prop} (W : WalksU prog w A I fp wr n Pt St Mid) : WalksU prog w A I fp wr n (fun j v => j < n ∧ Pt j v) St Mid where
  sub := W.sub
  frame := W.frame
  item := fun i s Q E hi st hQ => W.item i s Q E hi st fun T vs h tk pt => hQ T vs h tk ⟨hi, pt⟩
  go := W.go
  apart := W.apart
  done := W.done
  self := W.self
theorem go3 {c P : Addr} {ps : Array Value} {elt : Expr} {xa xb xc : Str} {scope : Scope} {k : Nat} {Q' : Value → Shared → Prop} {n : Nat} {qs : List (V × V × V)} {pb : Nat → Bool} {fp : List Addr} {vals : Nat → Array Value} {St : Nat → Heap → Prop} {Mid : Nat → Addr → Heap → Prop} {o : Obj}
    (hr : Room k X.A) (TB : TabB X.base X.mg c P) (J : L2.Inv X pins σ H s) (hP : H P = some (.tbl ps)) (atP : s.heap.get? P = some { cls := .none, data := .fields ps }) (ltP : P < s.heap.objs.size) (hel : EltT X s P scope xa xb xc elt qs pb) (en : n = qs.length)
    (W : ∀ A1 : Around, A1.handled = none → WalksU X.prog X.w A1 s.heap.objs.size fp [s.heap.objs.size] n (fun j v => j < n ∧ v = vals j) St Mid) (three : ∀ i, ∃ u v x, vals i = #[u, v, x]) (rel : ∀ (i : Nat) (q : V × V × V) (u v x : Value), qs[i]? = some q → vals i = #[u, v, x] → RelV q.1 u ∧ RelV q.2.1 v ∧ RelV q.2.2 x)
    (st0 : ∀ h : Heap, (∀ b u, b ≠ P → (s.heap.push o).get? b = some u → h.get? b = some u) → St 0 h) (fps : ∀ b ∈ fp, b ≤ s.heap.objs.size) (code : Value) (h3 : Heap) (tk : Nat) (ps' more : Array Value) (em : ps' = ps ++ more)
    (hx : Heap.ExtBut P (s.heap.push o) h3) (hsz : (s.heap.push o).objs.size ≤ h3.objs.size) (h3P : h3.get? P = some { cls := .none, data := .fields ps' }) (ok' : TriplesOk ps'.toList) (lim : (s.heap.push o).NoLimit) (hQ : ∀ g z, ReadyT X pins σ H P n pb g z → Q' (.ref g) z) :
    wpAny (model X.prog X.w) X.A (builtinsFor X.env.globals X.env.builtins) (fun bi z => Post3 X.prog X.w X.A X.env elt xa xb xc scope (cloFrom X.env.cells scope.names []) Q' (.ref s.heap.objs.size) code bi z) X.xe { s with heap := h3, toks := tk } := by
  obtain ⟨bm, ob, q1, q2, q3, q4, q5, q6, q7, q8⟩ := TB.bm
  obtain ⟨cm, cns, cnn⟩ := J.nolimit
  have cP : cStatics ≠ P := fun z => by
    obtain ⟨o2, es, ep, g1, g2, _⟩ := cns
    rw [z, atP] at g1
    cases g1
    cases g2
  have cL : cStatics < s.heap.objs.size := cns.lt
  have big : (s.heap.push o).objs.size = s.heap.objs.size + 1 := Heap.size_push ..
  have kept : ∀ b u, b ≠ P → s.heap.get? b = some u → h3.get? b = some u := fun b u n e => hx b u n (Heap.get?_push_of_some _ e)
  have bases : ∀ b u, X.base.get? b = some u → h3.get? b = some u := fun b u e => kept b u (tbl_not hP (J.bs b u e).2) (J.bk b u e)
  refine wpAny_builtinsFor (m := X.mg) (by rw [J.ok.glob]; exact J.mod.glob.keeps bases) q1 q2 (bases _ _ q5) q6 q7 q8 ?_
  refine ⟨s.heap.objs.size, fp, [s.heap.objs.size], n, _, St, Mid, fun i y => y = .bool (pb i), rfl, W, fun i vs h => ?_, st0 _ hx, fun b hb => ?_, lim.extBut hx cP, ?_, ?_, ?_⟩
  · obtain ⟨u, v, x, e⟩ := three i
    exact ⟨u, v, x, by rw [h.2, e]⟩
  · exact Nat.lt_of_lt_of_le (Nat.lt_succ_of_le (fps b hb)) (by show s.heap.objs.size + 1 ≤ h3.objs.size; rw [← big]; exact hsz)
  · rw [List.mem_singleton]
    exact Nat.ne_of_lt cL
  · intro href hh A1 E1 i u v x z m _ pt ns hu hv hxx kp
    have hi := pt.1
    rw [en] at hi
    have eq := List.getElem?_eq_getElem hi
    obtain ⟨r1, r2, r3⟩ := rel i _ u v x eq pt.2.symm
    refine hel _ A1 E1 i _ u v x z m rfl rfl (fun b w nb e => ?_) ns hu hv hxx eq r1 r2 r3
    have lb := Heap.lt_size e
    exact kp b (List.mem_range.mpr (Nat.lt_of_lt_of_le (Nat.lt_of_lt_of_le lb (by rw [big]; exact Nat.le_succ _)) hsz)) (by rw [List.mem_singleton]; exact Nat.ne_of_lt lb) w (hh b w (kept b w nb e))
  · intro g h5 tk5 gs bare _ _ keep5 W5 at5
    have W6 := W5
    simp only [GxR.passing_true, List.length_range] at W6
    refine hQ g _ ⟨_, _, _, _, _, W6.in4_1, at5, fun j y sj Qj Ej hy hq => ?_, fun z mv => ?_⟩
    · obtain ⟨i, hi, e⟩ := hy
      have ey : y = .bool (pb i) := e
      subst ey
      obtain ⟨_, ei⟩ := List.getElem?_eq_some_iff.mp hi
      rw [List.getElem_range] at ei
      subst ei
      exact wpAny_truthy_bool hq
    · have off : ∀ b u, s.heap.get? b = some u → b ∉ h3.objs.size :: [s.heap.objs.size] := fun b u e hb => by
        have l1 := Heap.lt_size e
        have l2 : s.heap.objs.size < h3.objs.size := Nat.lt_of_lt_of_le (by rw [big]; exact Nat.lt_succ_self _) hsz
        rcases List.mem_cons.mp hb with r | r
        · rw [r] at l1; exact absurd (Nat.lt_trans l1 l2) (Nat.lt_irrefl _)
        · rw [List.mem_singleton.mp r] at l1; exact absurd l1 (Nat.lt_irrefl _)
      have L := inv_tab (more := more) (h' := z.heap) (g' := z.gens) (d' := z.drawn) (t' := z.toks) J hP (fun b u n e => mv.heap b u (off b u e) (keep5 b u (kept b u n e))) (by rw [← em]; exact mv.heap P _ (off P _ atP) (keep5 P _ h3P)) (PyProof.Rows.AllBare.movedS (J.bare.push bare) mv)
      rw [sh_eta s z mv.os] at L
      exact ⟨upd H P (.tbl (ps ++ more)), ⟨⟨ps ++ more, upd_same, by rw [← em]; exact ok'⟩, fun b n => upd_ne n⟩, L⟩
theorem gen3 {c P : Addr} {elt iter : Expr} {xa xb xc : Str} {pa pb' pc pt : Pos} {kt : Nat} {scope : Scope} {gpos : Pos} {te : TE} {k : Nat} {Q' : Value → Shared → Prop} {R : Nat → (Nat → Bool) → Hp → Prop}
    (hr : Room k X.A) (TB : TabB X.base X.mg c P) (hcode : X.env.code = .ref c) (sc : Sc3 X.env scope xa xb xc) (hi : PE X iter te) (hs : ∀ v, genFold iter X.env v = pure v) (I : L2.Inv X pins σ H s)
    (h : te σ H fun v G => ∃ (l : Addr) (qs : List (V × V × V)) (pb : Nat → Bool), v = .ref l ∧ Trs G l qs ∧ TabG G P ∧ (∀ pins1 s1, L2.Inv X pins1 σ G s1 → EltT X s1 P scope xa xb xc elt qs pb) ∧ R qs.length pb G)
    (hQ : ∀ n pb G g z, R n pb G → ReadyT X pins σ G P n pb g z → Q' (.ref g) z) :
    wpAny (model X.prog X.w) X.A (eval (gx3 elt iter xa xb xc pa pb' pc pt kt scope gpos) X.env) Q' X.xe s := by
  have room : X.A.depth < recursionLimit := by have := hr.dp; omega
  refine walks3 hr.hd sc.co (closure_ok sc.free) sc.cell sc.dot sc.a sc.b sc.c sc.ab sc.ac sc.bc sc.kind room (thn (hi.run pins s σ H _ I h) fun u s1 ⟨v, G, J, rv, l, qs, pb, ev, ⟨ts, hl, tz, ht⟩, ⟨ps, hP, ok⟩, hel, hR⟩ => ?_) hs
  subst ev
  cases rv
  obtain ⟨its, ri, pl, _⟩ := J.list (SqL.of hl)
  have eits := vals_refs ri
  subst eits
  refine wpAny_pyIter_list pl.isList ?_
  have key : ∀ i : Nat, ∃ arr : Array Value, (∃ u v x, arr = #[u, v, x]) ∧ ∀ (t : Addr) (q : V × V × V), ts[i]? = some t → qs[i]? = some q → ∃ u v x, arr = #[u, v, x] ∧ RelV q.1 u ∧ RelV q.2.1 v ∧ RelV q.2.2 x ∧ s1.heap.IsTuple t arr := fun i => by
    cases et : ts[i]? with
    | none => exact ⟨#[.none, .none, .none], ⟨_, _, _, rfl⟩, fun t q z _ => by cases z⟩
    | some t =>
      cases eq : qs[i]? with
      | none => exact ⟨#[.none, .none, .none], ⟨_, _, _, rfl⟩, fun t q _ z => by cases z⟩
      | some q =>
        obtain ⟨its, rq, tq, _⟩ := J.tuple (SqT.of (ht i t q et eq))
        obtain ⟨u, v, x, rfl, r1, r2, r3⟩ := vals3 rq
        exact ⟨#[u, v, x], ⟨_, _, _, rfl⟩, fun t' q' z1 z2 => by cases z1; cases z2; exact ⟨u, v, x, rfl, r1, r2, r3, tq⟩⟩
  have ⟨vals, hvals⟩ : ∃ vals : Nat → Array Value, ∀ i, (∃ u v x, vals i = #[u, v, x]) ∧ ∀ (t : Addr) (q : V × V × V), ts[i]? = some t → qs[i]? = some q → ∃ u v x, vals i = #[u, v, x] ∧ RelV q.1 u ∧ RelV q.2.1 v ∧ RelV q.2.2 x ∧ s1.heap.IsTuple t (vals i) := ⟨fun i => Classical.choose (key i), fun i => Classical.choose_spec (key i)⟩
  have isz : (ts.map Value.ref).toArray.size = qs.length := by simp [tz]
  have atT : ∀ j, j < (ts.map Value.ref).toArray.size → ts[j]? = some (ts.getD j 0) := fun j hj => by
    rw [List.getD_eq_getElem?_getD, List.getElem?_eq_getElem (by rw [isz, ← tz] at hj; exact hj)]
    rfl
  have atQ : ∀ j, j < (ts.map Value.ref).toArray.size → ∃ q, qs[j]? = some q := fun j hj => ⟨_, List.getElem?_eq_getElem (by rw [isz] at hj; exact hj)⟩
  have tups : ∀ j, j < (ts.map Value.ref).toArray.size → s1.heap.IsTuple (ts.getD j 0) (vals j) := fun j hj => by
    obtain ⟨q, hq⟩ := atQ j hj
    obtain ⟨_, _, _, _, _, _, _, r⟩ := (hvals j).2 _ q (atT j hj) hq
    exact r
  have lts : ∀ j, j < (ts.map Value.ref).toArray.size → ts.getD j 0 < s1.heap.objs.size := fun j hj => by
    obtain ⟨o, e, _⟩ := tups j hj
    exact Heap.lt_size e
  have ltl : l < s1.heap.objs.size := by
    obtain ⟨o, n, e, _⟩ := pl
    exact Heap.lt_size e
  have atP : s1.heap.get? P = some { cls := .none, data := .fields ps } := J.hok P _ hP
  have ltP : P < s1.heap.objs.size := Heap.lt_size atP
  have big : (s1.heap.push { cls := .type "list_iterator", data := .fields #[.ref l, .int 0 0] }).objs.size = s1.heap.objs.size + 1 := Heap.size_push ..
  have lenT : (ts.map Value.ref).toArray.size = ts.length := by simp
  have W : ∀ A1 : Around, A1.handled = none → WalksU X.prog X.w A1 s1.heap.objs.size (s1.heap.objs.size :: l :: (List.range (ts.map Value.ref).toArray.size).map fun j => ts.getD j 0) [s1.heap.objs.size] (ts.map Value.ref).toArray.size (fun j v => v = vals j) _ _ := fun A1 h1 => WalksU.listOfTuples h1 s1.heap.objs.size l (Nat.ne_of_lt ltl) (ts.map Value.ref).toArray (fun j => ts.getD j 0) vals (fun j hj => by
    have e := atT j hj
    rw [List.getElem?_toArray, List.getElem?_map, e]
    rfl) (fun j hj => Nat.ne_of_lt (lts j hj))
  have W2 := fun A1 h1 => walks_lt (W A1 h1)
  have rel : ∀ (i : Nat) (q : V × V × V) (u v x : Value), qs[i]? = some q → vals i = #[u, v, x] → RelV q.1 u ∧ RelV q.2.1 v ∧ RelV q.2.2 x := fun i q u v x hq e => by
    have hi : i < (ts.map Value.ref).toArray.size := by rw [isz]; exact (List.getElem?_eq_some_iff.mp hq).1
    obtain ⟨u', v', x', e', r1, r2, r3, _⟩ := (hvals i).2 _ q (atT i hi) hq
    rw [e] at e'
    have l3 := congrArg Array.toList e'
    simp only [List.cons.injEq, and_true] at l3
    obtain ⟨rfl, rfl, rfl⟩ := l3
    exact ⟨r1, r2, r3⟩
  have neT : ∀ j, j < (ts.map Value.ref).toArray.size → ts.getD j 0 ≠ P := fun j hj => by
    obtain ⟨q, hq⟩ := atQ j hj
    exact ne_of (ht j _ q (atT j hj) hq) hP (by intro z; cases z)
  have nl : l ≠ P := ne_of hl hP (by intro z; cases z)
  have atP' : (s1.heap.push { cls := .type "list_iterator", data := .fields #[.ref l, .int 0 0] }).get? P = some { cls := .none, data := .fields ps } := Heap.get?_push_of_some _ atP
  have cd : PySem.W.CodeHd (s1.heap.push { cls := .type "list_iterator", data := .fields #[.ref l, .int 0 0] }) c P := TB.code.keeps fun b w e => Heap.get?_push_of_some _ (J.bk b w e)
  have lim : (s1.heap.push { cls := .type "list_iterator", data := .fields #[.ref l, .int 0 0] }).NoLimit := J.nolimit.push _
  have next : ∀ (code : Value) (h3 : Heap) (tk : Nat) (ps' more : Array Value), ps' = ps ++ more → Heap.ExtBut P (s1.heap.push { cls := .type "list_iterator", data := .fields #[.ref l, .int 0 0] }) h3 → (s1.heap.push { cls := .type "list_iterator", data := .fields #[.ref l, .int 0 0] }).objs.size ≤ h3.objs.size → h3.get? P = some { cls := .none, data := .fields ps' } → TriplesOk ps'.toList → _ :=
    fun code h3 tk ps' more em hx hsz h3P ok' => go3 hr TB J hP atP ltP (hel pins s1 J) (isz) W2 (fun i => (hvals i).1) rel
      (fun h kh => ⟨⟨_, kh _ _ (Nat.ne_of_gt ltP) (Heap.get?_push_size _ rfl), rfl, rfl⟩, (by obtain ⟨u, e, r⟩ := pl.isList; exact ⟨u, kh _ _ nl (Heap.get?_push_of_some _ e), r⟩), fun j hj => by
        obtain ⟨u, e, r⟩ := tups j hj
        exact ⟨u, kh _ _ (neT j hj) (Heap.get?_push_of_some _ e), r⟩⟩)
      (fun b hb => by
        rcases List.mem_cons.mp hb with rfl | hb
        · exact Nat.le_refl _
        · rcases List.mem_cons.mp hb with rfl | hb
          · exact Nat.le_of_lt ltl
          · obtain ⟨j, hj, rfl⟩ := List.mem_map.mp hb
            exact Nat.le_of_lt (lts j (List.mem_range.mp hj))) code h3 tk ps' more em hx hsz h3P ok' lim fun g z rd => hQ _ _ G g z hR (by rw [← isz]; exact rd)
  refine ⟨lim, ?_⟩
  cases hf : codeAmong gpos ps.toList with
  | some cv => exact wpAny_genexprCode_hit hcode (cd.code atP' ok) hf (next cv _ s1.toks ps #[] (by simp) (Heap.ExtBut.refl _ _) (Nat.le_refl _) atP' ok)
  | none =>
    refine wpAny_genexprCodeX hcode (cd.code atP' ok) (cd.tab atP') hf fun c' h' tk hx hge hlt hco' _ htab' _ => ?_
    obtain ⟨o1, vs, f1, tf, fl, tg, inF, tx, tt, op, _, _, _, _, _, _, _, _, _, htr, _⟩ := hco'
    exact next _ h' tk _ _ rfl hx (Nat.le_trans hge (Nat.le_of_lt hlt)) htab'.2 htr
/-- the reading of all(elt for a, b, c in iter) -/
def tAll3 (X : Cx) (P : Addr) (scope : Scope) (xa xb xc : Str) (elt : Expr) (te : TE) : TE := fun σ H Q => te σ H fun v G => ∃ (l : Addr) (qs : List (V × V × V)) (pb : Nat → Bool), v = .ref l ∧ Trs G l qs ∧ TabG G P ∧ (∀ pins1 s1, L2.Inv X pins1 σ G s1 → EltT X s1 P scope xa xb xc elt qs pb) ∧ ∀ G', Tabbed P G G' → Q (.bl ((List.range qs.length).all pb)) G'
theorem pe_all3 {c P : Addr} {elt iter : Expr} {xa xb xc : Str} {pa pb' pc pt p pos gpos : Pos} {kt : Nat} {scope : Scope} {te : TE} {k : Nat} (hr : Room k X.A) (hg : Gl X "all") (hm : X.mg "all" = none) (TB : TabB X.base X.mg c P) (hcode : X.env.code = .ref c) (sc : Sc3 X.env scope xa xb xc) (hi : PE X iter te) (hs : ∀ v, genFold iter X.env v = pure v)
    (he : starEach [gx3 elt iter xa xb xc pa pb' pc pt kt scope gpos] X.env = (false, eval (gx3 elt iter xa xb xc pa pb' pc pt kt scope gpos) X.env) :: starEach [] X.env := by rfl) :
    PE X (.Call (.Name "all" p) [gx3 elt iter xa xb xc pa pb' pc pt kt scope gpos] [] pos) (tAll3 X P scope xa xb xc elt te) := by
  constructor
  intro pins s σ H Q I hyp
  have hb : bootBuiltins "all" = some (.builtin "all") := by decide +kernel
  refine wpAny_Call_Name_kw (ld_blt I hg hm hb (PyProof.Rows.callWith_builtin1 ?_ he (by rfl)))
  rw [he]
  show wpAny _ _ (spliced ((false, eval (gx3 elt iter xa xb xc pa pb' pc pt kt scope gpos) X.env) :: backTo pos (starEach [] X.env))) _ _ s
  refine Calls.spliced_cons (gen3 (R := fun n pb G => ∀ G', Tabbed P G G' → Q (.bl ((List.range n).all pb)) G') hr TB hcode sc hi hs I hyp fun n pb G g z hR rd => Calls.spliced_nil ?_)
  obtain ⟨fp, wr, Gs, F, St, W, st, tr, done⟩ := rd
  refine call_all_walkS (W.self 0 _ _ _ st ⟨g, fp, wr, Gs, _, F, St, _, rfl, W, st, tr, fun z' mv => ?_⟩)
  obtain ⟨G', tb, L⟩ := done z' mv
  exact ⟨.bl _, G', L, rfl, hR G' tb⟩
/-! ### the element colours[before] + colours[behind] == 2 * colours[over] -/
theorem lookup_of_mem {c : Addr} {n : Str} : ∀ {L : List (Str × Addr)}, (n, c) ∈ L → ∃ d, L.lookup n = some d ∧ (n, d) ∈ L
  | [], h => by cases h
  | (m, e) :: r, h => by
    by_cases hm : n = m
    · subst hm
      exact ⟨e, by simp, List.mem_cons_self⟩
    · rcases List.mem_cons.mp h with h | h
      · cases h; exact absurd rfl hm
      · obtain ⟨d, h1, h2⟩ := lookup_of_mem h
        refine ⟨d, ?_, List.mem_cons_of_mem _ h2⟩
        rw [List.lookup_cons, show (n == m) = false from beq_eq_false_iff_ne.mpr hm]
        exact h1
theorem clo_lookup {cells : List (Str × Addr)} {names : List (Str × NameKind)} {n : Str} {c : Addr} (h : (n, NameKind.free) ∈ names) (hc : cells.lookup n = some c) : (cloFrom cells names []).lookup n = some c := by
  obtain ⟨d, h1, h2⟩ := lookup_of_mem (cloFrom_has (cells := cells) (acc := []) h)
  rcases cloFrom_mem h2 with h2 | ⟨_, h2⟩
  · cases h2
  · rw [h1, h2, hc]
    rfl
def crossV (c : Nat × Nat × Nat) : V × V × V := (.int (c.1 : Int), .int (c.2.1 : Int), .int (c.2.2 : Int))
def keepB (A : List Int) (c : Nat × Nat × Nat) : Bool := A.getD c.2.1 0 + A.getD c.2.2 0 == 2 * A.getD c.1 0
def keepAt (cs : List (Nat × Nat × Nat)) (A : List Int) (i : Nat) : Bool := match cs[i]? with
  | some c => keepB A c
  | none => false
theorem all_keep (cs : List (Nat × Nat × Nat)) (A : List Int) : (List.range cs.length).all (keepAt cs A) = cs.all (keepB A) := by
  rw [Bool.eq_iff_iff, List.all_eq_true, List.all_eq_true]
  constructor
  · intro h c hc
    obtain ⟨i, hi, e⟩ := List.getElem_of_mem hc
    have := h i (List.mem_range.mpr hi)
    unfold keepAt at this
    rw [List.getElem?_eq_getElem hi, e] at this
    exact this
  · intro h i hi
    have hi' := List.mem_range.mp hi
    unfold keepAt
    rw [List.getElem?_eq_getElem hi']
    exact h _ (List.getElem_mem hi')
theorem vals_ints : ∀ {A : List Int} {its : List Value}, Vals (A.map V.int) its → ∀ i, i < A.length → ∃ t, its[i]? = some (.int (A.getD i 0) t)
  | [], _, _, i, hi => by cases hi
  | a :: r, _, h, i, hi => by
    cases h with
    | cons h1 h2 =>
      obtain ⟨t, rfl⟩ := h1
      cases i with
      | zero => exact ⟨t, rfl⟩
      | succ i => exact vals_ints h2 i (Nat.lt_of_succ_lt_succ hi)
theorem elt_cross {P cp : Addr} {G : Hp} {s1 : Shared} {scope : Scope} {xa xb xc y : Str} {ic : Nat} {A : List Int} {cs : List (Nat × Nat × Nat)} {ps : Array Value} {p1 p2 p3 p4 p5 p6 p7 p8 p9 p10 p11 p12 p13 : Pos} {kk : Nat}
    (J : L2.Inv X pins σ G s1) (hk : scope.kind = .function) (ka : scope.names.lookup xa = some .local) (kb : scope.names.lookup xb = some .local) (kc : scope.names.lookup xc = some .local) (ky : scope.names.lookup y = some .free) (my : (y, NameKind.free) ∈ scope.names)
    (hN : X.N[ic]? = some y) (hy : X.env.kindOf y = some .cell) (hv : X.env.scope.names.lookup y = some .cell) (hσ : σ[ic]? = some (some (.ref cp))) (hG : G cp = some (.lst (A.map V.int))) (hP : G P = some (.tbl ps)) (hz : A.length ≤ 1000000)
    (hin : ∀ (i : Nat) (c : Nat × Nat × Nat), cs[i]? = some c → c.1 < A.length ∧ c.2.1 < A.length ∧ c.2.2 < A.length)
    (da : (xa == ("__debug__" : Str)) = false := by decide) (db : (xb == ("__debug__" : Str)) = false := by decide) (dc : (xc == ("__debug__" : Str)) = false := by decide) (dy : (y == ("__debug__" : Str)) = false := by decide) (cy : (y == ("__classdict__" : Str)) = false := by decide) :
    EltT X s1 P scope xa xb xc (.Compare (.BinOp (.Subscript (.Name y p1) (.Name xb p2) p3) .Add (.Subscript (.Name y p4) (.Name xc p5) p6) p7) [.Eq] [.BinOp (.Constant (.int 2) kk p8) .Mult (.Subscript (.Name y p9) (.Name xa p10) p11) p12] p13) (cs.map crossV) (keepAt cs A) := by
  intro cenv A1 E1 i q u v x z m es ec kept ns hu hv' hx hq r1 r2 r3
  rw [List.getElem?_map] at hq
  cases hc : cs[i]? with
  | none => rw [hc] at hq; cases hq
  | some c =>
    rw [hc] at hq
    cases hq
    obtain ⟨t1, rfl⟩ := r1
    obtain ⟨t2, rfl⟩ := r2
    obtain ⟨t3, rfl⟩ := r3
    obtain ⟨b1, b2, b3⟩ := hin i c hc
    -- the list in its cell
    obtain ⟨m0, _, hl⟩ := J.loc
    obtain ⟨w, rw_, look⟩ := hl ic y (.ref cp) hN hσ (.inr (.inl hv))
    have ew : w = .ref cp := rw_
    subst ew
    obtain ⟨cc, hcc, cell⟩ : ∃ c, X.env.cells.lookup y = some c ∧ s1.heap.IsCell c (some (.ref cp)) := by
      rcases look with ⟨h1, _⟩ | ⟨_, h2⟩
      · rw [hy] at h1; cases h1
      · exact h2
    have ncP : cc ≠ P := fun e => by
      have := J.freeC y cc hcc
      rw [e, hP] at this
      cases this
    have ncp : cp ≠ P := ne_of hG hP (by intro z; cases z)
    obtain ⟨its, ri, pl, _⟩ := J.list (SqL.of hG)
    have get := vals_ints ri
    have cl : cenv.cells.lookup y = some cc := by rw [ec]; exact clo_lookup my hcc
    have kind : cenv.scope.kind = .function := by rw [es]; exact hk
    have cellZ : ∀ z2 : Shared, (∀ b o, z.heap.get? b = some o → z2.heap.get? b = some o) → z2.heap.IsCell cc (some (.ref cp)) := fun z2 k2 => by
      obtain ⟨o, e, r⟩ := cell
      exact ⟨o, k2 _ _ (kept _ _ ncP e), r⟩
    have listZ : ∀ z2 : Shared, (∀ b o, z.heap.get? b = some o → z2.heap.get? b = some o) → z2.heap.IsList cp its.toArray := fun z2 k2 => by
      obtain ⟨o, e, r⟩ := pl.isList
      exact ⟨o, k2 _ _ (kept _ _ ncp e), r⟩
    have item : ∀ (n : Str) (j : Nat) (tj : Tok) (q1 q2 q3 : Pos) (tk : Nat) (Q : Value → Shared → Prop), cenv.kindOf n = some .local → (n == ("__debug__" : Str)) = false → m n = some (.int (j : Int) tj) → j < A.length → (∀ t, Q (.int (A.getD j 0) t) { z with toks := tk }) →
        wpAny (model X.prog X.w) A1 (eval (.Subscript (.Name y q1) (.Name n q2) q3) cenv) Q E1 { z with toks := tk } := fun n j tj q1 q2 q3 tk Q hn hd hm hj hQ => by
      obtain ⟨t, ht⟩ := get j hj
      refine PyProof.Rows.Subscript_ (wpAny_Name (wpAny_loadName_free kind (show cenv.scope.names.lookup y = some .free by rw [es]; exact ky) cl (cellZ _ fun _ _ e => e) ?_ cy) dy)
      refine wpAny_Name (wpAny_loadName_local kind hn ns hm ?_) hd
      exact PyProof.Rows.item_listR (listZ { z with toks := tk } fun _ _ e => e) (by omega) (by omega) (by rw [Int.toNat_natCast]; simpa using ht) (hQ t) rfl
    have kA : cenv.kindOf xa = some .local := by show cenv.scope.names.lookup xa = _; rw [es]; exact ka
    have kB : cenv.kindOf xb = some .local := by show cenv.scope.names.lookup xb = _; rw [es]; exact kb
    have kC : cenv.kindOf xc = some .local := by show cenv.scope.names.lookup xc = _; rw [es]; exact kc
    refine wpAny_Compare1 (wpAny_BinOp (item xb _ _ _ _ _ z.toks _ kB db hv' b2 fun t => item xc _ _ _ _ _ z.toks _ kC dc hx b3 fun t' => PyProof.Rows.add_int ?_))
    refine wpAny_BinOp (wpAny_Constant_int (item xa _ _ _ _ _ _ _ kA da hu b1 fun t'' => PyProof.Rows.mul_int ?_ (IntMulOk.of_left (by decide))))
    refine PyProof.Rows.eq_int ⟨?_, z.heap, _, rfl, fun _ _ e => e⟩
    unfold keepAt
    rw [hc]
    rfl
end

open PySem L2 PySem.Spec PyProof.Rows
section
variable {X : Cx} {pos p2 : Pos}
/-- xs[a:c] = a list of its own, a and c told -/
def gSlc (to : TE) (tl th : TO) : TG := fun v σ H Q => to σ H fun o H1 => tl σ H1 fun l H2 => th σ H2 fun u H3 => ∃ (p b : Addr) (xs ys : List V) (a c : Int), o = .ref p ∧ v = .ref b ∧ l = some a ∧ u = some c ∧ H3 p = some (.lst xs) ∧ H3 b = some (.lst ys) ∧ p ≠ b ∧ 0 ≤ a ∧ a ≤ c ∧ c ≤ xs.length ∧ xs.length + ys.length ≤ sizeLine ∧ Q σ (upd H3 p (.lst (xs.take a.toNat ++ ys ++ xs.drop c.toNat)))
theorem pg_slc {o : Expr} {lo hi : Option Expr} {to : TE} {tl th : TO} (ho : PE X o to) (hl : PO X lo tl) (hu : PO X hi th)
    : PG X (.Subscript o (.Slice lo hi none p2) pos) (gSlc to tl th) := by
  refine ⟨fun pins sh σ H v u Q I r h => ?_⟩
  rw [show assign (.Subscript o (.Slice lo hi none p2) pos) X.env u = (do
      let ov ← holding [u] (eval o X.env)
      let iv ← holding [u, ov] (eval (.Slice lo hi none p2) X.env)
      standAt pos
      holding [u, ov, iv] (setItem ov iv u)
      release [iv, u, ov] []) from rfl]
  refine wpAny_bind (wpAny_holding (thn (ho.run pins sh σ H _ I h) fun ob s1 ⟨x, H1, I1, r1, q1⟩ => ?_))
  refine wpAny_bind (wpAny_holding (wpAny_Slice (thn (hl.run pins s1 σ H1 _ I1 q1) fun vl s2 ⟨l, H2, I2, pl, q2⟩ => thn (hu.run pins s2 σ H2 _ I2 q2) fun vu s3 ⟨u', H3, I3, pu, q3⟩ => ?_)))
  rw [evalPart_none]
  refine wpAny_pure ?_
  have I4 := I3.kept (h' := s3.heap.push { cls := .type "slice", data := .fields #[vl, vu, .none] }) (t' := s3.toks) fun b ob hb => Heap.get?_push_of_some _ hb
  obtain ⟨p, b, xs, ys, a, c, rfl, rfl, rfl, rfl, e1, e2, ne, a0, ac, cx, sz, q⟩ := q3
  cases r1
  cases r
  have ra : RelV (.int a) vl := by cases pl; exact ⟨_, rfl⟩
  have rc : RelV (.int c) vu := by cases pu; exact ⟨_, rfl⟩
  refine wpAny_bind (wpAny_standAt (wpAny_bind (wpAny_holding (set_slice I4 e1 e2 ne (Heap.IsSliceOf.new ..) ra rc a0 ac cx sz fun s' I' => ?_))))
  exact wpAny_release ⟨σ, _, I', q⟩
/-- list(text): its letters -/
theorem call_list_text (hc : X.calm = true) : CallR X (.type "list") (fun xs H Q => ∃ l : List Nat, xs = [.str (S l)] ∧ l.length ≤ sizeLine ∧ ∀ p, H p = none → Q (.ref p) (upd H p (.lst (l.map fun c => V.str (S [c]))))) := by
  intro pins s σ H xs us Q I r h
  obtain ⟨l, rfl, hz, q⟩ := h
  obtain ⟨u, rfl, t, rfl⟩ := vals1 r
  have el : (S l).cps.size = l.length := by
    have := congrArg List.length (S_list l)
    simpa using this
  refine call_list_str (I.ok.hd hc) (S l) t (fun h' tk acc c' hk e' hi => ?_) (by rw [el]; exact hz)
  have vs : Vals (l.map fun c => V.str (S [c])) acc.toList := by
    refine vals_of_at (by rw [List.length_map]; exact (el.symm.trans hi.1.symm).trans (Array.length_toList (xs := acc)).symm) fun j x v hx hv => ?_
    rw [Array.getElem?_toList] at hv
    obtain ⟨c, w, h1, rfl⟩ := hi.2 j v hv
    rw [List.getElem?_map] at hx
    have h2 : l[j]? = some c := by
      have := S_list l
      rw [← this, Array.getElem?_toList]
      exact h1
    rw [h2] at hx
    cases hx
    exact ⟨w, rfl⟩
  refine ⟨.ref s.heap.objs.size, _, I.laid hk (Nat.le_refl _) (show ObjOk X.prog X.w _ _ _ (.lst (l.map fun c => V.str (S [c]))) from ⟨?_, acc.toList, c', vs, ?_⟩), rfl, q _ (I.hok.fresh (Nat.le_refl _))⟩
  · rw [List.length_map]; exact hz
  · rw [Array.toArray_toList]; exact e'
end
def top (i : Nat) : Stmt := PySem.Challenge.pw_ropedance_k23_whole_undone.main.body.getD i (.Pass ⟨0, 0, 0, 0⟩)
abbrev s_fraction : Stmt := top 7
theorem sc_fraction : FnScope ["p", "q", "divisor"] ["p", "q"] (defScope s_fraction) := ⟨rfl, rfl, rfl, by decide +kernel, rfl, by decide +kernel, by decide +kernel⟩
abbrev s_after : Stmt := top 8
theorem sc_after : FnScope ["fraction", "dance", "p", "q", "letter"] ["fraction", "dance"] (defScope s_after) := ⟨rfl, rfl, rfl, by decide +kernel, rfl, by decide +kernel, by decide +kernel⟩
abbrev s_turned : Stmt := top 9
theorem sc_turned : FnScope ["p", "q"] ["p", "q"] (defScope s_turned) := ⟨rfl, rfl, rfl, by decide +kernel, rfl, by decide +kernel, by decide +kernel⟩
abbrev s_quotients : Stmt := top 10
theorem sc_quotients : FnScope ["fraction", "p", "q", "parts", "rest"] ["fraction"] (defScope s_quotients) := ⟨rfl, rfl, rfl, by decide +kernel, rfl, by decide +kernel, by decide +kernel⟩
abbrev s_number : Stmt := top 13
theorem sc_number : FnScope ["dance"] ["dance"] (defScope s_number) := ⟨rfl, rfl, rfl, by decide +kernel, rfl, by decide +kernel, by decide +kernel⟩
abbrev s_backward : Stmt := top 14
theorem sc_backward : FnScope ["dance"] ["dance"] (defScope s_backward) := ⟨rfl, rfl, rfl, by decide +kernel, rfl, by decide +kernel, by decide +kernel⟩
abbrev s_mirrored : Stmt := top 15
theorem sc_mirrored : FnScope ["dance", "letter"] ["dance"] (defScope s_mirrored) := ⟨rfl, rfl, rfl, by decide +kernel, rfl, by decide +kernel, by decide +kernel⟩
abbrev s_steps : Stmt := top 17
theorem sc_steps : FnScope ["fraction", "parts"] ["fraction"] (defScope s_steps) := ⟨rfl, rfl, rfl, by decide +kernel, rfl, by decide +kernel, by decide +kernel⟩
abbrev s_runs : Stmt := top 18
theorem sc_runs : FnScope ["fraction", "letters", "k", "part"] ["fraction"] (defScope s_runs) := ⟨rfl, rfl, rfl, by decide +kernel, rfl, by decide +kernel, by decide +kernel⟩
abbrev s_undo : Stmt := top 19
theorem sc_undo : FnScope ["dance", "letter", "many"] ["dance"] (defScope s_undo) := ⟨rfl, rfl, rfl, by decide +kernel, rfl, by decide +kernel, by decide +kernel⟩
abbrev s_ways_on : Stmt := top 21
theorem sc_ways_on : FnScope ["all_runs", "ways", "at", "_"] ["all_runs"] (defScope s_ways_on) := ⟨rfl, rfl, rfl, by decide +kernel, rfl, by decide +kernel, by decide +kernel⟩
abbrev s_diagram : Stmt := top 23
theorem sc_diagram : FnScope ["dance", "arc_count", "crossings", "nw", "ne", "sw", "se", "letter"] ["dance"] (defScope s_diagram) := ⟨rfl, rfl, rfl, by decide +kernel, rfl, by decide +kernel, by decide +kernel⟩
abbrev s_is_colouring : Stmt := top 24
theorem sc_is_colouring : FnScope ["dance", "colours", "arc_count", "crossings", "_"] ["dance", "colours"] (defScope s_is_colouring) := ⟨rfl, rfl, rfl, by decide +kernel, rfl, by decide +kernel, by decide +kernel⟩
abbrev s_is_plain : Stmt := top 25
theorem sc_is_plain : FnScope ["colours"] ["colours"] (defScope s_is_plain) := ⟨rfl, rfl, rfl, by decide +kernel, rfl, by decide +kernel, by decide +kernel⟩
abbrev s_colouring : Stmt := top 26
theorem sc_colouring : FnScope ["dance", "first", "second", "crossings", "colours", "over", "before", "_"] ["dance", "first", "second"] (defScope s_colouring) := ⟨rfl, rfl, rfl, by decide +kernel, rfl, by decide +kernel, by decide +kernel⟩
abbrev s_reading : Stmt := top 27
theorem sc_reading : FnScope ["dance", "colours", "nw", "ne", "_", "se"] ["dance", "colours"] (defScope s_reading) := ⟨rfl, rfl, rfl, by decide +kernel, rfl, by decide +kernel, by decide +kernel⟩
abbrev s_is_move : Stmt := top 31
theorem sc_is_move : FnScope ["move", "place", "old", "new", "word"] ["move"] (defScope s_is_move) := ⟨rfl, rfl, rfl, by decide +kernel, rfl, by decide +kernel, by decide +kernel⟩
abbrev s_made : Stmt := top 32
theorem sc_made : FnScope ["dance", "move", "place", "old", "new", "behind"] ["dance", "move"] (defScope s_made) := ⟨rfl, rfl, rfl, by decide +kernel, rfl, by decide +kernel, by decide +kernel⟩
abbrev s_leads : Stmt := top 33
theorem sc_leads : FnScope ["one", "moves", "other", "dance", "move"] ["one", "moves", "other"] (defScope s_leads) := ⟨rfl, rfl, rfl, by decide +kernel, rfl, by decide +kernel, by decide +kernel⟩
abbrev s_to_standard : Stmt := top 35
theorem sc_to_standard : FnScope ["dance", "front", "letter"] ["dance"] (defScope s_to_standard) := ⟨rfl, rfl, rfl, by decide +kernel, rfl, by decide +kernel, by decide +kernel⟩
abbrev s_judge : Stmt := top 38
theorem sc_judge : FnScope ["one", "other"] ["one", "other"] (defScope s_judge) := ⟨rfl, rfl, rfl, by decide +kernel, rfl, by decide +kernel, by decide +kernel⟩
abbrev s_taken_back : Stmt := top 39
theorem sc_taken_back : FnScope ["moves", "place", "old", "new"] ["moves"] (defScope s_taken_back) := ⟨rfl, rfl, rfl, by decide +kernel, rfl, by decide +kernel, by decide +kernel⟩
abbrev s_accepts : Stmt := top 40
theorem sc_accepts : FnScope ["one", "other", "paper", "first", "second"] ["one", "other", "paper"] (defScope s_accepts) := ⟨rfl, rfl, rfl, by decide +kernel, rfl, by decide +kernel, by decide +kernel⟩
abbrev s_law_tape : Stmt := top 42
theorem sc_law_tape : FnScope ["script", "k", "cell"] ["script", "k"] (defScope s_law_tape) := ⟨rfl, rfl, rfl, by decide +kernel, rfl, by decide +kernel, by decide +kernel⟩
abbrev s_law_take : Stmt := top 43
theorem sc_law_take : FnScope ["tape", "many", "got", "mixed"] ["tape", "many"] (defScope s_law_take) := ⟨rfl, rfl, rfl, by decide +kernel, rfl, by decide +kernel, by decide +kernel⟩
abbrev s_law_dance : Stmt := top 44
theorem sc_law_dance : FnScope ["tape", "most", "dance", "size", "k"] ["tape", "most"] (defScope s_law_dance) := ⟨rfl, rfl, rfl, by decide +kernel, rfl, by decide +kernel, by decide +kernel⟩
abbrev s_law_called : Stmt := top 45
theorem sc_law_called : FnScope ["value", "letter", "p", "q"] ["value", "letter"] (defScope s_law_called) := ⟨rfl, rfl, rfl, by decide +kernel, rfl, by decide +kernel, by decide +kernel⟩
abbrev s_law_number : Stmt := top 46
theorem sc_law_number : FnScope ["dance", "value", "letter"] ["dance"] (defScope s_law_number) := ⟨rfl, rfl, rfl, by decide +kernel, rfl, by decide +kernel, by decide +kernel⟩
abbrev s_law_same : Stmt := top 47
theorem sc_law_same : FnScope ["told", "due", "k"] ["told", "due"] (defScope s_law_same) := ⟨rfl, rfl, rfl, by decide +kernel, rfl, by decide +kernel, by decide +kernel⟩
abbrev s_law_alike : Stmt := top 48
theorem sc_law_alike : FnScope ["one", "other", "paper"] ["one", "other"] (defScope s_law_alike) := ⟨rfl, rfl, rfl, by decide +kernel, rfl, by decide +kernel, by decide +kernel⟩
abbrev s_law : Stmt := top 49
theorem sc_law : FnScope ["script", "k", "tape", "dance", "way", "least", "j", "other"] ["script"] (defScope s_law) := ⟨rfl, rfl, rfl, by decide +kernel, rfl, by decide +kernel, by decide +kernel⟩
/-! ### heaps, tapes, pairs -/
/-- all that was tracked is as it was, but what stands at a -/
def But (a : Addr) (H H' : Hp) : Prop := ∀ b o, b ≠ a → H b = some o → H' b = some o
theorem But.refl (a : Addr) (H : Hp) : But a H H := fun _ _ _ h => h
theorem But.trans {a : Addr} {H H1 H2 : Hp} (x : But a H H1) (y : But a H1 H2) : But a H H2 := fun b o n h => y b o n (x b o n h)
theorem But.of {a : Addr} {H H' : Hp} (x : Same H H') : But a H H' := fun b o _ h => x b o h
theorem But.upd {a : Addr} {H : Hp} {o : HO} : But a H (upd H a o) := fun b u n h => by rw [upd_ne n]; exact h
theorem But.same {a : Addr} {H0 H H' : Hp} (x : But a H H') (s : Same H0 H) (n : H0 a = none) : Same H0 H' := fun b o h => x b o (ne_of_none h n) (s b o h)
theorem same_new {H : Hp} {p : Addr} (h : H p = none) (o : HO) : Same H (L2.upd H p o) := fun b u q => by rw [upd_ne (ne_of_none q h)]; exact q
theorem Same.tup {K : PySem.W.Frag} {H H' : Hp} {a : Addr} {xs : List V} (e : Same H H') (h : SqT K H a xs) : SqT K H' a xs := by
  rcases h with (h | ⟨o, h⟩) | h
  · exact .inl (.inl (e _ _ h))
  · exact .inl (.inr ⟨o, e _ _ h⟩)
  · exact .inr h
def Tape (H : Hp) (a : Addr) : Prop := ∃ (t c s : Int) (b : Bool), H a = some (.lst [.int t, .bl b, .int c, .int s])
theorem Tape.same {H H' : Hp} {a : Addr} (t : Tape H a) (s : Same H H') : Tape H' a := by
  obtain ⟨x, c, y, b, h⟩ := t
  exact ⟨x, c, y, b, s _ _ h⟩
theorem Tape.ne {H : Hp} {a p : Addr} (t : Tape H a) (h : H p = none) : p ≠ a := by
  obtain ⟨x, c, y, b, e⟩ := t
  exact fun z => by rw [z, e] at h; cases h
theorem But.tup {K : PySem.W.Frag} {a : Addr} {H H' : Hp} {p : Addr} {xs : List V} (x : But a H H') (t : Tape H a) (h : SqT K H p xs) : SqT K H' p xs := by
  obtain ⟨y, c, z, b, e⟩ := t
  rcases h with (h | ⟨o, h⟩) | h
  · exact .inl (.inl (x _ _ (ne_of h e (by intro q; cases q)) h))
  · exact .inl (.inr ⟨o, x _ _ (ne_of h e (by intro q; cases q)) h⟩)
  · exact .inr h
/-- a dance: the letters T, U, R -/
def Lets (l : List Nat) : Prop := ∀ c ∈ l, c = 84 ∨ c = 85 ∨ c = 82
theorem atI_mk {α : Type} {xs : List α} {k : Int} (h0 : 0 ≤ k) (h1 : k < (xs.length : Int)) : ∃ v, atI xs k = some v ∧ v ∈ xs := by
  obtain ⟨n, rfl⟩ := Int.eq_ofNat_of_zero_le h0
  have h : n < xs.length := by omega
  exact ⟨xs[n], atI_nat (List.getElem?_eq_getElem h), List.getElem_mem h⟩
theorem atI_ints {ns : List Int} {k : Int} (h0 : 0 ≤ k) (h1 : k < (ns.length : Int)) : ∃ v : Int, atI (ns.map V.int) k = some (.int v) := by
  obtain ⟨v, e, m⟩ := atI_mk (xs := ns.map V.int) h0 (by rw [List.length_map]; exact h1)
  obtain ⟨i, _, rfl⟩ := List.mem_map.mp m
  exact ⟨i, e⟩
/-! ### a def of the text with its promise, ready to be called -/
structure Dfn (P : Program) (w : World) (K : PySem.W.Frag) (mg : Str → Option Value) (base : Heap) (x : Str) (k : Nat) (ps : List Str) (sp : Sp) : Prop where
  ex : ∃ (f : Addr) (fd : FuncData), FnOk P w K mg base CX0 k f fd ps sp ∧ mg x = some (.ref f) ∧ PySem.W.keepIn K (.ref f) = true ∧ Binds K fd ps []
theorem pe_do {X : Cx} {x : Str} {j : Nat} {ps : List Str} {sp : Sp} {e : Expr} {es : List Expr} {t : TA} {p pos : Pos} (D : Dfn X.prog X.w X.K X.mg X.base x j ps sp) (hr : Room j X.A)
    (ha : PA X (e :: es) t) (hg : Gl X x := by rfl) (hdb : (x == ("__debug__" : Str)) = false := by decide) (he : starEach (e :: es) X.env = (false, eval e X.env) :: starEach es X.env := by rfl) (hpl : (backTo pos (starEach es X.env)).any (·.1) = false := by rfl) :
    PE X (.Call (.Name x p) (e :: es) [] pos) (tCall sp [] E0 t) := by
  obtain ⟨f, fd, ok, mg, kp, bd⟩ := D.ex
  exact pe_call ok hr hg mg kp bd .nil pass0 ha hdb he hpl
theorem Dfn.mono {P : Program} {w : World} {K : PySem.W.Frag} {mg : Str → Option Value} {base : Heap} {x : Str} {j k : Nat} {ps : List Str} {sp : Sp} (D : Dfn P w K mg base x j ps sp) (h : j ≤ k) : Dfn P w K mg base x k ps sp := by
  obtain ⟨f, fd, ok, mg, kp, bd⟩ := D.ex
  exact ⟨f, fd, ok.mono h, mg, kp, bd⟩
section
variable {P : Program} {w : World} {K : PySem.W.Frag} {mg : Str → Option Value} {base : Heap} {f : Addr} {fd : FuncData}
/-! ### the tape of a law -/
def spTape (K : PySem.W.Frag) : Sp := fun vs H Q _ => ∃ (a : Addr) (ns : List Int) (k : Int), vs = [.ref a, .int k] ∧ SqL K H a (ns.map V.int) ∧ 0 ≤ k ∧ ∀ p H', Same H H' → H p = none → Tape H' p → Q (.ref p) H'
theorem ok_tape (F : Fun K "_law_tape" "_law_tape" s_law_tape f fd) (ml : mg "len" = none) (ma : mg "abs" = none) (mi : mg "int" = none) : FnOk P w K mg base CX0 1 f fd ["script", "k"] (spTape K) := by
  refine F.ok sc_law_tape (fun vs H Q E h => ?_) (fun cdv A outer s H vs Q E hr h => ?_)
  · obtain ⟨a, ns, k, rfl, _⟩ := h
    rfl
  obtain ⟨a, ns, k, rfl, hS, hk, q⟩ := h
  refine ⟨_, pss_cons (ps_set (i := 2) sc_law_tape.nd rfl (.inl rfl) pe_int)
    (pss_cons (ps_if (pt_cmpR op_lt (pv 1) (pe_callB call_len_seq rfl ml PySem.boot_len (pa_cons (pv 0) pa_nil)) (nomark _))
        (pss_one (ps_set (i := 2) sc_law_tape.nd rfl (.inl rfl) (pe_callB call_abs rfl ma (by decide +kernel) (pa_cons (pe_ix ix_list (pv 0) (pv 1) (fun _ _ => rfl)) pa_nil)))) pss_nil)
    (pss_one (ps_ret (pe_lst (pa_cons (pv 2) (pa_cons (pe_cmpR op_ge (pv 2) (pe_op op_pow pe_int pe_int) (nomark _)) (pa_cons pe_int
      (pa_cons (pe_op op_modN (pe_callTy call_int1 rfl mi (by decide +kernel) (pa_cons (pe_op op_add (pe_op op_mul (pv 2) pe_int) (pv 1)) pa_nil)) pe_int) pa_nil)))))))), ?_⟩
  refine ⟨_, rfl, _, rfl, a, _, rfl, .inl hS, _, _, rfl, rfl, _, rfl, ?_⟩
  refine ite2 (fun c => ?_) (fun c => ?_)
  · have c' : k < (((ns.map V.int).length : Nat) : Int) := of_decide_eq_true c
    rw [List.length_map] at c'
    obtain ⟨v, hv⟩ := atI_ints hk c'
    refine ⟨_, rfl, _, rfl, a, _, _, _, rfl, rfl, hS, hv, _, rfl, ?_⟩
    refine ⟨_, rfl, _, rfl, _, _, rfl, rfl, ⟨by decide, by decide, by decide⟩, _, _, rfl, rfl, _, rfl, _, _, rfl, rfl, .inr ⟨by decide, by decide⟩, _, rfl, _, _, rfl, rfl, .inl ⟨_, rfl, _, _, rfl, rfl, (show (2147483647 : Int) ≠ 0 by decide), ?_⟩⟩
    exact ⟨(by show 4 ≤ sizeLine; decide), fun p hp => q p _ (same_new hp _) hp ⟨_, _, _, _, upd_same⟩⟩
  · refine ⟨_, rfl, _, rfl, _, _, rfl, rfl, ⟨by decide, by decide, by decide⟩, _, _, rfl, rfl, _, rfl, _, _, rfl, rfl, .inr ⟨by decide, by decide⟩, _, rfl, _, _, rfl, rfl, .inl ⟨_, rfl, _, _, rfl, rfl, (show (2147483647 : Int) ≠ 0 by decide), ?_⟩⟩
    exact ⟨(by show 4 ≤ sizeLine; decide), fun p hp => q p _ (same_new hp _) hp ⟨_, _, _, _, upd_same⟩⟩
def spTake : Sp := fun vs H Q _ => ∃ (a : Addr) (m : Int), vs = [.ref a, .int m] ∧ Tape H a ∧ 0 < m ∧ m < 1073741824 ∧ ∀ r H', 0 ≤ r → r < m → But a H H' → Tape H' a → Q (.int r) H'
theorem ok_take (F : Fun K "_law_take" "_law_take" s_law_take f fd) (mi : mg "int" = none) : FnOk P w K mg base CX0 1 f fd ["tape", "many"] spTake := by
  refine F.ok sc_law_take (fun vs H Q E h => ?_) (fun cdv A outer s H vs Q E hr h => ?_)
  · obtain ⟨a, m, rfl, _⟩ := h
    rfl
  obtain ⟨a, m, rfl, ⟨t, c, sd, b, hT⟩, h0, h1, q⟩ := h
  refine ⟨_, pss_cons (ps_if (PW.pt (pw_and (pt_val (pe_ix ix_list (pv 0) pe_int (fun _ _ => rfl))) (pw_and1 (pt_cmpR op_gt (pe_ix ix_list (pv 0) pe_int (fun _ _ => rfl)) pe_int (nomark _)))))
      (pss_cons (ps_set (i := 2) sc_law_take.nd rfl (.inl rfl) (pe_op op_modN (pe_callTy call_int1 rfl mi (by decide +kernel) (pa_cons (pe_ix ix_list (pv 0) pe_int (fun _ _ => rfl)) pa_nil)) (pv 1)))
      (pss_cons (ps_asg (pe_op op_fdivN (pe_ix ix_list (pv 0) pe_int (fun _ _ => rfl)) (pv 1)) (pg_sub (pv 0) pe_int set_list))
      (pss_one (ps_ret (pv 2))))) pss_nil)
    (pss_cons (ps_asg (pe_op op_add (pe_ix ix_list (pv 0) pe_int (fun _ _ => rfl)) pe_int) (pg_sub (pv 0) pe_int set_list))
    (pss_cons (ps_set (i := 3) sc_law_take.nd rfl (.inl rfl) (pe_op op_modN (pe_callTy call_int1 rfl mi (by decide +kernel) (pa_cons (pe_op op_add (pe_op op_add (pe_op op_mul (pe_ix ix_list (pv 0) pe_int (fun _ _ => rfl)) pe_int) (pe_op op_mul (pe_ix ix_list (pv 0) pe_int (fun _ _ => rfl)) pe_int)) pe_int) pa_nil)) pe_int))
    (pss_cons (ps_set (i := 3) sc_law_take.nd rfl (.inl rfl) (pe_op op_modN (pe_callTy call_int1 rfl mi (by decide +kernel) (pa_cons (pe_op op_add (pe_op op_add (pe_op op_mul (pv 3) pe_int) (pe_op op_mul (pe_op op_fdivN (pv 3) pe_int) pe_int)) (pe_ix ix_list (pv 0) pe_int (fun _ _ => rfl))) pa_nil)) pe_int))
    (pss_one (ps_ret (pe_op op_modN (pe_callTy call_int1 rfl mi (by decide +kernel) (pa_cons (pe_op op_fdivN (pv 3) pe_int) pa_nil)) (pv 1))))))), ?_⟩
  have rest : ∀ x : Int, 0 ≤ x.fmod m ∧ x.fmod m < m := fun x => by
    rw [Int.fmod_eq_emod_of_nonneg x (Int.le_of_lt h0)]
    exact ⟨Int.emod_nonneg x (by omega), Int.emod_lt_of_pos x h0⟩
  refine ⟨_, rfl, a, _, _, _, rfl, rfl, SqL.of hT, rfl, b, rfl, ?_⟩
  refine ite2 (fun hb => ?_) (fun hb => ?_)
  · refine ⟨_, rfl, a, _, _, _, rfl, rfl, SqL.of hT, rfl, _, _, rfl, rfl, _, rfl, ?_⟩
    refine ite2 (fun hc => ?_) (fun hc => ?_)
    · refine ⟨_, rfl, a, _, _, _, rfl, rfl, SqL.of hT, rfl, .inl ⟨_, rfl, _, rfl, _, _, rfl, rfl, (show m ≠ 0 by omega), ?_⟩⟩
      refine ⟨_, rfl, a, _, _, _, rfl, rfl, SqL.of hT, rfl, _, rfl, _, _, rfl, rfl, (show m ≠ 0 ∧ m.natAbs < 1073741824 by omega), _, rfl, a, _, _, _, rfl, rfl, hT, rfl, ?_⟩
      exact ⟨_, rfl, q _ _ (rest _).1 (rest _).2 But.upd ⟨_, _, _, _, upd_same⟩⟩
    · refine ⟨_, rfl, a, _, _, _, rfl, rfl, SqL.of hT, rfl, _, _, rfl, rfl, _, rfl, a, _, _, _, rfl, rfl, hT, rfl, ?_⟩
      refine ⟨_, rfl, a, _, _, _, rfl, rfl, SqL.of upd_same, rfl, _, _, rfl, rfl, .inr ⟨by decide, by decide⟩, _, rfl, a, _, _, _, rfl, rfl, SqL.of upd_same, rfl, _, _, rfl, rfl, .inr ⟨by decide, by decide⟩, _, _, rfl, rfl, _, _, rfl, rfl, .inl ⟨_, rfl, _, _, rfl, rfl, (show (2147483647 : Int) ≠ 0 by decide), ?_⟩⟩
      refine ⟨_, rfl, _, _, rfl, rfl, .inr ⟨by decide, by decide⟩, _, rfl, _, _, rfl, rfl, ⟨by decide, by decide⟩, _, _, rfl, rfl, .inr ⟨by decide, by decide⟩, _, _, rfl, rfl, _, rfl, a, _, _, _, rfl, rfl, SqL.of upd_same, rfl, _, _, rfl, rfl, .inl ⟨_, rfl, _, _, rfl, rfl, (show (2147483399 : Int) ≠ 0 by decide), ?_⟩⟩
      exact ⟨_, rfl, _, _, rfl, rfl, ⟨by decide, by decide⟩, .inl ⟨_, rfl, _, rfl, _, _, rfl, rfl, (show m ≠ 0 by omega), q _ _ (rest _).1 (rest _).2 But.upd ⟨_, _, _, _, upd_same⟩⟩⟩
  · refine ⟨_, rfl, a, _, _, _, rfl, rfl, SqL.of hT, rfl, _, _, rfl, rfl, _, rfl, a, _, _, _, rfl, rfl, hT, rfl, ?_⟩
    refine ⟨_, rfl, a, _, _, _, rfl, rfl, SqL.of upd_same, rfl, _, _, rfl, rfl, .inr ⟨by decide, by decide⟩, _, rfl, a, _, _, _, rfl, rfl, SqL.of upd_same, rfl, _, _, rfl, rfl, .inr ⟨by decide, by decide⟩, _, _, rfl, rfl, _, _, rfl, rfl, .inl ⟨_, rfl, _, _, rfl, rfl, (show (2147483647 : Int) ≠ 0 by decide), ?_⟩⟩
    refine ⟨_, rfl, _, _, rfl, rfl, .inr ⟨by decide, by decide⟩, _, rfl, _, _, rfl, rfl, ⟨by decide, by decide⟩, _, _, rfl, rfl, .inr ⟨by decide, by decide⟩, _, _, rfl, rfl, _, rfl, a, _, _, _, rfl, rfl, SqL.of upd_same, rfl, _, _, rfl, rfl, .inl ⟨_, rfl, _, _, rfl, rfl, (show (2147483399 : Int) ≠ 0 by decide), ?_⟩⟩
    exact ⟨_, rfl, _, _, rfl, rfl, ⟨by decide, by decide⟩, .inl ⟨_, rfl, _, rfl, _, _, rfl, rfl, (show m ≠ 0 by omega), q _ _ (rest _).1 (rest _).2 But.upd ⟨_, _, _, _, upd_same⟩⟩⟩
/-! ### dances, fractions -/
theorem six_letters {r : Int} (h0 : 0 ≤ r) (h1 : r < 6) : ∃ c, atI (("TTUURR" : Str)).cps.toList r = some c ∧ (c = 84 ∨ c = 85 ∨ c = 82) := by
  have e : (("TTUURR" : Str)).cps.toList = [84, 84, 85, 85, 82, 82] := by decide +kernel
  rw [e]
  obtain ⟨c, hc, m⟩ := atI_mk (xs := [84, 84, 85, 85, 82, 82]) h0 h1
  refine ⟨c, hc, ?_⟩
  simp at m
  omega
theorem four_sizes {r : Int} (h0 : 0 ≤ r) (h1 : r < 4) : ∃ z : Int, atI [V.int 1, .int 1, .int 3, .int 9] r = some (.int z) ∧ 1 ≤ z ∧ z ≤ 9 := by
  obtain ⟨c, hc, m⟩ := atI_mk (xs := [V.int 1, .int 1, .int 3, .int 9]) h0 h1
  simp at m
  rcases m with rfl | rfl | rfl
  · exact ⟨1, hc, by decide, by decide⟩
  · exact ⟨3, hc, by decide, by decide⟩
  · exact ⟨9, hc, by decide, by decide⟩
theorem e_empty : (("" : Str)) = S [] := by decide +kernel
theorem sizeLine_big : 16777216 ≤ sizeLine := by rw [sizeLine_eq]; decide
theorem fits {n : Nat} (h : n ≤ 16777216) : n ≤ sizeLine := Nat.le_trans h sizeLine_big
def spDance : Sp := fun vs H Q _ => ∃ (a : Addr) (m : Int), vs = [.ref a, .int m] ∧ Tape H a ∧ 0 ≤ m ∧ m ≤ 1000 ∧ ∀ l H', Lets l → (l.length : Int) ≤ m → But a H H' → Tape H' a → Q (.str (S l)) H'
theorem ok_dance (F : Fun K "_law_dance" "_law_dance" s_law_dance f fd) (DT : Dfn P w K mg base "_law_take" 1 ["tape", "many"] spTake) (mr : mg "range" = none) : FnOk P w K mg base CX0 2 f fd ["tape", "most"] spDance := by
  refine F.ok sc_law_dance (fun vs H Q E h => ?_) (fun cdv A outer s H vs Q E hr h => ?_)
  · obtain ⟨a, m, rfl, _⟩ := h
    rfl
  obtain ⟨a, m, rfl, hT, h0, h1, q⟩ := h
  refine ⟨_, pss_cons (ps_set (i := 2) sc_law_dance.nd rfl (.inl rfl) pe_str)
    (pss_cons (ps_set (i := 3) sc_law_dance.nd rfl (.inl rfl) (pe_ix ix_list (pe_lst (pa_cons pe_int (pa_cons pe_int (pa_cons pe_int (pa_cons pe_int pa_nil))))) (pe_do DT hr (pa_cons (pv 0) (pa_cons pe_int pa_nil))) (fun _ _ => rfl)))
    (pss_cons (ps_for PassesOwn.never rfl (pi_range1 rfl mr (pa_cons (pe_do DT hr (pa_cons (pv 0) (pa_cons (pe_op op_add (pv 1) pe_int) pa_nil))) pa_nil)) (pg_name (i := 4) sc_law_dance.nd rfl (.inl rfl))
      (pss_one (ps_set (i := 2) sc_law_dance.nd rfl (.inl rfl) (pe_op op_add_str (pv 2) (pe_op op_mul_str (pe_ix ix_str pe_str (pe_do DT hr (pa_cons (pv 0) (pa_cons pe_int pa_nil))) (fun _ _ => rfl))
        (pe_op op_add pe_int (pe_do DT hr (pa_cons (pv 0) (pa_cons (pv 3) pa_nil)))))))))
    (pss_one (ps_ret (pe_slice sl_str (pv 2) po_none (po_some (pv 1))))))), ?_⟩
  refine ⟨(by show 4 ≤ sizeLine; exact fits (by decide)), fun p hp => ?_⟩
  have np := hT.ne hp
  refine ⟨_, rfl, a, 4, rfl, hT.same (same_new hp _), by decide, by decide, fun r H1 r0 r1 b1 t1 => ?_⟩
  obtain ⟨z, hz, z1, z9⟩ := four_sizes r0 r1
  refine ⟨p, _, _, _, rfl, rfl, SqL.of (b1 _ _ np upd_same), hz, ?_⟩
  have B1 : But a H H1 := (But.of (same_new hp _)).trans b1
  refine ⟨_, rfl, _, rfl, _, _, rfl, rfl, a, _, rfl, t1, (show 0 < m + 1 by omega), (show m + 1 < 1073741824 by omega), fun r2 H2 r20 r21 b2 t2 => ?_⟩
  refine ⟨r2, rfl, by omega, by omega, for_range (lo := 0) (n := r2.toNat) (fun i σ H' => ∃ (l : List Nat) (v : Option V), σ = [some (.ref a), some (.int m), some (.str (S l)), some (.int z), v] ∧ Lets l ∧ l.length ≤ 9 * i ∧ But a H H' ∧ Tape H' a) ?_ ?_ ?_⟩
  · exact ⟨[], none, by rw [← e_empty]; rfl, fun _ h => (by cases h), Nat.zero_le _, B1.trans b2, t2⟩
  · rintro i σ H' hi ⟨l, v, rfl, hl, hz2, bt, tp⟩
    refine ⟨_, rfl, _, rfl, a, 6, rfl, tp, by decide, by decide, fun r3 H3 r30 r31 b3 t3 => ?_⟩
    obtain ⟨c, hc, hcl⟩ := six_letters r30 r31
    refine ⟨_, _, c, rfl, rfl, (fits (by decide +kernel)), hc, _, rfl, _, rfl, a, z, rfl, t3, by omega, by omega, fun r4 H4 r40 r41 b4 t4 => ?_⟩
    have hn : (1 + r4).toNat ≤ 9 := by omega
    refine ⟨_, _, rfl, rfl, [c], 1 + r4, rfl, rfl, by omega, by omega, by simp only [List.length_singleton]; omega, _, _, rfl, rfl, ?_, ?_⟩
    · rw [S_len, S_len]
      refine fits ?_
      rw [List.length_flatten, List.map_replicate, List.sum_replicate_nat]
      simp only [List.length_singleton]
      omega
    · refine ⟨l ++ (List.replicate (1 + r4).toNat [c]).flatten, _, by rw [S_app]; rfl, fun x hx => ?_, ?_, (bt.trans b3).trans b4, t4⟩
      · rcases List.mem_append.mp hx with hx | hx
        · exact hl x hx
        · obtain ⟨y, hy, hxy⟩ := List.mem_flatten.mp hx
          rw [(List.mem_replicate.mp hy).2] at hxy
          rw [List.mem_singleton.mp hxy]
          exact hcl
      · rw [List.length_append, List.length_flatten, List.map_replicate, List.sum_replicate_nat]
        simp only [List.length_singleton]
        omega
  · rintro σ H' ⟨l, v, rfl, hl, hz2, bt, tp⟩
    refine ⟨_, rfl, _, rfl, _, rfl, _, rfl, (by rw [S_len]; exact fits (by omega)), ?_⟩
    rw [S_take l h0]
    refine q _ _ (fun x hx => hl x (List.mem_of_mem_take hx)) ?_ bt tp
    rw [List.length_take]
    omega
end
section
variable {P : Program} {w : World} {K : PySem.W.Frag} {mg : Str → Option Value} {base : Heap} {f : Addr} {fd : FuncData}
/-! ### the same data -/
inductive Dt where
  | int (i : Int) | str (z : Str) | non | tup (xs : List Dt) | lst (xs : List Dt)
/-- v stands for d, in at most n levels -/
def Is (H : Hp) : Nat → V → Dt → Prop
  | _, v, .int i => v = .int i
  | _, v, .str z => v = .str z
  | _, v, .non => v = .non
  | 0, _, .tup _ => False
  | 0, _, .lst _ => False
  | n + 1, v, .tup ds => ∃ (a : Addr) (xs : List V), v = .ref a ∧ H a = some (.tup xs) ∧ xs.length = ds.length ∧ ds.length ≤ 1000000 ∧ ∀ (i : Nat) (x : V) (d : Dt), xs[i]? = some x → ds[i]? = some d → Is H n x d
  | n + 1, v, .lst ds => ∃ (a : Addr) (xs : List V), v = .ref a ∧ H a = some (.lst xs) ∧ xs.length = ds.length ∧ ds.length ≤ 1000000 ∧ ∀ (i : Nat) (x : V) (d : Dt), xs[i]? = some x → ds[i]? = some d → Is H n x d
def spSame : Nat → Sp
  | 0 => fun _ _ _ _ => False
  | n + 1 => fun vs H Q _ => ∃ (x y : V) (d : Dt), vs = [x, y] ∧ Is H n x d ∧ Is H n y d ∧ Q (.bl true) H
theorem ok_same {n : Nat} (F : Fun K "_law_same" "_law_same" s_law_same f fd) (DS : Dfn P w K mg base "_law_same" n ["told", "due"] (spSame n)) (mI : mg "isinstance" = none) (mT : mg "tuple" = none) (mL : mg "list" = none) (ml : mg "len" = none) (mr : mg "range" = none)
    (ms : mg "str" = none) (mi : mg "int" = none) (mb : mg "bool" = none) : FnOk P w K mg base CX0 (n + 1) f fd ["told", "due"] (spSame (n + 1)) := by
  refine F.ok sc_law_same (fun vs H Q E h => ?_) (fun cdv A outer s H vs Q E hr h => ?_)
  · obtain ⟨x, y, d, rfl, _⟩ := h
    rfl
  obtain ⟨x, y, d, rfl, hx, hy, q⟩ := h
  have bT : bootBuiltins "tuple" = some (.type "tuple") := by decide +kernel
  have bL : bootBuiltins "list" = some (.type "list") := by decide +kernel
  have bS : bootBuiltins "str" = some (.type "str") := by decide +kernel
  have bI : bootBuiltins "int" = some (.type "int") := by decide +kernel
  have bB : bootBuiltins "bool" = some (.type "bool") := by decide +kernel
  have bi : bootBuiltins "isinstance" = some (.builtin "isinstance") := by decide +kernel
  refine ⟨_, pss_cons (ps_if (PW.pt (pw_or (pt_val (pe_callB call_isi rfl mI bi (pa_cons (pv 1) (pa_cons (pe_bltn (v := .ty "tuple") rfl mT bT rfl) pa_nil)))) (pw_or1 (pt_val (pe_callB call_isi rfl mI bi (pa_cons (pv 1) (pa_cons (pe_bltn (v := .ty "list") rfl mL bL rfl) pa_nil)))))))
      (pss_cons (ps_if (PW.pt (pw_or (pt_cmpR op_ne (pe_callB call_isi rfl mI bi (pa_cons (pv 1) (pa_cons (pe_bltn (v := .ty "tuple") rfl mT bT rfl) pa_nil))) (pe_callB call_isi rfl mI bi (pa_cons (pv 0) (pa_cons (pe_bltn (v := .ty "tuple") rfl mT bT rfl) pa_nil))) (nomark _))
          (pw_or1 (pt_cmpR op_ne (pe_callB call_isi rfl mI bi (pa_cons (pv 1) (pa_cons (pe_bltn (v := .ty "list") rfl mL bL rfl) pa_nil))) (pe_callB call_isi rfl mI bi (pa_cons (pv 0) (pa_cons (pe_bltn (v := .ty "list") rfl mL bL rfl) pa_nil))) (nomark _)))))
        (pss_one (ps_ret pe_bl)) pss_nil)
      (pss_cons (ps_if (pt_cmpR op_ne (pe_callB call_len_seq rfl ml PySem.boot_len (pa_cons (pv 0) pa_nil)) (pe_callB call_len_seq rfl ml PySem.boot_len (pa_cons (pv 1) pa_nil)) (nomark _)) (pss_one (ps_ret pe_bl)) pss_nil)
      (pss_cons (ps_for PassesOwn.never rfl (pi_range1 rfl mr (pa_cons (pe_callB call_len_seq rfl ml PySem.boot_len (pa_cons (pv 1) pa_nil)) pa_nil)) (pg_name (i := 2) sc_law_same.nd rfl (.inl rfl))
        (pss_one (ps_if (pt_not (pt_val (pe_do DS hr (pa_cons (pe_ix ix_seq (pv 0) (pv 2) (fun _ _ => rfl)) (pa_cons (pe_ix ix_seq (pv 1) (pv 2) (fun _ _ => rfl)) pa_nil))))) (pss_one (ps_ret pe_bl)) pss_nil)))
      (pss_one (ps_ret pe_bl))))) pss_nil)
    (pss_cons (ps_if (pt_cmpR op_isN (pv 1) pe_non (nomark _)) (pss_one (ps_ret (pe_cmpR op_isN (pv 0) pe_non (nomark _)))) pss_nil)
    (pss_cons (ps_if (pt_val (pe_callB call_isi rfl mI bi (pa_cons (pv 1) (pa_cons (pe_bltn (v := .ty "str") rfl ms bS rfl) pa_nil))))
      (pss_one (ps_ret (pe_and (pe_callB call_isi rfl mI bi (pa_cons (pv 0) (pa_cons (pe_bltn (v := .ty "str") rfl ms bS rfl) pa_nil))) (pe_one (pe_cmpR op_eq (pv 0) (pv 1) (nomark _)))))) pss_nil)
    (pss_one (ps_ret (pe_and (pe_callB call_isi rfl mI bi (pa_cons (pv 0) (pa_cons (pe_bltn (v := .ty "int") rfl mi bI rfl) pa_nil)))
      (pe_and (pe_not (pe_callB call_isi rfl mI bi (pa_cons (pv 0) (pa_cons (pe_bltn (v := .ty "bool") rfl mb bB rfl) pa_nil)))) (pe_one (pe_cmpR op_eq (pv 0) (pv 1) (nomark _))))))))), ?_⟩
  have isn : ∀ (a b : String) (r : Bool), kitB a b = some r → PySem.W.kitOne K (.type a) (.type b) = some r := fun a b r h => kit_ty h
  cases d with
  | int i =>
    cases (show x = .int i by cases n <;> exact hx)
    cases (show y = .int i by cases n <;> exact hy)
    refine ⟨_, rfl, _, _, _, _, false, rfl, .ty _, .base (.int _), kit_ty (by decide +kernel), _, rfl, iteF ?_⟩
    refine ⟨_, rfl, _, _, _, _, false, rfl, .ty _, .base (.int _), kit_ty (by decide +kernel), _, rfl, iteF ?_⟩
    refine ⟨_, rfl, rfl, _, rfl, iteF ?_⟩
    refine ⟨_, rfl, _, _, _, _, false, rfl, .ty _, .base (.int _), kit_ty (by decide +kernel), _, rfl, iteF ?_⟩
    refine ⟨_, rfl, _, _, _, _, true, rfl, .ty _, .base (.int _), kit_ty (by decide +kernel), _, rfl, iteT ?_⟩
    refine ⟨_, rfl, _, _, _, _, false, rfl, .ty _, .base (.int _), kit_ty (by decide +kernel), _, rfl, _, rfl, iteT ?_⟩
    refine ⟨_, rfl, _, rfl, rfl, ?_⟩
    rw [decide_eq_true rfl]
    exact q
  | str z =>
    cases (show x = .str z by cases n <;> exact hx)
    cases (show y = .str z by cases n <;> exact hy)
    refine ⟨_, rfl, _, _, _, _, false, rfl, .ty _, .base (.str _), kit_ty (by decide +kernel), _, rfl, iteF ?_⟩
    refine ⟨_, rfl, _, _, _, _, false, rfl, .ty _, .base (.str _), kit_ty (by decide +kernel), _, rfl, iteF ?_⟩
    refine ⟨_, rfl, rfl, _, rfl, iteF ?_⟩
    refine ⟨_, rfl, _, _, _, _, true, rfl, .ty _, .base (.str _), kit_ty (by decide +kernel), _, rfl, iteT ?_⟩
    refine ⟨_, rfl, _, _, _, _, true, rfl, .ty _, .base (.str _), kit_ty (by decide +kernel), _, rfl, iteT ?_⟩
    refine ⟨_, rfl, _, rfl, rfl, ?_⟩
    rw [decide_eq_true rfl]
    exact q
  | non =>
    cases (show x = .non by cases n <;> exact hx)
    cases (show y = .non by cases n <;> exact hy)
    refine ⟨_, rfl, _, _, _, _, false, rfl, .ty _, .base .non, kit_ty (by decide +kernel), _, rfl, iteF ?_⟩
    refine ⟨_, rfl, _, _, _, _, false, rfl, .ty _, .base .non, kit_ty (by decide +kernel), _, rfl, iteF ?_⟩
    exact ⟨_, rfl, rfl, _, rfl, iteT ⟨_, rfl, rfl, q⟩⟩
  | tup ds =>
    cases n with
    | zero => exact hx.elim
    | succ n =>
      obtain ⟨a, xs, rfl, ha, la, ln, ka⟩ := hx
      obtain ⟨b, ys, rfl, hb, lb, _, kb⟩ := hy
      refine ⟨_, rfl, _, _, _, _, true, rfl, .ty _, .base (.tup hb), kit_ty (by decide +kernel), _, rfl, iteT ?_⟩
      refine ⟨_, rfl, _, _, _, _, true, rfl, .ty _, .base (.tup hb), kit_ty (by decide +kernel), _, rfl, _, _, _, _, true, rfl, .ty _, .base (.tup ha), kit_ty (by decide +kernel), rfl, _, rfl, iteF ?_⟩
      refine ⟨_, rfl, _, _, _, _, false, rfl, .ty _, .base (.tup hb), kit_ty (by decide +kernel), _, rfl, _, _, _, _, false, rfl, .ty _, .base (.tup ha), kit_ty (by decide +kernel), rfl, _, rfl, iteF ?_⟩
      refine ⟨_, rfl, a, xs, rfl, .inr (SqT.of ha), _, rfl, b, ys, rfl, .inr (SqT.of hb), rfl, _, rfl, ?_⟩
      rw [show (decide (V.int (xs.length : Int) = V.int (ys.length : Int))) = true from decide_eq_true (by rw [la, lb])]
      refine iteF ?_
      refine ⟨_, rfl, b, ys, rfl, .inr (SqT.of hb), (ys.length : Int), rfl, by omega, by omega, for_range (lo := 0) (n := (ys.length : Int).toNat) (fun i σ H' => H' = H ∧ ∃ v, σ = [some (.ref a), some (.ref b), v]) ⟨rfl, none, rfl⟩ ?_ ?_⟩
      · rintro i σ _ hi ⟨rfl, v, rfl⟩
        have hi1 : i < ys.length := by omega
        have hi2 : i < xs.length := by omega
        have hi3 : i < ds.length := by omega
        refine ⟨_, rfl, _, rfl, .inr (.inl ⟨a, xs, _, _, rfl, rfl, SqT.of ha, at_of (j := i) (by omega) (List.getElem?_eq_getElem hi2), ?_⟩)⟩
        refine ⟨_, rfl, _, rfl, .inr (.inl ⟨b, ys, _, _, rfl, rfl, SqT.of hb, at_of (j := i) (by omega) (List.getElem?_eq_getElem hi1), ?_⟩)⟩
        refine ⟨_, _, ds[i], rfl, ka i _ _ (List.getElem?_eq_getElem hi2) (List.getElem?_eq_getElem hi3), kb i _ _ (List.getElem?_eq_getElem hi1) (List.getElem?_eq_getElem hi3), _, rfl, iteF ⟨rfl, _, rfl⟩⟩
      · rintro σ _ ⟨rfl, v, rfl⟩
        exact q
  | lst ds =>
    cases n with
    | zero => exact hx.elim
    | succ n =>
      obtain ⟨a, xs, rfl, ha, la, ln, ka⟩ := hx
      obtain ⟨b, ys, rfl, hb, lb, _, kb⟩ := hy
      refine ⟨_, rfl, _, _, _, _, false, rfl, .ty _, .base (.lst hb), kit_ty (by decide +kernel), _, rfl, iteF ?_⟩
      refine ⟨_, rfl, _, _, _, _, true, rfl, .ty _, .base (.lst hb), kit_ty (by decide +kernel), _, rfl, iteT ?_⟩
      refine ⟨_, rfl, _, _, _, _, false, rfl, .ty _, .base (.lst hb), kit_ty (by decide +kernel), _, rfl, _, _, _, _, false, rfl, .ty _, .base (.lst ha), kit_ty (by decide +kernel), rfl, _, rfl, iteF ?_⟩
      refine ⟨_, rfl, _, _, _, _, true, rfl, .ty _, .base (.lst hb), kit_ty (by decide +kernel), _, rfl, _, _, _, _, true, rfl, .ty _, .base (.lst ha), kit_ty (by decide +kernel), rfl, _, rfl, iteF ?_⟩
      refine ⟨_, rfl, a, xs, rfl, .inl (SqL.of ha), _, rfl, b, ys, rfl, .inl (SqL.of hb), rfl, _, rfl, ?_⟩
      rw [show (decide (V.int (xs.length : Int) = V.int (ys.length : Int))) = true from decide_eq_true (by rw [la, lb])]
      refine iteF ?_
      refine ⟨_, rfl, b, ys, rfl, .inl (SqL.of hb), (ys.length : Int), rfl, by omega, by omega, for_range (lo := 0) (n := (ys.length : Int).toNat) (fun i σ H' => H' = H ∧ ∃ v, σ = [some (.ref a), some (.ref b), v]) ⟨rfl, none, rfl⟩ ?_ ?_⟩
      · rintro i σ _ hi ⟨rfl, v, rfl⟩
        have hi1 : i < ys.length := by omega
        have hi2 : i < xs.length := by omega
        have hi3 : i < ds.length := by omega
        refine ⟨_, rfl, _, rfl, .inl ⟨a, xs, _, _, rfl, rfl, SqL.of ha, at_of (j := i) (by omega) (List.getElem?_eq_getElem hi2), ?_⟩⟩
        refine ⟨_, rfl, _, rfl, .inl ⟨b, ys, _, _, rfl, rfl, SqL.of hb, at_of (j := i) (by omega) (List.getElem?_eq_getElem hi1), ?_⟩⟩
        refine ⟨_, _, ds[i], rfl, ka i _ _ (List.getElem?_eq_getElem hi2) (List.getElem?_eq_getElem hi3), kb i _ _ (List.getElem?_eq_getElem hi1) (List.getElem?_eq_getElem hi3), _, rfl, iteF ⟨rfl, _, rfl⟩⟩
      · rintro σ _ ⟨rfl, v, rfl⟩
        exact q
theorem none_same : FnOk P w K mg base CX0 0 f fd ["told", "due"] (spSame 0) := by
  have no : ∀ vs H Q E, ¬ spSame 0 vs H Q E := fun vs H Q E h => h
  exact ⟨fun vs H Q E h => absurd h (no vs H Q E), fun A outer s H args us vs Q E _ _ _ _ h => absurd h (no vs H Q E)⟩
end
section
variable {P : Program} {w : World} {K : PySem.W.Frag} {mg : Str → Option Value} {base : Heap} {f : Addr} {fd : FuncData}
theorem sign_eq {c n : Nat} {z : Str} (e : z = S [n]) : (V.str (S [c]) = V.str z) ↔ c = n := by
  subst e
  constructor
  · intro h
    have := S_inj (V.str.inj h)
    simpa using this
  · rintro rfl; rfl
theorem e_T : (("T" : Str)) = S [84] := by decide +kernel
theorem e_U : (("U" : Str)) = S [85] := by decide +kernel
theorem e_R : (("R" : Str)) = S [82] := by decide +kernel
def Tup2 (H : Hp) (t : Addr) (v : Int × Int) : Prop := H t = some (.tup [.int v.1, .int v.2])
def spCalled (K : PySem.W.Frag) : Sp := fun vs H Q _ => ∃ (t : Addr) (v : Int × Int) (c : Nat), vs = [.ref t, .str (S [c])] ∧ Tup2 H t v ∧ ∀ t' H', Same H H' → Tup2 H' t' (called v c) → Q (.ref t') H'
theorem ok_called (F : Fun K "_law_called" "_law_called" s_law_called f fd) : FnOk P w K mg base CX0 1 f fd ["value", "letter"] (spCalled K) := by
  refine F.ok sc_law_called (fun vs H Q E h => ?_) (fun cdv A outer s H vs Q E hr h => ?_)
  · obtain ⟨a, m, c, rfl, _⟩ := h
    rfl
  obtain ⟨t, ⟨p, q'⟩, c, rfl, hT, q⟩ := h
  refine ⟨_, pss_cons (ps_asg (pv 0) (pg_tup (by rfl) (pgs_cons (pg_name (i := 2) sc_law_called.nd rfl (.inl rfl)) (pgs_cons (pg_name (i := 3) sc_law_called.nd rfl (.inl rfl)) pgs_nil))))
    (pss_cons (ps_if (pt_cmpR op_eq (pv 1) pe_str (nomark _)) (pss_one (ps_ret (pe_tup (pa_cons (pe_op op_add (pv 2) (pv 3)) (pa_cons (pv 3) pa_nil))))) pss_nil)
    (pss_cons (ps_if (pt_cmpR op_eq (pv 1) pe_str (nomark _)) (pss_one (ps_ret (pe_tup (pa_cons (pe_op op_sub (pv 2) (pv 3)) (pa_cons (pv 3) pa_nil))))) pss_nil)
    (pss_cons (ps_if (pt_cmpR op_gt (pv 2) pe_int (nomark _)) (pss_one (ps_ret (pe_tup (pa_cons (pe_op op_sub pe_int (pv 3)) (pa_cons (pv 2) pa_nil))))) pss_nil)
    (pss_cons (ps_if (pt_cmpR op_lt (pv 2) pe_int (nomark _)) (pss_one (ps_ret (pe_tup (pa_cons (pv 3) (pa_cons (pe_op op_sub pe_int (pv 2)) pa_nil))))) pss_nil)
    (pss_one (ps_ret (pe_tup (pa_cons pe_int (pa_cons pe_int pa_nil))))))))), ?_⟩
  have two : 2 ≤ sizeLine := fits (by decide)
  refine ⟨_, rfl, t, _, rfl, SqT.of hT, rfl, _, _, rfl, _, _, rfl, rfl, ?_⟩
  refine ⟨_, rfl, rfl, _, rfl, ite2 (fun c1 => ?_) (fun c1 => ?_)⟩
  · have k1 : c = 84 := (sign_eq e_T).mp (of_decide_eq_true c1)
    refine ⟨_, rfl, _, rfl, _, _, rfl, rfl, _, rfl, two, fun n hn => q n _ (same_new hn _) ?_⟩
    unfold Tup2 called
    rw [upd_same, if_pos k1]
  have k1 : ¬ c = 84 := fun z => c1 (decide_eq_true ((sign_eq e_T).mpr z))
  refine ⟨_, rfl, rfl, _, rfl, ite2 (fun c2 => ?_) (fun c2 => ?_)⟩
  · have k2 : c = 85 := (sign_eq e_U).mp (of_decide_eq_true c2)
    refine ⟨_, rfl, _, rfl, _, _, rfl, rfl, _, rfl, two, fun n hn => q n _ (same_new hn _) ?_⟩
    unfold Tup2 called
    rw [upd_same, if_neg k1, if_pos k2]
  have k2 : ¬ c = 85 := fun z => c2 (decide_eq_true ((sign_eq e_U).mpr z))
  refine ⟨_, rfl, _, _, rfl, rfl, _, rfl, ite2 (fun c3 => ?_) (fun c3 => ?_)⟩
  · have k3 : 0 < p := of_decide_eq_true c3
    refine ⟨_, rfl, _, _, rfl, rfl, _, rfl, two, fun n hn => q n _ (same_new hn _) ?_⟩
    unfold Tup2 called
    rw [upd_same, if_neg k1, if_neg k2, if_pos k3]
  have k3 : ¬ 0 < p := fun z => c3 (decide_eq_true z)
  refine ⟨_, rfl, _, _, rfl, rfl, _, rfl, ite2 (fun c4 => ?_) (fun c4 => ?_)⟩
  · have k4 : p < 0 := of_decide_eq_true c4
    refine ⟨_, rfl, _, rfl, _, _, rfl, rfl, two, fun n hn => q n _ (same_new hn _) ?_⟩
    unfold Tup2 called
    rw [upd_same, if_neg k1, if_neg k2, if_neg k3, if_pos k4]
  have k4 : ¬ p < 0 := fun z => c4 (decide_eq_true z)
  refine ⟨two, fun n hn => q n _ (same_new hn _) ?_⟩
  unfold Tup2 called
  rw [upd_same, if_neg k1, if_neg k2, if_neg k3, if_neg k4]
theorem Tup2.same {H H' : Hp} {t : Addr} {v : Int × Int} (h : Tup2 H t v) (s : Same H H') : Tup2 H' t v := s _ _ h
theorem Tup2.but {H H' : Hp} {a t : Addr} {v : Int × Int} (h : Tup2 H t v) (s : But a H H') (tp : Tape H a) : Tup2 H' t v := by
  obtain ⟨y, c, z, b, e⟩ := tp
  exact s _ _ (ne_of h e (by intro q; cases q)) h
def spNumber (K : PySem.W.Frag) : Sp := fun vs H Q _ => ∃ l : List Nat, vs = [.str (S l)] ∧ ∀ t' H', Same H H' → Tup2 H' t' (run (0, 1) l) → Q (.ref t') H'
theorem ok_number (F : Fun K "_law_number" "_law_number" s_law_number f fd) (DC : Dfn P w K mg base "_law_called" 1 ["value", "letter"] (spCalled K)) : FnOk P w K mg base CX0 2 f fd ["dance"] (spNumber K) := by
  refine F.ok sc_law_number (fun vs H Q E h => ?_) (fun cdv A outer s H vs Q E hr h => ?_)
  · obtain ⟨l, rfl, _⟩ := h
    rfl
  obtain ⟨l, rfl, q⟩ := h
  refine ⟨_, pss_cons (ps_set (i := 1) sc_law_number.nd rfl (.inl rfl) (pe_tup (pa_cons pe_int (pa_cons pe_int pa_nil))))
    (pss_cons (ps_for PassesOwn.never rfl (pi_str (pv 0)) (pg_name (i := 2) sc_law_number.nd rfl (.inl rfl))
      (pss_one (ps_set (i := 1) sc_law_number.nd rfl (.inl rfl) (pe_do DC hr (pa_cons (pv 1) (pa_cons (pv 2) pa_nil))))))
    (pss_one (ps_ret (pv 1)))), ?_⟩
  refine ⟨fits (by decide), fun p hp => ?_⟩
  refine ⟨_, rfl, _, rfl, for_str (l := l) (fun i σ H' => ∃ (t : Addr) (v : Option V), σ = [some (.str (S l)), some (.ref t), v] ∧ Same H H' ∧ Tup2 H' t (run (0, 1) (l.take i))) ?_ ?_ ?_⟩
  · exact ⟨p, _, rfl, same_new hp _, upd_same⟩
  · rintro i c σ H' hc ⟨t, v, rfl, sm, tt⟩
    refine ⟨_, rfl, _, rfl, t, _, c, rfl, tt, fun t' H2 s2 tt2 => ?_⟩
    exact ⟨t', _, rfl, sm.trans s2, by rw [run_take _ hc]; exact tt2⟩
  · rintro σ H' ⟨t, v, rfl, sm, tt⟩
    rw [List.take_of_length_le (Nat.le_refl _)] at tt
    exact ⟨_, rfl, q t H' sm tt⟩
end
section
variable {P : Program} {w : World} {K : PySem.W.Frag} {mg : Str → Option Value} {base : Heap} {f : Addr} {fd : FuncData}
/-! ### the program: turned, after -/
def spTurned : Sp := fun vs H Q _ => ∃ p q' : Int, vs = [.int p, .int q'] ∧ ∀ t' H', Same H H' → Tup2 H' t' (called (p, q') 82) → Q (.ref t') H'
theorem ok_turned (F : Fun K "turned" "turned" s_turned f fd) : FnOk P w K mg base CX0 1 f fd ["p", "q"] spTurned := by
  refine F.ok sc_turned (fun vs H Q E h => ?_) (fun cdv A outer s H vs Q E hr h => ?_)
  · obtain ⟨p, q', rfl, _⟩ := h
    rfl
  obtain ⟨p, q', rfl, q⟩ := h
  refine ⟨_, pss_cons (ps_if (pt_cmpR op_eq (pv 0) pe_int (nomark _)) (pss_one (ps_ret (pe_tup (pa_cons pe_int (pa_cons pe_int pa_nil))))) pss_nil)
    (pss_cons (ps_if (pt_cmpR op_lt (pv 0) pe_int (nomark _)) (pss_one (ps_ret (pe_tup (pa_cons (pv 1) (pa_cons (pe_un un_neg (pv 0)) pa_nil))))) pss_nil)
    (pss_one (ps_ret (pe_tup (pa_cons (pe_un un_neg (pv 1)) (pa_cons (pv 0) pa_nil)))))), ?_⟩
  have two : 2 ≤ sizeLine := fits (by decide)
  have e1 : ¬ (82 : Nat) = 84 := by decide
  have e2 : ¬ (82 : Nat) = 85 := by decide
  refine ⟨_, rfl, rfl, _, rfl, ite2 (fun c1 => ?_) (fun c1 => ?_)⟩
  · have k1 : p = 0 := V.int.inj (of_decide_eq_true c1)
    subst k1
    refine ⟨two, fun n hn => q n _ (same_new hn _) ?_⟩
    unfold Tup2 called
    rw [upd_same, if_neg e1, if_neg e2, if_neg (show ¬ (0 : Int) < 0 by decide), if_neg (show ¬ (0 : Int) < 0 by decide)]
  have k1 : ¬ p = 0 := fun z => c1 (decide_eq_true (by rw [z]))
  refine ⟨_, rfl, _, _, rfl, rfl, _, rfl, ite2 (fun c2 => ?_) (fun c2 => ?_)⟩
  · have k2 : p < 0 := of_decide_eq_true c2
    refine ⟨_, rfl, _, rfl, _, rfl, two, fun n hn => q n _ (same_new hn _) ?_⟩
    unfold Tup2 called
    rw [upd_same, if_neg e1, if_neg e2, if_neg (show ¬ (0 : Int) < p by omega), if_pos k2, Int.zero_sub]
  have k2 : ¬ p < 0 := fun z => c2 (decide_eq_true z)
  refine ⟨_, rfl, _, rfl, _, rfl, two, fun n hn => q n _ (same_new hn _) ?_⟩
  unfold Tup2 called
  rw [upd_same, if_neg e1, if_neg e2, if_pos (show (0 : Int) < p by omega), Int.zero_sub]
theorem called_other {v : Int × Int} {c : Nat} (h1 : ¬ c = 84) (h2 : ¬ c = 85) : called v c = called v 82 := by
  unfold called
  rw [if_neg h1, if_neg h2, if_neg (show ¬ (82 : Nat) = 84 by decide), if_neg (show ¬ (82 : Nat) = 85 by decide)]
def spAfter : Sp := fun vs H Q _ => ∃ (t : Addr) (v : Int × Int) (l : List Nat), vs = [.ref t, .str (S l)] ∧ Tup2 H t v ∧ ∀ t' H', Same H H' → Tup2 H' t' (run v l) → Q (.ref t') H'
theorem ok_after (F : Fun K "after" "after" s_after f fd) (DT : Dfn P w K mg base "turned" 1 ["p", "q"] spTurned) : FnOk P w K mg base CX0 2 f fd ["fraction", "dance"] spAfter := by
  refine F.ok sc_after (fun vs H Q E h => ?_) (fun cdv A outer s H vs Q E hr h => ?_)
  · obtain ⟨t, v, l, rfl, _⟩ := h
    rfl
  obtain ⟨t, v, l, rfl, hT, q⟩ := h
  refine ⟨_, pss_cons (ps_asg (pv 0) (pg_tup (by rfl) (pgs_cons (pg_name (i := 2) sc_after.nd rfl (.inl rfl)) (pgs_cons (pg_name (i := 3) sc_after.nd rfl (.inl rfl)) pgs_nil))))
    (pss_cons (ps_for PassesOwn.never rfl (pi_str (pv 1)) (pg_name (i := 4) sc_after.nd rfl (.inl rfl))
      (pss_one (ps_if (pt_cmpR op_eq (pv 4) pe_str (nomark _)) (pss_one (ps_aug (i := 2) sc_after.nd rfl (.inl rfl) (pv 3) ip_add))
        (pss_one (ps_if (pt_cmpR op_eq (pv 4) pe_str (nomark _)) (pss_one (ps_aug (i := 2) sc_after.nd rfl (.inl rfl) (pv 3) ip_sub))
          (pss_one (ps_asg (pe_do DT hr (pa_cons (pv 2) (pa_cons (pv 3) pa_nil))) (pg_tup (by rfl) (pgs_cons (pg_name (i := 2) sc_after.nd rfl (.inl rfl)) (pgs_cons (pg_name (i := 3) sc_after.nd rfl (.inl rfl)) pgs_nil))))))))))
    (pss_one (ps_ret (pe_tup (pa_cons (pv 2) (pa_cons (pv 3) pa_nil)))))), ?_⟩
  refine ⟨_, rfl, t, _, rfl, SqT.of hT, rfl, _, _, rfl, _, _, rfl, rfl, ?_⟩
  refine ⟨_, rfl, _, rfl, for_str (l := l) (fun i σ H' => ∃ (x : Option V), σ = [some (.ref t), some (.str (S l)), some (.int (run v (l.take i)).1), some (.int (run v (l.take i)).2), x] ∧ Same H H') ?_ ?_ ?_⟩
  · exact ⟨none, rfl, Same.refl H⟩
  · rintro i c σ H' hc ⟨x, rfl, sm⟩
    have st := run_take v hc
    generalize run v (l.take i) = u at *
    obtain ⟨p, q'⟩ := u
    refine ⟨_, rfl, rfl, _, rfl, ite2 (fun c1 => ?_) (fun c1 => ?_)⟩
    · have k1 : c = 84 := (sign_eq e_T).mp (of_decide_eq_true c1)
      refine ⟨_, rfl, _, rfl, _, _, rfl, rfl, some (.str (S [c])), ?_, sm⟩
      rw [st]
      unfold called
      rw [if_pos k1]
      rfl
    have k1 : ¬ c = 84 := fun z => c1 (decide_eq_true ((sign_eq e_T).mpr z))
    refine ⟨_, rfl, rfl, _, rfl, ite2 (fun c2 => ?_) (fun c2 => ?_)⟩
    · have k2 : c = 85 := (sign_eq e_U).mp (of_decide_eq_true c2)
      refine ⟨_, rfl, _, rfl, _, _, rfl, rfl, some (.str (S [c])), ?_, sm⟩
      rw [st]
      unfold called
      rw [if_neg k1, if_pos k2]
      rfl
    have k2 : ¬ c = 85 := fun z => c2 (decide_eq_true ((sign_eq e_U).mpr z))
    refine ⟨_, rfl, _, rfl, p, q', rfl, fun t' H2 s2 tt => ?_⟩
    refine ⟨t', _, rfl, SqT.of tt, rfl, _, _, rfl, _, _, rfl, rfl, some (.str (S [c])), ?_, sm.trans s2⟩
    rw [st, called_other k1 k2]
    rfl
  · rintro σ H' ⟨x, rfl, sm⟩
    rw [List.take_of_length_le (Nat.le_refl _)]
    exact ⟨_, rfl, _, rfl, fits (by show 2 ≤ 16777216; decide), fun n hn => q n _ (sm.trans (same_new hn _)) upd_same⟩
end
section
theorem int_is {H : Hp} {n : Nat} {i : Int} : Is H n (.int i) (.int i) := by cases n <;> rfl
theorem str_is {H : Hp} {n : Nat} {z : Str} : Is H n (.str z) (.str z) := by cases n <;> rfl
theorem is_tup {H : Hp} {n : Nat} {a : Addr} {xs : List V} {ds : List Dt} (h : H a = some (.tup xs)) (z : xs.length = ds.length) (m : ds.length ≤ 1000000) (k : ∀ (i : Nat) (x : V) (d : Dt), xs[i]? = some x → ds[i]? = some d → Is H n x d) : Is H (n + 1) (.ref a) (.tup ds) := ⟨a, xs, rfl, h, z, m, k⟩
theorem is_lst {H : Hp} {n : Nat} {a : Addr} {xs : List V} {ds : List Dt} (h : H a = some (.lst xs)) (z : xs.length = ds.length) (m : ds.length ≤ 1000000) (k : ∀ (i : Nat) (x : V) (d : Dt), xs[i]? = some x → ds[i]? = some d → Is H n x d) : Is H (n + 1) (.ref a) (.lst ds) := ⟨a, xs, rfl, h, z, m, k⟩
end
section
/-! ### lists of tuples, each by its items -/
def Tl (H : Hp) (p : Addr) (ds : List (List V)) : Prop := ∃ rs : List Addr, H p = some (.lst (rs.map V.ref)) ∧ rs.length = ds.length ∧ ∀ (i : Nat) (r : Addr) (d : List V), rs[i]? = some r → ds[i]? = some d → H r = some (.tup d)
theorem Tl.same {H H' : Hp} {p : Addr} {ds : List (List V)} (h : Tl H p ds) (s : Same H H') : Tl H' p ds := by
  obtain ⟨rs, e, z, k⟩ := h
  exact ⟨rs, s _ _ e, z, fun i r d a b => s _ _ (k i r d a b)⟩
theorem Tl.but {H H' : Hp} {a p : Addr} {ds : List (List V)} {zs : List V} (h : Tl H p ds) (s : But a H H') (ne : p ≠ a) (ha : H a = some (.lst zs)) : Tl H' p ds := by
  obtain ⟨rs, e, z, k⟩ := h
  exact ⟨rs, s _ _ ne e, z, fun i r d x y => s _ _ (ne_of (k i r d x y) ha (by intro q; cases q)) (k i r d x y)⟩
theorem Tl.tape {H H' : Hp} {a p : Addr} {ds : List (List V)} (h : Tl H p ds) (s : But a H H') (ne : p ≠ a) (tp : Tape H a) : Tl H' p ds := by
  obtain ⟨y, c, z, b, e⟩ := tp
  exact h.but s ne e
theorem Tl.nil {H : Hp} {p : Addr} (h : H p = some (.lst [])) : Tl H p [] := ⟨[], h, rfl, fun i r d a _ => by cases a⟩
theorem Tl.lst {H : Hp} {p : Addr} {ds : List (List V)} (h : Tl H p ds) : ∃ xs, H p = some (.lst xs) ∧ xs.length = ds.length := by
  obtain ⟨rs, e, z, k⟩ := h
  exact ⟨_, e, by rw [List.length_map]; exact z⟩
theorem Tl.at {H : Hp} {p : Addr} {ds : List (List V)} (h : Tl H p ds) {i : Nat} {d : List V} (hd : ds[i]? = some d) : ∃ xs r, H p = some (.lst xs) ∧ xs.length = ds.length ∧ xs[i]? = some (.ref r) ∧ H r = some (.tup d) := by
  obtain ⟨rs, e, z, k⟩ := h
  have hi : i < rs.length := by rw [z]; exact (List.getElem?_eq_some_iff.mp hd).1
  refine ⟨_, rs[i], e, by rw [List.length_map]; exact z, by rw [List.getElem?_map, List.getElem?_eq_getElem hi]; rfl, k i _ _ (List.getElem?_eq_getElem hi) hd⟩
/-- a tuple that stands at t is appended -/
theorem Tl.push {H : Hp} {p t : Addr} {ds : List (List V)} {d : List V} (h : Tl H p ds) (ht : H t = some (.tup d)) :
    ∃ xs, H p = some (.lst xs) ∧ xs.length = ds.length ∧ Tl (upd H p (.lst (xs ++ [.ref t]))) p (ds ++ [d]) := by
  obtain ⟨rs, e, z, k⟩ := h
  refine ⟨rs.map V.ref, e, by rw [List.length_map]; exact z, rs ++ [t], by rw [upd_same, List.map_append]; rfl, by rw [List.length_append, List.length_append, z]; rfl, fun i r c' hr hc => ?_⟩
  by_cases hi : i < rs.length
  · rw [List.getElem?_append_left hi] at hr
    rw [List.getElem?_append_left (by omega)] at hc
    have hk := k i r c' hr hc
    rw [upd_ne (ne_of hk e (by intro q; cases q))]
    exact hk
  · rw [List.getElem?_append_right (by omega)] at hr hc
    rw [z] at hr
    by_cases h0 : i - ds.length = 0
    · rw [h0] at hr hc
      cases hr; cases hc
      rw [upd_ne (ne_of ht e (by intro q; cases q))]
      exact ht
    · obtain ⟨m, hm⟩ := Nat.exists_eq_succ_of_ne_zero h0
      rw [hm] at hr
      cases hr
/-- a new list of the same objects: another list at q, its items picked from those at p -/
theorem Tl.pick {H H' : Hp} {p q : Addr} {ds : List (List V)} (h : Tl H p ds) (s : Same H H') (js : List Nat) (hj : ∀ j ∈ js, j < ds.length) {xs : List V} (hp : H p = some (.lst xs)) (hq : H' q = some (.lst (js.filterMap fun j => xs[j]?))) : Tl H' q (js.filterMap fun j => ds[j]?) := by
  obtain ⟨rs, e, z, k⟩ := h
  rw [e] at hp
  cases hp
  refine ⟨js.filterMap fun j => rs[j]?, ?_, ?_, ?_⟩
  · rw [hq, List.map_filterMap]
    congr 3
    funext j
    rw [List.getElem?_map]
  · have : ∀ (js : List Nat), (∀ j ∈ js, j < ds.length) → (js.filterMap fun j => rs[j]?).length = (js.filterMap fun j => ds[j]?).length := by
      intro js
      induction js with
      | nil => intro _; rfl
      | cons j r ih =>
        intro hj
        have h1 := hj j List.mem_cons_self
        rw [List.filterMap_cons, List.filterMap_cons, List.getElem?_eq_getElem h1, List.getElem?_eq_getElem (by omega : j < rs.length)]
        simp only [List.length_cons]
        rw [ih fun x hx => hj x (List.mem_cons_of_mem _ hx)]
    exact this js hj
  · have : ∀ (js : List Nat), (∀ j ∈ js, j < ds.length) → ∀ (i : Nat) (r : Addr) (d : List V), (js.filterMap fun j => rs[j]?)[i]? = some r → (js.filterMap fun j => ds[j]?)[i]? = some d → H' r = some (.tup d) := by
      intro js
      induction js with
      | nil => intro _ i r d hr _; cases hr
      | cons j r ih =>
        intro hj i r d hr hd
        have h1 := hj j List.mem_cons_self
        rw [List.filterMap_cons, List.getElem?_eq_getElem (by omega : j < rs.length)] at hr
        rw [List.filterMap_cons, List.getElem?_eq_getElem h1] at hd
        cases i with
        | zero =>
          cases hr; cases hd
          exact s _ _ (k j _ _ (List.getElem?_eq_getElem (by omega)) (List.getElem?_eq_getElem h1))
        | succ i => exact ih (fun x hx => hj x (List.mem_cons_of_mem _ hx)) i r d hr hd
    exact this js hj
end
section
/-! ### moves -/
structure Mv where
  pl : Int
  o : List Nat
  n : List Nat
def wds : List (List Nat) := [[84, 85], [85, 84], [82, 82], [84, 82, 84, 82, 84, 82]]
def wF : List Nat := [82, 84, 82]
def isMv (m : Mv) : Bool := (decide (m.o = []) != decide (m.n = [])) && (decide (m.o ++ m.n ∈ wds) || (decide (m.pl = 0) && decide (m.o ++ m.n = wF)))
def canMv (d : List Nat) (m : Mv) : Bool := decide (0 ≤ m.pl) && (decide (m.pl ≤ d.length) && decide ((d.drop m.pl.toNat).take m.o.length = m.o))
def doMv (d : List Nat) (m : Mv) : List Nat := d.take m.pl.toNat ++ m.n ++ d.drop (m.pl.toNat + m.o.length)
def mkMv (d : List Nat) (m : Mv) : Option (List Nat) := if isMv m = true ∧ canMv d m = true then some (doMv d m) else none
theorem mkMv_some {d : List Nat} {m : Mv} (h1 : isMv m = true) (h2 : canMv d m = true) : mkMv d m = some (doMv d m) := if_pos ⟨h1, h2⟩
theorem mkMv_not {d : List Nat} {m : Mv} (h1 : isMv m = false) : mkMv d m = none := if_neg fun z => by rw [h1] at z; cases z.1
theorem mkMv_cannot {d : List Nat} {m : Mv} (h1 : canMv d m = false) : mkMv d m = none := if_neg fun z => by rw [h1] at z; cases z.2
def Mv.vs (m : Mv) : List V := [.int m.pl, .str (S m.o), .str (S m.n)]
def Tm (H : Hp) (t : Addr) (m : Mv) : Prop := H t = some (.tup m.vs)
theorem Tm.same {H H' : Hp} {t : Addr} {m : Mv} (h : Tm H t m) (s : Same H H') : Tm H' t m := s _ _ h
theorem Tm.but {H H' : Hp} {a t : Addr} {m : Mv} (h : Tm H t m) (s : But a H H') (tp : Tape H a) : Tm H' t m := by
  obtain ⟨y, c, z, b, e⟩ := tp
  exact s _ _ (ne_of h e (by intro q; cases q)) h
theorem e_TU : (("TU" : Str)) = S [84, 85] := by decide +kernel
theorem e_UT : (("UT" : Str)) = S [85, 84] := by decide +kernel
theorem e_RR : (("RR" : Str)) = S [82, 82] := by decide +kernel
theorem e_RTR : (("RTR" : Str)) = S wF := by decide +kernel
theorem e_six : (("TRTRTR" : Str)) = S [84, 82, 84, 82, 84, 82] := by decide +kernel
theorem e_near : (("TURS_t" : Str)) = S [84, 85, 82, 83, 95, 116] := by decide +kernel
theorem e_TUR : (("TUR" : Str)) = S [84, 85, 82] := by decide +kernel
def tx (l : List Nat) : V := .str (S l)
theorem tx_inj {a b : List Nat} (h : tx a = tx b) : a = b := S_inj (V.str.inj h)
theorem tx_iff {a b : List Nat} : V.str (S a) = V.str (S b) ↔ a = b := ⟨fun h => tx_inj h, fun h => by rw [h]⟩
theorem four_words : [V.str "TU", .str "UT", .str "RR", .str "TRTRTR"] = wds.map tx := by
  rw [e_TU, e_UT, e_RR, e_six]
  rfl
theorem eqV_str (a b : List Nat) : eqV (.str (S a)) (.str (S b)) = decide (a = b) := by
  show (S a == S b) = _
  by_cases h : a = b
  · subst h
    rw [decide_eq_true rfl]
    exact beq_self_eq_true _
  · rw [decide_eq_false h]
    exact beq_eq_false_iff_ne.mpr fun z => h (S_inj z)
theorem inV_strs (w : List Nat) (ws : List (List Nat)) : inV (.str (S w)) (ws.map tx) = decide (w ∈ ws) := by
  unfold inV
  induction ws with
  | nil => simp
  | cons a r ih =>
    rw [List.map_cons, List.any_cons, ih]
    show (eqV (.str (S a)) (.str (S w)) || _) = _
    rw [eqV_str, Bool.eq_iff_iff]
    simp only [Bool.or_eq_true, decide_eq_true_eq, List.mem_cons]
    constructor
    · rintro (h | h)
      · exact .inl h.symm
      · exact .inr h
    · rintro (h | h)
      · exact .inl h.symm
      · exact .inr h
theorem flat_strs (ws : List (List Nat)) : (ws.map tx).all flatV = true := by
  rw [List.all_eq_true]
  intro x hx
  obtain ⟨w, _, rfl⟩ := List.mem_map.mp hx
  rfl
theorem S_mid (l : List Nat) {p : Int} (h : 0 ≤ p) (k : Nat) : cutS (S l) (some p) (some (p + (k : Int))) = S ((l.drop p.toNat).take k) := by
  obtain ⟨n, rfl⟩ := Int.eq_ofNat_of_zero_le h
  have e : ((n : Int) + (k : Int)) = ((n + k : Nat) : Int) := rfl
  rw [S_cut, e, HT.sIx_nat, HT.sIx_nat, Int.toNat_natCast]
  congr 1
  by_cases h2 : n ≤ l.length
  · rw [Nat.min_eq_left h2]
    by_cases h3 : n + k ≤ l.length
    · rw [Nat.min_eq_left h3]
      congr 1
      omega
    · rw [Nat.min_eq_right (by omega), List.take_of_length_le (by rw [List.length_drop]; omega), List.take_of_length_le (by rw [List.length_drop]; omega)]
  · rw [List.drop_eq_nil_of_le (show l.length ≤ min n l.length by omega), List.drop_eq_nil_of_le (show l.length ≤ n by omega), List.take_nil, List.take_nil]
theorem pick_strs {ws : List (List Nat)} {r : Int} (h0 : 0 ≤ r) (h1 : r < (ws.length : Int)) : ∃ u, atI (ws.map tx) r = some (.str (S u)) ∧ u ∈ ws := by
  obtain ⟨c, hc, m⟩ := atI_mk (xs := ws.map tx) h0 (by rw [List.length_map]; exact h1)
  obtain ⟨u, hu, rfl⟩ := List.mem_map.mp m
  exact ⟨u, hc, hu⟩
theorem pick_ints {ns : List Int} {r : Int} (h0 : 0 ≤ r) (h1 : r < (ns.length : Int)) : ∃ u, atI (ns.map V.int) r = some (.int u) ∧ u ∈ ns := by
  obtain ⟨c, hc, m⟩ := atI_mk (xs := ns.map V.int) h0 (by rw [List.length_map]; exact h1)
  obtain ⟨u, hu, rfl⟩ := List.mem_map.mp m
  exact ⟨u, hc, hu⟩
theorem pick_sign {z : Str} {l : List Nat} (e : z = S l) {r : Int} (h0 : 0 ≤ r) (h1 : r < (l.length : Int)) : ∃ c, atI z.cps.toList r = some c ∧ c ∈ l := by
  subst e
  rw [S_list]
  exact atI_mk h0 h1
theorem isMv_empty {m : Mv} : isMv m = true → m.o = [] ∨ m.n = [] := by
  intro h
  unfold isMv at h
  by_cases h1 : m.o = []
  · exact .inl h1
  · by_cases h2 : m.n = []
    · exact .inr h2
    · rw [decide_eq_false h1, decide_eq_false h2] at h
      cases h
/-- short enough to be handled -/
structure Mv.Fit (m : Mv) (k : Nat) : Prop where
  o : m.o.length ≤ k
  n : m.n.length ≤ k
theorem Mv.Fit.mono {m : Mv} {j k : Nat} (h : m.Fit j) (l : j ≤ k) : m.Fit k := ⟨Nat.le_trans h.o l, Nat.le_trans h.n l⟩
theorem doMv_len {d : List Nat} {m : Mv} {k : Nat} (h : m.Fit k) : (doMv d m).length ≤ d.length + k := by
  unfold doMv
  have := h.n
  simp only [List.length_append, List.length_take, List.length_drop]
  omega
def tMade : Option (List Nat) → V
  | some d => .str (S d)
  | none => .non
def spIsMove : Sp := fun vs H Q _ => ∃ (t : Addr) (m : Mv), vs = [.ref t] ∧ Tm H t m ∧ m.Fit 100000 ∧ ∀ H', Same H H' → Q (.bl (isMv m)) H'
def spLawMade : Sp := fun vs H Q _ => ∃ (d : List Nat) (t : Addr) (m : Mv), vs = [.str (S d), .ref t] ∧ Tm H t m ∧ m.Fit 100000 ∧ d.length ≤ 1000000 ∧ ∀ H', Same H H' → Q (tMade (mkMv d m)) H'
/-- made, where the move can be made -/
def spMade : Sp := fun vs H Q _ => ∃ (d : List Nat) (t : Addr) (m : Mv) (x : List Nat), vs = [.str (S d), .ref t] ∧ Tm H t m ∧ m.Fit 100000 ∧ d.length ≤ 1000000 ∧ mkMv d m = some x ∧ ∀ H', Same H H' → Q (.str (S x)) H'
/-- made, both ways -/
def spMadeX (C : Addr) : Sp := fun vs H Q E => ∃ (d : List Nat) (t : Addr) (m : Mv), vs = [.str (S d), .ref t] ∧ Tm H t m ∧ m.Fit 100000 ∧ d.length ≤ 1000000 ∧ (∀ x, mkMv d m = some x → ∀ H', Same H H' → Q (.str (S x)) H') ∧ (mkMv d m = none → ∀ H', Same H H' → E (.ref C) none H')
/-- what the drawn moves keep -/
def Cn (d : List Nat) (m : Mv) : Prop := isMv m = true ∧ canMv d m = true ∧ m.Fit 6
def spPut : Sp := fun vs H Q _ => ∃ (a : Addr) (d : List Nat), vs = [.ref a, .str (S d)] ∧ Tape H a ∧ d.length ≤ 1000000 ∧ ∀ (t : Addr) (m : Mv) H', Cn d m → m.o = [] → But a H H' → Tape H' a → Tm H' t m → Q (.ref t) H'
def spTaken : Sp := fun vs H Q _ => ∃ (a : Addr) (d : List Nat), vs = [.ref a, .str (S d)] ∧ Tape H a ∧ d.length ≤ 1000000 ∧ ∀ (t : Addr) (m : Mv) H', Cn d m → But a H H' → Tape H' a → Tm H' t m → Q (.ref t) H'
def spNear : Sp := fun vs H Q _ => ∃ (a : Addr), vs = [.ref a] ∧ Tape H a ∧ ∀ (u : List Nat) H', u.length ≤ 20 → But a H H' → Tape H' a → Q (.str (S u)) H'
def spOdd : Sp := fun vs H Q _ => ∃ (a t0 : Addr) (m0 : Mv) (k : Nat), vs = [.ref a, .ref t0] ∧ Tape H a ∧ Tm H t0 m0 ∧ m0.Fit k ∧ 20 ≤ k ∧ k ≤ 10000 ∧ ∀ (t : Addr) (m : Mv) H', m.Fit (2 * k) → But a H H' → Tape H' a → Tm H' t m → Q (.ref t) H'
theorem wds_len {u : List Nat} (h : u ∈ wds) : u.length ≤ 6 ∧ 2 ≤ u.length := by
  simp only [wds, List.mem_cons, List.not_mem_nil, or_false] at h
  rcases h with rfl | rfl | rfl | rfl <;> decide
theorem Cn.put {d u : List Nat} {p : Int} (h : u ∈ wds) (h0 : 0 ≤ p) (h1 : p ≤ d.length) : Cn d ⟨p, [], u⟩ := by
  have hl := wds_len h
  have hu : u ≠ [] := fun z => by subst z; simp at hl
  refine ⟨?_, ?_, ⟨Nat.zero_le _, hl.1⟩⟩
  · unfold isMv
    simp only [decide_true, decide_eq_false hu, List.nil_append, decide_eq_true h]
    rfl
  · unfold canMv
    simp only [decide_eq_true h0, decide_eq_true h1, List.length_nil, List.take_zero, decide_true, Bool.and_true]
theorem Cn.putF (d : List Nat) : Cn d ⟨0, [], wF⟩ := by
  refine ⟨by decide, ?_, ⟨Nat.zero_le _, by decide⟩⟩
  unfold canMv
  simp only [List.length_nil, List.take_zero, decide_true, Bool.and_true, Int.le_refl, Bool.true_and]
  exact decide_eq_true (Int.natCast_nonneg _)
theorem Cn.take {d u : List Nat} {p : Int} (h : u ∈ wds) (h0 : 0 ≤ p) (h1 : p ≤ d.length) (e : (d.drop p.toNat).take u.length = u) : Cn d ⟨p, u, []⟩ := by
  have hl := wds_len h
  have hu : u ≠ [] := fun z => by subst z; simp at hl
  refine ⟨?_, ?_, ⟨hl.1, Nat.zero_le _⟩⟩
  · unfold isMv
    simp only [decide_true, decide_eq_false hu, List.append_nil, decide_eq_true h]
    rfl
  · unfold canMv
    simp only [decide_eq_true h0, decide_eq_true h1, decide_eq_true e, Bool.and_true]
theorem Cn.takeF {d : List Nat} (e : d.take 3 = wF) : Cn d ⟨0, wF, []⟩ := by
  refine ⟨by decide, ?_, ⟨by decide, Nat.zero_le _⟩⟩
  unfold canMv
  have : (List.drop (Int.toNat 0) d).take wF.length = wF := e
  simp only [decide_eq_true this, decide_true, Bool.and_true, Int.le_refl, Bool.true_and]
  exact decide_eq_true (Int.natCast_nonneg _)
theorem S_eta (z : Str) : S z.cps.toList = z := by
  cases z
  simp [S]
theorem pick_zs {zs : List Str} {n : Nat} (hz : ∀ z ∈ zs, z.length ≤ n) {r : Int} (h0 : 0 ≤ r) (h1 : r < (zs.length : Int)) : ∃ u : List Nat, atI (zs.map V.str) r = some (.str (S u)) ∧ u.length ≤ n := by
  obtain ⟨c, hc, m⟩ := atI_mk (xs := zs.map V.str) h0 (by rw [List.length_map]; exact h1)
  obtain ⟨z, hm, rfl⟩ := List.mem_map.mp m
  refine ⟨z.cps.toList, by rw [S_eta]; exact hc, ?_⟩
  have := hz z hm
  rw [← S_eta z, S_len] at this
  exact this
theorem mkMv_inv {d x : List Nat} {m : Mv} (h : mkMv d m = some x) : isMv m = true ∧ canMv d m = true ∧ x = doMv d m := by
  unfold mkMv at h
  by_cases c : isMv m = true ∧ canMv d m = true
  · rw [if_pos c] at h
    exact ⟨c.1, c.2, (Option.some.inj h).symm⟩
  · rw [if_neg c] at h
    cases h
theorem canMv_inv {d : List Nat} {m : Mv} (h : canMv d m = true) : 0 ≤ m.pl ∧ m.pl ≤ d.length ∧ (d.drop m.pl.toNat).take m.o.length = m.o := by
  unfold canMv at h
  simp only [Bool.and_eq_true, decide_eq_true_eq] at h
  exact h
def spHolds : Sp := fun vs H Q _ => ∃ (d : List Nat) (t : Addr) (m : Mv), vs = [.str (S d), .ref t] ∧ Tm H t m ∧ m.Fit 100000 ∧ d.length ≤ 1000000 ∧ ∀ H', Same H H' → Q (.bl true) H'
theorem pick_two {t1 t2 : Addr} {m1 m2 : Mv} {H : Hp} {d : List Nat} (h1 : Tm H t1 m1) (h2 : Tm H t2 m2) (c1 : Cn d m1) (c2 : Cn d m2) {r : Int} (r0 : 0 ≤ r) (r1 : r < 2) : ∃ (t : Addr) (m : Mv), atI [V.ref t1, .ref t2] r = some (.ref t) ∧ Tm H t m ∧ Cn d m := by
  have : r = 0 ∨ r = 1 := by omega
  rcases this with rfl | rfl
  · exact ⟨t1, m1, rfl, h1, c1⟩
  · exact ⟨t2, m2, rfl, h2, c2⟩
end
section
variable {P : Program} {w : World} {K : PySem.W.Frag} {mg : Str → Option Value} {base : Heap} {f : Addr} {fd : FuncData}
/-! ### diagrams -/
structure Dg where
  n : Nat
  cs : List (Nat × Nat × Nat)
  a : Nat
  b : Nat
  c : Nat
  d : Nat
def dg1 (g : Dg) (c : Nat) : Dg :=
  if c = 82 then ⟨g.n, g.cs, g.c, g.a, g.d, g.b⟩ else if c = 84 then ⟨g.n + 1, g.cs ++ [(g.b, g.d, g.n)], g.a, g.n, g.c, g.b⟩ else ⟨g.n + 1, g.cs ++ [(g.d, g.b, g.n)], g.a, g.d, g.c, g.n⟩
def dg0 : Dg := ⟨2, [], 0, 0, 1, 1⟩
def dg (l : List Nat) : Dg := l.foldl dg1 dg0
theorem dg_take {l : List Nat} {i c : Nat} (h : l[i]? = some c) : dg (l.take (i + 1)) = dg1 (dg (l.take i)) c := by
  unfold dg
  rw [List.take_add_one, h, List.foldl_append]
  rfl
theorem dg_len (l : List Nat) : (dg l).cs.length ≤ l.length := by
  suffices h : ∀ (l : List Nat) (g : Dg), (l.foldl dg1 g).cs.length ≤ g.cs.length + l.length by
    have := h l dg0
    simpa [dg, dg0] using this
  intro l
  induction l with
  | nil => intro g; simp
  | cons c r ih =>
    intro g
    have h1 := ih (dg1 g c)
    have h2 : (dg1 g c).cs.length ≤ g.cs.length + 1 := by
      unfold dg1
      repeat' split
      all_goals simp
    simp only [List.foldl_cons, List.length_cons]
    omega
def t3 (c : Nat × Nat × Nat) : HO := .tup [.int (c.1 : Int), .int (c.2.1 : Int), .int (c.2.2 : Int)]
/-- at p a list of the crossings cs, a tuple each -/
def Crs (H : Hp) (p : Addr) (cs : List (Nat × Nat × Nat)) : Prop := ∃ rs : List Addr, H p = some (.lst (rs.map V.ref)) ∧ rs.length = cs.length ∧ ∀ (i : Nat) (r : Addr) (c : Nat × Nat × Nat), rs[i]? = some r → cs[i]? = some c → H r = some (t3 c)
theorem Crs.same {H H' : Hp} {p : Addr} {cs : List (Nat × Nat × Nat)} (h : Crs H p cs) (s : Same H H') : Crs H' p cs := by
  obtain ⟨rs, e, z, k⟩ := h
  exact ⟨rs, s _ _ e, z, fun i r c a b => s _ _ (k i r c a b)⟩
theorem Crs.but {H H' : Hp} {a p : Addr} {cs : List (Nat × Nat × Nat)} {zs : List V} (h : Crs H p cs) (s : But a H H') (ne : p ≠ a) (ha : H a = some (.lst zs)) : Crs H' p cs := by
  obtain ⟨rs, e, z, k⟩ := h
  exact ⟨rs, s _ _ ne e, z, fun i r c x y => s _ _ (ne_of (k i r c x y) ha (by intro q; cases q)) (k i r c x y)⟩
/-- one more crossing: a new tuple at t, appended -/
theorem Crs.push {H : Hp} {p t : Addr} {cs : List (Nat × Nat × Nat)} (h : Crs H p cs) (ht : H t = none) (c : Nat × Nat × Nat) :
    ∃ xs, upd H t (t3 c) p = some (.lst xs) ∧ xs.length = cs.length ∧ Crs (upd (upd H t (t3 c)) p (.lst (xs ++ [.ref t]))) p (cs ++ [c]) := by
  obtain ⟨rs, e, z, k⟩ := h
  have hpt : p ≠ t := ne_of_none e ht
  refine ⟨rs.map V.ref, by rw [upd_ne hpt]; exact e, by rw [List.length_map]; exact z, rs ++ [t], by rw [upd_same, List.map_append]; rfl, by rw [List.length_append, List.length_append, z]; rfl, fun i r c' hr hc => ?_⟩
  by_cases hi : i < rs.length
  · rw [List.getElem?_append_left hi] at hr
    rw [List.getElem?_append_left (by omega)] at hc
    have hk := k i r c' hr hc
    rw [upd_ne (ne_of hk e (by intro q; cases q)), upd_ne (ne_of_none hk ht)]
    exact hk
  · rw [List.getElem?_append_right (by omega)] at hr hc
    rw [z] at hr
    by_cases h0 : i - cs.length = 0
    · rw [h0] at hr hc
      cases hr; cases hc
      rw [upd_ne (Ne.symm hpt), upd_same]
    · obtain ⟨m, hm⟩ := Nat.exists_eq_succ_of_ne_zero h0
      rw [hm] at hr
      cases hr
def e4 (g : Dg) : HO := .tup [.int (g.a : Int), .int (g.b : Int), .int (g.c : Int), .int (g.d : Int)]
/-- at t a diagram, its list of crossings at p -/
def Diag (H : Hp) (t p : Addr) (g : Dg) : Prop := ∃ e, H t = some (.tup [.int (g.n : Int), .ref p, .ref e]) ∧ H e = some (e4 g) ∧ Crs H p g.cs
theorem Diag.same {H H' : Hp} {t p : Addr} {g : Dg} (h : Diag H t p g) (s : Same H H') : Diag H' t p g := by
  obtain ⟨e, a, b, c⟩ := h
  exact ⟨e, s _ _ a, s _ _ b, c.same s⟩
theorem Diag.but {H H' : Hp} {a t p : Addr} {g : Dg} {zs : List V} (h : Diag H t p g) (s : But a H H') (ne : p ≠ a) (ha : H a = some (.lst zs)) : Diag H' t p g := by
  obtain ⟨e, x, y, c⟩ := h
  exact ⟨e, s _ _ (ne_of x ha (by intro q; cases q)) x, s _ _ (ne_of y ha (by intro q; cases q)) y, c.but s ne ha⟩
def spDiag : Sp := fun vs H Q _ => ∃ l : List Nat, vs = [.str (S l)] ∧ l.length ≤ 1000000 ∧ ∀ (t p : Addr) H', Same H H' → H p = none → Diag H' t p (dg l) → Q (.ref t) H'
end
section
/-! ### colourings -/
def cstep (A : List Int) (c : Nat × Nat × Nat) : List Int := A ++ [2 * A.getD c.1 0 - A.getD c.2.1 0]
def col (cs : List (Nat × Nat × Nat)) (x y : Int) : List Int := cs.foldl cstep [x, y]
theorem col_snoc (cs : List (Nat × Nat × Nat)) (c : Nat × Nat × Nat) (x y : Int) : col (cs ++ [c]) x y = cstep (col cs x y) c := by
  unfold col
  rw [List.foldl_append]
  rfl
theorem col_len (x y : Int) (cs : List (Nat × Nat × Nat)) : (col cs x y).length = cs.length + 2 := by
  suffices h : ∀ (cs : List (Nat × Nat × Nat)) (A : List Int), (cs.foldl cstep A).length = A.length + cs.length by
    have := h cs [x, y]
    unfold col
    rw [this]
    show 2 + _ = _
    omega
  intro cs
  induction cs with
  | nil => intro A; simp
  | cons c r ih =>
    intro A
    rw [List.foldl_cons, ih]
    unfold cstep
    simp only [List.length_append, List.length_cons, List.length_nil]
    omega
theorem getD_left {A B : List Int} {i : Nat} (h : i < A.length) : (A ++ B).getD i 0 = A.getD i 0 := by
  rw [List.getD_eq_getElem?_getD, List.getD_eq_getElem?_getD, List.getElem?_append_left h]
theorem getD_last (A : List Int) (z : Int) : (A ++ [z]).getD A.length 0 = z := by
  rw [List.getD_eq_getElem?_getD, List.getElem?_append_right (Nat.le_refl _), Nat.sub_self]
  rfl
/-- a diagram as the document makes it -/
structure Wf (g : Dg) : Prop where
  n : g.n = g.cs.length + 2
  a : g.a < g.n
  b : g.b < g.n
  c : g.c < g.n
  d : g.d < g.n
  at_ : ∀ (i : Nat) (c : Nat × Nat × Nat), g.cs[i]? = some c → c.2.2 = i + 2 ∧ c.1 < i + 2 ∧ c.2.1 < i + 2
theorem Wf.zero : Wf dg0 := ⟨rfl, by decide, by decide, by decide, by decide, fun i c h => by cases h⟩
theorem wf_push {n : Nat} {cs : List (Nat × Nat × Nat)} {o b : Nat} (hn : n = cs.length + 2) (h : ∀ (i : Nat) (c : Nat × Nat × Nat), cs[i]? = some c → c.2.2 = i + 2 ∧ c.1 < i + 2 ∧ c.2.1 < i + 2) (ho : o < n) (hb : b < n) :
    ∀ (i : Nat) (c : Nat × Nat × Nat), (cs ++ [(o, b, n)])[i]? = some c → c.2.2 = i + 2 ∧ c.1 < i + 2 ∧ c.2.1 < i + 2 := by
  intro i c hc
  by_cases hi : i < cs.length
  · rw [List.getElem?_append_left hi] at hc
    exact h i c hc
  · rw [List.getElem?_append_right (by omega)] at hc
    by_cases h0 : i - cs.length = 0
    · rw [h0] at hc
      cases hc
      exact ⟨by show n = _; omega, by show o < _; omega, by show b < _; omega⟩
    · obtain ⟨m, hm⟩ := Nat.exists_eq_succ_of_ne_zero h0
      rw [hm] at hc
      cases hc
theorem Wf.step {g : Dg} (w : Wf g) (c : Nat) : Wf (dg1 g c) := by
  obtain ⟨n, a, b, cc, d, h⟩ := w
  unfold dg1
  by_cases c1 : c = 82
  · rw [if_pos c1]
    exact ⟨n, cc, a, d, b, h⟩
  rw [if_neg c1]
  by_cases c2 : c = 84
  · rw [if_pos c2]
    exact ⟨by show g.n + 1 = (g.cs ++ [_]).length + 2; rw [List.length_append]; show _ = g.cs.length + 1 + 2; omega, by show g.a < g.n + 1; omega, by show g.n < g.n + 1; omega, by show g.c < g.n + 1; omega, by show g.b < g.n + 1; omega, wf_push n h b d⟩
  · rw [if_neg c2]
    exact ⟨by show g.n + 1 = (g.cs ++ [_]).length + 2; rw [List.length_append]; show _ = g.cs.length + 1 + 2; omega, by show g.a < g.n + 1; omega, by show g.d < g.n + 1; omega, by show g.c < g.n + 1; omega, by show g.n < g.n + 1; omega, wf_push n h d b⟩
theorem wf_run : ∀ (l : List Nat) {g : Dg}, Wf g → Wf (l.foldl dg1 g)
  | [], _, w => w
  | c :: r, _, w => wf_run r (w.step c)
theorem wf_dg (l : List Nat) : Wf (dg l) := wf_run l Wf.zero
/-- the colours at the ends, against the number -/
def EndsAre (g : Dg) (v : Int × Int) (x y : Int) : Prop := ∃ e : Int, (e = 1 ∨ e = -1) ∧
  (col g.cs x y).getD g.b 0 - (col g.cs x y).getD g.a 0 = e * v.1 * (y - x) ∧ (col g.cs x y).getD g.b 0 - (col g.cs x y).getD g.d 0 = e * v.2 * (y - x) ∧
  (col g.cs x y).getD g.a 0 + (col g.cs x y).getD g.d 0 = (col g.cs x y).getD g.b 0 + (col g.cs x y).getD g.c 0
theorem ends_zero (x y : Int) : EndsAre dg0 (0, 1) x y := by
  refine ⟨-1, .inr rfl, ?_, ?_, ?_⟩
  · show x - x = -1 * 0 * (y - x)
    omega
  · show x - y = -1 * 1 * (y - x)
    omega
  · show x + y = x + y
    rfl
theorem ends_step {g : Dg} {v : Int × Int} {x y : Int} (w : Wf g) (gv : Good v) {c : Nat} (hc : c = 84 ∨ c = 85 ∨ c = 82) (h : EndsAre g v x y) : EndsAre (dg1 g c) (called v c) x y := by
  obtain ⟨e, he, h1, h2, h3⟩ := h
  have lA := col_len x y g.cs
  have wn := w.n
  have wa := w.a
  have wb := w.b
  have wc := w.c
  have wd := w.d
  rcases hc with rfl | rfl | rfl
  · have e1 : dg1 g 84 = ⟨g.n + 1, g.cs ++ [(g.b, g.d, g.n)], g.a, g.n, g.c, g.b⟩ := rfl
    have e2 : called v 84 = (v.1 + v.2, v.2) := rfl
    rw [e1, e2]
    refine ⟨e, he, ?_⟩
    show (col (g.cs ++ [(g.b, g.d, g.n)]) x y).getD g.n 0 - (col (g.cs ++ [(g.b, g.d, g.n)]) x y).getD g.a 0 = _ ∧ (col (g.cs ++ [(g.b, g.d, g.n)]) x y).getD g.n 0 - (col (g.cs ++ [(g.b, g.d, g.n)]) x y).getD g.b 0 = _ ∧ (col (g.cs ++ [(g.b, g.d, g.n)]) x y).getD g.a 0 + (col (g.cs ++ [(g.b, g.d, g.n)]) x y).getD g.b 0 = (col (g.cs ++ [(g.b, g.d, g.n)]) x y).getD g.n 0 + (col (g.cs ++ [(g.b, g.d, g.n)]) x y).getD g.c 0
    rw [col_snoc]
    generalize col g.cs x y = A at *
    unfold cstep
    have l1 := getD_last A (2 * A.getD g.b 0 - A.getD g.d 0)
    rw [show A.length = g.n by omega] at l1
    rw [l1, getD_left (show g.a < A.length by omega), getD_left (show g.b < A.length by omega), getD_left (show g.c < A.length by omega)]
    have s : e * (v.1 + v.2) * (y - x) = e * v.1 * (y - x) + e * v.2 * (y - x) := by rw [Int.mul_add, Int.add_mul]
    refine ⟨?_, ?_, ?_⟩
    · show _ = e * (v.1 + v.2) * (y - x)
      rw [s]
      omega
    · show _ = e * v.2 * (y - x)
      omega
    · omega
  · have e1 : dg1 g 85 = ⟨g.n + 1, g.cs ++ [(g.d, g.b, g.n)], g.a, g.d, g.c, g.n⟩ := rfl
    have e2 : called v 85 = (v.1 - v.2, v.2) := rfl
    rw [e1, e2]
    refine ⟨e, he, ?_⟩
    show (col (g.cs ++ [(g.d, g.b, g.n)]) x y).getD g.d 0 - (col (g.cs ++ [(g.d, g.b, g.n)]) x y).getD g.a 0 = _ ∧ (col (g.cs ++ [(g.d, g.b, g.n)]) x y).getD g.d 0 - (col (g.cs ++ [(g.d, g.b, g.n)]) x y).getD g.n 0 = _ ∧ (col (g.cs ++ [(g.d, g.b, g.n)]) x y).getD g.a 0 + (col (g.cs ++ [(g.d, g.b, g.n)]) x y).getD g.n 0 = (col (g.cs ++ [(g.d, g.b, g.n)]) x y).getD g.d 0 + (col (g.cs ++ [(g.d, g.b, g.n)]) x y).getD g.c 0
    rw [col_snoc]
    generalize col g.cs x y = A at *
    unfold cstep
    have l1 := getD_last A (2 * A.getD g.d 0 - A.getD g.b 0)
    rw [show A.length = g.n by omega] at l1
    rw [l1, getD_left (show g.a < A.length by omega), getD_left (show g.d < A.length by omega), getD_left (show g.c < A.length by omega)]
    have s : e * (v.1 - v.2) * (y - x) = e * v.1 * (y - x) - e * v.2 * (y - x) := by rw [Int.mul_sub e v.1 v.2, Int.sub_mul]
    refine ⟨?_, ?_, ?_⟩
    · show _ = e * (v.1 - v.2) * (y - x)
      rw [s]
      omega
    · show _ = e * v.2 * (y - x)
      omega
    · omega
  · have e1 : dg1 g 82 = ⟨g.n, g.cs, g.c, g.a, g.d, g.b⟩ := rfl
    rw [e1]
    unfold called
    rw [if_neg (by decide), if_neg (by decide)]
    by_cases c3 : 0 < v.1
    · rw [if_pos c3]
      refine ⟨-e, by omega, ?_⟩
      show (col g.cs x y).getD g.a 0 - (col g.cs x y).getD g.c 0 = -e * (0 - v.2) * (y - x) ∧ (col g.cs x y).getD g.a 0 - (col g.cs x y).getD g.b 0 = -e * v.1 * (y - x) ∧ (col g.cs x y).getD g.c 0 + (col g.cs x y).getD g.b 0 = (col g.cs x y).getD g.a 0 + (col g.cs x y).getD g.d 0
      have s1 : -e * (0 - v.2) * (y - x) = e * v.2 * (y - x) := by rw [Int.zero_sub, Int.neg_mul_neg]
      have s2 : -e * v.1 * (y - x) = -(e * v.1 * (y - x)) := by rw [Int.neg_mul, Int.neg_mul]
      rw [s1, s2]
      exact ⟨by omega, by omega, by omega⟩
    rw [if_neg c3]
    by_cases c4 : v.1 < 0
    · rw [if_pos c4]
      refine ⟨e, he, ?_⟩
      show (col g.cs x y).getD g.a 0 - (col g.cs x y).getD g.c 0 = e * v.2 * (y - x) ∧ (col g.cs x y).getD g.a 0 - (col g.cs x y).getD g.b 0 = e * (0 - v.1) * (y - x) ∧ (col g.cs x y).getD g.c 0 + (col g.cs x y).getD g.b 0 = (col g.cs x y).getD g.a 0 + (col g.cs x y).getD g.d 0
      have s2 : e * (0 - v.1) * (y - x) = -(e * v.1 * (y - x)) := by rw [Int.zero_sub, Int.mul_neg, Int.neg_mul]
      rw [s2]
      exact ⟨by omega, by omega, by omega⟩
    rw [if_neg c4]
    have z : v.1 = 0 := by omega
    have q1 : v.2 = 1 := by
      have g2 := gv.2
      rw [z, Int.gcd_zero_left] at g2
      rcases gv.1 with h | h
      · omega
      · rw [h] at z; cases z
    refine ⟨e, he, ?_⟩
    show (col g.cs x y).getD g.a 0 - (col g.cs x y).getD g.c 0 = e * 1 * (y - x) ∧ (col g.cs x y).getD g.a 0 - (col g.cs x y).getD g.b 0 = e * 0 * (y - x) ∧ (col g.cs x y).getD g.c 0 + (col g.cs x y).getD g.b 0 = (col g.cs x y).getD g.a 0 + (col g.cs x y).getD g.d 0
    rw [z] at h1
    rw [q1] at h2
    have s3 : e * 0 * (y - x) = 0 := by rw [Int.mul_zero, Int.zero_mul]
    rw [s3] at h1 ⊢
    exact ⟨by omega, by omega, by omega⟩
theorem ends_run : ∀ (l : List Nat) {g : Dg} {v : Int × Int} {x y : Int}, Lets l → Wf g → Good v → EndsAre g v x y → EndsAre (l.foldl dg1 g) (run v l) x y
  | [], _, _, _, _, _, _, _, h => h
  | c :: r, _, _, _, _, hl, w, gv, h => ends_run r (fun x hx => hl x (List.mem_cons_of_mem _ hx)) (w.step c) (gv.called c) (ends_step w gv (hl c List.mem_cons_self) h)
theorem ends_dg {l : List Nat} (hl : Lets l) (x y : Int) : EndsAre (dg l) (run (0, 1) l) x y := ends_run l hl Wf.zero Good.zero (ends_zero x y)
/-- the crossings are kept -/
def Keep (cs : List (Nat × Nat × Nat)) (A : List Int) : Prop := ∀ c ∈ cs, A.getD c.2.1 0 + A.getD c.2.2 0 = 2 * A.getD c.1 0
theorem keep_col {g : Dg} (w : Wf g) (x y : Int) : Keep g.cs (col g.cs x y) := by
  suffices h : ∀ (cs : List (Nat × Nat × Nat)), (∀ (i : Nat) (c : Nat × Nat × Nat), cs[i]? = some c → c.2.2 = i + 2 ∧ c.1 < i + 2 ∧ c.2.1 < i + 2) → Keep cs (col cs x y) from h g.cs w.at_
  intro cs
  suffices h : ∀ (k : Nat) (cs : List (Nat × Nat × Nat)), cs.length = k → (∀ (i : Nat) (c : Nat × Nat × Nat), cs[i]? = some c → c.2.2 = i + 2 ∧ c.1 < i + 2 ∧ c.2.1 < i + 2) → Keep cs (col cs x y) from h _ cs rfl
  intro k
  induction k with
  | zero =>
    intro cs hk _ c hc
    rw [List.eq_nil_of_length_eq_zero hk] at hc
    cases hc
  | succ k ih =>
    intro cs hk hat
    have hne : cs ≠ [] := fun z => by rw [z] at hk; cases hk
    obtain ⟨r, c, rfl⟩ : ∃ r c, cs = r ++ [c] := ⟨cs.dropLast, cs.getLast hne, (List.dropLast_concat_getLast hne).symm⟩
    have hr : r.length = k := by
      rw [List.length_append] at hk
      have : ([c] : List (Nat × Nat × Nat)).length = 1 := rfl
      omega
    have ihr := ih r hr fun i d hd => hat i d (by rw [List.getElem?_append_left (List.getElem?_eq_some_iff.mp hd).1]; exact hd)
    have lr := col_len x y r
    rw [col_snoc]
    intro d hd
    rcases List.mem_append.mp hd with hd | hd
    · obtain ⟨i, hi, e⟩ := List.getElem_of_mem hd
      have := hat i d (by rw [List.getElem?_append_left hi, List.getElem?_eq_getElem hi, e])
      unfold cstep
      rw [getD_left (by omega), getD_left (by omega), getD_left (by omega)]
      exact ihr d hd
    · rw [List.mem_singleton.mp hd]
      have := hat r.length c (by rw [List.getElem?_append_right (Nat.le_refl _), Nat.sub_self]; rfl)
      unfold cstep
      have l1 := getD_last (col r x y) (2 * (col r x y).getD c.1 0 - (col r x y).getD c.2.1 0)
      rw [show (col r x y).length = c.2.2 by omega] at l1
      rw [l1, getD_left (by omega), getD_left (by omega)]
      omega
theorem at_getD {A : List Int} {i : Nat} (h : i < A.length) : atI (A.map V.int) (i : Int) = some (.int (A.getD i 0)) := by
  refine atI_nat (j := i) ?_
  rw [List.getElem?_map, List.getD_eq_getElem?_getD, List.getElem?_eq_getElem h]
  rfl
def spCol : Sp := fun vs H Q _ => ∃ (l : List Nat) (x y : Int), vs = [.str (S l), .int x, .int y] ∧ l.length ≤ 1000000 ∧ ∀ (p : Addr) H', Same H H' → H p = none → H' p = some (.lst ((col (dg l).cs x y).map V.int)) → Q (.ref p) H'
end
section
def due (p q : Int) : Int × Int := if q = 0 then (1, 0) else
  if q < 0 then (p.fdiv (0 - (Int.gcd p q : Int)), q.fdiv (0 - (Int.gcd p q : Int))) else (p.fdiv (Int.gcd p q : Int), q.fdiv (Int.gcd p q : Int))
theorem gcd_size {p q : Int} (h : p ≠ 0 ∨ q ≠ 0) (hp : p.natAbs < 2 ^ 201) (hq : q.natAbs < 2 ^ 201) : 0 < Int.gcd p q ∧ Int.gcd p q < 2 ^ 201 := by
  rcases h with h | h
  · have h1 : 0 < Int.gcd p q := Int.gcd_pos_of_ne_zero_left q h
    have h2 : Int.gcd p q ∣ p.natAbs := Nat.gcd_dvd_left _ _
    have h3 := Nat.le_of_dvd (by omega) h2
    exact ⟨h1, by omega⟩
  · have h1 : 0 < Int.gcd p q := Int.gcd_pos_of_ne_zero_right p h
    have h2 : Int.gcd p q ∣ q.natAbs := Nat.gcd_dvd_right _ _
    have h3 := Nat.le_of_dvd (by omega) h2
    exact ⟨h1, by omega⟩
theorem log_ok {j : Int} (h : j.natAbs < 2 ^ 201) : j.natAbs.log2 < 9000 := Nat.lt_of_lt_of_le (PySem.Flt.log2_lt_of (by decide) h) (by decide)
theorem fdiv_neg_exact {p g : Int} (g0 : g ≠ 0) (h : g ∣ p) : p.fdiv (0 - g) = -(p / g) := by
  obtain ⟨k, rfl⟩ := h
  rw [Int.mul_ediv_cancel_left k g0, Int.zero_sub]
  have e : g * k = (-g) * (-k) := by rw [Int.neg_mul_neg]
  rw [e, Int.mul_fdiv_cancel_left _ (by omega)]
theorem due_good {p q : Int} (h : p ≠ 0 ∨ q ≠ 0) : Good (due p q) := by
  unfold due
  by_cases h0 : q = 0
  · rw [if_pos h0]
    exact ⟨.inr rfl, by decide⟩
  rw [if_neg h0]
  have g0 : 0 < Int.gcd p q := Int.gcd_pos_of_ne_zero_right p h0
  have dp : ((Int.gcd p q : Nat) : Int) ∣ p := Int.gcd_dvd_left p q
  have dq : ((Int.gcd p q : Nat) : Int) ∣ q := Int.gcd_dvd_right p q
  by_cases h1 : q < 0
  · rw [if_pos h1, fdiv_neg_exact (by omega) dp, fdiv_neg_exact (by omega) dq]
    refine ⟨.inl ?_, ?_⟩
    · show 0 < -(q / ((Int.gcd p q : Nat) : Int))
      have : 0 < (-q) / ((Int.gcd p q : Nat) : Int) := Int.ediv_pos_of_pos_of_dvd (by omega) (by omega) (Int.dvd_neg.mpr dq)
      rw [Int.neg_ediv_of_dvd dq] at this
      exact this
    · show Int.gcd (-(p / _)) (-(q / _)) = 1
      rw [Int.neg_gcd, Int.gcd_neg]
      exact Int.gcd_ediv_gcd_ediv_gcd g0
  · rw [if_neg h1, Int.fdiv_eq_ediv_of_nonneg p (by omega), Int.fdiv_eq_ediv_of_nonneg q (by omega)]
    refine ⟨.inl ?_, ?_⟩
    · exact Int.ediv_pos_of_pos_of_dvd (by omega) (by omega) dq
    · exact Int.gcd_ediv_gcd_ediv_gcd g0
theorem due_size {p q : Int} (hp : p.natAbs < 2 ^ 201) (hq : q.natAbs < 2 ^ 201) : (due p q).1.natAbs < 2 ^ 201 ∧ (due p q).2.natAbs < 2 ^ 201 := by
  unfold due
  by_cases h0 : q = 0
  · rw [if_pos h0]
    exact ⟨by decide, by decide⟩
  rw [if_neg h0]
  have g0 : 0 < Int.gcd p q := Int.gcd_pos_of_ne_zero_right p h0
  have dp : ((Int.gcd p q : Nat) : Int) ∣ p := Int.gcd_dvd_left p q
  have dq : ((Int.gcd p q : Nat) : Int) ∣ q := Int.gcd_dvd_right p q
  have a := Int.natAbs_ediv_le_natAbs p (Int.gcd p q)
  have b := Int.natAbs_ediv_le_natAbs q (Int.gcd p q)
  by_cases h1 : q < 0
  · rw [if_pos h1, fdiv_neg_exact (by omega) dp, fdiv_neg_exact (by omega) dq]
    simp only [Int.natAbs_neg]
    exact ⟨by omega, by omega⟩
  · rw [if_neg h1, Int.fdiv_eq_ediv_of_nonneg p (by omega), Int.fdiv_eq_ediv_of_nonneg q (by omega)]
    exact ⟨by omega, by omega⟩
end
section
variable {P : Program} {w : World} {K : PySem.W.Frag} {mg : Str → Option Value} {base : Heap} {f : Addr} {fd : FuncData}
def spFrac : Sp := fun vs H Q _ => ∃ p q' : Int, vs = [.int p, .int q'] ∧ (p ≠ 0 ∨ q' ≠ 0) ∧ p.natAbs < 2 ^ 201 ∧ q'.natAbs < 2 ^ 201 ∧ ∀ t H', Same H H' → Tup2 H' t (due p q') → Q (.ref t) H'
theorem ok_frac (F : Fun K "fraction" "fraction" s_fraction f fd) (mgcd : mg "gcd" = some (.builtin "math.gcd")) : FnOk P w K mg base CX0 1 f fd ["p", "q"] spFrac := by
  refine F.ok sc_fraction (fun vs H Q E h => ?_) (fun cdv A outer s H vs Q E hr h => ?_)
  · obtain ⟨p, q', rfl, _⟩ := h
    rfl
  obtain ⟨p, q', rfl, hn, hp, hq, q⟩ := h
  refine ⟨_, pss_cons (ps_if (PW.pt (pw_and (pt_cmpR op_eq (pv 0) pe_int (nomark _)) (pw_and1 (pt_cmpR op_eq (pv 1) pe_int (nomark _))))) pss_never pss_nil)
    (pss_cons (ps_set (i := 2) sc_fraction.nd rfl (.inl rfl) (pe_callBfun cr_gcd rfl mgcd (pa_cons (pv 0) (pa_cons (pv 1) pa_nil))))
    (pss_cons (ps_if (PW.pt (pw_or (pt_cmpR op_lt (pv 1) pe_int (nomark _)) (pw_or1 (PW.pt (pw_and (pt_cmpR op_eq (pv 1) pe_int (nomark _)) (pw_and1 (pt_cmpR op_lt (pv 0) pe_int (nomark _))))))))
      (pss_one (ps_set (i := 2) sc_fraction.nd rfl (.inl rfl) (pe_un un_neg (pv 2)))) pss_nil)
    (pss_one (ps_ret (pe_tup (pa_cons (pe_op op_fdivWN (pv 0) (pv 2)) (pa_cons (pe_op op_fdivWN (pv 1) (pv 2)) pa_nil))))))), ?_⟩
  have gs := gcd_size hn hp hq
  have two : 2 ≤ sizeLine := fits (by decide)
  have rest : ∀ d : Int, d ≠ 0 → d.natAbs < 2 ^ 201 → (p.fdiv d, q'.fdiv d) = due p q' →
      tRet (tTup (tCons (tOp (rI (fun _ j => j ≠ 0 ∧ j.natAbs.log2 < 9000) fun i j => .int (i.fdiv j)) (tVar 0) (tVar 2)) (tCons (tOp (rI (fun _ j => j ≠ 0 ∧ j.natAbs.log2 < 9000) fun i j => .int (i.fdiv j)) (tVar 1) (tVar 2)) tNil)))
        { nx := fun _ H' => Q .non H', rt := Q } [some (.int p), some (.int q'), some (.int d)] H := fun d d0 ds e => by
    refine ⟨_, rfl, _, rfl, _, _, rfl, rfl, ⟨d0, log_ok ds⟩, _, rfl, _, rfl, _, _, rfl, rfl, ⟨d0, log_ok ds⟩, two, fun n hn => q n _ (same_new hn _) ?_⟩
    rw [← e]
    exact upd_same
  have tail : ∀ (σ : L2.St), σ = [some (V.int p), some (.int q'), none] → tSeq (tAsg (tCB rGcd (tCons (tVar 0) (tCons (tVar 1) tNil))) (gName 2)) (tSeq (tIfS (tOr (tTest (tOp (rI0 fun i j => .bl (decide (i < j))) (tVar 1) (tC (.int 0)))) (tAnd (tTest (tOp rEq (tVar 1) (tC (.int 0)))) (tTest (tOp (rI0 fun i j => .bl (decide (i < j))) (tVar 0) (tC (.int 0))))))
      (tAsg (tUn (rU fun i => .int (-i)) (tVar 2)) (gName 2)) tNext) (tRet (tTup (tCons (tOp (rI (fun _ j => j ≠ 0 ∧ j.natAbs.log2 < 9000) fun i j => .int (i.fdiv j)) (tVar 0) (tVar 2)) (tCons (tOp (rI (fun _ j => j ≠ 0 ∧ j.natAbs.log2 < 9000) fun i j => .int (i.fdiv j)) (tVar 1) (tVar 2)) tNil)))))
        { nx := fun _ H' => Q .non H', rt := Q } σ H := by
    rintro _ rfl
    refine ⟨_, rfl, _, rfl, p, q', rfl, ?_⟩
    have neg : ∀ _ : q' < 0 ∨ (q' = 0 ∧ p < 0), ((p.fdiv (-((Int.gcd p q' : Nat) : Int)), q'.fdiv (-((Int.gcd p q' : Nat) : Int))) : Int × Int) = due p q' := fun hc => by
      unfold due
      rcases hc with hc | ⟨hc, hc2⟩
      · rw [if_neg (by omega), if_pos hc, Int.zero_sub]
      · subst hc
        rw [if_pos rfl]
        have e : -((Int.gcd p 0 : Nat) : Int) = p := by rw [Int.gcd_zero_right]; omega
        rw [e, Int.fdiv_self (by omega), Int.zero_fdiv]
    have pos : ∀ _ : ¬ (q' < 0 ∨ (q' = 0 ∧ p < 0)), ((p.fdiv ((Int.gcd p q' : Nat) : Int), q'.fdiv ((Int.gcd p q' : Nat) : Int)) : Int × Int) = due p q' := fun hc => by
      unfold due
      by_cases h0 : q' = 0
      · subst h0
        rw [if_pos rfl]
        have e : ((Int.gcd p 0 : Nat) : Int) = p := by rw [Int.gcd_zero_right]; omega
        rw [e, Int.fdiv_self (by omega), Int.zero_fdiv]
      · rw [if_neg h0, if_neg (by omega)]
    refine ⟨_, rfl, _, _, rfl, rfl, _, rfl, ite2 (fun c1 => iteT ?_) (fun c1 => ?_)⟩
    · have c1' : q' < 0 := of_decide_eq_true c1
      exact ⟨_, rfl, _, rfl, rest _ (by have := gs.1; show -((Int.gcd p q' : Nat) : Int) ≠ 0; omega) (by have := gs.2; show (-((Int.gcd p q' : Nat) : Int)).natAbs < _; omega) (neg (.inl c1'))⟩
    have c1' : ¬ q' < 0 := fun z => c1 (decide_eq_true z)
    refine ⟨_, rfl, rfl, _, rfl, ite2 (fun c2 => ?_) (fun c2 => iteF ?_)⟩
    · have c2' : q' = 0 := V.int.inj (of_decide_eq_true c2)
      refine ⟨_, rfl, _, _, rfl, rfl, _, rfl, ite2 (fun c3 => ?_) (fun c3 => ?_)⟩
      · have c3' : p < 0 := of_decide_eq_true c3
        exact ⟨_, rfl, _, rfl, rest _ (by have := gs.1; show -((Int.gcd p q' : Nat) : Int) ≠ 0; omega) (by have := gs.2; show (-((Int.gcd p q' : Nat) : Int)).natAbs < _; omega) (neg (.inr ⟨c2', c3'⟩))⟩
      · have c3' : ¬ p < 0 := fun z => c3 (decide_eq_true z)
        exact rest _ (by have := gs.1; show ((Int.gcd p q' : Nat) : Int) ≠ 0; omega) (by have := gs.2; show (((Int.gcd p q' : Nat) : Int)).natAbs < _; omega) (pos (by omega))
    · have c2' : ¬ q' = 0 := fun z => c2 (decide_eq_true (by rw [z]))
      exact rest _ (by have := gs.1; show ((Int.gcd p q' : Nat) : Int) ≠ 0; omega) (by have := gs.2; show (((Int.gcd p q' : Nat) : Int)).natAbs < _; omega) (pos (by omega))
  refine ⟨_, rfl, rfl, _, rfl, ite2 (fun c1 => ?_) (fun c1 => iteF (tail _ rfl))⟩
  have c1' : p = 0 := V.int.inj (of_decide_eq_true c1)
  refine ⟨_, rfl, rfl, _, rfl, ite2 (fun c2 => ?_) (fun c2 => tail _ rfl)⟩
  have c2' : q' = 0 := V.int.inj (of_decide_eq_true c2)
  omega
end
section
/-! ### all is kept but a table of code objects -/
def Bt (P : Addr) (H H' : Hp) : Prop := But P H H' ∧ GxR.TabG H' P
theorem TabG.same {P : Addr} {H H' : Hp} (t : GxR.TabG H P) (s : Same H H') : GxR.TabG H' P := by
  obtain ⟨ps, e, ok⟩ := t
  exact ⟨ps, s _ _ e, ok⟩
theorem Bt.refl {P : Addr} {H : Hp} (t : GxR.TabG H P) : Bt P H H := ⟨But.refl _ _, t⟩
theorem Bt.trans {P : Addr} {H H1 H2 : Hp} (x : Bt P H H1) (y : Bt P H1 H2) : Bt P H H2 := ⟨x.1.trans y.1, y.2⟩
theorem Bt.of {P : Addr} {H H' : Hp} (s : Same H H') (t : GxR.TabG H P) : Bt P H H' := ⟨But.of s, TabG.same t s⟩
theorem Bt.same {P : Addr} {H H1 H2 : Hp} (x : Bt P H H1) (s : Same H1 H2) : Bt P H H2 := x.trans (Bt.of s x.2)
theorem Bt.tabbed {P : Addr} {H H' : Hp} (x : GxR.Tabbed P H H') : Bt P H H' := ⟨fun b o n e => by rw [x.2 b n]; exact e, x.1⟩
theorem Bt.keep {P a : Addr} {H H' : Hp} {o : HO} (x : Bt P H H') (t : GxR.TabG H P) (h : H a = some o) (n : ∀ q, o ≠ .tbl q) : H' a = some o := by
  obtain ⟨ps, e, _⟩ := t
  exact x.1 _ _ (ne_of h e (n ps)) h
theorem Bt.lst {P a : Addr} {H H' : Hp} {xs : List V} (x : Bt P H H') (t : GxR.TabG H P) (h : H a = some (.lst xs)) : H' a = some (.lst xs) := x.keep t h fun q z => by cases z
theorem Bt.tup {P a : Addr} {H H' : Hp} {xs : List V} (x : Bt P H H') (t : GxR.TabG H P) (h : H a = some (.tup xs)) : H' a = some (.tup xs) := x.keep t h fun q z => by cases z
theorem Bt.tape {P a : Addr} {H H' : Hp} (x : Bt P H H') (t : GxR.TabG H P) (h : Tape H a) : Tape H' a := by
  obtain ⟨y, c, z, b, e⟩ := h
  exact ⟨y, c, z, b, x.lst t e⟩
theorem Bt.seq {K : PySem.W.Frag} {P a : Addr} {H H' : Hp} {xs : List V} (x : Bt P H H') (t : GxR.TabG H P) (h : SqL K H a xs) : SqL K H' a xs := by
  rcases h with (h | ⟨o, h⟩) | h
  · exact .inl (.inl (x.lst t h))
  · exact .inl (.inr ⟨o, x.keep t h fun q z => by cases z⟩)
  · exact .inr h
theorem tape_tab {P a : Addr} {H H' : Hp} (tp : Tape H a) (b : But a H H') (t : GxR.TabG H P) : GxR.TabG H' P := by
  obtain ⟨ps, e, ok⟩ := t
  obtain ⟨y, c, z, w, e2⟩ := tp
  exact ⟨ps, b _ _ (ne_of e e2 (by intro q; cases q)) e, ok⟩
/-- the tape is new: what stood before is kept -/
theorem Bt.but {P a : Addr} {H0 H H' : Hp} (x : Bt P H0 H) (b : But a H H') (tp : Tape H a) (n : H0 a = none) : Bt P H0 H' :=
  ⟨fun c o nc e => b _ _ (ne_of_none e n) (x.1 _ _ nc e), tape_tab tp b x.2⟩
theorem Bt.put {P a : Addr} {H0 H : Hp} (x : Bt P H0 H) (n : H0 a = none) (na : a ≠ P) (o : HO) : Bt P H0 (upd H a o) := by
  refine ⟨fun c u nc e => ?_, ?_⟩
  · rw [upd_ne (ne_of_none e n)]
    exact x.1 _ _ nc e
  · obtain ⟨ps, e, ok⟩ := x.2
    exact ⟨ps, by rw [upd_ne na.symm]; exact e, ok⟩
end
section
/-! ### colourings, and what is read from them -/
def isColB (l : List Nat) (A : List Int) : Bool := decide (A.length = (dg l).n) && (dg l).cs.all (keepB A)
def plainB (A : List Int) : Bool := A.all fun x => x == A.getD 0 0
def Bd (A : List Int) (B : Nat) : Prop := ∀ x ∈ A, x.natAbs ≤ B
theorem Bd.at {A : List Int} {B : Nat} (h : Bd A B) (i : Nat) : (A.getD i 0).natAbs ≤ B := by
  rw [List.getD_eq_getElem?_getD]
  cases e : A[i]? with
  | none => exact Nat.zero_le _
  | some x => exact h x (List.mem_of_getElem? e)
theorem Bd.mono {A : List Int} {B C : Nat} (h : Bd A B) (l : B ≤ C) : Bd A C := fun x hx => Nat.le_trans (h x hx) l
theorem keepB_iff {A : List Int} {c : Nat × Nat × Nat} : keepB A c = true ↔ A.getD c.2.1 0 + A.getD c.2.2 0 = 2 * A.getD c.1 0 := by
  unfold keepB
  exact beq_iff_eq
theorem col_unique : ∀ (k : Nat) (cs : List (Nat × Nat × Nat)) (A : List Int), cs.length = k → (∀ (i : Nat) (c : Nat × Nat × Nat), cs[i]? = some c → c.2.2 = i + 2 ∧ c.1 < i + 2 ∧ c.2.1 < i + 2) → A.length = k + 2 → Keep cs A → A = col cs (A.getD 0 0) (A.getD 1 0)
  | 0, cs, A, hk, _, hA, _ => by
    rw [List.eq_nil_of_length_eq_zero hk]
    match A, hA with
    | [x, y], _ => rfl
  | k + 1, cs, A, hk, hat, hA, hkeep => by
    have hne : cs ≠ [] := fun z => by rw [z] at hk; cases hk
    obtain ⟨r, c, rfl⟩ : ∃ r c, cs = r ++ [c] := ⟨cs.dropLast, cs.getLast hne, (List.dropLast_concat_getLast hne).symm⟩
    have hr : r.length = k := by
      rw [List.length_append] at hk
      have : ([c] : List (Nat × Nat × Nat)).length = 1 := rfl
      omega
    have hAne : A ≠ [] := fun z => by rw [z] at hA; cases hA
    obtain ⟨B, z, rfl⟩ : ∃ B z, A = B ++ [z] := ⟨A.dropLast, A.getLast hAne, (List.dropLast_concat_getLast hAne).symm⟩
    have hB : B.length = k + 2 := by
      rw [List.length_append] at hA
      have : ([z] : List Int).length = 1 := rfl
      omega
    have hatr : ∀ (i : Nat) (c : Nat × Nat × Nat), r[i]? = some c → c.2.2 = i + 2 ∧ c.1 < i + 2 ∧ c.2.1 < i + 2 := fun i d hd => hat i d (by rw [List.getElem?_append_left (List.getElem?_eq_some_iff.mp hd).1]; exact hd)
    have hc := hat r.length c (by rw [List.getElem?_append_right (Nat.le_refl _), Nat.sub_self]; rfl)
    have ih := col_unique k r B hr hatr hB fun d hd => by
      obtain ⟨i, hi, e⟩ := List.getElem_of_mem hd
      have hb := hatr i d (by rw [List.getElem?_eq_getElem hi, e])
      have := hkeep d (List.mem_append_left _ hd)
      rw [getD_left (by omega), getD_left (by omega), getD_left (by omega)] at this
      exact this
    have hlast := hkeep c (List.mem_append_right _ List.mem_cons_self)
    have l1 := getD_last B z
    rw [show B.length = c.2.2 by omega] at l1
    rw [l1, getD_left (by omega), getD_left (by omega)] at hlast
    rw [getD_left (by omega), getD_left (by omega), col_snoc, ← ih]
    unfold cstep
    rw [show z = 2 * B.getD c.1 0 - B.getD c.2.1 0 by omega]
theorem col_same (x : Int) : ∀ (cs : List (Nat × Nat × Nat)), (∀ (i : Nat) (c : Nat × Nat × Nat), cs[i]? = some c → c.2.2 = i + 2 ∧ c.1 < i + 2 ∧ c.2.1 < i + 2) → ∀ i, i < cs.length + 2 → (col cs x x).getD i 0 = x := by
  intro cs
  suffices h : ∀ (k : Nat) (cs : List (Nat × Nat × Nat)), cs.length = k → (∀ (i : Nat) (c : Nat × Nat × Nat), cs[i]? = some c → c.2.2 = i + 2 ∧ c.1 < i + 2 ∧ c.2.1 < i + 2) → ∀ i, i < cs.length + 2 → (col cs x x).getD i 0 = x from h _ cs rfl
  intro k
  induction k with
  | zero =>
    intro cs hk _ i hi
    rw [List.eq_nil_of_length_eq_zero hk] at hi ⊢
    match i with
    | 0 => rfl
    | 1 => rfl
    | i + 2 => exact absurd hi (by show ¬ i + 2 < 0 + 2; omega)
  | succ k ih =>
    intro cs hk hat i hi
    have hne : cs ≠ [] := fun z => by rw [z] at hk; cases hk
    obtain ⟨r, c, rfl⟩ : ∃ r c, cs = r ++ [c] := ⟨cs.dropLast, cs.getLast hne, (List.dropLast_concat_getLast hne).symm⟩
    have hr : r.length = k := by
      rw [List.length_append] at hk
      have : ([c] : List (Nat × Nat × Nat)).length = 1 := rfl
      omega
    have hatr : ∀ (i : Nat) (c : Nat × Nat × Nat), r[i]? = some c → c.2.2 = i + 2 ∧ c.1 < i + 2 ∧ c.2.1 < i + 2 := fun i d hd => hat i d (by rw [List.getElem?_append_left (List.getElem?_eq_some_iff.mp hd).1]; exact hd)
    have hc := hat r.length c (by rw [List.getElem?_append_right (Nat.le_refl _), Nat.sub_self]; rfl)
    have ih' := ih r hr hatr
    have lr := col_len x x r
    rw [col_snoc]
    unfold cstep
    by_cases h : i < r.length + 2
    · rw [getD_left (by omega)]
      exact ih' i h
    · rw [List.length_append] at hi
      have : ([c] : List (Nat × Nat × Nat)).length = 1 := rfl
      have e : i = (col r x x).length := by omega
      rw [e, getD_last, ih' _ (by omega), ih' _ (by omega)]
      omega
theorem col_zero (cs : List (Nat × Nat × Nat)) (x y : Int) : (col cs x y).getD 0 0 = x ∧ (col cs x y).getD 1 0 = y := by
  suffices h : ∀ (cs : List (Nat × Nat × Nat)) (A : List Int), 2 ≤ A.length → (cs.foldl cstep A).getD 0 0 = A.getD 0 0 ∧ (cs.foldl cstep A).getD 1 0 = A.getD 1 0 from h cs [x, y] (by show 2 ≤ 2; omega)
  intro cs
  induction cs with
  | nil => intro A _; exact ⟨rfl, rfl⟩
  | cons c r ih =>
    intro A hA
    have := ih (cstep A c) (by unfold cstep; rw [List.length_append]; omega)
    rw [List.foldl_cons, this.1, this.2]
    unfold cstep
    rw [getD_left (by omega), getD_left (by omega)]
    exact ⟨rfl, rfl⟩
/-- a colouring is what its first two colours give -/
theorem isCol_col {l : List Nat} {A : List Int} (h : isColB l A = true) : A = col (dg l).cs (A.getD 0 0) (A.getD 1 0) ∧ A.length = (dg l).n := by
  unfold isColB at h
  rw [Bool.and_eq_true, decide_eq_true_eq, List.all_eq_true] at h
  have w := wf_dg l
  exact ⟨col_unique _ _ A rfl w.at_ (by rw [h.1, w.n]) fun c hc => keepB_iff.mp (h.2 c hc), h.1⟩
theorem plain_iff {l : List Nat} {A : List Int} (h : isColB l A = true) : plainB A = true ↔ A.getD 1 0 = A.getD 0 0 := by
  obtain ⟨e, hl⟩ := isCol_col h
  have w := wf_dg l
  have wn := w.n
  unfold plainB
  rw [List.all_eq_true]
  constructor
  · intro hp
    have h1 : 1 < A.length := by omega
    have : A.getD 1 0 ∈ A := by
      rw [List.getD_eq_getElem?_getD, List.getElem?_eq_getElem h1]
      exact List.getElem_mem h1
    exact beq_iff_eq.mp (hp _ this)
  · intro h10 x hx
    obtain ⟨i, hi, rfl⟩ := List.getElem_of_mem hx
    rw [beq_iff_eq]
    have e2 : A.getD i 0 = A[i] := by
      rw [List.getD_eq_getElem?_getD, List.getElem?_eq_getElem hi]
      rfl
    rw [← e2]
    rw [h10] at e
    have := col_same (A.getD 0 0) (dg l).cs w.at_ i (by omega)
    rw [← e] at this
    exact this
theorem due_ends {v : Int × Int} {e d : Int} (g : Good v) (he : e = 1 ∨ e = -1) (hd : d ≠ 0) : due (e * v.1 * d) (e * v.2 * d) = v := by
  obtain ⟨p, q⟩ := v
  obtain ⟨g1, g2⟩ := g
  have key : ∀ c : Int, c ≠ 0 → due (p * c) (q * c) = (p, q) := fun c hc => by
    unfold due
    by_cases h0 : q = 0
    · rw [if_pos (by rw [h0, Int.zero_mul])]
      rcases g1 with h | h
      · have : (0 : Int) < q := h
        omega
      · exact h.symm
    · have hq : 0 < q := by
        rcases g1 with h | h
        · exact h
        · cases h; exact absurd rfl h0
      have qc : q * c ≠ 0 := Int.mul_ne_zero h0 hc
      rw [if_neg qc]
      have gg : Int.gcd (p * c) (q * c) = c.natAbs := by
        rw [Int.gcd_mul_right, show Int.gcd p q = 1 from g2, Nat.one_mul]
      rw [gg]
      by_cases hneg : q * c < 0
      · rw [if_pos hneg]
        have cn : c < 0 := by
          rcases Int.lt_trichotomy c 0 with h | h | h
          · exact h
          · exact absurd h hc
          · have := Int.mul_pos hq h
            omega
        rw [show (0 : Int) - (c.natAbs : Int) = c by omega, Int.mul_fdiv_cancel _ hc, Int.mul_fdiv_cancel _ hc]
      · rw [if_neg hneg]
        have cp : 0 < c := by
          rcases Int.lt_trichotomy c 0 with h | h | h
          · have := Int.mul_neg_of_pos_of_neg hq h
            omega
          · exact absurd h hc
          · exact h
        rw [show (c.natAbs : Int) = c by omega, Int.mul_fdiv_cancel _ hc, Int.mul_fdiv_cancel _ hc]
  have e1 : e * p * d = p * (e * d) := by rw [Int.mul_comm e p, Int.mul_assoc]
  have e2 : e * q * d = q * (e * d) := by rw [Int.mul_comm e q, Int.mul_assoc]
  show due (e * p * d) (e * q * d) = (p, q)
  rw [e1, e2]
  exact key _ (Int.mul_ne_zero (by omega) hd)
/-- what is read -/
theorem reads {l : List Nat} {A : List Int} (hl : Lets l) (h : isColB l A = true) (hp : plainB A = false) :
    due (A.getD (dg l).b 0 - A.getD (dg l).a 0) (A.getD (dg l).b 0 - A.getD (dg l).d 0) = run (0, 1) l ∧ (A.getD (dg l).b 0 - A.getD (dg l).a 0 ≠ 0 ∨ A.getD (dg l).b 0 - A.getD (dg l).d 0 ≠ 0) := by
  obtain ⟨eA, hlen⟩ := isCol_col h
  have hne : A.getD 1 0 - A.getD 0 0 ≠ 0 := fun z => by
    rw [(plain_iff h).mpr (by omega)] at hp
    cases hp
  obtain ⟨e, he, h1, h2, _⟩ := ends_dg hl (A.getD 0 0) (A.getD 1 0)
  rw [← eA] at h1 h2
  rw [h1, h2]
  have g := good_run l Good.zero
  refine ⟨due_ends g he hne, ?_⟩
  have e0 : e ≠ 0 := by omega
  by_cases q0 : (run (0, 1) l).2 = 0
  · left
    have p1 : (run (0, 1) l).1 = 1 := by
      rcases g.1 with h | h
      · omega
      · rw [h]
    rw [p1, Int.mul_one]
    exact Int.mul_ne_zero e0 hne
  · right
    exact Int.mul_ne_zero (Int.mul_ne_zero e0 q0) hne
def dtR (l : List Nat) (A : List Int) : Dt := if isColB l A = true ∧ plainB A = false then .tup [.int (run (0, 1) l).1, .int (run (0, 1) l).2] else .non
theorem dtR_none {l : List Nat} {A : List Int} (h : isColB l A = false ∨ plainB A = true) : dtR l A = .non := if_neg fun z => by
  rcases h with h | h
  · rw [h] at z; cases z.1
  · rw [h] at z; cases z.2
theorem dtR_some {l : List Nat} {A : List Int} (h : isColB l A = true) (h2 : plainB A = false) : dtR l A = .tup [.int (run (0, 1) l).1, .int (run (0, 1) l).2] := if_pos ⟨h, h2⟩
theorem non_is {H : Hp} {n : Nat} : Is H n .non .non := by cases n <;> rfl
theorem tup2_is {H : Hp} {n : Nat} {t : Addr} {v : Int × Int} (h : Tup2 H t v) : Is H (n + 1) (.ref t) (.tup [.int v.1, .int v.2]) :=
  is_tup h rfl (by show 2 ≤ 1000000; decide) fun i x d hx hd => by
    match i with
    | 0 => cases hx; cases hd; exact int_is
    | 1 => cases hx; cases hd; exact int_is
    | i + 2 => cases hx
theorem dtR_keep {H H' : Hp} {l : List Nat} {A : List Int} {v : V} (h : Is H 1 v (dtR l A)) (s : Same H H') : Is H' 1 v (dtR l A) := by
  by_cases c : isColB l A = true ∧ plainB A = false
  · unfold dtR at h ⊢
    rw [if_pos c] at h ⊢
    obtain ⟨a, xs, e1, e2, e3, e4, e5⟩ := h
    refine ⟨a, xs, e1, s _ _ e2, e3, e4, fun i x d hx hd => ?_⟩
    have := e5 i x d hx hd
    match i with
    | 0 => cases hd; exact this
    | 1 => cases hd; exact this
    | i + 2 => cases hd
  · unfold dtR at h ⊢
    rw [if_neg c] at h ⊢
    exact h
theorem col_bound {B : Nat} {x y : Int} (hx : x.natAbs ≤ B) (hy : y.natAbs ≤ B) : ∀ (cs : List (Nat × Nat × Nat)), Bd (col cs x y) (B * 3 ^ cs.length) := by
  intro cs
  suffices h : ∀ (cs : List (Nat × Nat × Nat)) (A : List Int) (C : Nat), Bd A C → Bd (cs.foldl cstep A) (C * 3 ^ cs.length) from h cs [x, y] B fun z hz => by
    simp only [List.mem_cons, List.not_mem_nil, or_false] at hz
    rcases hz with rfl | rfl
    · exact hx
    · exact hy
  intro cs
  induction cs with
  | nil =>
    intro A C h
    show Bd A (C * 3 ^ 0)
    rw [Nat.pow_zero, Nat.mul_one]
    exact h
  | cons c r ih =>
    intro A C h
    have := ih (cstep A c) (C * 3) fun z hz => by
      unfold cstep at hz
      rcases List.mem_append.mp hz with hz | hz
      · have := h z hz
        omega
      · rw [List.mem_singleton.mp hz]
        have h1 := h.at c.1
        have h2 := h.at c.2.1
        omega
    rw [List.length_cons, Nat.pow_succ, Nat.mul_comm (3 ^ r.length) 3, ← Nat.mul_assoc]
    exact this
/-! ### what the defs promise -/
def spIsCol (Pt : Addr) : Sp := fun vs H Q _ => ∃ (l : List Nat) (cp : Addr) (A : List Int), vs = [.str (S l), .ref cp] ∧ H cp = some (.lst (A.map V.int)) ∧ A.length ≤ 1000 ∧ l.length ≤ 1000 ∧ GxR.TabG H Pt ∧ ∀ H', Bt Pt H H' → Q (.bl (isColB l A)) H'
def spPlain : Sp := fun vs H Q _ => ∃ (cp : Addr) (A : List Int), vs = [.ref cp] ∧ H cp = some (.lst (A.map V.int)) ∧ 0 < A.length ∧ A.length ≤ 1000 ∧ Q (.bl (plainB A)) H
def spReading (Pt : Addr) : Sp := fun vs H Q _ => ∃ (l : List Nat) (cp : Addr) (A : List Int), vs = [.str (S l), .ref cp] ∧ Lets l ∧ H cp = some (.lst (A.map V.int)) ∧ A.length ≤ 1000 ∧ l.length ≤ 1000 ∧ Bd A (2 ^ 199) ∧ GxR.TabG H Pt ∧ ∀ v H', Bt Pt H H' → Is H' 1 v (dtR l A) → Q v H'
def spLawIsCol : Sp := fun vs H Q _ => ∃ (l : List Nat) (cp : Addr) (A : List Int), vs = [.str (S l), .ref cp] ∧ H cp = some (.lst (A.map V.int)) ∧ A.length ≤ 1000 ∧ l.length ≤ 1000 ∧ ∀ H', Same H H' → Q (.bl (isColB l A)) H'
def spLawReading : Sp := fun vs H Q _ => ∃ (l : List Nat) (cp : Addr) (A : List Int), vs = [.str (S l), .ref cp] ∧ Lets l ∧ H cp = some (.lst (A.map V.int)) ∧ A.length ≤ 1000 ∧ l.length ≤ 1000 ∧ Bd A (2 ^ 199) ∧ ∀ v H', Same H H' → Is H' 1 v (dtR l A) → Q v H'
def spColHolds (Pt : Addr) : Sp := fun vs H Q _ => ∃ (l : List Nat) (cp : Addr) (A : List Int), vs = [.str (S l), .ref cp] ∧ Lets l ∧ H cp = some (.lst (A.map V.int)) ∧ A.length ≤ 1000 ∧ l.length ≤ 1000 ∧ Bd A (2 ^ 199) ∧ GxR.TabG H Pt ∧ ∀ H', Bt Pt H H' → Q (.bl true) H'
def spSpoilt : Sp := fun vs H Q _ => ∃ (a cp : Addr) (A : List Int) (B : Nat), vs = [.ref a, .ref cp] ∧ Tape H a ∧ cp ≠ a ∧ H cp = some (.lst (A.map V.int)) ∧ A.length ≤ 1000 ∧ Bd A B ∧ ∀ (p : Addr) (A' : List Int) H', But a H H' → Tape H' a → p ≠ a → H' p = some (.lst (A'.map V.int)) → A'.length ≤ 2 * A.length + 1 → Bd A' (B + 10 ^ 20) → Q (.ref p) H'
end
section
/-! ### == of two lists of the same objects -/
theorem eqP_self {prog : Program} {w : World} {A : Around} {s : Shared} (a : Addr) : SeqAt.EqP prog w A s (.ref a) (.ref a) true := fun E Q hq => by
  unfold eqBool
  refine wpAny_holding ?_
  exact wpAny_ite_split (fun _ => wpAny_bind (wpAny_rule (wpAny_pure hq))) (fun z => absurd (beq_self_eq_true _) z)
theorem op_eq_sameL {X : Cx} (hu : X.A.units < cLine) : OpR X (compareOp .Eq) (fun x y H Q => ∃ (p q : Addr) (rs : List Addr), x = .ref p ∧ y = .ref q ∧ SqL X.K H p (rs.map V.ref) ∧ SqL X.K H q (rs.map V.ref) ∧ Q (.bl true) H) := by
  intro pins s σ H x y v u Q I rx ry h
  obtain ⟨p, q, rs, rfl, rfl, hp, hq, hQ⟩ := h
  cases rx
  cases ry
  obtain ⟨its, r1, l1, _⟩ := I.list hp
  obtain ⟨its2, r2, l2, _⟩ := I.list hq
  have e1 := vals_refs r1
  have e2 := vals_refs r2
  subst e1 e2
  refine SeqAt.rcP_lists (e := fun _ => true) l1.isList l2.isList rfl hu (fun j h1 h2 => ?_) _ _ ?_
  · have hj : j < rs.length := by simpa using h1
    have e : ((rs.map Value.ref).toArray)[j] = Value.ref rs[j] := by simp
    rw [e]
    exact eqP_self _
  · refine ⟨.bl true, H, I, ?_, hQ⟩
    show Value.bool _ = Value.bool true
    congr 1
    simp
/-! ### rows of moves -/
def FitAll (ms : List Mv) (k : Nat) : Prop := ∀ m ∈ ms, m.Fit k
def led (d : List Nat) (ms : List Mv) : Option (List Nat) := ms.foldl (fun o m => o.bind fun x => mkMv x m) (some d)
theorem led_take {d : List Nat} {ms : List Mv} {i : Nat} {m : Mv} (h : ms[i]? = some m) : led d (ms.take (i + 1)) = (led d (ms.take i)).bind fun x => mkMv x m := by
  unfold led
  rw [List.take_add_one, h, List.foldl_append]
  rfl
theorem led_none (ms : List Mv) : ms.foldl (fun o m => o.bind fun x => mkMv x m) none = none := by
  induction ms with
  | nil => rfl
  | cons m r ih => exact ih
theorem led_stop {d : List Nat} {ms : List Mv} {i : Nat} (h : led d (ms.take i) = none) : led d ms = none := by
  have : led d ms = (ms.drop i).foldl (fun o m => o.bind fun x => mkMv x m) (led d (ms.take i)) := by
    unfold led
    rw [← List.foldl_append, List.take_append_drop]
  rw [this, h]
  exact led_none _
theorem mkMv_len {d x : List Nat} {m : Mv} {k : Nat} (f : m.Fit k) (h : mkMv d m = some x) : x.length ≤ d.length + k := by
  obtain ⟨_, _, rfl⟩ := mkMv_inv h
  exact doMv_len f
/-- items that stand for moves -/
def Mi (H : Hp) (k : Nat) (y : V) : Prop := ∃ (r : Addr) (m : Mv), y = .ref r ∧ Tm H r m ∧ m.Fit k
def Ml (H : Hp) (p : Addr) (k n : Nat) : Prop := ∃ xs, H p = some (.lst xs) ∧ xs.length ≤ n ∧ ∀ y ∈ xs, Mi H k y
theorem Mi.same {H H' : Hp} {k : Nat} {y : V} (h : Mi H k y) (s : Same H H') : Mi H' k y := by
  obtain ⟨r, m, e, t, f⟩ := h
  exact ⟨r, m, e, t.same s, f⟩
theorem Mi.but {H H' : Hp} {a : Addr} {k : Nat} {y : V} (h : Mi H k y) (s : But a H H') (tp : Tape H a) : Mi H' k y := by
  obtain ⟨r, m, e, t, f⟩ := h
  exact ⟨r, m, e, t.but s tp, f⟩
theorem Mi.mono {H : Hp} {k k' : Nat} {y : V} (h : Mi H k y) (l : k ≤ k') : Mi H k' y := by
  obtain ⟨r, m, e, t, f⟩ := h
  exact ⟨r, m, e, t, f.mono l⟩
theorem Ml.same {H H' : Hp} {p : Addr} {k n : Nat} (h : Ml H p k n) (s : Same H H') : Ml H' p k n := by
  obtain ⟨xs, e, z, a⟩ := h
  exact ⟨xs, s _ _ e, z, fun y hy => (a y hy).same s⟩
theorem Ml.tape {H H' : Hp} {a p : Addr} {k n : Nat} (h : Ml H p k n) (s : But a H H') (ne : p ≠ a) (tp : Tape H a) : Ml H' p k n := by
  obtain ⟨xs, e, z, al⟩ := h
  exact ⟨xs, s _ _ ne e, z, fun y hy => (al y hy).but s tp⟩
theorem Ml.tl {H : Hp} {p : Addr} {k n : Nat} (h : Ml H p k n) : ∃ ms : List Mv, Tl H p (ms.map Mv.vs) ∧ FitAll ms k ∧ ms.length ≤ n := by
  obtain ⟨xs, e, z, al⟩ := h
  suffices h : ∀ xs : List V, (∀ y ∈ xs, Mi H k y) → ∃ (rs : List Addr) (ms : List Mv), xs = rs.map V.ref ∧ rs.length = ms.length ∧ FitAll ms k ∧ ∀ (i : Nat) (r : Addr) (m : Mv), rs[i]? = some r → ms[i]? = some m → Tm H r m by
    obtain ⟨rs, ms, rfl, lz, fa, pw⟩ := h xs al
    refine ⟨ms, ⟨rs, e, by rw [List.length_map]; exact lz, fun i r d hr hd => ?_⟩, fa, by rw [← lz]; rw [List.length_map] at z; exact z⟩
    rw [List.getElem?_map] at hd
    cases hm : ms[i]? with
    | none => rw [hm] at hd; cases hd
    | some m =>
      rw [hm] at hd
      cases hd
      exact pw i r m hr hm
  intro xs
  induction xs with
  | nil => intro _; exact ⟨[], [], rfl, rfl, (fun m hm => by cases hm), fun i r m hr _ => by cases hr⟩
  | cons x r ih =>
    intro al
    obtain ⟨rs, ms, rfl, lz, fa, pw⟩ := ih fun y hy => al y (List.mem_cons_of_mem _ hy)
    obtain ⟨a, m, rfl, t, f⟩ := al x List.mem_cons_self
    refine ⟨a :: rs, m :: ms, rfl, by rw [List.length_cons, List.length_cons, lz], fun y hy => ?_, fun i r' m' hr hm => ?_⟩
    · rcases List.mem_cons.mp hy with rfl | hy
      · exact f
      · exact fa y hy
    · cases i with
      | zero => cases hr; cases hm; exact t
      | succ i => exact pw i r' m' hr hm
theorem Tl.ml {H : Hp} {p : Addr} {ms : List Mv} {k n : Nat} (h : Tl H p (ms.map Mv.vs)) (f : FitAll ms k) (z : ms.length ≤ n) : Ml H p k n := by
  obtain ⟨rs, e, lz, pw⟩ := h
  rw [List.length_map] at lz
  refine ⟨_, e, by rw [List.length_map, lz]; exact z, fun y hy => ?_⟩
  obtain ⟨i, hi, rfl⟩ := List.getElem_of_mem hy
  rw [List.length_map] at hi
  have hm : i < ms.length := by omega
  refine ⟨rs[i], ms[i], by rw [List.getElem_map], pw i _ _ (List.getElem?_eq_getElem hi) (by rw [List.getElem?_map, List.getElem?_eq_getElem hm]; rfl), f _ (List.getElem_mem hm)⟩
theorem cutV_mem {xs : List V} {lo hi : Option Int} {y : V} (h : y ∈ cutV xs lo hi) : y ∈ xs := List.mem_of_mem_drop (List.mem_of_mem_take h)
def spLeads : Sp := fun vs H Q _ => ∃ (o e : List Nat) (p : Addr) (ms : List Mv), vs = [.str (S o), .ref p, .str (S e)] ∧ Tl H p (ms.map Mv.vs) ∧ FitAll ms 200 ∧ ms.length ≤ 1000 ∧ o.length ≤ 1000 ∧ ∀ H', Same H H' → Q (.bl (decide (led o ms = some e))) H'
def spRow : Sp := fun vs H Q _ => ∃ (o e : List Nat) (p : Addr), vs = [.str (S o), .ref p, .str (S e)] ∧ Ml H p 200 1000 ∧ o.length ≤ 1000 ∧ ∀ H', Same H H' → Q (.bl true) H'
def spMoves : Sp := fun vs H Q _ => ∃ (a : Addr) (d : List Nat) (n : Int), vs = [.ref a, .str (S d), .int n] ∧ Tape H a ∧ d.length ≤ 40 ∧ 0 ≤ n ∧ n ≤ 100 ∧ ∀ (t p : Addr) (ms : List Mv) (x : List Nat) H', But a H H' → Tape H' a → H p = none → H' t = some (.tup [.ref p, .str (S x)]) → Tl H' p (ms.map Mv.vs) → FitAll ms 6 → (ms.length : Int) ≤ n → led d ms = some x → x.length ≤ 100 → Q (.ref t) H'
def spChanged : Sp := fun vs H Q _ => ∃ (a p : Addr) (k n : Nat), vs = [.ref a, .ref p] ∧ Tape H a ∧ p ≠ a ∧ Ml H p k n ∧ n ≤ 1000 ∧ 20 ≤ k ∧ k ≤ 1000 ∧ ∀ (p' : Addr) H', But a H H' → Tape H' a → p' ≠ a → Ml H' p' (2 * k) (3 * n + 1) → Q (.ref p') H'
def spSingle : Sp := fun vs H Q _ => ∃ (o : List Nat) (t : Addr) (m : Mv), vs = [.str (S o), .ref t] ∧ Tm H t m ∧ m.Fit 200 ∧ o.length ≤ 1000 ∧ ∀ H', Same H H' → Q (.bl true) H'
end
section
open TL (joinL tl tl_join join_eq split_join)
/-! ### standard dances -/
def nx (p q : Int) : Int := (p / q + 1) * q - p
theorem nx_eq (p q : Int) : nx p q = q - p % q := by
  unfold nx
  have := Int.mul_ediv_add_emod p q
  rw [Int.add_mul, Int.one_mul, Int.mul_comm]
  omega
theorem nx_gcd (p q : Int) : Int.gcd q (nx p q) = Int.gcd p q := by
  unfold nx
  rw [show (p / q + 1) * q - p = -p + q * (p / q + 1) by rw [Int.mul_comm]; omega, Int.gcd_add_mul_left_right, Int.gcd_neg, Int.gcd_comm]
theorem nx_pos {p q : Int} (h : 0 < q) : 0 < nx p q := by
  rw [nx_eq]
  have := Int.emod_lt_of_pos p h
  omega
theorem nx_lt {p q : Int} (h : 1 < q) (g : Int.gcd p q = 1) : nx p q < q := by
  rw [nx_eq]
  have h1 := Int.emod_nonneg p (show q ≠ 0 by omega)
  have h2 : p % q ≠ 0 := fun z => by
    have d : q ∣ p := Int.dvd_of_emod_eq_zero z
    have := Int.gcd_eq_natAbs_right d
    omega
  omega
def rn (b : Int) : List Nat := if b < 0 then List.replicate (-b).toNat 85 else List.replicate b.toNat 84
def bsF : Nat → Int → Int → List Int
  | 0, p, _ => [p]
  | n + 1, p, q => if q ≤ 1 then [p] else bsF n q (nx p q) ++ [p / q + 1]
def bs (p q : Int) : List Int := bsF q.toNat p q
theorem bsF_more : ∀ (n m : Nat) (p q : Int), 0 < q → Int.gcd p q = 1 → q ≤ n → q ≤ m → bsF n p q = bsF m p q
  | 0, _, p, q, h, _, hn, _ => by omega
  | n + 1, 0, p, q, h, _, _, hm => by omega
  | n + 1, m + 1, p, q, h, g, hn, hm => by
    unfold bsF
    by_cases c : q ≤ 1
    · rw [if_pos c, if_pos c]
    · rw [if_neg c, if_neg c, bsF_more n m q (nx p q) (nx_pos h) (by rw [nx_gcd]; exact g) (by have := nx_lt (show 1 < q by omega) g; omega) (by have := nx_lt (show 1 < q by omega) g; omega)]
theorem bs_one (p : Int) : bs p 1 = [p] := rfl
theorem bs_step {p q : Int} (h : 1 < q) (g : Int.gcd p q = 1) : bs p q = bs q (nx p q) ++ [p / q + 1] := by
  have l := nx_lt h g
  have l0 := nx_pos (p := p) (show 0 < q by omega)
  have e : q.toNat = (q.toNat - 1) + 1 := by omega
  have e1 : bs p q = bsF (q.toNat - 1) q (nx p q) ++ [p / q + 1] := by
    unfold bs
    generalize q.toNat - 1 = m at e
    rw [e]
    show (if q ≤ 1 then [p] else bsF m q (nx p q) ++ [p / q + 1]) = _
    rw [if_neg (by omega)]
  rw [e1]
  unfold bs
  rw [bsF_more (q.toNat - 1) (nx p q).toNat q (nx p q) l0 (by rw [nx_gcd]; exact g) (by omega) (by omega)]
theorem bs_ne {p q : Int} : bs p q ≠ [] := by
  unfold bs
  cases q.toNat with
  | zero => intro h; cases h
  | succ n =>
    unfold bsF
    split
    · intro h; cases h
    · intro h; simp at h
def stv (v : Int × Int) : List Nat := if v.2 = 0 then [82] else joinL [82] ((bs v.1 v.2).map rn)
theorem joinL_snoc (S y : List Nat) : ∀ {xs : List (List Nat)}, xs ≠ [] → joinL S (xs ++ [y]) = joinL S xs ++ (S ++ y)
  | [], h => absurd rfl h
  | [x], _ => rfl
  | x :: z :: r, _ => by
    show x ++ (S ++ joinL S ((z :: r) ++ [y])) = (x ++ (S ++ joinL S (z :: r))) ++ (S ++ y)
    rw [joinL_snoc S y (xs := z :: r) (by simp)]
    simp
theorem run_rn (p q b : Int) : run (p, q) (rn b) = (p + b * q, q) := by
  have up : ∀ (n : Nat) (p : Int), run (p, q) (List.replicate n 84) = (p + n * q, q) := by
    intro n
    induction n with
    | zero => intro p; simp [run]
    | succ n ih =>
      intro p
      rw [List.replicate_succ]
      show run (called (p, q) 84) _ = _
      rw [show called (p, q) 84 = (p + q, q) from rfl, ih]
      congr 1
      rw [Int.natCast_add, Int.add_mul, Int.natCast_one, Int.one_mul]
      omega
  have dn : ∀ (n : Nat) (p : Int), run (p, q) (List.replicate n 85) = (p - n * q, q) := by
    intro n
    induction n with
    | zero => intro p; simp [run]
    | succ n ih =>
      intro p
      rw [List.replicate_succ]
      show run (called (p, q) 85) _ = _
      rw [show called (p, q) 85 = (p - q, q) from rfl, ih]
      congr 1
      rw [Int.natCast_add, Int.add_mul, Int.natCast_one, Int.one_mul]
      omega
  unfold rn
  by_cases c : b < 0
  · rw [if_pos c, dn, Int.toNat_of_nonneg (by omega)]
    congr 1
    rw [Int.neg_mul]
    omega
  · rw [if_neg c, up, Int.toNat_of_nonneg (by omega)]
theorem num_bs : ∀ (n : Nat) (p q : Int), 0 < q → Int.gcd p q = 1 → q ≤ n → run (0, 1) (joinL [82] ((bs p q).map rn)) = (p, q)
  | 0, p, q, h, _, hn => by omega
  | n + 1, p, q, h, g, hn => by
    by_cases c : q = 1
    · subst c
      rw [bs_one]
      show run (0, 1) (rn p) = (p, 1)
      rw [run_rn]
      simp
    · have hq : 1 < q := by omega
      have l := nx_lt hq g
      rw [bs_step hq g, List.map_append, List.map_singleton, joinL_snoc [82] _ (fun z => bs_ne (List.map_eq_nil_iff.mp z)), run_app, num_bs n q (nx p q) (nx_pos h) (by rw [nx_gcd]; exact g) (by omega), run_app]
      show run (called (q, nx p q) 82) _ = _
      have e : called (q, nx p q) 82 = (0 - nx p q, q) := by
        unfold called
        rw [if_neg (by decide), if_neg (by decide), if_pos (show 0 < (q, nx p q).1 from h)]
      rw [e, run_rn]
      congr 1
      unfold nx
      omega
theorem num_stv {v : Int × Int} (h : Good v) : run (0, 1) (stv v) = v := by
  obtain ⟨p, q⟩ := v
  obtain ⟨h1, h2⟩ := h
  unfold stv
  by_cases c : q = 0
  · rcases h1 with h1 | h1
    · have : (0 : Int) < q := h1
      omega
    · cases h1
      rfl
  · rw [if_neg (show ¬ (p, q).2 = 0 from c)]
    have h0 : 0 < q := by
      rcases h1 with h1 | h1
      · exact h1
      · cases h1; exact absurd rfl c
    exact num_bs q.toNat p q h0 h2 (by omega)
theorem rn_len (b : Int) : (rn b).length = b.natAbs := by
  unfold rn
  split
  · rw [List.length_replicate]; omega
  · rw [List.length_replicate]; omega
theorem one_le_div {p q : Int} (h : 0 < q) (hp : q ≤ p) : 1 ≤ p / q := Int.le_ediv_of_mul_le h (by omega)
theorem len_in : ∀ (n : Nat) (p q : Int), 0 < q → q < p → Int.gcd p q = 1 → q ≤ n → ((joinL [82] ((bs p q).map rn)).length : Int) ≤ 3 * p
  | 0, p, q, h, _, _, hn => by omega
  | n + 1, p, q, h, hp, g, hn => by
    by_cases c : q = 1
    · subst c
      rw [bs_one]
      show ((rn p).length : Int) ≤ _
      rw [rn_len]
      omega
    · have hq : 1 < q := by omega
      have l := nx_lt hq g
      have l0 := nx_pos (p := p) h
      have ih := len_in n q (nx p q) l0 l (by rw [nx_gcd]; exact g) (by omega)
      rw [bs_step hq g, List.map_append, List.map_singleton, joinL_snoc [82] _ (fun z => bs_ne (List.map_eq_nil_iff.mp z)), List.length_append, List.length_append, rn_len]
      have e := Int.mul_ediv_add_emod p q
      have r0 := Int.emod_lt_of_pos p h
      rw [nx_eq] at l0 l
      have a1 : 1 ≤ p / q := one_le_div h (by omega)
      have m : (p / q - 1) * 1 ≤ (p / q - 1) * q := Int.mul_le_mul_of_nonneg_left (by omega) (by omega)
      have m2 : (p / q - 1) * q = q * (p / q) - q := by rw [Int.sub_mul, Int.one_mul, Int.mul_comm]
      rw [m2, Int.mul_one] at m
      show ((_ + ([82].length + (p / q + 1).natAbs) : Nat) : Int) ≤ _
      have : ([82] : List Nat).length = 1 := rfl
      omega
theorem ediv_abs {p q : Int} (h : 0 < q) : (p / q + 1).natAbs ≤ p.natAbs + 1 := by
  have e := Int.mul_ediv_add_emod p q
  have r0 := Int.emod_lt_of_pos p h
  have r1 := Int.emod_nonneg p (show q ≠ 0 by omega)
  have a := Int.natAbs_ediv_le_natAbs p q.toNat
  rw [Int.toNat_of_nonneg (by omega)] at a
  omega
theorem len_out {p q : Int} (h : 0 < q) (g : Int.gcd p q = 1) : ((joinL [82] ((bs p q).map rn)).length : Int) ≤ p.natAbs + 3 * q + 2 := by
  by_cases c : q = 1
  · subst c
    rw [bs_one]
    show ((rn p).length : Int) ≤ _
    rw [rn_len]
    omega
  · have hq : 1 < q := by omega
    have l := nx_lt hq g
    have l0 := nx_pos (p := p) h
    have ih := len_in q.toNat q (nx p q) l0 l (by rw [nx_gcd]; exact g) (by omega)
    rw [bs_step hq g, List.map_append, List.map_singleton, joinL_snoc [82] _ (fun z => bs_ne (List.map_eq_nil_iff.mp z)), List.length_append, List.length_append, rn_len]
    have := ediv_abs (p := p) h
    have : ([82] : List Nat).length = 1 := rfl
    omega
/-- the runs but the last one -/
theorem bs_two : ∀ (n : Nat) (p q : Int), 0 < q → q < p → Int.gcd p q = 1 → q ≤ n → ∀ b ∈ bs p q, 2 ≤ b
  | 0, p, q, h, _, _, hn => by omega
  | n + 1, p, q, h, hp, g, hn => by
    intro b hb
    by_cases c : q = 1
    · subst c
      rw [bs_one] at hb
      rw [List.mem_singleton.mp hb]
      omega
    · have hq : 1 < q := by omega
      have l := nx_lt hq g
      rw [bs_step hq g] at hb
      rcases List.mem_append.mp hb with hb | hb
      · exact bs_two n q (nx p q) (nx_pos h) l (by rw [nx_gcd]; exact g) (by omega) b hb
      · rw [List.mem_singleton.mp hb]
        have := one_le_div h (show q ≤ p by omega)
        omega
theorem bs_front {p q : Int} (h : 0 < q) (g : Int.gcd p q = 1) : ∀ b ∈ (bs p q).dropLast, 2 ≤ b := by
  intro b hb
  by_cases c : q = 1
  · subst c
    rw [bs_one] at hb
    cases hb
  · have hq : 1 < q := by omega
    rw [bs_step hq g, List.dropLast_concat] at hb
    exact bs_two q.toNat q (nx p q) (nx_pos h) (nx_lt hq g) (by rw [nx_gcd]; exact g) (by have := nx_lt hq g; omega) b hb
/-! ### how great a dance's number is -/
def Grow (n : Nat) (v : Int × Int) : Prop := ∃ k B : Nat, B ^ 3 * 3 ^ k ≤ 3 ^ n ∧ v.2.natAbs ≤ B ∧ v.1.natAbs ≤ (k + 1) * B
theorem cube_three : ∀ k : Nat, (k + 1) ^ 3 ≤ 3 ^ (k + 1)
  | 0 => by decide
  | 1 => by decide
  | 2 => by decide
  | k + 3 => by
    have ih := cube_three (k + 2)
    have e : (3 : Nat) ^ (k + 3 + 1) = 3 * 3 ^ (k + 2 + 1) := by rw [show k + 3 + 1 = (k + 2 + 1) + 1 from rfl, Nat.pow_succ (n := 3) (m := k + 2 + 1), Nat.mul_comm]
    rw [e]
    have h : (k + 3 + 1) ^ 3 ≤ 3 * (k + 2 + 1) ^ 3 := by
      have h1 : (3 * (k + 3 + 1)) ^ 3 ≤ (4 * (k + 2 + 1)) ^ 3 := Nat.pow_le_pow_left (by omega) 3
      rw [Nat.mul_pow, Nat.mul_pow] at h1
      omega
    exact Nat.le_trans h (Nat.mul_le_mul_left 3 ih)
theorem Grow.called {n : Nat} {v : Int × Int} (h : Grow n v) (c : Nat) : Grow (n + 1) (called v c) := by
  obtain ⟨k, B, hb, h2, h1⟩ := h
  have up : B ^ 3 * 3 ^ (k + 1) ≤ 3 ^ (n + 1) := by
    rw [Nat.pow_succ (m := k), Nat.pow_succ (m := n), ← Nat.mul_assoc]
    exact Nat.mul_le_mul_right 3 hb
  have e : (k + 1 + 1) * B = (k + 1) * B + B := by rw [Nat.add_mul (k + 1) 1 B, Nat.one_mul]
  unfold Rope.called
  by_cases c1 : c = 84
  · rw [if_pos c1]
    exact ⟨k + 1, B, up, h2, by rw [e]; show (v.1 + v.2).natAbs ≤ _; omega⟩
  rw [if_neg c1]
  by_cases c2 : c = 85
  · rw [if_pos c2]
    exact ⟨k + 1, B, up, h2, by rw [e]; show (v.1 - v.2).natAbs ≤ _; omega⟩
  rw [if_neg c2]
  have turn : ((k + 1) * B) ^ 3 * 3 ^ 0 ≤ 3 ^ (n + 1) := by
    rw [Nat.pow_zero, Nat.mul_one, Nat.mul_pow]
    exact Nat.le_trans (Nat.mul_le_mul_right _ (cube_three k)) (by rw [Nat.mul_comm]; exact up)
  have hBk : B ≤ (k + 1) * B := by rw [Nat.add_mul, Nat.one_mul]; omega
  by_cases c3 : 0 < v.1
  · rw [if_pos c3]
    exact ⟨0, (k + 1) * B, turn, h1, by show (0 - v.2).natAbs ≤ _; omega⟩
  rw [if_neg c3]
  by_cases c4 : v.1 < 0
  · rw [if_pos c4]
    exact ⟨0, (k + 1) * B, turn, by show (0 - v.1).natAbs ≤ _; omega, by show v.2.natAbs ≤ _; omega⟩
  rw [if_neg c4]
  refine ⟨0, 1, ?_, by show (0 : Int).natAbs ≤ 1; decide, by show (1 : Int).natAbs ≤ (0 + 1) * 1; decide⟩
  exact Nat.pow_pos (by decide)
theorem grow_run : ∀ (l : List Nat) {n : Nat} {v : Int × Int}, Grow n v → Grow (n + l.length) (run v l)
  | [], n, v, h => h
  | c :: r, n, v, h => by
    have := grow_run r (h.called c)
    rw [List.length_cons]
    rw [show n + (r.length + 1) = n + 1 + r.length by omega]
    exact this
theorem grow_cube {n : Nat} {v : Int × Int} (h : Grow n v) : v.1.natAbs ^ 3 ≤ 3 ^ (n + 1) ∧ v.2.natAbs ^ 3 ≤ 3 ^ (n + 1) := by
  obtain ⟨k, B, hb, h2, h1⟩ := h
  have up : B ^ 3 * 3 ^ (k + 1) ≤ 3 ^ (n + 1) := by
    rw [Nat.pow_succ (m := k), Nat.pow_succ (m := n), ← Nat.mul_assoc]
    exact Nat.mul_le_mul_right 3 hb
  have turn : ((k + 1) * B) ^ 3 ≤ 3 ^ (n + 1) := by
    rw [Nat.mul_pow]
    exact Nat.le_trans (Nat.mul_le_mul_right _ (cube_three k)) (by rw [Nat.mul_comm]; exact up)
  have hBk : B ≤ (k + 1) * B := by rw [Nat.add_mul, Nat.one_mul]; omega
  exact ⟨Nat.le_trans (Nat.pow_le_pow_left h1 3) turn, Nat.le_trans (Nat.pow_le_pow_left (Nat.le_trans h2 hBk) 3) turn⟩
/-- small enough to be written out -/
structure Sv (v : Int × Int) : Prop where
  good : Good v
  s1 : v.1.natAbs ≤ 3400000
  s2 : v.2.natAbs ≤ 3400000
theorem cube_small {x : Nat} (h : x ^ 3 ≤ 3 ^ 41) : x ≤ 3400000 := by
  by_cases c : x ≤ 3400000
  · exact c
  · have : (3400001 : Nat) ^ 3 ≤ x ^ 3 := Nat.pow_le_pow_left (by omega) 3
    have e : ¬ (3400001 : Nat) ^ 3 ≤ 3 ^ 41 := by decide +kernel
    exact absurd (Nat.le_trans this h) e
theorem sv_run {l : List Nat} (h : (l.length : Int) ≤ 40) : Sv (run (0, 1) l) := by
  have g := grow_run l (n := 0) (v := (0, 1)) ⟨0, 1, by decide, by decide, by decide⟩
  have q := grow_cube g
  have e : (3 : Nat) ^ (0 + l.length + 1) ≤ 3 ^ 41 := Nat.pow_le_pow_right (by decide) (by omega)
  exact ⟨good_run l Good.zero, cube_small (Nat.le_trans q.1 e), cube_small (Nat.le_trans q.2 e)⟩
theorem stv_len {v : Int × Int} (h : Sv v) : (stv v).length ≤ 14000000 := by
  obtain ⟨p, q⟩ := v
  obtain ⟨⟨h1, h2⟩, s1, s2⟩ := h
  unfold stv
  by_cases c : q = 0
  · rw [if_pos (show (p, q).2 = 0 from c)]
    decide
  · rw [if_neg (show ¬ (p, q).2 = 0 from c)]
    have h0 : 0 < q := by
      rcases h1 with h1 | h1
      · exact h1
      · cases h1; exact absurd rfl c
    have := len_out h0 h2
    simp only at s1 s2 this ⊢
    omega
theorem tl_S (l : List Nat) : tl (S l) = l := S_list l
theorem join_S (xs : List (List Nat)) : Txt.join (S [82]) (xs.map S) = S (joinL [82] xs) := by
  have e := tl_join (S [82]) (xs.map S)
  rw [← join_eq, List.map_map] at e
  have e2 : (tl ∘ S) = id := by funext l; exact tl_S l
  rw [e2, List.map_id, tl_S] at e
  exact (S_eta (Txt.join (S [82]) (xs.map S))).symm.trans (congrArg S e)
theorem sum_S (xs : List (List Nat)) : ((xs.map S).map (·.length)).sum = (xs.map List.length).sum := by
  rw [List.map_map]
  congr 1
theorem le_sum {x : Nat} : ∀ {l : List Nat}, x ∈ l → x ≤ l.sum
  | [], h => by cases h
  | y :: r, h => by
    rw [List.sum_cons]
    rcases List.mem_cons.mp h with rfl | h
    · omega
    · have := le_sum h
      omega
theorem joinL_len : ∀ (xs : List (List Nat)), xs ≠ [] → (joinL [82] xs).length + 1 = (xs.map List.length).sum + xs.length
  | [], h => absurd rfl h
  | [x], _ => by simp [joinL]
  | x :: y :: r, _ => by
    have := joinL_len (y :: r) (by simp)
    show (x ++ ([82] ++ joinL [82] (y :: r))).length + 1 = _
    rw [List.length_append, List.length_append, List.map_cons, List.sum_cons, List.length_cons]
    show x.length + (1 + _) + 1 = x.length + _ + (_ + 1)
    omega
def spRun : Sp := fun vs H Q _ => ∃ b : Int, vs = [.int b] ∧ b.natAbs ≤ 16000000 ∧ Q (.str (S (rn b))) H
def spStd : Sp := fun vs H Q _ => ∃ (t : Addr) (v : Int × Int), vs = [.ref t] ∧ Tup2 H t v ∧ Sv v ∧ ∀ H', Same H H' → Q (.str (S (stv v))) H'
theorem rn_up {b : Int} (h : 0 ≤ b) : (List.replicate b.toNat [84]).flatten = rn b := by
  unfold rn
  rw [if_neg (by omega)]
  induction b.toNat with
  | zero => rfl
  | succ n ih => rw [List.replicate_succ, List.flatten_cons, ih, List.replicate_succ]; rfl
theorem rn_dn {b : Int} (h : b < 0) : (List.replicate (-b).toNat [85]).flatten = rn b := by
  unfold rn
  rw [if_pos h]
  induction (-b).toNat with
  | zero => rfl
  | succ n ih => rw [List.replicate_succ, List.flatten_cons, ih, List.replicate_succ]; rfl
theorem fdiv_pos {p q : Int} (h : 0 < q) : p.fdiv q = p / q := Int.fdiv_eq_ediv_of_nonneg p (by omega)
def spNum : Sp := fun vs H Q _ => ∃ l : List Nat, vs = [.str (S l)] ∧ ∀ t' H', Same H H' → Tup2 H' t' (run (0, 1) l) → Q (.ref t') H'
theorem cut_last (xs : List V) : cutV xs none (some (-1)) = xs.dropLast := by
  unfold cutV
  rw [HT.sIx_none, List.drop_zero, Nat.sub_zero, List.dropLast_eq_take]
  congr 1
  unfold HT.sIx
  show (if (-1 : Int) < 0 then ((-1 : Int) + (xs.length : Int)).toNat else _) = _
  rw [if_pos (by decide)]
  omega
theorem sv_div {p q : Int} (hp : p.natAbs ≤ 400) (hq : q.natAbs ≤ 400) (h0 : 0 < q) : Sv (p / (Int.gcd p q : Int), q / (Int.gcd p q : Int)) := by
  have g0 : 0 < Int.gcd p q := Int.gcd_pos_of_ne_zero_right p (by omega)
  have a : ∀ (x : Int) (g : Nat), (x / (g : Int)).natAbs ≤ x.natAbs := fun x g => Int.natAbs_ediv_le_natAbs x g
  refine ⟨⟨.inl ?_, Int.gcd_ediv_gcd_ediv_gcd g0⟩, Nat.le_trans (a p _) (by omega), Nat.le_trans (a q _) (by omega)⟩
  exact Int.ediv_pos_of_pos_of_dvd h0 (by omega) (Int.gcd_dvd_right _ _)
theorem sv_chain {n : Int} (h0 : 2 ≤ n) (h1 : n ≤ 1000) : Sv (n, n - 1) := by
  refine ⟨⟨.inl (by show 0 < n - 1; omega), ?_⟩, by show n.natAbs ≤ _; omega, by show (n - 1).natAbs ≤ _; omega⟩
  show Int.gcd n (n - 1) = 1
  have := gcd_add' 1 (n - 1)
  rw [show 1 + (n - 1) = n by omega, Int.one_gcd] at this
  exact this
def Vi (H : Hp) (y : V) : Prop := ∃ (t : Addr) (v : Int × Int), y = .ref t ∧ Tup2 H t v ∧ Sv v
theorem Vi.same {H H' : Hp} {y : V} (h : Vi H y) (s : Same H H') : Vi H' y := by
  obtain ⟨t, v, e, a, b⟩ := h
  exact ⟨t, v, e, a.same s, b⟩
theorem rn_no (b : Int) : 82 ∉ rn b := by
  unfold rn
  intro h
  split at h
  · have := (List.mem_replicate.mp h).2; omega
  · have := (List.mem_replicate.mp h).2; omega
theorem rn_T {b : Int} (h : 0 ≤ b) : (List.replicate (rn b).length [84]).flatten = rn b := by
  rw [rn_len, show b.natAbs = b.toNat by omega]
  exact rn_up h
def spSmall : Sp := fun vs H Q _ => ∃ (a : Addr), vs = [.ref a] ∧ Tape H a ∧ ∀ (t : Addr) (v : Int × Int) H', Sv v → But a H H' → Tape H' a → Tup2 H' t v → Q (.ref t) H'
end
section
/-! ### moves keep the number -/
theorem run_TU (v : Int × Int) : run v [84, 85] = v := by
  obtain ⟨p, q⟩ := v
  show (p + q - q, q) = (p, q)
  congr 1
  omega
theorem run_UT (v : Int × Int) : run v [85, 84] = v := by
  obtain ⟨p, q⟩ := v
  show (p - q + q, q) = (p, q)
  congr 1
  omega
theorem turn_pos {p q : Int} (h : 0 < p) : called (p, q) 82 = (0 - q, p) := by
  unfold called
  rw [if_neg (by decide), if_neg (by decide), if_pos (show 0 < (p, q).1 from h)]
theorem turn_neg {p q : Int} (h : p < 0) : called (p, q) 82 = (q, 0 - p) := by
  unfold called
  rw [if_neg (by decide), if_neg (by decide), if_neg (show ¬ 0 < (p, q).1 from by show ¬ 0 < p; omega), if_pos (show (p, q).1 < 0 from h)]
theorem turn_zero {q : Int} : called (0, q) 82 = (1, 0) := rfl
theorem zero_one {q : Int} (g : Good (0, q)) : q = 1 := by
  obtain ⟨h1, h2⟩ := g
  have e : Int.gcd 0 q = 1 := h2
  rw [Int.gcd_zero_left] at e
  rcases h1 with h1 | h1
  · have : 0 < q := h1
    omega
  · cases h1
theorem turn_turn {v : Int × Int} (g : Good v) : called (called v 82) 82 = v := by
  obtain ⟨p, q⟩ := v
  rcases Int.lt_trichotomy p 0 with h | h | h
  · have q0 : 0 < q := by
      rcases g.1 with h1 | h1
      · exact h1
      · cases h1; omega
    rw [turn_neg h, turn_pos q0, Int.zero_sub, Int.zero_sub, Int.neg_neg]
  · subst h
    rw [zero_one g]
    rfl
  · rw [turn_pos h]
    rcases g.1 with h1 | h1
    · have q0 : 0 < q := h1
      rw [turn_neg (by omega)]
      congr 1
      omega
    · cases h1
      rfl
theorem run_RR {v : Int × Int} (g : Good v) : run v [82, 82] = v := turn_turn g
/-- x + 1, turned: three times it leads back -/
theorem run_six {v : Int × Int} (g : Good v) : run v [84, 82, 84, 82, 84, 82] = v := by
  obtain ⟨p, q⟩ := v
  show called (called (called (called (called (called (p, q) 84) 82) 84) 82) 84) 82 = (p, q)
  have tw : ∀ a b : Int, called (a, b) 84 = (a + b, b) := fun a b => rfl
  rcases g.1 with h1 | h1
  · have q0 : 0 < q := h1
    rw [tw p q]
    rcases Int.lt_trichotomy (p + q) 0 with h | h | h
    · rw [turn_neg h, tw q, turn_pos (show 0 < q + (0 - (p + q)) by omega), tw, turn_pos (by omega)]
      congr 1 <;> omega
    · have e : q = -p := by omega
      have g1 : Int.gcd p q = 1 := g.2
      rw [e, Int.gcd_neg, Int.gcd_self] at g1
      have : p = -1 := by omega
      subst this
      have : q = 1 := by omega
      subst this
      rfl
    · rw [turn_pos h, tw (0 - q)]
      rcases Int.lt_trichotomy p 0 with k | k | k
      · rw [turn_neg (show 0 - q + (p + q) < 0 by omega), tw, turn_pos (by omega)]
        congr 1 <;> omega
      · subst k
        rw [zero_one g]
        rfl
      · rw [turn_pos (show 0 < 0 - q + (p + q) by omega), tw, turn_neg (by omega)]
        congr 1 <;> omega
  · cases h1
    rfl
theorem run_word {u : List Nat} (h : u ∈ wds) {v : Int × Int} (g : Good v) : run v u = v := by
  unfold wds at h
  simp only [List.mem_cons, List.not_mem_nil, or_false] at h
  rcases h with rfl | rfl | rfl | rfl
  · exact run_TU v
  · exact run_UT v
  · exact run_RR g
  · exact run_six g
/-- what a move makes has the same number -/
theorem mk_num {d x : List Nat} {m : Mv} (h : mkMv d m = some x) : run (0, 1) x = run (0, 1) d := by
  obtain ⟨h1, h2, rfl⟩ := mkMv_inv h
  obtain ⟨c0, c1, c2⟩ := canMv_inv h2
  have word : ∀ v : Int × Int, Good v → (m.pl = 0 → v = (0, 1)) → run v (m.o ++ m.n) = v := fun v g z => by
    unfold isMv at h1
    rw [Bool.and_eq_true, Bool.or_eq_true, Bool.and_eq_true, decide_eq_true_eq, decide_eq_true_eq, decide_eq_true_eq] at h1
    rcases h1.2 with k | ⟨k0, k⟩
    · exact run_word k g
    · rw [k, z k0]
      rfl
  have e1 : d = d.take m.pl.toNat ++ (m.o ++ d.drop (m.pl.toNat + m.o.length)) := by
    conv => lhs; rw [← List.take_append_drop m.pl.toNat d]
    congr 1
    conv => lhs; rw [← List.take_append_drop m.o.length (d.drop m.pl.toNat)]
    rw [c2, List.drop_drop]
  have g := good_run (d.take m.pl.toNat) Good.zero
  have w := word (run (0, 1) (d.take m.pl.toNat)) g fun z => by rw [z]; rfl
  have e2 : run (run (0, 1) (d.take m.pl.toNat)) m.n = run (run (0, 1) (d.take m.pl.toNat)) m.o := by
    rcases isMv_empty h1 with k | k
    · rw [k] at w ⊢
      exact w
    · rw [k, List.append_nil] at w
      rw [k, w]
      rfl
  unfold doMv
  rw [run_app, run_app, e2]
  conv => rhs; rw [e1]
  rw [run_app, run_app]
end
section
open TL (joinL)
/-! ### a dance of the standard form is the standard dance of its number -/
theorem form_step (p q b : Int) (q0 : 0 < q) (qp : q < p) (g : Int.gcd p q = 1) : Int.gcd (0 - q + b * p) p = 1 ∧ bs (0 - q + b * p) p = bs p q ++ [b] := by
  have g1 : Int.gcd (0 - q + b * p) p = 1 := by
    rw [Int.gcd_add_mul_right_left, Int.zero_sub, Int.neg_gcd, Int.gcd_comm]
    exact g
  have d : (0 - q + b * p) / p = b - 1 := by
    rw [Int.add_mul_ediv_right _ _ (by omega : p ≠ 0)]
    have : (0 - q) / p = -1 := by
      have e1 : (0 - q) = (p - q) + (-1) * p := by omega
      rw [e1, Int.add_mul_ediv_right _ _ (by omega : p ≠ 0), Int.ediv_eq_zero_of_lt (by omega) (by omega)]
      omega
    omega
  have n : nx (0 - q + b * p) p = q := by
    unfold nx
    rw [d, show b - 1 + 1 = b by omega]
    omega
  refine ⟨g1, ?_⟩
  rw [bs_step (by omega) g1, n, d]
  congr 2
  omega
theorem form_two : ∀ (k : Nat) (r : List Int), r.length = k + 1 → (∀ b ∈ r, 2 ≤ b) → ∃ p q : Int, run (0, 1) (joinL [82] (r.map rn)) = (p, q) ∧ 0 < q ∧ q < p ∧ Int.gcd p q = 1 ∧ bs p q = r
  | 0, r, hk, h2 => by
    obtain ⟨b, rfl⟩ : ∃ b, r = [b] := List.length_eq_one_iff.mp hk
    have := h2 b List.mem_cons_self
    refine ⟨b, 1, ?_, by decide, by omega, Int.gcd_one_right _, rfl⟩
    show run (0, 1) (rn b) = _
    rw [run_rn]
    simp
  | k + 1, r, hk, h2 => by
    have hne : r ≠ [] := fun z => by rw [z] at hk; cases hk
    obtain ⟨r', b, rfl⟩ : ∃ r' b, r = r' ++ [b] := ⟨r.dropLast, r.getLast hne, (List.dropLast_concat_getLast hne).symm⟩
    have hk' : r'.length = k + 1 := by
      rw [List.length_append] at hk
      have : ([b] : List Int).length = 1 := rfl
      omega
    obtain ⟨p, q, e, q0, qp, g, eb⟩ := form_two k r' hk' fun x hx => h2 x (List.mem_append_left _ hx)
    have b2 := h2 b (List.mem_append_right _ List.mem_cons_self)
    have ne : r' ≠ [] := fun z => by rw [z] at hk'; cases hk'
    have st := form_step p q b q0 qp g
    refine ⟨0 - q + b * p, p, ?_, by omega, ?_, st.1, by rw [st.2, eb]⟩
    · rw [List.map_append, List.map_singleton, joinL_snoc [82] _ (fun z => ne (List.map_eq_nil_iff.mp z)), run_app, e, run_app]
      show run (called (p, q) 82) _ = _
      rw [show called (p, q) 82 = (0 - q, p) by unfold called; rw [if_neg (by decide), if_neg (by decide), if_pos (show 0 < (p, q).1 by show 0 < p; omega)], run_rn]
    · have : 2 * p ≤ b * p := Int.mul_le_mul_of_nonneg_right b2 (by omega)
      omega
theorem form_std {r : List Int} {b : Int} (h2 : ∀ x ∈ r, 2 ≤ x) : stv (run (0, 1) (joinL [82] ((r ++ [b]).map rn))) = joinL [82] ((r ++ [b]).map rn) := by
  by_cases hr : r = []
  · subst hr
    show stv (run (0, 1) (rn b)) = rn b
    rw [run_rn]
    unfold stv
    rw [if_neg (show ¬ (1 : Int) = 0 by decide)]
    show joinL [82] ((bs (0 + b * 1) 1).map rn) = _
    rw [bs_one, Int.mul_one, Int.zero_add]
    rfl
  · obtain ⟨p, q, e, q0, qp, g, eb⟩ := form_two (r.length - 1) r (by have := List.length_pos_iff.mpr hr; omega) h2
    have st := form_step p q b q0 qp g
    rw [List.map_append, List.map_singleton, joinL_snoc [82] _ (fun z => hr (List.map_eq_nil_iff.mp z)), run_app, e, run_app]
    show stv (run (called (p, q) 82) _) = _
    rw [show called (p, q) 82 = (0 - q, p) by unfold called; rw [if_neg (by decide), if_neg (by decide), if_pos (show 0 < (p, q).1 by show 0 < p; omega)], run_rn]
    unfold stv
    rw [if_neg (show ¬ p = 0 by omega)]
    show joinL [82] ((bs (0 - q + b * p) p).map rn) = _
    rw [st.2, eb, List.map_append, List.map_singleton, joinL_snoc [82] _ (fun z => hr (List.map_eq_nil_iff.mp z))]
end
section
/-! ### rows of moves at the front of a dance -/
def Lead (d : List Nat) (ms : List Mv) (d' : List Nat) : Prop := ∀ s, led (d ++ s) ms = some (d' ++ s)
theorem Lead.refl (d : List Nat) : Lead d [] d := fun s => rfl
theorem led_app (d : List Nat) (ms ns : List Mv) : led d (ms ++ ns) = (led d ms).bind fun x => led x ns := by
  have none_ : ∀ ns : List Mv, ns.foldl (fun (o : Option (List Nat)) m => o.bind fun x => mkMv x m) none = none := by
    intro ns
    induction ns with
    | nil => rfl
    | cons m r ih => exact ih
  unfold led
  rw [List.foldl_append]
  cases ms.foldl (fun (o : Option (List Nat)) m => o.bind fun x => mkMv x m) (some d) with
  | none => exact none_ ns
  | some x => rfl
theorem Lead.trans {a b c : List Nat} {ms ns : List Mv} (h : Lead a ms b) (k : Lead b ns c) : Lead a (ms ++ ns) c := fun s => by
  rw [led_app, h s]
  exact k s
theorem Lead.more {a b : List Nat} {ms : List Mv} (h : Lead a ms b) (s : List Nat) : Lead (a ++ s) ms (b ++ s) := fun t => by
  rw [List.append_assoc, List.append_assoc]
  exact h (s ++ t)
theorem Lead.make {a o n b : List Nat} (h : isMv ⟨(a.length : Int), o, n⟩ = true) : Lead (a ++ o ++ b) [⟨(a.length : Int), o, n⟩] (a ++ n ++ b) := fun s => by
  show mkMv (a ++ o ++ b ++ s) _ = _
  have c : canMv (a ++ o ++ b ++ s) ⟨(a.length : Int), o, n⟩ = true := by
    unfold canMv
    simp
    omega
  rw [mkMv_some h c]
  congr 1
  unfold doMv
  simp
theorem Lead.cast {a b a' b' : List Nat} {ms : List Mv} (h : Lead a ms b) (e : a = a') (k : b = b') : Lead a' ms b' := by rw [← e, ← k]; exact h
theorem Lead.num {a b : List Nat} {ms : List Mv} (h : Lead a ms b) : run (0, 1) b = run (0, 1) a := by
  have key : ∀ (ms : List Mv) (d x : List Nat), led d ms = some x → run (0, 1) x = run (0, 1) d := by
    intro ms
    induction ms with
    | nil =>
      intro d x h
      cases h
      rfl
    | cons m r ih =>
      intro d x h
      have e : led d (m :: r) = (led d [m]).bind fun y => led y r := led_app d [m] r
      rw [e] at h
      cases hy : led d [m] with
      | none => rw [hy] at h; cases h
      | some y =>
        rw [hy] at h
        rw [ih y x h]
        exact mk_num hy
  have := key ms (a ++ []) (b ++ []) (h [])
  rw [List.append_nil, List.append_nil] at this
  exact this
theorem isMv_put {u : List Nat} {p : Int} (h : u ∈ wds) : isMv ⟨p, [], u⟩ = true := by
  have ne : u ≠ [] := fun z => by subst z; revert h; decide
  unfold isMv
  simp [ne, h]
theorem isMv_take {u : List Nat} {p : Int} (h : u ∈ wds) : isMv ⟨p, u, []⟩ = true := by
  have ne : u ≠ [] := fun z => by subst z; revert h; decide
  unfold isMv
  simp [ne, h]
/-! the rows that the front makes -/
theorem lead_UT (a : List Nat) : Lead (a ++ [85, 84]) [⟨(a.length : Int), [85, 84], []⟩] a :=
  (Lead.make (a := a) (o := [85, 84]) (n := []) (b := []) (isMv_take (by decide))).cast (by simp) (by simp)
theorem lead_TU (a : List Nat) : Lead (a ++ [84, 85]) [⟨(a.length : Int), [84, 85], []⟩] a :=
  (Lead.make (a := a) (o := [84, 85]) (n := []) (b := []) (isMv_take (by decide))).cast (by simp) (by simp)
theorem lead_RR (a : List Nat) : Lead (a ++ [82, 82]) [⟨(a.length : Int), [82, 82], []⟩] a :=
  (Lead.make (a := a) (o := [82, 82]) (n := []) (b := []) (isMv_take (by decide))).cast (by simp) (by simp)
theorem lead_TRTRT (a : List Nat) : Lead (a ++ [84, 82, 84, 82, 84]) [⟨((a ++ [84, 82, 84, 82, 84]).length : Int), [], [82, 82]⟩, ⟨(a.length : Int), [84, 82, 84, 82, 84, 82], []⟩] (a ++ [82]) :=
  Lead.trans ((Lead.make (a := a ++ [84, 82, 84, 82, 84]) (o := []) (n := [82, 82]) (b := []) (isMv_put (by decide))).cast (by simp) rfl)
    ((Lead.make (a := a) (o := [84, 82, 84, 82, 84, 82]) (n := []) (b := [82]) (isMv_take (by decide))).cast (by simp) (by simp))
theorem lead_RT : Lead [82, 84] [⟨2, [], [82, 82]⟩, ⟨0, [82, 84, 82], []⟩] [82] :=
  Lead.trans ((Lead.make (a := [82, 84]) (o := []) (n := [82, 82]) (b := []) (isMv_put (by decide))).cast rfl rfl)
    ((Lead.make (a := []) (o := [82, 84, 82]) (n := []) (b := [82]) (by decide)).cast rfl rfl)
theorem lead_RU : Lead [82, 85] [⟨0, [], [82, 84, 82]⟩, ⟨2, [82, 82], []⟩, ⟨1, [84, 85], []⟩] [82] :=
  Lead.trans ((Lead.make (a := []) (o := []) (n := [82, 84, 82]) (b := [82, 85]) (by decide)).cast rfl rfl)
    (Lead.trans ((Lead.make (a := [82, 84]) (o := [82, 82]) (n := []) (b := [85]) (by decide)).cast rfl rfl)
      ((Lead.make (a := [82]) (o := [84, 85]) (n := []) (b := []) (by decide)).cast rfl rfl))
theorem lead_TRT : Lead [84, 82, 84] [⟨0, [], [82, 84, 82]⟩, ⟨6, [], [82, 82]⟩, ⟨1, [84, 82, 84, 82, 84, 82], []⟩, ⟨0, [82, 82], []⟩] [] :=
  Lead.trans ((Lead.make (a := []) (o := []) (n := [82, 84, 82]) (b := [84, 82, 84]) (by decide)).cast rfl rfl)
    (Lead.trans ((Lead.make (a := [82, 84, 82, 84, 82, 84]) (o := []) (n := [82, 82]) (b := []) (by decide)).cast rfl rfl)
      (Lead.trans ((Lead.make (a := [82]) (o := [84, 82, 84, 82, 84, 82]) (n := []) (b := [82]) (by decide)).cast rfl rfl)
        ((Lead.make (a := []) (o := [82, 82]) (n := []) (b := []) (by decide)).cast rfl rfl)))
theorem lead_spread0 : Lead [85] [⟨1, [], [84, 82, 84, 82, 84, 82]⟩, ⟨0, [85, 84], []⟩, ⟨0, [82, 84, 82], []⟩] [84, 82] :=
  Lead.trans ((Lead.make (a := [85]) (o := []) (n := [84, 82, 84, 82, 84, 82]) (b := []) (by decide)).cast rfl rfl)
    (Lead.trans ((Lead.make (a := []) (o := [85, 84]) (n := []) (b := [82, 84, 82, 84, 82]) (by decide)).cast rfl rfl)
      ((Lead.make (a := []) (o := [82, 84, 82]) (n := []) (b := [84, 82]) (by decide)).cast rfl rfl))
theorem lead_spread (y : List Nat) : Lead (y ++ [82, 85]) [⟨((y ++ [82, 85]).length : Int), [], [84, 82, 84, 82, 84, 82]⟩, ⟨((y ++ [82]).length : Int), [85, 84], []⟩, ⟨(y.length : Int), [82, 82], []⟩] (y ++ [84, 82, 84, 82]) :=
  Lead.trans ((Lead.make (a := y ++ [82, 85]) (o := []) (n := [84, 82, 84, 82, 84, 82]) (b := []) (isMv_put (by decide))).cast (by simp) rfl)
    (Lead.trans ((Lead.make (a := y ++ [82]) (o := [85, 84]) (n := []) (b := [82, 84, 82, 84, 82]) (isMv_take (by decide))).cast (by simp) rfl)
      ((Lead.make (a := y) (o := [82, 82]) (n := []) (b := [84, 82, 84, 82]) (isMv_take (by decide))).cast (by simp) (by simp)))
theorem lead_finish (x : List Nat) : Lead (x ++ [84, 82, 84, 82]) [⟨((x ++ [84, 82, 84, 82]).length : Int), [], [84, 85]⟩, ⟨((x ++ [84, 82, 84, 82, 84]).length : Int), [], [82, 82]⟩, ⟨(x.length : Int), [84, 82, 84, 82, 84, 82], []⟩] (x ++ [82, 85]) :=
  Lead.trans ((Lead.make (a := x ++ [84, 82, 84, 82]) (o := []) (n := [84, 85]) (b := []) (isMv_put (by decide))).cast (by simp) rfl)
    (Lead.trans ((Lead.make (a := x ++ [84, 82, 84, 82, 84]) (o := []) (n := [82, 82]) (b := [85]) (isMv_put (by decide))).cast (by simp) rfl)
      ((Lead.make (a := x) (o := [84, 82, 84, 82, 84, 82]) (n := []) (b := [82, 85]) (isMv_take (by decide))).cast (by simp) (by simp)))
theorem lead_finish0 : Lead [84, 82] [⟨0, [], [82, 84, 82]⟩, ⟨0, [], [85, 84]⟩, ⟨1, [84, 82, 84, 82, 84, 82], []⟩] [85] :=
  Lead.trans ((Lead.make (a := []) (o := []) (n := [82, 84, 82]) (b := [84, 82]) (by decide)).cast rfl rfl)
    (Lead.trans ((Lead.make (a := []) (o := []) (n := [85, 84]) (b := [82, 84, 82, 84, 82]) (by decide)).cast rfl rfl)
      ((Lead.make (a := [85]) (o := [84, 82, 84, 82, 84, 82]) (n := []) (b := []) (by decide)).cast rfl rfl))
end
section
open TL (joinL)
/-! ### what the front is after each letter -/
inductive Pf : List Nat → Prop
  | nil : Pf []
  | snoc {w : List Nat} (a : Nat) : Pf w → Pf (w ++ (List.replicate (a + 2) 84 ++ [82]))
inductive Fst : List Nat → Prop
  | A {w : List Nat} (b : Int) : Pf w → Fst (w ++ rn b)
  | B {w : List Nat} (m : Nat) : Pf w → Fst (w ++ ([84, 82] ++ List.replicate m 85))
  | C : Fst [82]
def wt (x : List Nat) : Nat := x.length + 2 * x.count 85
theorem wt_app (x y : List Nat) : wt (x ++ y) = wt x + wt y := by
  unfold wt
  rw [List.length_append, List.count_append]
  omega
theorem wt_U (m : Nat) : wt (List.replicate m 85) = 3 * m := by
  unfold wt
  rw [List.length_replicate, List.count_replicate_self]
  omega
theorem wt_T (m : Nat) : wt (List.replicate m 84) = m := by
  unfold wt
  rw [List.length_replicate, List.count_replicate]
  simp
theorem rn_nat (n : Nat) : rn (n : Int) = List.replicate n 84 := by
  unfold rn
  rw [if_neg (by omega), Int.toNat_natCast]
theorem rn_neg (n : Nat) : rn (-(n : Int)) = List.replicate n 85 := by
  unfold rn
  by_cases h : n = 0
  · subst h
    rfl
  · rw [if_pos (by omega), Int.neg_neg, Int.toNat_natCast]
theorem rep_snoc (n c : Nat) : List.replicate n c ++ [c] = List.replicate (n + 1) c := List.replicate_succ'.symm
/-- from c behind x to x' -/
def Goes (x : List Nat) (x' : List Nat) (k : Nat) : Prop := ∃ ms, Lead x ms x' ∧ Fst x' ∧ wt x' ≤ k
theorem spreads : ∀ (m : Nat) {w : List Nat}, Pf w → ∃ ms w', Pf w' ∧ Lead (w ++ ([84, 82] ++ List.replicate m 85)) ms (w' ++ [84, 82]) ∧ wt w' = wt w + 3 * m
  | 0, w, h => ⟨[], w, h, (Lead.refl _).cast rfl (by simp), rfl⟩
  | m + 1, w, h => by
    obtain ⟨ms, w', h', l, e⟩ := spreads m (Pf.snoc 0 h)
    refine ⟨_, w', h', Lead.trans (((lead_spread (w ++ [84])).more (List.replicate m 85)).cast ?_ ?_) l, ?_⟩
    · rw [List.replicate_succ]
      simp
    · simp [List.replicate]
    · rw [e, wt_app]
      show wt w + 3 + 3 * m = _
      omega
theorem goes_turn {w : List Nat} (h : Pf w) (m : Nat) : ∃ ms w', Pf w' ∧ Lead (w ++ ([84, 82] ++ List.replicate m 85) ++ [82]) ms (w' ++ rn 1) ∧ wt w' = wt w + 3 * m := by
  obtain ⟨ms, w', h', l, e⟩ := spreads m h
  exact ⟨_, w', h', Lead.trans (l.more [82]) ((lead_RR (w' ++ [84])).cast (by simp) rfl), e⟩
theorem goes {x : List Nat} (h : Fst x) {c : Nat} (hc : c = 84 ∨ c = 85 ∨ c = 82) : ∃ x', Goes (x ++ [c]) x' (wt x + 3) := by
  have o4 : wt [84] = 1 := rfl
  have o5 : wt [85] = 3 := rfl
  have o2 : wt [82] = 1 := rfl
  have otr : wt [84, 82] = 2 := rfl
  cases h with
  | @A w b hw =>
    obtain ⟨n, rfl | rfl⟩ : ∃ n : Nat, b = (n : Int) ∨ b = -((n + 1 : Nat) : Int) := by
      by_cases hb : 0 ≤ b
      · exact ⟨b.toNat, .inl (by omega)⟩
      · exact ⟨(-b).toNat - 1, .inr (by omega)⟩
    · rcases hc with rfl | rfl | rfl
      · refine ⟨w ++ rn ((n + 1 : Nat) : Int), [], (Lead.refl _).cast rfl ?_, .A _ hw, ?_⟩
        · rw [rn_nat, rn_nat, List.append_assoc, rep_snoc]
        · rw [rn_nat, rn_nat, wt_app, wt_app, wt_T, wt_T]
          omega
      · cases n with
        | zero =>
          refine ⟨w ++ rn (-((1 : Nat) : Int)), [], (Lead.refl _).cast rfl ?_, .A _ hw, ?_⟩
          · rw [rn_nat, rn_neg, List.append_assoc]
            rfl
          · rw [rn_nat, rn_neg, wt_app, wt_app, wt_T, wt_U]
            omega
        | succ k =>
          refine ⟨w ++ rn (k : Int), _, (lead_TU (w ++ rn (k : Int))).cast ?_ rfl, .A _ hw, ?_⟩
          · rw [rn_nat, rn_nat, ← rep_snoc]
            simp
          · rw [rn_nat, rn_nat, wt_app, wt_app, wt_T, wt_T]
            omega
      · match n with
        | 0 =>
          cases hw with
          | nil => exact ⟨[82], [], Lead.refl _, .C, by decide⟩
          | @snoc w1 a h1 =>
            refine ⟨w1 ++ rn ((a + 2 : Nat) : Int), _, (lead_RR (w1 ++ List.replicate (a + 2) 84)).cast ?_ (by rw [rn_nat]), .A _ h1, ?_⟩
            · rw [rn_nat]
              simp
            · rw [rn_nat, rn_nat, wt_app, wt_app, wt_app, wt_app, wt_T, wt_T]
              omega
        | 1 =>
          refine ⟨w ++ ([84, 82] ++ List.replicate 0 85), [], (Lead.refl _).cast rfl ?_, .B 0 hw, ?_⟩
          · rw [rn_nat]
            simp
          · rw [rn_nat, wt_app, wt_app, wt_app, wt_T, wt_U, otr]
            omega
        | n + 2 =>
          refine ⟨(w ++ (List.replicate (n + 2) 84 ++ [82])) ++ rn ((0 : Nat) : Int), [], (Lead.refl _).cast rfl ?_, .A _ (.snoc n hw), ?_⟩
          · rw [rn_nat, rn_nat]
            simp
          · rw [rn_nat, rn_nat, wt_app, wt_app, wt_app, wt_app, wt_T, wt_T, o2]
            omega
    · rcases hc with rfl | rfl | rfl
      · refine ⟨w ++ rn (-(n : Int)), _, (lead_UT (w ++ rn (-(n : Int)))).cast ?_ rfl, .A _ hw, ?_⟩
        · rw [rn_neg, rn_neg, ← rep_snoc]
          simp
        · rw [rn_neg, rn_neg, wt_app, wt_app, wt_U, wt_U]
          omega
      · refine ⟨w ++ rn (-((n + 2 : Nat) : Int)), [], (Lead.refl _).cast rfl ?_, .A _ hw, ?_⟩
        · rw [rn_neg, rn_neg, List.append_assoc, rep_snoc]
        · rw [rn_neg, rn_neg, wt_app, wt_app, wt_U, wt_U]
          omega
      · cases hw with
        | nil =>
          obtain ⟨ms, w', h', l, e⟩ := goes_turn Pf.nil n
          refine ⟨w' ++ rn 1, _, Lead.trans ((lead_spread0.more (List.replicate n 85 ++ [82])).cast ?_ ?_) l, .A 1 h', ?_⟩
          · rw [rn_neg, List.replicate_succ]
            simp
          · simp
          · rw [rn_neg, wt_app, wt_app, wt_U, e]
            show wt [] + 3 * n + 1 ≤ wt [] + 3 * (n + 1) + 3
            omega
        | @snoc w1 a h1 =>
          obtain ⟨ms, w', h', l, e⟩ := goes_turn (Pf.snoc (a + 1) h1) n
          refine ⟨w' ++ rn 1, _, Lead.trans (((lead_spread (w1 ++ List.replicate (a + 2) 84)).more (List.replicate n 85 ++ [82])).cast ?_ ?_) l, .A 1 h', ?_⟩
          · rw [rn_neg, show List.replicate (n + 1) 85 = 85 :: List.replicate n 85 from List.replicate_succ]
            simp
          · rw [show a + 1 + 2 = (a + 2) + 1 by omega, ← rep_snoc (a + 2) 84]
            simp
          · rw [rn_neg, wt_app, wt_app, wt_U, e, wt_app, wt_app, wt_T, wt_app, wt_app, wt_T]
            show wt w1 + (a + 1 + 2 + wt [82]) + 3 * n + 1 ≤ wt w1 + (a + 2 + wt [82]) + 3 * (n + 1) + 3
            omega
  | @B w m hw =>
    rcases hc with rfl | rfl | rfl
    · cases m with
      | zero =>
        cases hw with
        | nil => exact ⟨[] ++ rn 0, _, lead_TRT.cast rfl rfl, .A 0 .nil, by decide⟩
        | @snoc w1 a h1 =>
          cases a with
          | zero =>
            refine ⟨w1 ++ ([84, 82] ++ List.replicate 0 85), _, (lead_TRTRT (w1 ++ [84])).cast ?_ (by simp), .B 0 h1, ?_⟩
            · simp [List.replicate]
            · rw [wt_app, wt_app, wt_app, wt_app, wt_app, wt_app, wt_T, wt_U, otr, o2]
              omega
          | succ a =>
            refine ⟨(w1 ++ (List.replicate (a + 2) 84 ++ [82])) ++ rn 0, _, (lead_TRTRT (w1 ++ List.replicate (a + 2) 84)).cast ?_ ?_, .A 0 (.snoc a h1), ?_⟩
            · rw [show a + 1 + 2 = (a + 2) + 1 by omega, ← rep_snoc (a + 2) 84]
              simp
            · show _ = _ ++ []
              simp
            · rw [wt_app, wt_app, wt_app, wt_app, wt_app, wt_app, wt_app, wt_T, wt_T, wt_U, otr, o2]
              show wt w1 + (a + 2 + 1) + 0 ≤ _
              omega
      | succ m =>
        refine ⟨w ++ ([84, 82] ++ List.replicate m 85), _, (lead_UT (w ++ ([84, 82] ++ List.replicate m 85))).cast ?_ rfl, .B m hw, ?_⟩
        · rw [← rep_snoc]
          simp
        · rw [wt_app, wt_app, wt_app, wt_app, wt_U, wt_U]
          omega
    · refine ⟨w ++ ([84, 82] ++ List.replicate (m + 1) 85), [], (Lead.refl _).cast rfl ?_, .B (m + 1) hw, ?_⟩
      · rw [← rep_snoc]
        simp
      · rw [wt_app, wt_app, wt_app, wt_app, wt_U, wt_U]
        omega
    · obtain ⟨ms, w', h', l, e⟩ := goes_turn hw m
      refine ⟨w' ++ rn 1, ms, l, .A 1 h', ?_⟩
      rw [wt_app, wt_app, wt_app, wt_U, e, otr]
      show wt w + 3 * m + 1 ≤ _
      omega
  | C =>
    rcases hc with rfl | rfl | rfl
    · exact ⟨[82], _, lead_RT, .C, by decide⟩
    · exact ⟨[82], _, lead_RU, .C, by decide⟩
    · exact ⟨[] ++ rn 0, _, (lead_RR []).cast rfl rfl, .A 0 .nil, by decide⟩
/-! ### the end: a dance of the standard form -/
def Form (x : List Nat) : Prop := x = [82] ∨ ∃ (r : List Int) (b : Int), (∀ y ∈ r, 2 ≤ y) ∧ x = joinL [82] ((r ++ [b]).map rn)
theorem pf_join {w : List Nat} (h : Pf w) : ∃ r : List Int, (∀ y ∈ r, 2 ≤ y) ∧ ∀ b : Int, w ++ rn b = joinL [82] ((r ++ [b]).map rn) := by
  induction h with
  | nil => exact ⟨[], fun y h => (by cases h), fun b => rfl⟩
  | @snoc w a hw ih =>
    obtain ⟨r, h2, e⟩ := ih
    refine ⟨r ++ [((a + 2 : Nat) : Int)], fun y hy => ?_, fun b => ?_⟩
    · rcases List.mem_append.mp hy with hy | hy
      · exact h2 y hy
      · rw [List.mem_singleton.mp hy]
        omega
    · rw [List.map_append, List.map_singleton, joinL_snoc [82] _ (fun z => by simp at z), ← e, rn_nat]
      simp
theorem ends_B : ∀ {w : List Nat}, Pf w → ∀ m : Nat, ∃ ms w' b, Pf w' ∧ Lead (w ++ ([84, 82] ++ List.replicate m 85)) ms (w' ++ rn b) ∧ wt (w' ++ rn b) ≤ wt (w ++ ([84, 82] ++ List.replicate m 85)) + 1 := by
  have o2 : wt [82] = 1 := rfl
  have otr : wt [84, 82] = 2 := rfl
  intro w h
  induction h with
  | nil =>
    intro m
    refine ⟨_, [], -((m + 1 : Nat) : Int), .nil, (lead_finish0.more (List.replicate m 85)).cast (by simp) ?_, ?_⟩
    · rw [rn_neg, List.replicate_succ]
      rfl
    · rw [rn_neg, wt_app, wt_app, wt_app, wt_U, wt_U, otr]
      omega
  | @snoc w a hw ih =>
    intro m
    have l0 : Lead (w ++ (List.replicate (a + 2) 84 ++ [82]) ++ ([84, 82] ++ List.replicate m 85)) [⟨(((w ++ List.replicate (a + 1) 84) ++ [84, 82, 84, 82]).length : Int), [], [84, 85]⟩, ⟨(((w ++ List.replicate (a + 1) 84) ++ [84, 82, 84, 82, 84]).length : Int), [], [82, 82]⟩, ⟨((w ++ List.replicate (a + 1) 84).length : Int), [84, 82, 84, 82, 84, 82], []⟩] (w ++ (List.replicate (a + 1) 84 ++ [82]) ++ List.replicate (m + 1) 85) := by
      refine ((lead_finish (w ++ List.replicate (a + 1) 84)).more (List.replicate m 85)).cast ?_ ?_
      · rw [show a + 2 = (a + 1) + 1 by omega, ← rep_snoc (a + 1) 84]
        simp
      · rw [show List.replicate (m + 1) 85 = 85 :: List.replicate m 85 from List.replicate_succ]
        simp
    cases a with
    | zero =>
      obtain ⟨ms, w', b, h', l, e⟩ := ih (m + 1)
      refine ⟨_, w', b, h', Lead.trans (l0.cast rfl ?_) l, Nat.le_trans e ?_⟩
      · simp
      · rw [wt_app, wt_app, wt_app, wt_app, wt_app, wt_app, wt_T, wt_U, wt_U, otr, o2]
        omega
    | succ a =>
      refine ⟨_, w ++ (List.replicate (a + 2) 84 ++ [82]), -((m + 1 : Nat) : Int), .snoc a hw, l0.cast rfl (by rw [rn_neg]), ?_⟩
      rw [rn_neg, wt_app, wt_app, wt_app, wt_app, wt_app, wt_app, wt_app, wt_T, wt_T, wt_U, wt_U, otr, o2]
      omega
theorem ends {x : List Nat} (h : Fst x) : ∃ ms x', Lead x ms x' ∧ Form x' ∧ wt x' ≤ wt x + 1 := by
  have form : ∀ {w : List Nat} (b : Int), Pf w → Form (w ++ rn b) := fun b hw => by
    obtain ⟨r, h2, e⟩ := pf_join hw
    exact .inr ⟨r, b, h2, e b⟩
  cases h with
  | A b hw => exact ⟨[], _, Lead.refl _, form b hw, by omega⟩
  | B m hw =>
    obtain ⟨ms, w', b, h', l, e⟩ := ends_B hw m
    exact ⟨ms, _, l, form b h', e⟩
  | C => exact ⟨[], _, Lead.refl _, .inl rfl, by omega⟩
theorem leads_all : ∀ (l : List Nat), (∀ c ∈ l, c = 84 ∨ c = 85 ∨ c = 82) → ∀ {x : List Nat}, Fst x → ∃ ms x', Lead (x ++ l) ms x' ∧ Fst x' ∧ wt x' ≤ wt x + 3 * l.length
  | [], _, x, h => ⟨[], x, (Lead.refl _).cast (by simp) rfl, h, by simp⟩
  | c :: r, hl, x, h => by
    obtain ⟨x1, ms, l1, h1, e1⟩ := goes h (hl c List.mem_cons_self)
    obtain ⟨ns, x2, l2, h2, e2⟩ := leads_all r (fun d hd => hl d (List.mem_cons_of_mem _ hd)) h1
    refine ⟨_, x2, Lead.trans ((l1.more r).cast (by simp) rfl) l2, h2, ?_⟩
    rw [List.length_cons]
    omega
theorem form_is {x : List Nat} (h : Form x) : stv (run (0, 1) x) = x := by
  rcases h with rfl | ⟨r, b, h2, rfl⟩
  · rfl
  · exact form_std h2
/-- each dance is led to the standard dance of its number, whose length is at most three for each letter and one more -/
theorem leads_std {l : List Nat} (hl : ∀ c ∈ l, c = 84 ∨ c = 85 ∨ c = 82) : ∃ ms, Lead l ms (stv (run (0, 1) l)) ∧ (stv (run (0, 1) l)).length ≤ 3 * l.length + 1 := by
  obtain ⟨ms, x, l1, h1, e1⟩ := leads_all l hl (x := [] ++ rn 0) (.A 0 .nil)
  obtain ⟨ns, y, l2, h2, e2⟩ := ends h1
  have L := Lead.trans (l1.cast (show ([] ++ rn 0) ++ l = l from rfl) rfl) l2
  have e := form_is h2
  rw [L.num] at e
  rw [e]
  refine ⟨_, L, ?_⟩
  have : wt ([] ++ rn 0) = 0 := rfl
  have : y.length ≤ wt y := by unfold wt; omega
  omega
end
/-! ### the four ends -/
inductive End where
  | nw | ne | sw | se
  deriving DecidableEq
namespace End
def nm : End → Str
  | nw => "nw"
  | ne => "ne"
  | sw => "sw"
  | se => "se"
theorem nm_inj : ∀ {a b : End}, nm a = nm b → a = b := by
  intro a b e
  cases a <;> cases b <;> first | rfl | exact absurd e (by decide +kernel)
/-- where a letter moves what lies at an end -/
def mturn : End → End
  | sw => nw
  | nw => ne
  | ne => se
  | se => sw
def mswap : End → End
  | nw => nw
  | ne => se
  | sw => sw
  | se => ne
def mv (c : Nat) (e : End) : End := if c = 82 then mturn e else mswap e
theorem mv_inj (c : Nat) {a b : End} (h : mv c a = mv c b) : a = b := by
  unfold mv at h
  split at h <;> cases a <;> cases b <;> first | rfl | cases h
def mate : End → End
  | nw => ne
  | ne => nw
  | sw => se
  | se => sw
def pos (l : List Nat) (e : End) : End := l.foldl (fun x c => mv c x) e
theorem pos_take {l : List Nat} {i c : Nat} (e : End) (h : l[i]? = some c) : pos (l.take (i + 1)) e = mv c (pos (l.take i) e) := by
  unfold pos
  rw [List.take_add_one, h, List.foldl_append]
  rfl
theorem pos_inj : ∀ (l : List Nat) {a b : End}, pos l a = pos l b → a = b
  | [], _, _, h => h
  | c :: r, _, _, h => mv_inj c (pos_inj r h)
/-- the partner of nw -/
def pturn : End → End
  | nw => nw
  | ne => sw
  | sw => ne
  | se => se
def pswap : End → End
  | nw => nw
  | ne => se
  | sw => sw
  | se => ne
def pstep (c : Nat) (p : End) : End := if c = 82 then pturn p else pswap p
theorem pstep_R (p : End) : pstep 82 p = pturn p := if_pos rfl
theorem pstep_X {c : Nat} (h : ¬ c = 82) (p : End) : pstep c p = pswap p := if_neg h
def pn (l : List Nat) : End := l.foldl (fun p c => pstep c p) ne
theorem pn_take {l : List Nat} {i c : Nat} (h : l[i]? = some c) : pn (l.take (i + 1)) = pstep c (pn (l.take i)) := by
  unfold pn
  rw [List.take_add_one, h, List.foldl_append]
  rfl
/-- the joining in which nw has the partner p -/
def jsw : End → End
  | nw => sw
  | sw => nw
  | ne => se
  | se => ne
def jse : End → End
  | nw => se
  | se => nw
  | ne => sw
  | sw => ne
def jn : End → End → End
  | ne => mate
  | sw => jsw
  | se => jse
  | nw => jse
theorem jn_step (c : Nat) (p e : End) (h : p ≠ nw) : mv c (jn p e) = jn (pstep c p) (mv c e) := by
  unfold mv pstep
  by_cases hc : c = 82
  · simp only [if_pos hc]
    cases p <;> cases e <;> first | rfl | exact absurd rfl h
  · simp only [if_neg hc]
    cases p <;> cases e <;> first | rfl | exact absurd rfl h
theorem pstep_ne (c : Nat) {p : End} (h : p ≠ nw) : pstep c p ≠ nw := by
  unfold pstep
  by_cases hc : c = 82
  · simp only [if_pos hc]
    cases p <;> first | exact absurd rfl h | (intro z; cases z)
  · simp only [if_neg hc]
    cases p <;> first | exact absurd rfl h | (intro z; cases z)
theorem foldl_snoc {α β : Type} (f : α → β → α) (a : α) (l : List β) (b : β) : (l ++ [b]).foldl f a = f (l.foldl f a) b := by rw [List.foldl_append]; rfl
theorem both (l : List Nat) : pn l ≠ nw ∧ ∀ e, pos l (mate e) = jn (pn l) (pos l e) := by
  suffices h : ∀ n, ∀ l : List Nat, l.length = n → pn l ≠ nw ∧ ∀ e, pos l (mate e) = jn (pn l) (pos l e) from h _ l rfl
  intro n
  induction n with
  | zero =>
    intro l hl
    cases List.eq_nil_of_length_eq_zero hl
    exact ⟨(by intro z; cases z), fun e => rfl⟩
  | succ n ih =>
    intro l hl
    have hne : l ≠ [] := fun z => by rw [z] at hl; cases hl
    obtain ⟨r, c, rfl⟩ : ∃ r c, l = r ++ [c] := ⟨l.dropLast, l.getLast hne, (List.dropLast_concat_getLast hne).symm⟩
    have hr : r.length = n := by rw [List.length_append, List.length_singleton] at hl; omega
    obtain ⟨h1, h2⟩ := ih r hr
    have e1 : pn (r ++ [c]) = pstep c (pn r) := foldl_snoc _ _ _ _
    have e2 : ∀ e, pos (r ++ [c]) e = mv c (pos r e) := fun e => foldl_snoc _ _ _ _
    rw [e1]
    exact ⟨pstep_ne c h1, fun e => by rw [e2, e2, h2, jn_step c _ _ h1]⟩
/-- the ropes' numbers at nw, ne, sw, se, where nw has the partner p -/
def Rp (a b c d : Int) (p : End) : Prop := match p with
  | ne => a = b ∧ c = d ∧ a ≠ c
  | sw => a = c ∧ b = d ∧ a ≠ b
  | se => a = d ∧ b = c ∧ a ≠ b
  | nw => False
theorem Rp.turn {a b c d : Int} {p : End} (h : Rp a b c d p) : Rp c a d b (pstep 82 p) := by
  rw [pstep_R]
  cases p <;> simp only [Rp, pturn] at * <;> first | exact h | omega
theorem Rp.swap {a b c d : Int} {p : End} {x : Nat} (hx : ¬ x = 82) (h : Rp a b c d p) : Rp a d c b (pstep x p) := by
  rw [pstep_X hx]
  cases p <;> simp only [Rp, pswap] at * <;> first | exact h | omega
theorem Rp.mine {a b c d : Int} {p : End} (h : Rp a b c d p) : (b = a ↔ p = ne) ∧ (c = a ↔ p = sw) := by
  cases p <;> simp only [Rp] at h
  · obtain ⟨h1, h2, h3⟩ := h
    exact ⟨⟨fun _ => rfl, fun _ => h1.symm⟩, ⟨fun z => absurd z.symm h3, fun z => by cases z⟩⟩
  · obtain ⟨h1, h2, h3⟩ := h
    exact ⟨⟨fun z => absurd z.symm h3, fun z => by cases z⟩, ⟨fun _ => rfl, fun _ => h1.symm⟩⟩
  · obtain ⟨h1, h2, h3⟩ := h
    exact ⟨⟨fun z => absurd z.symm h3, fun z => by cases z⟩, ⟨fun z => absurd (z.symm.trans h2.symm) h3, fun z => by cases z⟩⟩
/-- the parities of the number -/
def Par (v : Int × Int) (p : End) : Prop := match p with
  | ne => v.1 % 2 = 0 ∧ v.2 % 2 = 1
  | sw => v.1 % 2 = 1 ∧ v.2 % 2 = 0
  | se => v.1 % 2 = 1 ∧ v.2 % 2 = 1
  | nw => False
theorem Par.step {v : Int × Int} {p : End} {c : Nat} (hc : c = 84 ∨ c = 85 ∨ c = 82) (h : Par v p) : Par (called v c) (pstep c p) := by
  obtain ⟨x, y⟩ := v
  rcases hc with rfl | rfl | rfl
  · rw [pstep_X (by decide), show called (x, y) 84 = (x + y, y) from rfl]
    cases p <;> simp only [Par, pswap] at * <;> omega
  · rw [pstep_X (by decide), show called (x, y) 85 = (x - y, y) from rfl]
    cases p <;> simp only [Par, pswap] at * <;> omega
  · rw [pstep_R]
    unfold called
    rw [if_neg (by decide), if_neg (by decide)]
    by_cases h1 : 0 < x
    · rw [if_pos (show 0 < (x, y).1 from h1)]
      cases p <;> simp only [Par, pturn] at * <;> omega
    · rw [if_neg (show ¬ 0 < (x, y).1 from h1)]
      by_cases h2 : x < 0
      · rw [if_pos (show (x, y).1 < 0 from h2)]
        cases p <;> simp only [Par, pturn] at * <;> omega
      · rw [if_neg (show ¬ (x, y).1 < 0 from h2)]
        have h3 : x = 0 := by omega
        subst h3
        cases p <;> simp only [Par, pturn] at * <;> omega
theorem par_run (l : List Nat) (hl : Lets l) : Par (run (0, 1) l) (pn l) := by
  suffices h : ∀ i, i ≤ l.length → Par (run (0, 1) (l.take i)) (pn (l.take i)) by
    have := h l.length (Nat.le_refl _)
    rwa [List.take_of_length_le (Nat.le_refl _)] at this
  intro i
  induction i with
  | zero => intro _; exact ⟨by show (0 : Int) % 2 = 0; decide, by show (1 : Int) % 2 = 1; decide⟩
  | succ i ih =>
    intro hi
    have h1 : i < l.length := hi
    rw [run_take _ (List.getElem?_eq_getElem h1), pn_take (List.getElem?_eq_getElem h1)]
    exact (ih (Nat.le_of_lt h1)).step (hl _ (List.getElem_mem h1))
/-! the closed ropes, as the law counts them -/
def walk (J td : End → End) : Nat → List End × End → List End × End
  | 0, s => s
  | n + 1, s => walk J td n (s.1 ++ [s.2, J s.2], td (J s.2))
def goesE (J td : End → End) (s : List End × Nat) (e : End) : List End × Nat := if s.1.contains e then s else ((walk J td 4 (s.1, e)).1, s.2 + 1)
def all4 : List End := [nw, ne, sw, se]
def count (J td : End → End) : Nat := (all4.foldl (goesE J td) ([], 0)).2
/-- the ends that a way ties -/
def tie (down : Bool) : End → End := if down then jn sw else mate
theorem count_is (p : End) (h : p ≠ nw) (down : Bool) : count (jn p) (tie down) = if p = tie down nw then 2 else 1 := by
  cases p <;> cases down <;> first | decide | exact absurd rfl h
end End
/-! ### the quotients of a fraction and the number of its steps -/
def QL (p q : Nat) : List Nat := if h : q = 0 then [] else p / q :: QL q (p % q)
termination_by q
decreasing_by exact Nat.mod_lt _ (Nat.pos_of_ne_zero h)
theorem QL_zero (p : Nat) : QL p 0 = [] := by rw [QL]; exact dif_pos rfl
theorem QL_step {p q : Nat} (h : 0 < q) : QL p q = p / q :: QL q (p % q) := by
  conv => lhs; rw [QL]
  exact dif_neg (by omega)
/-- the sum of the quotients and their number -/
def EQ (p q : Nat) : Nat := (QL p q).sum + (QL p q).length
theorem EQ_zero (p : Nat) : EQ p 0 = 0 := by unfold EQ; rw [QL_zero]; rfl
theorem EQ_step {p q : Nat} (h : 0 < q) : EQ p q = p / q + 1 + EQ q (p % q) := by
  unfold EQ
  rw [QL_step h, List.sum_cons, List.length_cons]
  omega
theorem EQ_pos {p q : Nat} (h : 0 < q) : 1 ≤ EQ p q := by
  rw [EQ_step h]
  exact Nat.le_trans (Nat.le_add_left 1 (p / q)) (Nat.le_add_right _ _)
theorem EQ_add {p q : Nat} (h : 0 < q) : EQ (p + q) q = EQ p q + 1 := by
  rw [EQ_step h, EQ_step h, Nat.add_div_right _ h, Nat.add_mod_right]
  omega
theorem EQ_swap {p q : Nat} (h : p < q) : EQ p q = 1 + EQ q p := by
  rw [EQ_step (by omega), Nat.div_eq_of_lt h, Nat.mod_eq_of_lt h]
theorem EQ_half {p q : Nat} (h0 : 0 < p) (h : 2 * p < q) : EQ (q - p) q = EQ p q + 1 := by
  have e : EQ (q - p) q = 1 + EQ q (q - p) := EQ_swap (by omega)
  have e1 : EQ q (q - p) = EQ p (q - p) + 1 := by
    have := EQ_add (p := p) (q := q - p) (by omega)
    rw [show p + (q - p) = q by omega] at this
    exact this
  have e2 : EQ p (q - p) = 1 + EQ (q - p) p := EQ_swap (by omega)
  have e3 : EQ p q = 1 + EQ q p := EQ_swap (by omega)
  have e4 : EQ q p = EQ (q - p) p + 1 := by
    have := EQ_add (p := q - p) (q := p) h0
    rw [show q - p + p = q by omega] at this
    exact this
  omega
theorem EQ_sub {p q : Nat} (h0 : 0 < p) (h : p < q) : EQ (q - p) q = EQ p q + 1 ∨ EQ p q = EQ (q - p) q + 1 ∨ EQ (q - p) q = EQ p q := by
  rcases Nat.lt_trichotomy (2 * p) q with c | c | c
  · exact .inl (EQ_half h0 c)
  · exact .inr (.inr (by rw [show q - p = p by omega]))
  · have := EQ_half (p := q - p) (q := q) (by omega) (by omega)
    rw [show q - (q - p) = p by omega] at this
    exact .inr (.inl this)
/-- the steps of a fraction -/
def stp (v : Int × Int) : Nat := if v.2 = 0 then 1 else EQ v.1.natAbs v.2.natAbs - 1
theorem stp_inf {p : Int} : stp (p, 0) = 1 := if_pos rfl
theorem stp_fin {p q : Int} (h : 0 < q) : stp (p, q) + 1 = EQ p.natAbs q.natAbs := by
  unfold stp
  rw [if_neg (show ¬ (p, q).2 = 0 by show ¬ q = 0; omega)]
  have := EQ_pos (p := p.natAbs) (q := q.natAbs) (by omega)
  show EQ p.natAbs q.natAbs - 1 + 1 = _
  omega
theorem stp_zero : stp (0, 1) = 0 := by
  have := stp_fin (p := 0) (q := 1) (by decide)
  rw [EQ_step (by decide)] at this
  have e : (0 : Int).natAbs % (1 : Int).natAbs = 0 := rfl
  rw [e, EQ_zero] at this
  have : (0 : Int).natAbs / (1 : Int).natAbs = 0 := rfl
  omega
theorem stp_neg (p q : Int) : stp (-p, q) = stp (p, q) := by
  unfold stp
  rw [Int.natAbs_neg]
theorem EQ_one {p q : Nat} (h : 0 < q) (e : EQ p q = 1) : p = 0 := by
  rw [EQ_step h] at e
  generalize hd : p / q = d at e
  have e1 : EQ q (p % q) = 0 := by omega
  have e2 : p / q = 0 := by omega
  have e3 : p % q = 0 := Decidable.byContradiction fun z => by
    have := EQ_pos (p := q) (q := p % q) (by omega)
    omega
  have := Nat.div_add_mod p q
  rw [e2, e3] at this
  omega
theorem stp_eq_zero {v : Int × Int} (g : Good v) (e : stp v = 0) : v = (0, 1) := by
  obtain ⟨p, q⟩ := v
  obtain ⟨h1, h2⟩ := g
  rcases h1 with h1 | h1
  · have h1' : 0 < q := h1
    have := stp_fin (p := p) h1'
    rw [e] at this
    have z := EQ_one (by omega) this.symm
    have hp : p = 0 := Int.natAbs_eq_zero.mp z
    subst hp
    have h2' : Int.gcd 0 q = 1 := h2
    rw [Int.gcd_zero_left] at h2'
    have : q = 1 := by omega
    rw [this]
  · cases h1
    rw [stp_inf] at e
    cases e
theorem stp_twist {p q : Int} : stp (p + q, q) ≤ stp (p, q) + 1 ∧ stp (p, q) ≤ stp (p + q, q) + 1 := by
  by_cases hq : 0 < q
  · have a := stp_fin (p := p) hq
    have b := stp_fin (p := p + q) hq
    rcases Int.lt_or_le p 0 with c | c
    · rcases Int.lt_or_le (-q) p with d | d
      · have e : (p + q).natAbs = q.natAbs - p.natAbs := by omega
        rw [e] at b
        have := EQ_sub (p := p.natAbs) (q := q.natAbs) (by omega) (by omega)
        omega
      · have e : p.natAbs = (p + q).natAbs + q.natAbs := by omega
        rw [e, EQ_add (by omega)] at a
        omega
    · have e : (p + q).natAbs = p.natAbs + q.natAbs := by omega
      rw [e, EQ_add (by omega)] at b
      omega
  · rcases Int.lt_or_le q 0 with c | c
    · have a : stp (p, q) = EQ p.natAbs q.natAbs - 1 := if_neg (show ¬ q = 0 by omega)
      have b : stp (p + q, q) = EQ (p + q).natAbs q.natAbs - 1 := if_neg (show ¬ q = 0 by omega)
      have a1 := EQ_pos (p := p.natAbs) (q := q.natAbs) (by omega)
      have b1 := EQ_pos (p := (p + q).natAbs) (q := q.natAbs) (by omega)
      rcases Int.lt_or_le 0 p with e | e
      · rcases Int.lt_or_le p (-q) with d | d
        · have e : (p + q).natAbs = q.natAbs - p.natAbs := by omega
          rw [e] at b b1
          have := EQ_sub (p := p.natAbs) (q := q.natAbs) (by omega) (by omega)
          omega
        · have e : p.natAbs = (p + q).natAbs + q.natAbs := by omega
          rw [e, EQ_add (by omega)] at a a1
          omega
      · have e : (p + q).natAbs = p.natAbs + q.natAbs := by omega
        rw [e, EQ_add (by omega)] at b b1
        omega
    · have : q = 0 := by omega
      subst this
      rw [stp_inf, stp_inf]
      omega
theorem EQ_turn {p q : Nat} (hp : 0 < p) (hq : 0 < q) : EQ q p = EQ p q + 1 ∨ EQ p q = EQ q p + 1 ∨ EQ p q = EQ q p := by
  rcases Nat.lt_trichotomy p q with c | c | c
  · exact .inr (.inl (by rw [EQ_swap c]; omega))
  · subst c; exact .inr (.inr rfl)
  · exact .inl (by rw [EQ_swap c]; omega)
/-- along each call the steps change by at most one -/
theorem stp_near {v : Int × Int} (g : Good v) (c : Nat) : stp (called v c) ≤ stp v + 1 ∧ stp v ≤ stp (called v c) + 1 := by
  obtain ⟨p, q⟩ := v
  unfold called
  by_cases c1 : c = 84
  · rw [if_pos c1]; exact stp_twist
  rw [if_neg c1]
  by_cases c2 : c = 85
  · rw [if_pos c2]
    have := stp_twist (p := p - q) (q := q)
    rw [Int.sub_add_cancel] at this
    exact ⟨this.2, this.1⟩
  rw [if_neg c2]
  have hq : 0 < q ∨ (p = 1 ∧ q = 0) := by
    rcases g.1 with h | h
    · exact .inl h
    · cases h; exact .inr ⟨rfl, rfl⟩
  by_cases c3 : 0 < p
  · rw [if_pos (show 0 < (p, q).1 from c3)]
    show stp (0 - q, p) ≤ stp (p, q) + 1 ∧ stp (p, q) ≤ stp (0 - q, p) + 1
    have b := stp_fin (p := 0 - q) c3
    rw [show (0 - q).natAbs = q.natAbs by omega] at b
    rcases hq with h | ⟨rfl, rfl⟩
    · have a := stp_fin (p := p) h
      have := EQ_turn (p := p.natAbs) (q := q.natAbs) (by omega) (by omega)
      omega
    · rw [stp_inf]
      rw [EQ_step (by decide)] at b
      have e : (0 : Int).natAbs % (1 : Int).natAbs = 0 := rfl
      rw [e, EQ_zero] at b
      have : (0 : Int).natAbs / (1 : Int).natAbs = 0 := rfl
      omega
  rw [if_neg (show ¬ 0 < (p, q).1 from c3)]
  by_cases c4 : p < 0
  · rw [if_pos (show (p, q).1 < 0 from c4)]
    show stp (q, 0 - p) ≤ stp (p, q) + 1 ∧ stp (p, q) ≤ stp (q, 0 - p) + 1
    have b := stp_fin (p := q) (q := 0 - p) (by omega)
    rw [show (0 - p).natAbs = p.natAbs by omega] at b
    rcases hq with h | ⟨rfl, rfl⟩
    · have a := stp_fin (p := p) h
      have := EQ_turn (p := p.natAbs) (q := q.natAbs) (by omega) (by omega)
      omega
    · omega
  rw [if_neg (show ¬ (p, q).1 < 0 from c4)]
  have hp : p = 0 := by omega
  subst hp
  have z : (0, q) = ((0, 1) : Int × Int) := by
    rcases hq with h | ⟨h, _⟩
    · have h2 : Int.gcd 0 q = 1 := g.2
      rw [Int.gcd_zero_left] at h2
      rw [show q = 1 by omega]
    · cases h
  rw [z, stp_zero, stp_inf]
  omega
/-- for each fraction but 0 one of the calls makes the steps less by one -/
theorem stp_down {v : Int × Int} (g : Good v) (n : v ≠ (0, 1)) : ∃ c, (c = 84 ∨ c = 85 ∨ c = 82) ∧ stp (called v c) + 1 = stp v := by
  obtain ⟨p, q⟩ := v
  have hq : 0 < q ∨ (p = 1 ∧ q = 0) := by
    rcases g.1 with h | h
    · exact .inl h
    · cases h; exact .inr ⟨rfl, rfl⟩
  rcases hq with h | ⟨rfl, rfl⟩
  · have a := stp_fin (p := p) h
    rcases Int.lt_or_le (-q) p with d | d
    · rcases Int.lt_or_le p q with e | e
      · have p0 : p ≠ 0 := fun z => by
          subst z
          have h2 : Int.gcd 0 q = 1 := g.2
          rw [Int.gcd_zero_left] at h2
          exact n (by rw [show q = 1 by omega])
        refine ⟨82, .inr (.inr rfl), ?_⟩
        rw [EQ_swap (show p.natAbs < q.natAbs by omega)] at a
        by_cases c3 : 0 < p
        · have e1 : called (p, q) 82 = (0 - q, p) := by
            unfold called
            rw [if_neg (by decide), if_neg (by decide), if_pos (show 0 < (p, q).1 from c3)]
          rw [e1]
          have b := stp_fin (p := 0 - q) c3
          rw [show (0 - q).natAbs = q.natAbs by omega] at b
          omega
        · have c4 : p < 0 := by omega
          have e1 : called (p, q) 82 = (q, 0 - p) := by
            unfold called
            rw [if_neg (by decide), if_neg (by decide), if_neg (show ¬ 0 < (p, q).1 from c3), if_pos (show (p, q).1 < 0 from c4)]
          rw [e1]
          have b := stp_fin (p := q) (q := 0 - p) (by omega)
          rw [show (0 - p).natAbs = p.natAbs by omega] at b
          omega
      · refine ⟨85, .inr (.inl rfl), ?_⟩
        have e1 : called (p, q) 85 = (p - q, q) := rfl
        rw [e1]
        have b := stp_fin (p := p - q) h
        have e2 : p.natAbs = (p - q).natAbs + q.natAbs := by omega
        rw [e2, EQ_add (by omega)] at a
        omega
    · refine ⟨84, .inl rfl, ?_⟩
      have e1 : called (p, q) 84 = (p + q, q) := rfl
      rw [e1]
      have b := stp_fin (p := p + q) h
      have e2 : p.natAbs = (p + q).natAbs + q.natAbs := by omega
      rw [e2, EQ_add (by omega)] at a
      omega
  · refine ⟨82, .inr (.inr rfl), ?_⟩
    have e1 : called (1, 0) 82 = (0, 1) := rfl
    rw [e1, stp_zero, stp_inf]
theorem stp_run : ∀ (l : List Nat) {v : Int × Int}, Good v → stp (run v l) ≤ stp v + l.length
  | [], _, _ => Nat.le_refl _
  | c :: l, v, g => by
    have a := stp_run l (g.called c)
    have b := (stp_near g c).1
    show stp (run (called v c) l) ≤ _
    rw [List.length_cons]
    omega
/-- the quotients that the program has -/
def quo (v : Int × Int) : List Nat := if v.2 = 0 then [0, 0] else QL v.1.natAbs v.2.natAbs
theorem quo_stp {v : Int × Int} (g : Good v) : (quo v).sum + (quo v).length = stp v + 1 := by
  unfold quo
  by_cases h : v.2 = 0
  · rw [if_pos h]
    unfold stp
    rw [if_pos h]
    rfl
  · rw [if_neg h]
    have h0 : 0 < v.2 := by
      rcases g.1 with h1 | h1
      · exact h1
      · rw [h1] at h; exact absurd rfl h
    exact (stp_fin (p := v.1) h0).symm
theorem QL_len : ∀ (n p q : Nat), q < 2 ^ n → (QL p q).length ≤ 2 * n
  | 0, p, q, h => by
    have : q = 0 := by omega
    subst this
    rw [QL_zero]
    exact Nat.le_refl _
  | n + 1, p, q, h => by
    by_cases q0 : 0 < q
    · rw [QL_step q0, List.length_cons]
      by_cases r0 : 0 < p % q
      · rw [QL_step r0, List.length_cons]
        have l1 := Nat.mod_lt p q0
        have l2 := Nat.mod_lt q r0
        have l3 : q % (p % q) + p % q ≤ q := by
          have e := Nat.div_add_mod q (p % q)
          have : 1 ≤ q / (p % q) := Nat.div_pos (Nat.le_of_lt l1) r0
          have : p % q * 1 ≤ p % q * (q / (p % q)) := Nat.mul_le_mul_left _ this
          omega
        have := QL_len n (p % q) (q % (p % q)) (by rw [Nat.pow_succ] at h; omega)
        omega
      · rw [show p % q = 0 by omega, QL_zero]
        show 0 + 1 ≤ _
        omega
    · rw [show q = 0 by omega, QL_zero]
      exact Nat.zero_le _
theorem quo_len {v : Int × Int} {n : Nat} (h : v.2.natAbs < 2 ^ n) (n0 : 0 < n) : (quo v).length ≤ 2 * n := by
  unfold quo
  split
  · show 2 ≤ _; omega
  · exact QL_len n _ _ h
section
/-! ### the levels of the walk from 0 -/
def inv3 (c : Nat) : Nat := if c = 84 then 85 else if c = 85 then 84 else c
theorem called_inv {v : Int × Int} {c : Nat} (hv : Good v) (hc : c = 84 ∨ c = 85 ∨ c = 82) : called (called v c) (inv3 c) = v := by
  obtain ⟨p, q⟩ := v
  rcases hc with rfl | rfl | rfl
  · show (p + q - q, q) = (p, q)
    rw [Int.add_sub_cancel]
  · show (p - q + q, q) = (p, q)
    rw [Int.sub_add_cancel]
  · have e1 : ∀ u : Int × Int, called u 82 = if 0 < u.1 then (0 - u.2, u.1) else if u.1 < 0 then (u.2, 0 - u.1) else (1, 0) := fun u => rfl
    show called (called (p, q) 82) 82 = (p, q)
    have hq : 0 < q ∨ (p = 1 ∧ q = 0) := by
      rcases hv.1 with h | h
      · exact .inl h
      · cases h; exact .inr ⟨rfl, rfl⟩
    by_cases h1 : 0 < p
    · rw [e1 (p, q), if_pos (show 0 < (p, q).1 from h1), e1]
      rcases hq with hq | ⟨rfl, rfl⟩
      · rw [if_neg (show ¬ 0 < (0 - q, p).1 by show ¬ 0 < 0 - q; omega), if_pos (show (0 - q, p).1 < 0 by show 0 - q < 0; omega)]
        show (p, 0 - (0 - q)) = (p, q)
        rw [show 0 - (0 - q) = q by omega]
      · rfl
    · rw [e1 (p, q), if_neg (show ¬ 0 < (p, q).1 from h1)]
      by_cases h2 : p < 0
      · rw [if_pos (show (p, q).1 < 0 from h2), e1]
        have hq' : 0 < q := by rcases hq with hq | ⟨rfl, rfl⟩; exact hq; omega
        rw [if_pos (show 0 < (q, 0 - p).1 from hq')]
        show (0 - (0 - p), q) = (p, q)
        rw [show 0 - (0 - p) = p by omega]
      · have h3 : p = 0 := by omega
        subst h3
        have h2' : Int.gcd 0 q = 1 := hv.2
        rw [Int.gcd_zero_left] at h2'
        rcases hq with hq | ⟨h, _⟩
        · rw [show q = 1 by omega]; rfl
        · cases h
theorem inv3_mem {c : Nat} (hc : c = 84 ∨ c = 85 ∨ c = 82) : inv3 c = 82 ∨ inv3 c = 84 ∨ inv3 c = 85 := by
  rcases hc with rfl | rfl | rfl
  · exact .inr (.inr rfl)
  · exact .inr (.inl rfl)
  · exact .inl rfl
/-- each fraction but 0 is reached by a call from one with a step less -/
theorem stp_from {v : Int × Int} {n : Nat} (g : Good v) (e : stp v = n + 1) : ∃ (u : Int × Int) (c : Nat), (c = 82 ∨ c = 84 ∨ c = 85) ∧ Good u ∧ stp u = n ∧ called u c = v := by
  have ne : v ≠ (0, 1) := fun z => by rw [z, stp_zero] at e; cases e
  obtain ⟨c, hc, h⟩ := stp_down g ne
  exact ⟨called v c, inv3 c, inv3_mem hc, g.called c, by omega, called_inv g hc⟩
theorem stp_size : ∀ (n : Nat) (v : Int × Int), Good v → stp v = n → v.1.natAbs ≤ 2 ^ n ∧ v.2.natAbs ≤ 2 ^ n
  | 0, v, g, e => by
    rw [stp_eq_zero g e]
    exact ⟨by decide, by decide⟩
  | n + 1, v, g, e => by
    obtain ⟨u, c, _, gu, eu, rfl⟩ := stp_from g e
    have ih := stp_size n u gu eu
    have := called_size ih.1 ih.2 Nat.one_le_two_pow c
    rw [Nat.pow_succ']
    exact this
end
section
variable {P : Program} {w : World} {K : PySem.W.Frag} {mg : Str → Option Value} {base : Heap} {f : Addr} {fd : FuncData}
/-! ### the letters and their opposites -/
def letter (c : Nat) : Bool := c == 84 || c == 85 || c == 82
theorem letter_iff {c : Nat} : letter c = true ↔ (c = 84 ∨ c = 85 ∨ c = 82) := by
  unfold letter
  simp [or_assoc]
def opp (c : Nat) : Nat := if c = 84 then 85 else if c = 85 then 84 else c
def mir (l : List Nat) : List Nat := l.map opp
theorem mir_take {l : List Nat} {i c : Nat} (h : l[i]? = some c) : mir (l.take (i + 1)) = mir (l.take i) ++ [opp c] := by
  unfold mir
  rw [List.take_add_one, h, List.map_append]
  rfl
theorem lets_mir {l : List Nat} (h : Lets l) : Lets (mir l) := fun c hc => by
  obtain ⟨x, hx, rfl⟩ := List.mem_map.mp hc
  rcases h x hx with rfl | rfl | rfl
  · exact .inr (.inl rfl)
  · exact .inl rfl
  · exact .inr (.inr rfl)
/-- the program's table of opposites, at d -/
structure Opp (K : PySem.W.Frag) (w : World) (d : Addr) : Prop where
  dct : ∃ es n, KDict K w d es n
  yes : ∀ c, letter c = true → ∃ u, PySem.W.nsIn K d (S [c]) = some (some u) ∧ RelV (.str (S [opp c])) u
  no : ∀ c, letter c = false → PySem.W.nsIn K d (S [c]) = some none
def spMir : Sp := fun vs H Q _ => ∃ l : List Nat, vs = [.str (S l)] ∧ Lets l ∧ l.length ≤ 1000000 ∧ ∀ H', Same H H' → Q (.str (S (mir l))) H'
theorem ok_mirrored {d : Addr} (F : Fun K "mirrored" "mirrored" s_mirrored f fd) (O : Opp K w d) (gO : mg "OPPOSITES" = some (.ref d)) : FnOk P w K mg base CX0 1 f fd ["dance"] spMir := by
  refine F.ok sc_mirrored (fun vs H Q E h => ?_) (fun cdv A outer s H vs Q E hr h => ?_)
  · obtain ⟨l, rfl, _⟩ := h
    rfl
  obtain ⟨l, rfl, hl, hz, q⟩ := h
  obtain ⟨es, n, D⟩ := O.dct
  refine ⟨_, pss_one (ps_ret (pe_join pe_str (pe_lc (own := [("letter", 1)]) (g := gName 1) (tt := tYes) (by rfl) sc_mirrored.nd (pi_str (pv 0)) (blkOk_by (own := [("letter", 1)]) (N := ["dance", "letter"]) (sc := defScope s_mirrored) (by decide +kernel))
    (fun _ _ _ _ _ => pg_name (i := 1) sc_mirrored.nd rfl (Or.inl rfl)) (fun _ _ _ _ _ => pts_nil) (fun _ _ _ _ _ => pe_ix (r := rIxD K w) ix_kdict (pe_glob (v := .ref d) rfl gO rfl) (pv 1) (fun _ _ => rfl))))), ?_⟩
  refine ⟨⟨_, rfl⟩, _, rfl, _, rfl, fun D' hD => lc_str (l := l) (fun i G => Same H G ∧ G D' = some (.lst ((mir (l.take i)).map fun c => V.str (S [c])))) ⟨same_new hD _, upd_same⟩ ?_ ?_⟩
  · rintro i c G hc ⟨sm, hG⟩
    have hlc := hl c (List.mem_of_getElem? hc)
    obtain ⟨u, hu, ru⟩ := O.yes c (letter_iff.mpr hlc)
    have hi : i < l.length := (List.getElem?_eq_some_iff.mp hc).1
    refine ⟨rfl, ?_⟩
    refine ⟨_, rfl, d, S [c], .str (S [opp c]), rfl, rfl, ⟨es, n, u, D.at_, D.lit, hu, ru⟩, _, hG, ?_, fun b o hb => ?_, ?_⟩
    · rw [List.length_map, mir, List.length_map, List.length_take]
      exact Nat.lt_of_lt_of_le (show min i l.length < 16777216 by omega) sizeLine_big
    · rw [upd_ne (ne_of_none hb hD)]; exact sm _ _ hb
    · rw [upd_same, mir_take hc, List.map_append]
      rfl
  · rintro G ⟨sm, hG⟩
    rw [List.take_of_length_le (Nat.le_refl _)] at hG
    refine ⟨S [], D', (mir l).map fun c => S [c], e_empty ▸ rfl, rfl, .inl (SqL.of ?_), ?_, ?_⟩
    · rw [hG, List.map_map]; rfl
    · rw [sum_ones, S_len, List.length_map, mir, List.length_map]
      show l.length + l.length * 0 ≤ 16777216
      omega
    · rw [join_signs]; exact q G sm
def spBack : Sp := fun vs H Q _ => ∃ l : List Nat, vs = [.str (S l)] ∧ Lets l ∧ l.length ≤ 1000000 ∧ ∀ H', Same H H' → Q (.str (S (mir l.reverse))) H'
theorem ok_backward (F : Fun K "backward" "backward" s_backward f fd) (DM : Dfn P w K mg base "mirrored" 1 ["dance"] spMir) : FnOk P w K mg base CX0 2 f fd ["dance"] spBack := by
  refine F.ok sc_backward (fun vs H Q E h => ?_) (fun cdv A outer s H vs Q E hr h => ?_)
  · obtain ⟨l, rfl, _⟩ := h
    rfl
  obtain ⟨l, rfl, hl, hz, q⟩ := h
  refine ⟨_, pss_one (ps_ret (pe_do DM hr (pa_cons (pe_revS (pv 0)) pa_nil))), ?_⟩
  exact ⟨_, rfl, l, rfl, by omega, l.reverse, rfl, fun c hc => hl c (List.mem_reverse.mp hc), by rw [List.length_reverse]; exact hz, q⟩
end
section
/-! ### backward and mirrored dances, by the numbers -/
theorem Good.zero_one {q : Int} (h : Good (0, q)) : q = 1 := by
  obtain ⟨h1, h2⟩ := h
  rcases h1 with h1 | h1
  · have : Int.gcd 0 q = q.natAbs := Int.gcd_zero_left q
    have h3 : (0 : Int) < q := h1
    have h4 : Int.gcd 0 q = 1 := h2
    omega
  · cases h1
theorem called_opp {v : Int × Int} {c : Nat} (hv : Good v) (hc : c = 84 ∨ c = 85 ∨ c = 82) : called (called v c) (opp c) = v := by
  obtain ⟨p, q⟩ := v
  rcases hc with rfl | rfl | rfl
  · show called (p + q, q) 85 = (p, q)
    show (p + q - q, q) = (p, q)
    rw [Int.add_sub_cancel]
  · show called (p - q, q) 84 = (p, q)
    show (p - q + q, q) = (p, q)
    rw [Int.sub_add_cancel]
  · have e1 : ∀ u : Int × Int, called u 82 = if 0 < u.1 then (0 - u.2, u.1) else if u.1 < 0 then (u.2, 0 - u.1) else (1, 0) := fun u => rfl
    show called (called (p, q) 82) 82 = (p, q)
    have hq : 0 < q ∨ (p = 1 ∧ q = 0) := by
      rcases hv.1 with h | h
      · exact .inl h
      · cases h; exact .inr ⟨rfl, rfl⟩
    by_cases h1 : 0 < p
    · rw [e1 (p, q), if_pos (show 0 < (p, q).1 from h1), e1]
      rcases hq with hq | ⟨rfl, rfl⟩
      · rw [if_neg (show ¬ 0 < (0 - q, p).1 by show ¬ 0 < 0 - q; omega), if_pos (show (0 - q, p).1 < 0 by show 0 - q < 0; omega)]
        show (p, 0 - (0 - q)) = (p, q)
        rw [show 0 - (0 - q) = q by omega]
      · rfl
    · rw [e1 (p, q), if_neg (show ¬ 0 < (p, q).1 from h1)]
      by_cases h2 : p < 0
      · rw [if_pos (show (p, q).1 < 0 from h2), e1]
        have hq' : 0 < q := by rcases hq with hq | ⟨rfl, rfl⟩; exact hq; omega
        rw [if_pos (show 0 < (q, 0 - p).1 from hq')]
        show (0 - (0 - p), q) = (p, q)
        rw [show 0 - (0 - p) = p by omega]
      · have h3 : p = 0 := by omega
        subst h3
        have := hv.zero_one
        subst this
        rfl
theorem run_back : ∀ (l : List Nat) {v : Int × Int}, Good v → Lets l → run (run v l) (mir l.reverse) = v
  | [], v, _, _ => rfl
  | c :: r, v, hv, hl => by
    have hc := hl c (List.mem_cons_self ..)
    have ih := run_back r (v := called v c) (hv.called c) fun x hx => hl x (List.mem_cons_of_mem _ hx)
    have e : mir (c :: r).reverse = mir r.reverse ++ [opp c] := by
      unfold mir
      rw [List.reverse_cons, List.map_append]
      rfl
    show run (run (called v c) r) (mir (c :: r).reverse) = v
    rw [e, run_app, ih]
    exact called_opp hv hc
end
section
open TL (joinL)
/-! ### the runs of the first least dance -/
def swc (c : Nat) : Nat := if c = 84 then 85 else 84
def al : Nat → List Nat → List (Nat × Nat)
  | _, [] => []
  | c, a :: r => (c, a) :: al (swc c) r
theorem al_len : ∀ (c : Nat) (qs : List Nat), (al c qs).length = qs.length
  | _, [] => rfl
  | c, a :: r => by
    show (al (swc c) r).length + 1 = r.length + 1
    rw [al_len (swc c) r]
theorem swc_swc {c : Nat} (h : c = 84 ∨ c = 85) : swc (swc c) = c := by rcases h with rfl | rfl <;> rfl
theorem swc_or {c : Nat} (h : c = 84 ∨ c = 85) : swc c = 84 ∨ swc c = 85 := by rcases h with rfl | rfl <;> decide
theorem al_get : ∀ (qs : List Nat) (c k : Nat), c = 84 ∨ c = 85 → (al c qs)[k]? = qs[k]?.map fun a => (if k % 2 = 0 then c else swc c, a)
  | [], c, k, _ => by simp [al]
  | a :: r, c, 0, _ => rfl
  | a :: r, c, k + 1, h => by
    show (al (swc c) r)[k]? = r[k]?.map _
    rw [al_get r (swc c) k (swc_or h)]
    have e : (if k % 2 = 0 then swc c else swc (swc c)) = if (k + 1) % 2 = 0 then c else swc c := by
      rw [swc_swc h]
      by_cases p : k % 2 = 0
      · rw [if_pos p, if_neg (by omega)]
      · rw [if_neg p, if_pos (by omega)]
    rw [e]
theorem al_or : ∀ (qs : List Nat) (c : Nat), c = 84 ∨ c = 85 → ∀ p ∈ al c qs, p.1 = 84 ∨ p.1 = 85
  | [], _, _, p, hp => by cases hp
  | a :: r, c, h, p, hp => by
    rcases List.mem_cons.mp hp with rfl | hp
    · exact h
    · exact al_or r (swc c) (swc_or h) p hp
def wd (p : Nat × Nat) : List Nat := List.replicate p.2 p.1
/-- the dance that the runs make -/
def dr (c : Nat) (qs : List Nat) : List Nat := joinL [82] ((al c qs).reverse.map wd)
theorem dr_one (c a : Nat) : dr c [a] = List.replicate a c := rfl
theorem dr_cons (c a : Nat) {r : List Nat} (h : r ≠ []) : dr c (a :: r) = dr (swc c) r ++ ([82] ++ List.replicate a c) := by
  unfold dr
  show joinL [82] (((c, a) :: al (swc c) r).reverse.map wd) = _
  rw [List.reverse_cons, List.map_append, List.map_singleton, joinL_snoc [82] _ (fun z => ?_)]
  · rfl
  · have e := congrArg List.length z
    rw [List.length_map, List.length_reverse, al_len] at e
    exact h (List.length_eq_zero_iff.mp e)
theorem dr_lets : ∀ (qs : List Nat) (c : Nat), c = 84 ∨ c = 85 → Lets (dr c qs)
  | [], _, _ => fun x hx => by cases hx
  | a :: [], c, h => fun x hx => by
    rw [List.eq_of_mem_replicate hx]
    omega
  | a :: b :: r, c, h => fun x hx => by
    rw [dr_cons c a (by simp)] at hx
    rcases List.mem_append.mp hx with hx | hx
    · exact dr_lets (b :: r) (swc c) (swc_or h) x hx
    · rcases List.mem_append.mp hx with hx | hx
      · exact .inr (.inr (List.mem_singleton.mp hx))
      · rw [List.eq_of_mem_replicate hx]
        omega
theorem dr_len : ∀ (qs : List Nat) (c : Nat), qs ≠ [] → (dr c qs).length + 1 = qs.sum + qs.length
  | [], _, h => absurd rfl h
  | a :: [], c, _ => by
    rw [dr_one, List.length_replicate]
    simp
  | a :: b :: r, c, _ => by
    have ih := dr_len (b :: r) (swc c) (by simp)
    rw [dr_cons c a (by simp)]
    simp only [List.length_append, List.length_replicate, List.sum_cons, List.length_cons, List.length_nil] at *
    omega
theorem QL_ne {p q : Nat} (h : 0 < q) : QL p q ≠ [] := by rw [QL_step h]; exact List.cons_ne_nil _ _
theorem run_rep84 : ∀ (a : Nat) (p q : Int), run (p, q) (List.replicate a 84) = (p + a * q, q)
  | 0, p, q => by rw [List.replicate_zero, run_nil]; simp
  | a + 1, p, q => by
    rw [List.replicate_succ]
    show run (p + q, q) _ = _
    rw [run_rep84 a (p + q) q]
    have : p + q + (a : Int) * q = p + ((a + 1 : Nat) : Int) * q := by
      rw [Int.natCast_add, Int.add_mul]
      omega
    rw [this]
theorem run_rep85 : ∀ (a : Nat) (p q : Int), run (p, q) (List.replicate a 85) = (p - a * q, q)
  | 0, p, q => by rw [List.replicate_zero, run_nil]; simp
  | a + 1, p, q => by
    rw [List.replicate_succ]
    show run (p - q, q) _ = _
    rw [run_rep85 a (p - q) q]
    have : p - q - (a : Int) * q = p - ((a + 1 : Nat) : Int) * q := by
      rw [Int.natCast_add, Int.add_mul]
      omega
    rw [this]
theorem run_dr : ∀ (n p q : Nat), q ≤ n → 0 < q → Nat.gcd p q = 1 → run (0, 1) (dr 84 (QL p q)) = ((p : Int), (q : Int)) ∧ run (0, 1) (dr 85 (QL p q)) = (-(p : Int), (q : Int))
  | 0, p, q, h, h0, _ => by omega
  | n + 1, p, q, h, h0, g => by
    rw [QL_step h0]
    by_cases r0 : 0 < p % q
    · have g2 : Nat.gcd q (p % q) = 1 := by
        rw [← g, Nat.gcd_comm p q, Nat.gcd_rec q p, Nat.gcd_comm]
      have ih := run_dr n q (p % q) (by have := Nat.mod_lt p h0; omega) r0 g2
      have dm : (p : Int) = ((p % q : Nat) : Int) + ((p / q : Nat) : Int) * (q : Int) := by
        have := Nat.mod_add_div p q
        rw [Nat.mul_comm] at this
        exact_mod_cast this.symm
      have rp : (0 : Int) < ((p % q : Nat) : Int) := by omega
      have qp : (0 : Int) < (q : Int) := by omega
      rw [dr_cons 84 _ (QL_ne r0), dr_cons 85 _ (QL_ne r0), show swc 84 = 85 from rfl, show swc 85 = 84 from rfl, run_app, run_app, run_app, run_app, ih.1, ih.2]
      have e1 : run (-(q : Int), ((p % q : Nat) : Int)) [82] = (((p % q : Nat) : Int), (q : Int)) := by
        show called (-(q : Int), ((p % q : Nat) : Int)) 82 = _
        unfold called
        rw [if_neg (by decide), if_neg (by decide), if_neg (show ¬ (0 : Int) < -(q : Int) by omega), if_pos (show -(q : Int) < 0 by omega)]
        show (((p % q : Nat) : Int), 0 - -(q : Int)) = _
        rw [show 0 - -(q : Int) = (q : Int) by omega]
      have e2 : run ((q : Int), ((p % q : Nat) : Int)) [82] = (-((p % q : Nat) : Int), (q : Int)) := by
        show called ((q : Int), ((p % q : Nat) : Int)) 82 = _
        unfold called
        rw [if_neg (by decide), if_neg (by decide), if_pos (show (0 : Int) < (q : Int) by omega)]
        show (0 - ((p % q : Nat) : Int), (q : Int)) = _
        rw [Int.zero_sub]
      rw [e1, e2, run_rep84, run_rep85, ← dm]
      refine ⟨rfl, ?_⟩
      have : -((p % q : Nat) : Int) - ((p / q : Nat) : Int) * (q : Int) = -(p : Int) := by omega
      rw [this]
    · have e0 : p % q = 0 := by omega
      have eg : Nat.gcd p q = q := by rw [Nat.gcd_comm, Nat.gcd_rec, e0, Nat.gcd_zero_left]
      have q1 : q = 1 := by omega
      subst q1
      rw [e0, QL_zero, dr_one, dr_one, run_rep84, run_rep85]
      rw [Nat.div_one]
      exact ⟨by simp, by simp⟩
/-- the letter of the first quotient -/
def fl (v : Int × Int) : Nat := if v.1 < 0 then 85 else 84
theorem fl_or (v : Int × Int) : fl v = 84 ∨ fl v = 85 := by
  unfold fl
  split
  · exact .inr rfl
  · exact .inl rfl
/-- the first least dance -/
def dl (v : Int × Int) : List Nat := dr (fl v) (quo v)
theorem run_dl {v : Int × Int} (g : Good v) : run (0, 1) (dl v) = v := by
  obtain ⟨p, q⟩ := v
  rcases g.1 with h | h
  · have h0 : 0 < q := h
    have eq0 : quo (p, q) = QL p.natAbs q.natAbs := if_neg (show ¬ q = 0 by omega)
    have := run_dr q.natAbs p.natAbs q.natAbs (Nat.le_refl _) (by omega) g.2
    unfold dl
    rw [eq0]
    unfold fl
    by_cases c : p < 0
    · rw [if_pos (show (p, q).1 < 0 from c), this.2]
      rw [show -((p.natAbs : Nat) : Int) = p by omega, show ((q.natAbs : Nat) : Int) = q by omega]
    · rw [if_neg (show ¬ (p, q).1 < 0 from c), this.1]
      rw [show ((p.natAbs : Nat) : Int) = p by omega, show ((q.natAbs : Nat) : Int) = q by omega]
  · rw [h]
    rfl
theorem quo_ne {v : Int × Int} (g : Good v) : quo v ≠ [] := by
  unfold quo
  split
  · simp
  · rename_i hne
    refine QL_ne ?_
    rcases g.1 with h | h
    · omega
    · rw [h] at hne; exact absurd rfl hne
theorem len_dl {v : Int × Int} (g : Good v) : (dl v).length = stp v := by
  have h1 := dr_len (quo v) (fl v) (quo_ne g)
  have h2 := quo_stp g
  unfold dl
  omega
theorem lets_dl (v : Int × Int) : Lets (dl v) := dr_lets _ _ (fl_or v)
/-- a list of runs in the heap -/
def Rn (H : Hp) (p : Addr) (ps : List (Nat × Nat)) : Prop := ∃ ts : List Addr, H p = some (.lst (ts.map V.ref)) ∧ ts.length = ps.length ∧ ∀ (i : Nat) (t : Addr) (r : Nat × Nat), ts[i]? = some t → ps[i]? = some r → H t = some (.tup [.str (S [r.1]), .int (r.2 : Int)])
theorem Rn.same {H H' : Hp} {p : Addr} {ps : List (Nat × Nat)} (h : Rn H p ps) (s : Same H H') : Rn H' p ps := by
  obtain ⟨ts, h1, h2, h3⟩ := h
  exact ⟨ts, s _ _ h1, h2, fun i t r ht hr => s _ _ (h3 i t r ht hr)⟩
end
section
open TL (joinL)
/-! ### the least dances, by their ranks -/
/-- in how many ways it goes on behind the first of these runs -/
def wy : List Nat → Nat
  | _ :: n1 :: n2 :: r => wy (n1 :: n2 :: r) + (if n1 = 1 then wy (n2 :: r) else 0)
  | _ => 1
theorem wy_three (n0 n1 n2 : Nat) (r : List Nat) : wy (n0 :: n1 :: n2 :: r) = wy (n1 :: n2 :: r) + (if n1 = 1 then wy (n2 :: r) else 0) := by
  conv => lhs; unfold wy
theorem wy_two (n0 n1 : Nat) : wy [n0, n1] = 1 := rfl
theorem wy_one (n0 : Nat) : wy [n0] = 1 := rfl
theorem wy_pos : ∀ ns : List Nat, 1 ≤ wy ns
  | [] => Nat.le_refl _
  | [_] => Nat.le_refl _
  | [_, _] => Nat.le_refl _
  | n0 :: n1 :: n2 :: r => by
    have := wy_pos (n1 :: n2 :: r)
    rw [wy_three]
    omega
theorem wy_else {n0 n1 k : Nat} {r : List Nat} (h : k < wy (n0 :: n1 :: r)) (c : ¬ k < wy (n1 :: r)) : ∃ n2 r', r = n2 :: r' ∧ n1 = 1 ∧ k - wy (n1 :: r) < wy (n2 :: r') := by
  cases r with
  | nil =>
    rw [wy_two] at h
    rw [wy_one] at c
    exact absurd h c
  | cons n2 r' =>
    rw [wy_three] at h
    by_cases e : n1 = 1
    · rw [if_pos e] at h
      exact ⟨n2, r', rfl, e, by omega⟩
    · rw [if_neg e] at h
      omega
def ns_ (R : List (Nat × Nat)) : List Nat := R.map (·.2)
/-- the least dance of the rank k that these runs give -/
def ld : List (Nat × Nat) → Nat → List Nat
  | [], _ => []
  | [r], _ => wd r
  | r :: s :: R, k => wd r ++ (if k < wy (ns_ (s :: R)) then 82 :: ld (s :: R) k else r.1 :: 82 :: r.1 :: ld R (k - wy (ns_ (s :: R))))
theorem ld_two (r s : Nat × Nat) (R : List (Nat × Nat)) (k : Nat) : ld (r :: s :: R) k = wd r ++ (if k < wy (ns_ (s :: R)) then 82 :: ld (s :: R) k else r.1 :: 82 :: r.1 :: ld R (k - wy (ns_ (s :: R)))) := by
  conv => lhs; unfold ld
theorem ld_one (r : Nat × Nat) (k : Nat) : ld [r] k = wd r := rfl
/-- what stands behind the first run -/
def ldt : List (Nat × Nat) → Nat → List Nat
  | r :: s :: R, k => if k < wy (ns_ (s :: R)) then 82 :: ld (s :: R) k else r.1 :: 82 :: r.1 :: ld R (k - wy (ns_ (s :: R)))
  | _, _ => []
theorem ld_ldt (r : Nat × Nat) (R : List (Nat × Nat)) (k : Nat) : ld (r :: R) k = wd r ++ ldt (r :: R) k := by
  cases R with
  | nil => rw [ld_one]; exact (List.append_nil _).symm
  | cons s R => rw [ld_two]; rfl
theorem wd_len (r : Nat × Nat) : (wd r).length = r.2 := List.length_replicate
/-- as many letters as the runs have, and one between neighbours -/
theorem ld_len : ∀ (n : Nat) (R : List (Nat × Nat)) (k : Nat), R.length ≤ n → R ≠ [] → k < wy (ns_ R) → (ld R k).length + 1 = (ns_ R).sum + R.length
  | 0, [], _, _, h, _ => absurd rfl h
  | 0, _ :: _, _, h, _, _ => by simp at h
  | n + 1, [], _, _, h, _ => absurd rfl h
  | n + 1, [r], k, _, _, _ => by
    rw [ld_one, wd_len]
    simp [ns_]
  | n + 1, r :: s :: R, k, h, _, hk => by
    rw [ld_two, List.length_append, wd_len]
    by_cases c : k < wy (ns_ (s :: R))
    · rw [if_pos c]
      have ih := ld_len n (s :: R) k (by simp only [List.length_cons] at h ⊢; omega) (by simp) c
      have e : (ns_ (r :: s :: R)).sum = r.2 + (ns_ (s :: R)).sum := by simp [ns_]
      rw [e]
      simp only [List.length_cons] at ih ⊢
      omega
    · obtain ⟨n2, r', e1, e2, e3⟩ := wy_else (n0 := r.2) (n1 := s.2) (r := ns_ R) (k := k) hk c
      have hR : R ≠ [] := fun z => by rw [z] at e1; cases e1
      have ih := ld_len n R (k - wy (ns_ (s :: R))) (by simp only [List.length_cons] at h; omega) hR (by rw [e1]; exact e3)
      rw [if_neg c]
      have e : (ns_ (r :: s :: R)).sum = r.2 + (s.2 + (ns_ R).sum) := by simp [ns_]
      rw [e]
      simp only [List.length_cons] at ih ⊢
      omega
/-- neighbours have different letters, T or U -/
def Alt : List (Nat × Nat) → Prop
  | [] => True
  | [r] => r.1 = 84 ∨ r.1 = 85
  | r :: s :: R => (r.1 = 84 ∨ r.1 = 85) ∧ s.1 = swc r.1 ∧ Alt (s :: R)
theorem Alt.head {r : Nat × Nat} {R : List (Nat × Nat)} (h : Alt (r :: R)) : r.1 = 84 ∨ r.1 = 85 := by
  cases R with
  | nil => exact h
  | cons s R => exact h.1
theorem Alt.tail {r : Nat × Nat} {R : List (Nat × Nat)} (h : Alt (r :: R)) : Alt R := by
  cases R with
  | nil => exact trivial
  | cons s R => exact h.2.2
theorem gdL {v : Int × Int} (g : Good v) : 0 < v.2 ∨ (v.1 = 1 ∧ v.2 = 0) := by
  rcases g.1 with h | h
  · exact .inl h
  · rw [h]; exact .inr ⟨rfl, rfl⟩
theorem melt {v : Int × Int} (g : Good v) {c : Nat} (h : c = 84 ∨ c = 85) : run v [c, 82, c] = run v [82, swc c, 82] := by
  obtain ⟨p, q⟩ := v
  have hq := gdL g
  have g2 : Int.gcd p q = 1 := g.2
  have e82 : ∀ u : Int × Int, called u 82 = if 0 < u.1 then (0 - u.2, u.1) else if u.1 < 0 then (u.2, 0 - u.1) else (1, 0) := fun u => rfl
  have e84 : ∀ u : Int × Int, called u 84 = (u.1 + u.2, u.2) := fun u => rfl
  have e85 : ∀ u : Int × Int, called u 85 = (u.1 - u.2, u.2) := fun u => rfl
  have r3 : ∀ a b d, run (p, q) [a, b, d] = called (called (called (p, q) a) b) d := fun _ _ _ => rfl
  have zero : p = 0 → q = 1 := fun z => by
    rw [z, Int.gcd_zero_left] at g2
    rcases hq with k | ⟨k, _⟩
    · have k' : 0 < q := k
      omega
    · have k' : p = 1 := k
      omega
  have hq' : 0 < q ∨ (p = 1 ∧ q = 0) := hq
  have cases3 : ∀ s : Int, (s = 1 ∨ s = -1) → p + s * q = 0 → q = 1 := fun s hs z => by
    rcases hq' with k | ⟨k1, k2⟩
    · have : Int.gcd p q = q.natAbs := by
        rcases hs with rfl | rfl
        · rw [show p = -q by omega, Int.neg_gcd, Int.gcd_self]
        · rw [show p = q by omega, Int.gcd_self]
      omega
    · rw [k1, k2] at z
      omega
  rcases h with rfl | rfl
  · show run (p, q) [84, 82, 84] = run (p, q) [82, 85, 82]
    show called (called (p + q, q) 82) 84 = called (called (called (p, q) 82) 85) 82
    rw [e82 (p + q, q), e82 (p, q)]
    rcases Int.lt_trichotomy p 0 with c1 | c1 | c1
    · have q0 : 0 < q := by rcases hq' with k | ⟨k, _⟩ <;> omega
      rw [if_neg (show ¬ 0 < (p, q).1 by show ¬ 0 < p; omega), if_pos (show (p, q).1 < 0 from c1), e85, e82]
      show called (if 0 < p + q then (0 - q, p + q) else if p + q < 0 then (q, 0 - (p + q)) else (1, 0)) 84 = if 0 < q - (0 - p) then (0 - (0 - p), q - (0 - p)) else if q - (0 - p) < 0 then (0 - p, 0 - (q - (0 - p))) else (1, 0)
      rcases Int.lt_trichotomy (p + q) 0 with d | d | d
      · rw [if_neg (by omega), if_pos d, if_neg (by omega), if_pos (by omega), e84]
        exact Prod.ext (show q + (0 - (p + q)) = 0 - p by omega) (show 0 - (p + q) = 0 - (q - (0 - p)) by omega)
      · rw [if_neg (by omega), if_neg (by omega), if_neg (by omega), if_neg (by omega)]
        rfl
      · rw [if_pos d, if_pos (by omega), e84]
        exact Prod.ext (show 0 - q + (p + q) = 0 - (0 - p) by omega) (show p + q = q - (0 - p) by omega)
    · have q1 := zero c1
      subst c1 q1
      decide
    · rw [if_pos (show 0 < (p, q).1 from c1), e85, e82]
      show called (if 0 < p + q then (0 - q, p + q) else if p + q < 0 then (q, 0 - (p + q)) else (1, 0)) 84 = if 0 < 0 - q - p then (0 - p, 0 - q - p) else if 0 - q - p < 0 then (p, 0 - (0 - q - p)) else (1, 0)
      have q0 : 0 ≤ q := by rcases hq' with k | ⟨_, k⟩ <;> omega
      rw [if_pos (by omega), if_neg (by omega), if_pos (by omega), e84]
      exact Prod.ext (show 0 - q + (p + q) = p by omega) (show p + q = 0 - (0 - q - p) by omega)
  · show run (p, q) [85, 82, 85] = run (p, q) [82, 84, 82]
    show called (called (p - q, q) 82) 85 = called (called (called (p, q) 82) 84) 82
    rw [e82 (p - q, q), e82 (p, q)]
    rcases Int.lt_trichotomy p 0 with c1 | c1 | c1
    · have q0 : 0 < q := by rcases hq' with k | ⟨k, _⟩ <;> omega
      rw [if_neg (show ¬ 0 < (p, q).1 by show ¬ 0 < p; omega), if_pos (show (p, q).1 < 0 from c1), e84, e82]
      show called (if 0 < p - q then (0 - q, p - q) else if p - q < 0 then (q, 0 - (p - q)) else (1, 0)) 85 = if 0 < q + (0 - p) then (0 - (0 - p), q + (0 - p)) else if q + (0 - p) < 0 then (0 - p, 0 - (q + (0 - p))) else (1, 0)
      rw [if_neg (by omega), if_pos (by omega), if_pos (by omega), e85]
      exact Prod.ext (show q - (0 - (p - q)) = 0 - (0 - p) by omega) (show 0 - (p - q) = q + (0 - p) by omega)
    · have q1 := zero c1
      subst c1 q1
      decide
    · rw [if_pos (show 0 < (p, q).1 from c1), e84, e82]
      show called (if 0 < p - q then (0 - q, p - q) else if p - q < 0 then (q, 0 - (p - q)) else (1, 0)) 85 = if 0 < 0 - q + p then (0 - p, 0 - q + p) else if 0 - q + p < 0 then (p, 0 - (0 - q + p)) else (1, 0)
      rcases Int.lt_trichotomy (p - q) 0 with d | d | d
      · rw [if_neg (by omega), if_pos d, if_neg (by omega), if_pos (by omega), e85]
        exact Prod.ext (show q - (0 - (p - q)) = p by omega) (show 0 - (p - q) = 0 - (0 - q + p) by omega)
      · rw [if_neg (by omega), if_neg (by omega), if_neg (by omega), if_neg (by omega)]
        rcases hq' with k | ⟨k1, k2⟩
        · rfl
        · rfl
      · rw [if_pos d, if_pos (by omega), e85]
        exact Prod.ext (show 0 - q - (p - q) = 0 - p by omega) (show p - q = 0 - q + p by omega)
/-- each leads where the first one leads -/
theorem ld_run : ∀ (n : Nat) (R : List (Nat × Nat)) (k : Nat) {v : Int × Int}, R.length ≤ n → Good v → Alt R → k < wy (ns_ R) → run v (ld R k) = run v (ld R 0)
  | 0, [], _, _, _, _, _, _ => rfl
  | 0, _ :: _, _, _, h, _, _, _ => by simp at h
  | n + 1, [], _, _, _, _, _, _ => rfl
  | n + 1, [r], _, _, _, _, _, _ => rfl
  | n + 1, r :: s :: R, k, v, h, g, al, hk => by
    have g1 := good_run (wd r) g
    have w1 := wy_pos (ns_ (s :: R))
    rw [ld_two, ld_two, run_app, run_app, if_pos (show 0 < wy (ns_ (s :: R)) by omega)]
    generalize run v (wd r) = u at g1
    by_cases c : k < wy (ns_ (s :: R))
    · rw [if_pos c]
      show run (called u 82) (ld (s :: R) k) = run (called u 82) (ld (s :: R) 0)
      exact ld_run n (s :: R) k (by simp only [List.length_cons] at h ⊢; omega) (g1.called 82) al.tail c
    · obtain ⟨n2, r', e1, e2, e3⟩ := wy_else (n0 := r.2) (n1 := s.2) (r := ns_ R) (k := k) hk c
      obtain ⟨t, R', rfl⟩ : ∃ t R', R = t :: R' := by
        cases R with
        | nil => cases e1
        | cons t R' => exact ⟨t, R', rfl⟩
      rw [if_neg c]
      have gm := melt g1 al.head
      have e5 : run u (r.1 :: 82 :: r.1 :: ld (t :: R') (k - wy (ns_ (s :: t :: R')))) = run (run u [r.1, 82, r.1]) (ld (t :: R') (k - wy (ns_ (s :: t :: R')))) := rfl
      rw [e5, gm]
      have g3 := good_run [82, swc r.1, 82] g1
      rw [ld_run n (t :: R') _ (by simp only [List.length_cons] at h ⊢; omega) g3 al.tail.tail (by rw [e1]; exact e3)]
      rw [ld_two, if_pos (show 0 < wy (ns_ (t :: R')) by have := wy_pos (ns_ (t :: R')); omega)]
      have es : wd s = [swc r.1] := by
        unfold wd
        rw [e2, al.2.1]
        rfl
      rw [es]
      rfl
theorem ld_lets : ∀ (n : Nat) (R : List (Nat × Nat)) (k : Nat), R.length ≤ n → Alt R → Lets (ld R k)
  | 0, [], _, _, _ => fun c hc => by cases hc
  | 0, _ :: _, _, h, _ => by simp at h
  | n + 1, [], _, _, _ => fun c hc => by cases hc
  | n + 1, [r], _, _, al => fun c hc => by
    rw [ld_one] at hc
    rw [List.eq_of_mem_replicate hc]
    have := al.head
    omega
  | n + 1, r :: s :: R, k, h, al => by
    have hr := al.head
    rw [ld_two]
    have l1 : Lets (wd r) := fun c hc => by
      rw [List.eq_of_mem_replicate hc]
      omega
    have i1 := ld_lets n (s :: R) k (by simp only [List.length_cons] at h ⊢; omega) al.tail
    have i2 := ld_lets n R (k - wy (ns_ (s :: R))) (by simp only [List.length_cons] at h ⊢; omega) al.tail.tail
    intro c hc
    rcases List.mem_append.mp hc with hc | hc
    · exact l1 c hc
    · split at hc
      · rcases List.mem_cons.mp hc with rfl | hc
        · exact .inr (.inr rfl)
        · exact i1 c hc
      · simp only [List.mem_cons] at hc
        rcases hc with rfl | rfl | rfl | hc
        · omega
        · exact .inr (.inr rfl)
        · omega
        · exact i2 c hc
theorem joinL_cons2 (x y : List Nat) (r : List (List Nat)) : joinL [82] (x :: y :: r) = x ++ ([82] ++ joinL [82] (y :: r)) := rfl
theorem ld_zero : ∀ R : List (Nat × Nat), ld R 0 = joinL [82] (R.map wd)
  | [] => rfl
  | [_] => rfl
  | r :: s :: R => by
    have ih := ld_zero (s :: R)
    rw [ld_two, if_pos (show 0 < wy (ns_ (s :: R)) by have := wy_pos (ns_ (s :: R)); omega), ih]
    exact (joinL_cons2 _ _ _).symm
/-- the runs of the least dances of v, from the first to the last -/
def rl (v : Int × Int) : List (Nat × Nat) := (al (fl v) (quo v)).reverse
theorem rl_len (v : Int × Int) : (rl v).length = (quo v).length := by unfold rl; rw [List.length_reverse, al_len]
theorem al_snd : ∀ (qs : List Nat) (c : Nat), (al c qs).map (·.2) = qs
  | [], _ => rfl
  | a :: r, c => by
    show a :: (al (swc c) r).map (·.2) = a :: r
    rw [al_snd r (swc c)]
theorem ns_rl (v : Int × Int) : ns_ (rl v) = (quo v).reverse := by
  unfold ns_ rl
  rw [List.map_reverse, al_snd]
theorem alt_snoc : ∀ (R : List (Nat × Nat)) (r : Nat × Nat), Alt R → (r.1 = 84 ∨ r.1 = 85) → (∀ s, R.getLast? = some s → r.1 = swc s.1) → Alt (R ++ [r])
  | [], r, _, h, _ => h
  | [s], r, hs, h, k => ⟨hs, k s rfl, h⟩
  | s :: t :: R, r, hs, h, k => by
    refine ⟨hs.1, hs.2.1, ?_⟩
    exact alt_snoc (t :: R) r hs.2.2 h (fun u hu => k u (by rw [List.getLast?_cons_cons]; exact hu))
theorem alt_al : ∀ (qs : List Nat) (c : Nat), c = 84 ∨ c = 85 → Alt (al c qs).reverse
  | [], _, _ => trivial
  | a :: r, c, h => by
    show Alt (((c, a) :: al (swc c) r).reverse)
    rw [List.reverse_cons]
    refine alt_snoc _ _ (alt_al r (swc c) (swc_or h)) h (fun s hs => ?_)
    rw [List.getLast?_reverse] at hs
    cases r with
    | nil => cases hs
    | cons b r =>
      have e : s = (swc c, b) := (Option.some.inj hs).symm
      rw [e]
      exact (swc_swc h).symm
theorem alt_rl (v : Int × Int) : Alt (rl v) := alt_al _ _ (fl_or v)
theorem ld_rl_zero (v : Int × Int) : ld (rl v) 0 = dl v := ld_zero _
theorem rl_ne {v : Int × Int} (g : Good v) : rl v ≠ [] := fun z => by
  have := congrArg List.length z
  rw [rl_len] at this
  exact quo_ne g (List.length_eq_zero_iff.mp this)
theorem ld_rl_len {v : Int × Int} (g : Good v) {k : Nat} (h : k < wy (ns_ (rl v))) : (ld (rl v) k).length = stp v := by
  have a := ld_len _ (rl v) k (Nat.le_refl _) (rl_ne g) h
  have b := quo_stp g
  rw [ns_rl, List.sum_reverse, rl_len] at a
  omega
theorem ld_rl_run {v : Int × Int} (g : Good v) {k : Nat} (h : k < wy (ns_ (rl v))) : run (0, 1) (ld (rl v) k) = v := by
  rw [ld_run _ (rl v) k (Nat.le_refl _) Good.zero (alt_rl v) h, ld_rl_zero, run_dl g]
theorem ld_rl_lets (v : Int × Int) (k : Nat) : Lets (ld (rl v) k) := ld_lets _ _ _ (Nat.le_refl _) (alt_rl v)
/-- the list of the ways -/
def wys (ns : List Nat) : List Nat := (List.range ns.length).map fun i => wy (ns.drop i)
theorem wys_len (ns : List Nat) : (wys ns).length = ns.length := by unfold wys; rw [List.length_map, List.length_range]
theorem wys_at {ns : List Nat} {i : Nat} (h : i < ns.length) : (wys ns)[i]? = some (wy (ns.drop i)) := by
  unfold wys
  rw [List.getElem?_map, List.getElem?_range h]
  rfl
end
section
theorem log_okL {j : Int} (h : j.natAbs < 2 ^ 201) : j.natAbs.log2 < 9000 := Nat.lt_of_lt_of_le (PySem.Flt.log2_lt_of (by decide) h) (by decide)
/-- its standard dance is short enough to be written out -/
structure SvL (v : Int × Int) : Prop where
  good : Good v
  s2 : v.2.natAbs < 2 ^ 201
  len : (stv v).length ≤ 14000000
theorem svL_run {l : List Nat} (hl : Lets l) (h : l.length ≤ 200) : SvL (run (0, 1) l) := by
  obtain ⟨ms, _, e⟩ := leads_std hl
  have := run_size l (v := (0, 1)) (n := 1) (by decide) (by decide) (by decide)
  refine ⟨good_run l Good.zero, ?_, by omega⟩
  have k : 2 ^ l.length ≤ 2 ^ 200 := Nat.pow_le_pow_right (by decide) h
  omega
def spStdL : Sp := fun vs H Q _ => ∃ (t : Addr) (v : Int × Int), vs = [.ref t] ∧ Tup2 H t v ∧ SvL v ∧ ∀ H', Same H H' → Q (.str (S (stv v))) H'
theorem lets_rn (b : Int) : Lets (rn b) := fun c hc => by
  unfold rn at hc
  split at hc
  · exact .inr (.inl (List.eq_of_mem_replicate hc))
  · exact .inl (List.eq_of_mem_replicate hc)
theorem lets_join : ∀ {xs : List (List Nat)}, (∀ x ∈ xs, Lets x) → Lets (TL.joinL [82] xs)
  | [], _ => fun c h => by cases h
  | [x], h => h x List.mem_cons_self
  | x :: y :: r, h => fun c hc => by
    have e : TL.joinL [82] (x :: y :: r) = x ++ ([82] ++ TL.joinL [82] (y :: r)) := rfl
    rw [e] at hc
    rcases List.mem_append.mp hc with hc | hc
    · exact h x List.mem_cons_self c hc
    · rcases List.mem_append.mp hc with hc | hc
      · exact .inr (.inr (List.mem_singleton.mp hc))
      · exact lets_join (fun z hz => h z (List.mem_cons_of_mem _ hz)) c hc
theorem lets_stv (v : Int × Int) : Lets (stv v) := by
  unfold stv
  split
  · intro c hc
    exact .inr (.inr (List.mem_singleton.mp hc))
  · exact lets_join fun x hx => by
      obtain ⟨b, _, rfl⟩ := List.mem_map.mp hx
      exact lets_rn b
end
section
theorem e_UUR : (("UUR" : Str)) = S [85, 85, 82] := by decide +kernel
theorem e_TTR : (("TTR" : Str)) = S [84, 84, 82] := by decide +kernel
theorem e_TR : (("TR" : Str)) = S [84, 82] := by decide +kernel
theorem e_RTUR : (("RTUR" : Str)) = S [82, 84, 85, 82] := by decide +kernel
theorem lets_app {l m : List Nat} (h : Lets l) (k : Lets m) : Lets (l ++ m) := fun c hc => by
  rcases List.mem_append.mp hc with hc | hc
  · exact h c hc
  · exact k c hc
theorem lets_rep {l : List Nat} (h : Lets l) (n : Nat) : Lets (List.replicate n l).flatten := fun c hc => by
  obtain ⟨x, hx, hc⟩ := List.mem_flatten.mp hc
  rw [List.eq_of_mem_replicate hx] at hc
  exact h c hc
theorem rep_flat (l : List Nat) (n : Nat) : (List.replicate n l).flatten.length = n * l.length := by simp
theorem lets_take {l : List Nat} (h : Lets l) (n : Nat) : Lets (l.take n) := fun c hc => h c (List.mem_of_mem_take hc)
theorem lets_by {l : List Nat} (h : l.all (fun c => c == 84 || c == 85 || c == 82) = true) : Lets l := fun c hc => by
  have := List.all_eq_true.mp h c hc
  simp only [Bool.or_eq_true, beq_iff_eq] at this
  omega
def spSort : Sp := fun vs H Q _ => ∃ (a : Addr), vs = [.ref a] ∧ Tape H a ∧ ∀ l H', Lets l → l.length ≤ 130 → But a H H' → Q (.str (S l)) H'
end
section
def spToStd : Sp := fun vs H Q _ => ∃ l : List Nat, vs = [.str (S l)] ∧ Lets l ∧ l.length ≤ 130 ∧ ∀ (p : Addr) (ms : List Mv) H', Same H H' → Tl H' p (ms.map Mv.vs) → FitAll ms 6 → ms.length ≤ 60000 → led l ms = some (stv (run (0, 1) l)) → Q (.ref p) H'
def spFormed : Sp := fun vs H Q _ => ∃ (p : Addr) (ms : List Mv), vs = [.ref p] ∧ Tl H p (ms.map Mv.vs) ∧ ∀ H', Same H H' → Q (.bl true) H'
theorem led_some {l x : List Nat} {ms : List Mv} (h : led l ms = some x) (i : Nat) : ∃ d, led l (ms.take i) = some d := by
  cases e : led l (ms.take i) with
  | none =>
    rw [led_stop e] at h
    cases h
  | some d => exact ⟨d, rfl⟩
end
section
/-! ### the front as an object -/
structure MDfn (P : Program) (w : World) (K : PySem.W.Frag) (mg : Str → Option Value) (base : Heap) (C : Addr) (m : Str) (k : Nat) (ps : List Str) (sp : Sp) : Prop where
  ex : ∃ g fd, FnOk P w K mg base CX0 k g fd ps sp ∧ Binds K fd ps [] ∧ Meth K C m g
theorem lm_ : ¬ (("letters" : Str) = "moves") := by decide +kernel
def ff (l m : Addr) : List (Str × V) := putF "moves" (.ref m) (putF "letters" (.ref l) [])
theorem ff_letters (l m : Addr) : (ff l m).lookup ("letters" : Str) = some (.ref l) := by
  unfold ff
  rw [lookup_putF, if_neg lm_, lookup_putF, if_pos rfl]
theorem ff_moves (l m : Addr) : (ff l m).lookup ("moves" : Str) = some (.ref m) := by
  unfold ff
  rw [lookup_putF, if_pos rfl]
theorem ff_no (l m : Addr) {x : Str} (h1 : ¬ x = "moves") (h2 : ¬ x = "letters") : (ff l m).lookup x = none := by
  unfold ff
  rw [lookup_putF, if_neg h1]
  rw [lookup_putF, if_neg h2]
  all_goals rfl
def chs (l : List Nat) : List V := l.map fun c => V.str (S [c])
/-- what stood in H0 is kept; at p a front with these letters and moves, its lists made since -/
def FrAt (C : Addr) (H0 H : Hp) (p : Addr) (l : List Nat) (ms : List Mv) : Prop :=
  Same H0 H ∧ H0 p = none ∧ ∃ (dx a m : Addr), H0 a = none ∧ H0 m = none ∧ a ≠ m ∧ H p = some (.ins C dx (ff a m)) ∧ H a = some (.lst (chs l)) ∧ Tl H m (ms.map Mv.vs)
structure TxF (K : PySem.W.Frag) (mg : Str → Option Value) (C : Addr) : Prop where
  cl : Cls K C
  nL : NoAttr K C "letters"
  nM : NoAttr K C "moves"
  mgC : mg "Front" = some (.ref C)
/-- a new object does no harm -/
theorem FrAt.same {C : Addr} {H0 H H' : Hp} {p : Addr} {l : List Nat} {ms : List Mv} (h : FrAt C H0 H p l ms) (s : Same H H') : FrAt C H0 H' p l ms := by
  obtain ⟨s0, p0, dx, a, m, a0, m0, nam, hp, ha, hm⟩ := h
  exact ⟨s0.trans s, p0, dx, a, m, a0, m0, nam, s _ _ hp, s _ _ ha, hm.same s⟩
/-- other letters -/
theorem FrAt.letters {C : Addr} {H0 H : Hp} {p a : Addr} {l : List Nat} {ms : List Mv} (h : FrAt C H0 H p l ms) {dx m : Addr} (e : H p = some (.ins C dx (ff a m))) (l' : List Nat) : FrAt C H0 (upd H a (.lst (chs l'))) p l' ms := by
  obtain ⟨s0, p0, dx', a', m', a0, m0, nam, hp, ha, hm⟩ := h
  rw [e] at hp
  have e1 : ff a m = ff a' m' := by
    have := Option.some.inj hp
    cases this
    rfl
  have ea : a = a' := by
    have h1 := ff_letters a m
    rw [e1, ff_letters] at h1
    cases h1
    rfl
  subst ea
  have npa : p ≠ a := ne_of e ha (by intro z; cases z)
  refine ⟨fun b o hb => ?_, p0, dx', a, m', a0, m0, nam, by rw [upd_ne npa, e, hp], upd_same, ?_⟩
  · rw [upd_ne (ne_of_none hb a0)]
    exact s0 _ _ hb
  · obtain ⟨rs, h1, h2, h3⟩ := hm
    refine ⟨rs, by rw [upd_ne nam.symm]; exact h1, h2, fun i r d hr hd => ?_⟩
    have := h3 i r d hr hd
    rw [upd_ne (ne_of this ha (by intro z; cases z))]
    exact this
end
section
theorem FrAt.push {C : Addr} {H0 H : Hp} {p : Addr} {l : List Nat} {ms : List Mv} (h : FrAt C H0 H p l ms) {dx a m : Addr} (e : H p = some (.ins C dx (ff a m))) {t : Addr} {mv : Mv} (ht : H t = some (.tup mv.vs)) :
    ∃ xs, H m = some (.lst xs) ∧ xs.length = ms.length ∧ FrAt C H0 (upd H m (.lst (xs ++ [.ref t]))) p l (ms ++ [mv]) := by
  obtain ⟨s0, p0, dx', a', m', a0, m0, nam, hp, ha, rs, h1, h2, h3⟩ := h
  rw [e] at hp
  have e1 : ff a m = ff a' m' := by
    have := Option.some.inj hp
    cases this
    rfl
  have em : m = m' := by
    have k := ff_moves a m
    rw [e1, ff_moves] at k
    cases k
    rfl
  subst em
  rw [List.length_map] at h2
  have npm : p ≠ m := ne_of e h1 (by intro z; cases z)
  refine ⟨_, h1, by rw [List.length_map, h2], fun b o hb => ?_, p0, dx', a', m, a0, m0, nam, by rw [upd_ne npm, e, hp], by rw [upd_ne nam]; exact ha, rs ++ [t], by rw [upd_same, List.map_append]; rfl, by rw [List.length_append, List.length_map, List.length_append, h2]; rfl, fun i r d hr hd => ?_⟩
  · rw [upd_ne (ne_of_none hb m0)]
    exact s0 _ _ hb
  · by_cases hi : i < rs.length
    · rw [List.getElem?_append_left hi] at hr
      rw [List.map_append, List.getElem?_append_left (by rw [List.length_map]; omega)] at hd
      have := h3 i r d hr hd
      rw [upd_ne (ne_of this h1 (by intro z; cases z))]
      exact this
    · have hi2 : i = rs.length := by
        have := (List.getElem?_eq_some_iff.mp hr).1
        rw [List.length_append] at this
        have : ([t] : List Addr).length = 1 := rfl
        omega
      subst hi2
      rw [List.getElem?_append_right (Nat.le_refl _), Nat.sub_self] at hr
      rw [List.map_append, List.getElem?_append_right (by rw [List.length_map]; omega), List.length_map, h2, Nat.sub_self] at hd
      cases hr
      cases hd
      rw [upd_ne (ne_of ht h1 (by intro z; cases z))]
      exact ht
theorem FrAt.at {C : Addr} {H0 H : Hp} {p : Addr} {l : List Nat} {ms : List Mv} (h : FrAt C H0 H p l ms) : ∃ dx a m xs, H p = some (.ins C dx (ff a m)) ∧ H a = some (.lst (chs l)) ∧ H m = some (.lst xs) ∧ xs.length = ms.length ∧ a ≠ m := by
  obtain ⟨s0, p0, dx', a', m', a0, m0, nam, hp, ha, rs, h1, h2, h3⟩ := h
  exact ⟨_, _, _, _, hp, ha, h1, by rw [List.length_map, h2, List.length_map], nam⟩
theorem chs_mid (a o b n : List Nat) : (chs (a ++ o ++ b)).take a.length ++ chs n ++ (chs (a ++ o ++ b)).drop (a.length + o.length) = chs (a ++ n ++ b) := by
  unfold chs
  rw [← List.map_take, ← List.map_drop, ← List.map_append, ← List.map_append]
  congr 1
  rw [List.append_assoc a o b, List.take_left, ← List.append_assoc a o b, show a.length + o.length = (a ++ o).length by rw [List.length_append], List.drop_left]
end

section
theorem dp_tup2 {K : PySem.W.Frag} {H : Hp} {t : Addr} {v : Int × Int} (h : Tup2 H t v) : Dp K H (.ref t) (.tuple [.int v.1, .int v.2]) := .tup (SqT.of h) (.cons (.int _) (.cons (.int _) .nil))
theorem can2 (a b : Int) : PyData.canLay0 (.tuple [.int a, .int b]) = true := by
  simp [PyData.canLay0, PyData.canLayAll0]
theorem sh2 (a b : Int) : SeqAt.shaped (.tuple [.int a, .int b]) = true := by
  unfold SeqAt.shaped
  rw [can2]
  simp [PyData.depth, PyData.depthAll]
theorem canN (a b : Int) : PyData.canLayAll0 [.none, .tuple [.int a, .int b]] = true := by
  simp [PyData.canLay0, PyData.canLayAll0]
theorem shN : SeqAt.shaped .none = true := by
  unfold SeqAt.shaped
  simp [PyData.canLay0, PyData.depth]
/-- not in (None, due), the items data of any depth -/
theorem op_notInT {X : Cx} (hu : X.A.units + 65 < cLine) : OpR X (compareOp .NotIn) (fun x y H Q => ∃ d ds, Dp X.K H x d ∧ Dp X.K H y (.tuple ds) ∧ SeqAt.shaped d = true ∧ PyData.canLayAll0 ds = true ∧ Q (.bl (!ds.any fun z => PyData.eqv z d)) H) := by
  intro pins s σ H x y v u Q I rx ry h
  obtain ⟨d, ds, hd, he, sd, se, q⟩ := h
  obtain ⟨as, r1⟩ := Dp.reads I d x v hd rx
  cases he with
  | tup hs ha =>
    cases ry
    obtain ⟨its, rv, pl, _⟩ := I.tuple hs
    obtain ⟨as2, h4⟩ := Dp.readsAll I ds _ its ha rv
    have h5 : ReadsAll s.heap its.toArray.toList ds as2 := h4
    refine SeqAt.notIn_tupleAt _ pl (SeqAt.items_eqAt (vs := its.toArray) h5 r1 se (SeqAt.canLay_of_shaped sd) (PyProof.Rows.room_in_shaped sd hu)) ⟨.bl _, H, I, ?_, q⟩
    rw [SeqAt.any_by_data h5 se]
    rfl
theorem Room.units65 {k : Nat} {A : Around} (r : Room k A) : A.units + 65 < cLine := by have := r.un; omega
theorem in_due {K : PySem.W.Frag} {H : Hp} {v : V} {l : List Nat} {A : List Int} (h : Is H 1 v (dtR l A)) : ∃ d, Dp K H v d ∧ SeqAt.shaped d = true ∧ ([PyData.none, .tuple [.int (run (0, 1) l).1, .int (run (0, 1) l).2]].any fun z => PyData.eqv z d) = true := by
  by_cases c : isColB l A = true ∧ plainB A = false
  · rw [dtR_some c.1 c.2] at h
    obtain ⟨a, xs, rfl, e2, e3, _, e5⟩ := h
    obtain ⟨y, z, rfl⟩ : ∃ y z, xs = [y, z] := by
      match xs, e3 with
      | [y, z], _ => exact ⟨y, z, rfl⟩
    have h0 : y = V.int (run (0, 1) l).1 := e5 0 y _ rfl rfl
    have h1 : z = V.int (run (0, 1) l).2 := e5 1 z _ rfl rfl
    subst h0 h1
    refine ⟨.tuple [.int (run (0, 1) l).1, .int (run (0, 1) l).2], dp_tup2 (v := run (0, 1) l) e2, sh2 _ _, ?_⟩
    rw [List.any_cons, List.any_cons, SeqAt.eqv_refl _ (can2 _ _)]
    simp
  · unfold dtR at h
    rw [if_neg c] at h
    have e : v = .non := h
    subst e
    refine ⟨.none, .non, shN, ?_⟩
    rw [List.any_cons, SeqAt.eqv_refl PyData.none (by simp [PyData.canLay0])]
    rfl
theorem isCol_iff {l : List Nat} {A : List Int} : isColB l A = true ↔ A.length = (dg l).n ∧ Keep (dg l).cs A := by
  unfold isColB
  rw [Bool.and_eq_true, decide_eq_true_eq, List.all_eq_true]
  exact ⟨fun h => ⟨h.1, fun c hc => keepB_iff.mp (h.2 c hc)⟩, fun h => ⟨h.1, fun c hc => keepB_iff.mpr (h.2 c hc)⟩⟩
theorem isCol_mk (l : List Nat) (x y : Int) : isColB l (col (dg l).cs x y) = true := isCol_iff.mpr ⟨by rw [col_len, (wf_dg l).n], keep_col (wf_dg l) x y⟩
theorem within {l : List Nat} {c : Nat × Nat × Nat} (h : c ∈ (dg l).cs) : c.1 < (dg l).n ∧ c.2.1 < (dg l).n ∧ c.2.2 < (dg l).n := by
  obtain ⟨i, hi, e⟩ := List.getElem_of_mem h
  have w := wf_dg l
  have := w.at_ i c (by rw [List.getElem?_eq_getElem hi, e])
  have := w.n
  exact ⟨by omega, by omega, by omega⟩
theorem getD_lin {A : List Int} {f s : Int} {i : Nat} (h : i < A.length) : (A.map fun x => x * f + s).getD i 0 = A.getD i 0 * f + s := by
  rw [List.getD_eq_getElem?_getD, List.getD_eq_getElem?_getD, List.getElem?_map, List.getElem?_eq_getElem h]
  rfl
theorem isCol_lin {l : List Nat} {A : List Int} (f s : Int) (h : isColB l A = true) : isColB l (A.map fun x => x * f + s) = true := by
  obtain ⟨h1, h2⟩ := isCol_iff.mp h
  refine isCol_iff.mpr ⟨by rw [List.length_map, h1], fun c hc => ?_⟩
  obtain ⟨b1, b2, b3⟩ := within hc
  rw [getD_lin (by omega), getD_lin (by omega), getD_lin (by omega)]
  have e : (A.getD c.2.1 0 + A.getD c.2.2 0) * f = 2 * A.getD c.1 0 * f := by rw [h2 c hc]
  rw [Int.add_mul, Int.mul_assoc] at e
  omega
def sumL (A B : List Int) (n : Nat) : List Int := (List.range n).map fun j => A.getD j 0 + B.getD j 0
theorem sumL_len {A B : List Int} {n : Nat} : (sumL A B n).length = n := by unfold sumL; rw [List.length_map, List.length_range]
theorem sumL_at {A B : List Int} {n i : Nat} (h : i < n) : (sumL A B n).getD i 0 = A.getD i 0 + B.getD i 0 := by
  unfold sumL
  rw [List.getD_eq_getElem?_getD, List.getElem?_map, List.getElem?_range h]
  rfl
theorem isCol_sum {l : List Nat} {A B : List Int} (h : isColB l A = true) (k : isColB l B = true) : isColB l (sumL A B (dg l).n) = true := by
  obtain ⟨h1, h2⟩ := isCol_iff.mp h
  obtain ⟨k1, k2⟩ := isCol_iff.mp k
  refine isCol_iff.mpr ⟨sumL_len, fun c hc => ?_⟩
  obtain ⟨b1, b2, b3⟩ := within hc
  rw [sumL_at b1, sumL_at b2, sumL_at b3]
  have := h2 c hc
  have := k2 c hc
  omega
theorem sum_bd {A B : List Int} {n M : Nat} (h : Bd A M) (k : Bd B M) : Bd (sumL A B n) (2 * M) := fun x hx => by
  obtain ⟨i, _, rfl⟩ := List.mem_map.mp hx
  have := h.at i
  have := k.at i
  omega
theorem lin_bd {A : List Int} {f s : Int} {M N : Nat} (h : Bd A M) (hf : f.natAbs ≤ 6) (hs : s.natAbs ≤ N) : Bd (A.map fun x => x * f + s) (6 * M + N) := fun x hx => by
  obtain ⟨z, hz, rfl⟩ := List.mem_map.mp hx
  have h1 := h z hz
  have h2 : (z * f).natAbs = z.natAbs * f.natAbs := Int.natAbs_mul z f
  have h3 : z.natAbs * f.natAbs ≤ M * 6 := Nat.mul_le_mul h1 hf
  omega
theorem col_bd {l : List Nat} {x y : Int} (hl : l.length ≤ 60) (hx : x.natAbs ≤ 2 ^ 101) (hy : y.natAbs ≤ 2 ^ 101) : Bd (col (dg l).cs x y) (2 ^ 101 * 3 ^ 60) := (col_bound (B := 2 ^ 101) hx hy (dg l).cs).mono (by
  have d1 := dg_len l
  exact Nat.mul_le_mul_left _ (Nat.pow_le_pow_right (by decide) (by omega)))
theorem plain_col (l : List Nat) (x : Int) : plainB (col (dg l).cs x x) = true := (plain_iff (isCol_mk l x x)).mpr (by rw [(col_zero _ x x).1, (col_zero _ x x).2])
/-- lists of colours that are colourings -/
def Cols (l : List Nat) (lp : Addr) (G : Hp) (j : Nat) : Prop := ∃ rs : List Addr, G lp = some (.lst (rs.map V.ref)) ∧ rs.length = j ∧ ∀ r ∈ rs, r ≠ lp ∧ ∃ A : List Int, G r = some (.lst (A.map V.int)) ∧ isColB l A = true ∧ Bd A (2 ^ 101 * 3 ^ 60)
theorem Cols.keep {l : List Nat} {lp : Addr} {G G' : Hp} {j : Nat} (h : Cols l lp G j) (k : ∀ a xs, G a = some (.lst xs) → (a = lp ∨ ∃ A : List Int, xs = A.map V.int) → G' a = some (.lst xs)) : Cols l lp G' j := by
  obtain ⟨rs, h1, h2, h3⟩ := h
  refine ⟨rs, k _ _ h1 (.inl rfl), h2, fun r hr => ?_⟩
  obtain ⟨n, A, a1, a2, a3⟩ := h3 r hr
  exact ⟨n, A, k _ _ a1 (.inr ⟨A, rfl⟩), a2, a3⟩
theorem Cols.push {l : List Nat} {lp cp : Addr} {G : Hp} {j : Nat} {A : List Int} (h : Cols l lp G j) (n : cp ≠ lp) (hA : G cp = some (.lst (A.map V.int))) (hc : isColB l A = true) (hb : Bd A (2 ^ 101 * 3 ^ 60)) : ∃ xs, G lp = some (.lst xs) ∧ xs.length = j ∧ Cols l lp (upd G lp (.lst (xs ++ [.ref cp]))) (j + 1) := by
  obtain ⟨rs, h1, h2, h3⟩ := h
  refine ⟨_, h1, by rw [List.length_map, h2], rs ++ [cp], by rw [upd_same, List.map_append]; rfl, by rw [List.length_append, h2]; rfl, fun r hr => ?_⟩
  rcases List.mem_append.mp hr with hr | hr
  · obtain ⟨m, B, b1, b2, b3⟩ := h3 r hr
    exact ⟨m, B, by rw [upd_ne m]; exact b1, b2, b3⟩
  · rw [List.mem_singleton.mp hr]
    exact ⟨n, A, by rw [upd_ne n]; exact hA, hc, hb⟩
theorem three_at {r : Int} (h0 : 0 ≤ r) (h1 : r < 3) : ∃ z : Int, atI [V.int 1, .int (-1), .int 6] r = some (.int z) ∧ z.natAbs ≤ 6 := by
  obtain ⟨c, hc, m⟩ := atI_mk (xs := [V.int 1, .int (-1), .int 6]) h0 h1
  simp only [List.mem_cons, List.not_mem_nil, or_false] at m
  rcases m with rfl | rfl | rfl
  · exact ⟨1, hc, by decide⟩
  · exact ⟨-1, hc, by decide⟩
  · exact ⟨6, hc, by decide⟩
theorem four_at {y r : Int} (hy : y.natAbs ≤ 2 ^ 100) (h0 : 0 ≤ r) (h1 : r < 4) : ∃ z : Int, atI [V.int 1, .int (-1), .int 7, .int y] r = some (.int z) ∧ z.natAbs ≤ 2 ^ 100 := by
  obtain ⟨c, hc, m⟩ := atI_mk (xs := [V.int 1, .int (-1), .int 7, .int y]) h0 h1
  simp only [List.mem_cons, List.not_mem_nil, or_false] at m
  rcases m with rfl | rfl | rfl | rfl
  · exact ⟨1, hc, by decide⟩
  · exact ⟨-1, hc, by decide⟩
  · exact ⟨7, hc, by decide⟩
  · exact ⟨y, hc, hy⟩
def spReads (Pt : Addr) : Sp := fun vs H Q _ => ∃ (l : List Nat) (cp t : Addr) (A : List Int), vs = [.str (S l), .ref cp, .ref t] ∧ Lets l ∧ H cp = some (.lst (A.map V.int)) ∧ isColB l A = true ∧ l.length ≤ 900 ∧ Bd A (2 ^ 199) ∧ Tup2 H t (run (0, 1) l) ∧ GxR.TabG H Pt ∧ ∀ H', Bt Pt H H' → Q (.bl true) H'
end
section
/-! ### moves taken back -/
def Mv.flip (m : Mv) : Mv := ⟨m.pl, m.n, m.o⟩
theorem isMv_flip {m : Mv} (h : isMv m = true) : isMv m.flip = true := by
  have e := isMv_empty h
  unfold isMv at h ⊢
  have c : m.flip.o ++ m.flip.n = m.o ++ m.n := by
    show m.n ++ m.o = m.o ++ m.n
    rcases e with e | e <;> rw [e] <;> simp
  rw [c]
  rw [Bool.and_eq_true] at h ⊢
  refine ⟨?_, h.2⟩
  have h1 := h.1
  show (decide (m.n = []) != decide (m.o = [])) = true
  revert h1
  cases decide (m.o = []) <;> cases decide (m.n = []) <;> decide
theorem mk_flip {d x : List Nat} {m : Mv} (h : mkMv d m = some x) : mkMv x m.flip = some d := by
  unfold mkMv at h
  split at h
  · rename_i hc
    obtain ⟨h1, h2⟩ := hc
    cases h
    unfold canMv at h2
    rw [Bool.and_eq_true, Bool.and_eq_true, decide_eq_true_eq, decide_eq_true_eq, decide_eq_true_eq] at h2
    obtain ⟨p0, p1, p2⟩ := h2
    have tl : (d.take m.pl.toNat).length = m.pl.toNat := by rw [List.length_take]; omega
    have dr : d.drop m.pl.toNat = m.o ++ d.drop (m.pl.toNat + m.o.length) := by
      conv => lhs; rw [← List.take_append_drop m.o.length (d.drop m.pl.toNat)]
      rw [p2, List.drop_drop]
    have dd : d = d.take m.pl.toNat ++ (m.o ++ d.drop (m.pl.toNat + m.o.length)) := by
      conv => lhs; rw [← List.take_append_drop m.pl.toNat d]
      rw [dr]
    generalize hA : d.take m.pl.toNat = A at *
    generalize hB : d.drop (m.pl.toNat + m.o.length) = B at *
    have dx : (doMv d m).drop m.pl.toNat = m.n ++ B := by
      unfold doMv
      rw [hA, hB, List.append_assoc, ← tl, List.drop_left]
    have can : canMv (doMv d m) m.flip = true := by
      unfold canMv
      rw [Bool.and_eq_true, Bool.and_eq_true, decide_eq_true_eq, decide_eq_true_eq, decide_eq_true_eq]
      refine ⟨p0, ?_, ?_⟩
      · show m.pl ≤ ((doMv d m).length : Int)
        unfold doMv
        rw [hA]
        simp only [List.length_append]
        omega
      · show ((doMv d m).drop m.pl.toNat).take m.n.length = m.n
        rw [dx, List.take_left]
    rw [mkMv_some (isMv_flip h1) can]
    congr 1
    show (doMv d m).take m.pl.toNat ++ m.o ++ (doMv d m).drop (m.pl.toNat + m.n.length) = d
    have tk : (doMv d m).take m.pl.toNat = A := by
      unfold doMv
      rw [hA, List.append_assoc, ← tl, List.take_left]
    have dk : (doMv d m).drop (m.pl.toNat + m.n.length) = B := by
      rw [← List.drop_drop, dx, List.drop_left]
    rw [tk, dk, List.append_assoc]
    exact dd.symm
  · cases h
theorem led_app2 (d : List Nat) (ms ns : List Mv) : led d (ms ++ ns) = (led d ms).bind fun x => led x ns := led_app d ms ns
def backMs (ms : List Mv) : List Mv := ms.reverse.map Mv.flip
theorem led_back : ∀ (ms : List Mv) {d x : List Nat}, led d ms = some x → led x (backMs ms) = some d
  | [], d, x, h => by
    cases h
    rfl
  | m :: r, d, x, h => by
    have e : led d (m :: r) = (led d [m]).bind fun y => led y r := led_app d [m] r
    rw [e] at h
    cases hy : led d [m] with
    | none => rw [hy] at h; cases h
    | some y =>
      rw [hy] at h
      have ih := led_back r (show led y r = some x from h)
      have hm : mkMv d m = some y := hy
      have e2 : backMs (m :: r) = backMs r ++ [m.flip] := by
        unfold backMs
        rw [List.reverse_cons, List.map_append]
        rfl
      rw [e2, led_app, ih]
      exact mk_flip hm
theorem fit_flip {ms : List Mv} {k : Nat} (h : FitAll ms k) : FitAll (backMs ms) k := fun m hm => by
  obtain ⟨x, hx, rfl⟩ := List.mem_map.mp hm
  have := h x (List.mem_reverse.mp hx)
  exact ⟨this.n, this.o⟩
theorem fit_app {ms ns : List Mv} {k : Nat} (h : FitAll ms k) (h2 : FitAll ns k) : FitAll (ms ++ ns) k := fun m hm => by
  rcases List.mem_append.mp hm with hm | hm
  · exact h m hm
  · exact h2 m hm
theorem wds_lets {u : List Nat} (h : u ∈ wds ∨ u = wF) : Lets u := by
  rcases h with h | rfl
  · unfold wds at h
    simp only [List.mem_cons, List.not_mem_nil, or_false] at h
    rcases h with rfl | rfl | rfl | rfl <;> exact lets_by rfl
  · exact lets_by rfl
theorem mk_lets {d x : List Nat} {m : Mv} (hd : Lets d) (h : mkMv d m = some x) : Lets x := by
  unfold mkMv at h
  split at h
  · rename_i hc
    cases h
    have hn : Lets m.n := by
      have h1 := hc.1
      have e := isMv_empty h1
      unfold isMv at h1
      rw [Bool.and_eq_true, Bool.or_eq_true, Bool.and_eq_true, decide_eq_true_eq, decide_eq_true_eq, decide_eq_true_eq] at h1
      have hw : m.o ++ m.n ∈ wds ∨ m.o ++ m.n = wF := by
        rcases h1.2 with h | h
        · exact .inl h
        · exact .inr h.2
      have := wds_lets hw
      exact fun c hc => this c (List.mem_append_right _ hc)
    unfold doMv
    exact lets_app (lets_app (lets_take hd _) hn) (fun c hc => hd c (List.mem_of_mem_drop hc))
  · cases h
theorem led_lets : ∀ (ms : List Mv) {d x : List Nat}, Lets d → led d ms = some x → Lets x
  | [], d, x, hd, h => by cases h; exact hd
  | m :: r, d, x, hd, h => by
    have e : led d (m :: r) = (led d [m]).bind fun y => led y r := led_app d [m] r
    rw [e] at h
    cases hy : led d [m] with
    | none => rw [hy] at h; cases h
    | some y =>
      rw [hy] at h
      exact led_lets r (mk_lets hd (show mkMv d m = some y from hy)) h
theorem led_num : ∀ (ms : List Mv) {d x : List Nat}, led d ms = some x → run (0, 1) x = run (0, 1) d
  | [], d, x, h => by cases h; rfl
  | m :: r, d, x, h => by
    have e : led d (m :: r) = (led d [m]).bind fun y => led y r := led_app d [m] r
    rw [e] at h
    cases hy : led d [m] with
    | none => rw [hy] at h; cases h
    | some y =>
      rw [hy] at h
      rw [led_num r h]
      exact mk_num (show mkMv d m = some y from hy)
end
theorem eqv2 (v u : Int × Int) : PyData.eqv (.tuple [.int v.1, .int v.2]) (.tuple [.int u.1, .int u.2]) = decide (v = u) := by
  obtain ⟨a, b⟩ := v
  obtain ⟨c, d⟩ := u
  by_cases h1 : a = c <;> by_cases h2 : b = d <;> simp [PyData.eqv, PyData.eqvAll, h1, h2]
section
variable {P : Program} {w : World} {K : PySem.W.Frag} {mg : Str → Option Value} {base : Heap} {f : Addr} {fd : FuncData}
theorem ok_num (F : Fun K "number" "number" s_number f fd) (D_after : Dfn P w K mg base "after" 2 ["fraction", "dance"] spAfter)  : FnOk P w K mg base CX0 3 f fd ["dance"] spNum := by
  refine F.ok sc_number (fun vs H Q E h => ?_) (fun cdv A outer s H vs Q E hr h => ?_)
  · obtain ⟨l, rfl, q⟩ := h
    rfl
  obtain ⟨l, rfl, q⟩ := h
  refine ⟨_, (pss_one (ps_ret (pe_do D_after hr (pa_cons (pe_tup (pa_cons pe_int (pa_cons pe_int pa_nil))) (pa_cons (pv 0) pa_nil))))), ?_⟩
  exact ⟨fits (by decide), fun p hp => ⟨_, rfl, p, (0, 1), l, rfl, upd_same, fun t' H' sm tt => q t' H' ((same_new hp _).trans sm) tt⟩⟩
end
section
variable {P : Program} {w : World} {K : PySem.W.Frag} {mg : Str → Option Value} {base : Heap} {f : Addr} {fd : FuncData}
theorem ok_diagram (F : Fun K "diagram" "diagram" s_diagram f fd)   : FnOk P w K mg base CX0 1 f fd ["dance"] spDiag := by
  refine F.ok sc_diagram (fun vs H Q E h => ?_) (fun cdv A outer s H vs Q E hr h => ?_)
  · obtain ⟨l, rfl, hz, q⟩ := h
    rfl
  obtain ⟨l, rfl, hz, q⟩ := h
  refine ⟨_, (pss_cons (ps_set (i := 1) sc_diagram.nd rfl (.inl rfl) pe_int)
    (pss_cons (ps_set (i := 2) sc_diagram.nd rfl (.inl rfl) (pe_lst pa_nil))
    (pss_cons (ps_asg (pe_tup (pa_cons pe_int (pa_cons pe_int (pa_cons pe_int (pa_cons pe_int pa_nil))))) (pg_tup (by rfl) (pgs_cons (pg_name (i := 3) sc_diagram.nd rfl (.inl rfl)) (pgs_cons (pg_name (i := 4) sc_diagram.nd rfl (.inl rfl)) (pgs_cons (pg_name (i := 5) sc_diagram.nd rfl (.inl rfl)) (pgs_cons (pg_name (i := 6) sc_diagram.nd rfl (.inl rfl)) pgs_nil))))))
    (pss_cons (ps_for PassesOwn.never rfl (pi_str (pv 0)) (pg_name (i := 7) sc_diagram.nd rfl (.inl rfl))
    (pss_cons (ps_if (pt_cmpR op_eq (pv 7) pe_str (nomark _)) (pss_cons (ps_asg (pe_tup (pa_cons (pv 5) (pa_cons (pv 3) (pa_cons (pv 6) (pa_cons (pv 4) pa_nil))))) (pg_tup (by rfl) (pgs_cons (pg_name (i := 3) sc_diagram.nd rfl (.inl rfl)) (pgs_cons (pg_name (i := 4) sc_diagram.nd rfl (.inl rfl)) (pgs_cons (pg_name (i := 5) sc_diagram.nd rfl (.inl rfl)) (pgs_cons (pg_name (i := 6) sc_diagram.nd rfl (.inl rfl)) pgs_nil))))))
    (pss_one ps_continue)) pss_nil)
    (pss_cons (ps_if (pt_cmpR op_eq (pv 7) pe_str (nomark _)) (pss_cons (ps_expr (pe_bm PySem.F.plainAttrs_list PySem.F.slot_list_append PySem.F.type_list_append mt_append (pv 2) (pa_cons (pe_tup (pa_cons (pv 4) (pa_cons (pv 6) (pa_cons (pv 1) pa_nil)))) pa_nil)))
    (pss_one (ps_par (i := 4) (j := 6) (by rfl) sc_diagram.nd rfl rfl (by decide) rfl rfl (pa_cons (pv 1) (pa_cons (pv 4) pa_nil)) (by rfl)))) (pss_cons (ps_expr (pe_bm PySem.F.plainAttrs_list PySem.F.slot_list_append PySem.F.type_list_append mt_append (pv 2) (pa_cons (pe_tup (pa_cons (pv 6) (pa_cons (pv 4) (pa_cons (pv 1) pa_nil)))) pa_nil)))
    (pss_one (ps_par (i := 4) (j := 6) (by rfl) sc_diagram.nd rfl rfl (by decide) rfl rfl (pa_cons (pv 6) (pa_cons (pv 1) pa_nil)) (by rfl)))))
    (pss_one (ps_aug (i := 1) sc_diagram.nd rfl (.inl rfl) pe_int ip_add)))))
    (pss_one (ps_ret (pe_tup (pa_cons (pv 1) (pa_cons (pv 2) (pa_cons (pe_tup (pa_cons (pv 3) (pa_cons (pv 4) (pa_cons (pv 5) (pa_cons (pv 6) pa_nil))))) pa_nil)))))))))), ?_⟩
  have sz : 4 ≤ sizeLine := fits (by decide)
  have s3 : 3 ≤ sizeLine := fits (by decide)
  refine ⟨fits (by decide), fun p hp => ⟨sz, fun e0 he0 => ?_⟩⟩
  refine ⟨e0, _, rfl, SqT.of upd_same, rfl, _, _, rfl, _, _, rfl, _, _, rfl, _, _, rfl, rfl, ?_⟩
  refine ⟨_, rfl, _, rfl, for_str (l := l) (fun i σ H' => ∃ (x1 : Option V), σ = [some (.str (S l)), some (.int ((dg (l.take i)).n : Int)), some (.ref p), some (.int ((dg (l.take i)).a : Int)), some (.int ((dg (l.take i)).b : Int)), some (.int ((dg (l.take i)).c : Int)), some (.int ((dg (l.take i)).d : Int)), x1] ∧ Same H H' ∧ Crs H' p (dg (l.take i)).cs) ?_ ?_ ?_⟩
  · refine ⟨_, rfl, (same_new hp _).trans (same_new he0 _), [], ?_, rfl, fun i r c a _ => by cases a⟩
    rw [upd_ne (ne_of_none upd_same he0), upd_same]
    rfl
  · rintro i c σ H1 hc ⟨x1, rfl, sm, cr⟩
    have hi : i < l.length := (List.getElem?_eq_some_iff.mp hc).1
    have dl := dg_len (l.take i)
    rw [List.length_take] at dl
    have st := dg_take hc
    generalize dg (l.take i) = g at *
    refine ⟨_, rfl, rfl, _, rfl, ite2 (fun c1 => ?_) (fun c1 => ?_)⟩
    · have k1 : c = 82 := (sign_eq e_R).mp (of_decide_eq_true c1)
      have e1 : dg1 g c = ⟨g.n, g.cs, g.c, g.a, g.d, g.b⟩ := if_pos k1
      rw [e1] at st
      rw [st]
      refine ⟨_, rfl, _, rfl, _, rfl, _, rfl, sz, fun t ht => ⟨t, _, rfl, SqT.of upd_same, rfl, _, _, rfl, _, _, rfl, _, _, rfl, _, _, rfl, rfl, ?_⟩⟩
      exact ⟨_, rfl, sm.trans (same_new ht _), cr.same (same_new ht _)⟩
    have k1 : ¬ c = 82 := fun z => c1 (decide_eq_true ((sign_eq e_R).mpr z))
    refine ⟨_, rfl, rfl, _, rfl, ite2 (fun c2 => ?_) (fun c2 => ?_)⟩
    · have k2 : c = 84 := (sign_eq e_T).mp (of_decide_eq_true c2)
      have e1 : dg1 g c = ⟨g.n + 1, g.cs ++ [(g.b, g.d, g.n)], g.a, g.n, g.c, g.b⟩ := (if_neg k1).trans (if_pos k2)
      rw [e1] at st
      rw [st]
      obtain ⟨rs, hrs, _⟩ := cr
      refine ⟨_, rfl, .inl ⟨rfl, _, SqL.of hrs⟩, _, rfl, _, rfl, _, rfl, s3, fun t ht => ?_⟩
      obtain ⟨xs, hx, hl, cr'⟩ := Crs.push ⟨rs, hrs, ‹_›⟩ ht (g.b, g.d, g.n)
      refine ⟨p, xs, _, rfl, rfl, hx, Nat.lt_of_lt_of_le (show xs.length < 16777216 by omega) sizeLine_big, ?_⟩
      refine ⟨_, rfl, _, rfl, _, _, rfl, _, rfl, _, _, rfl, rfl, _, rfl, fun b o hb => ?_, cr'⟩
      rw [upd_ne (ne_of_none hb hp), upd_ne (ne_of_none (sm _ _ hb) ht)]
      exact sm _ _ hb
    · have k2 : ¬ c = 84 := fun z => c2 (decide_eq_true ((sign_eq e_T).mpr z))
      have e1 : dg1 g c = ⟨g.n + 1, g.cs ++ [(g.d, g.b, g.n)], g.a, g.d, g.c, g.n⟩ := (if_neg k1).trans (if_neg k2)
      rw [e1] at st
      rw [st]
      obtain ⟨rs, hrs, _⟩ := cr
      refine ⟨_, rfl, .inl ⟨rfl, _, SqL.of hrs⟩, _, rfl, _, rfl, _, rfl, s3, fun t ht => ?_⟩
      obtain ⟨xs, hx, hl, cr'⟩ := Crs.push ⟨rs, hrs, ‹_›⟩ ht (g.d, g.b, g.n)
      refine ⟨p, xs, _, rfl, rfl, hx, Nat.lt_of_lt_of_le (show xs.length < 16777216 by omega) sizeLine_big, ?_⟩
      refine ⟨_, rfl, _, rfl, _, _, rfl, _, rfl, _, _, rfl, rfl, _, rfl, fun b o hb => ?_, cr'⟩
      rw [upd_ne (ne_of_none hb hp), upd_ne (ne_of_none (sm _ _ hb) ht)]
      exact sm _ _ hb
  · rintro σ H1 ⟨x1, rfl, sm, cr⟩
    rw [List.take_of_length_le (Nat.le_refl _)] at cr ⊢
    exact ⟨_, rfl, _, rfl, _, rfl, _, rfl, _, rfl, _, rfl, sz, fun e he => ⟨s3, fun t ht => q t p _ ((sm.trans (same_new he _)).trans (same_new ht _)) hp ⟨e, upd_same, same_new ht _ _ _ upd_same, (cr.same (same_new he _)).same (same_new ht _)⟩⟩⟩
end
section
variable {P : Program} {w : World} {K : PySem.W.Frag} {mg : Str → Option Value} {base : Heap} {f : Addr} {fd : FuncData}
theorem ok_colouring (F : Fun K "colouring" "colouring" s_colouring f fd) (D_diagram : Dfn P w K mg base "diagram" 1 ["dance"] spDiag)  : FnOk P w K mg base CX0 2 f fd ["dance", "first", "second"] spCol := by
  refine F.ok sc_colouring (fun vs H Q E h => ?_) (fun cdv A outer s H vs Q E hr h => ?_)
  · obtain ⟨l, x, y, rfl, hz, q⟩ := h
    rfl
  obtain ⟨l, x, y, rfl, hz, q⟩ := h
  refine ⟨_, (pss_cons (ps_set (i := 3) sc_colouring.nd rfl (.inl rfl) (pe_ix ix_tup (pe_do D_diagram hr (pa_cons (pv 0) pa_nil)) pe_int (fun _ _ => rfl)))
    (pss_cons (ps_set (i := 4) sc_colouring.nd rfl (.inl rfl) (pe_lst (pa_cons (pv 1) (pa_cons (pv 2) pa_nil))))
    (pss_cons (ps_for PassesOwn.never rfl (pi_list (pv 3)) (pg_tup (by rfl) (pgs_cons (pg_name (i := 5) sc_colouring.nd rfl (.inl rfl)) (pgs_cons (pg_name (i := 6) sc_colouring.nd rfl (.inl rfl)) (pgs_cons (pg_name (i := 7) sc_colouring.nd rfl (.inl rfl)) pgs_nil))))
    (pss_one (ps_expr (pe_bm PySem.F.plainAttrs_list PySem.F.slot_list_append PySem.F.type_list_append mt_append (pv 4) (pa_cons (pe_op op_sub (pe_op op_mul pe_int (pe_ix ix_list (pv 4) (pv 5) (fun _ _ => rfl))) (pe_ix ix_list (pv 4) (pv 6) (fun _ _ => rfl))) pa_nil)))))
    (pss_one (ps_ret (pv 4)))))), ?_⟩
  have two : 2 ≤ sizeLine := fits (by decide)
  refine ⟨_, rfl, l, rfl, hz, fun t kp H2 s2 nk dgm => ?_⟩
  obtain ⟨e, ht, he, rs, hrs, zr, kr⟩ := dgm
  refine ⟨t, _, _, _, rfl, rfl, SqT.of ht, rfl, ?_⟩
  refine ⟨_, rfl, _, rfl, two, fun p hp => ?_⟩
  have np : p ≠ kp := (ne_of_none hrs hp).symm
  have wl := wf_dg l
  have dl := dg_len l
  have hrs1 := same_new hp (.lst [V.int x, .int y]) _ _ hrs
  refine ⟨_, rfl, kp, rfl, ⟨_, SqL.of hrs1⟩, for_list (K := K) (a := kp) (xs := rs.map V.ref) (fun i σ G => ∃ (x4 x5 x6 : Option V), σ = [some (.str (S l)), some (.int x), some (.int y), some (.ref kp), some (.ref p), x4, x5, x6] ∧ But p (upd H2 p (.lst [V.int x, .int y])) G ∧ G p = some (.lst ((col ((dg l).cs.take i) x y).map V.int))) ?_ ?_ ?_ ?_⟩
  · exact ⟨_, _, _, rfl, But.refl _ _, upd_same⟩
  · rintro i σ G _ ⟨x4, x5, x6, _, bt, _⟩
    exact SqL.of (bt _ _ np.symm hrs1)
  · rintro i v σ G hv ⟨x4, x5, x6, rfl, bt, hG⟩
    rw [List.getElem?_map] at hv
    cases hr : rs[i]? with
    | none => rw [hr] at hv; cases hv
    | some r =>
      rw [hr] at hv
      cases hv
      have hi : i < (dg l).cs.length := by rw [← zr]; exact (List.getElem?_eq_some_iff.mp hr).1
      have hc : (dg l).cs[i]? = some (dg l).cs[i] := List.getElem?_eq_getElem hi
      generalize (dg l).cs[i] = c at hc
      have tr := same_new hp (.lst [V.int x, .int y]) _ _ (kr i r c hr hc)
      have trG := bt _ _ (ne_of tr (upd_same (H := H2) (a := p)) (by intro z; cases z)) tr
      obtain ⟨b1, b2, b3⟩ := wl.at_ i c hc
      have lA := col_len x y ((dg l).cs.take i)
      rw [List.length_take] at lA
      have lm : ((col ((dg l).cs.take i) x y).map V.int).length < sizeLine := by
        rw [List.length_map]
        exact Nat.lt_of_lt_of_le (show _ < 16777216 by omega) sizeLine_big
      refine ⟨r, _, rfl, SqT.of trG, rfl, _, _, rfl, _, _, rfl, _, _, rfl, rfl, ?_⟩
      refine ⟨_, rfl, .inl ⟨rfl, _, SqL.of hG⟩, _, rfl, _, rfl, p, _, _, _, rfl, rfl, SqL.of hG, at_getD (by omega), _, _, rfl, rfl, .inl ⟨by decide, by decide⟩, _, rfl, _, rfl, p, _, _, _, rfl, rfl, SqL.of hG, at_getD (by omega), _, _, rfl, rfl, p, _, _, rfl, rfl, hG, lm, ?_⟩
      refine ⟨_, _, _, rfl, bt.trans But.upd, ?_⟩
      rw [upd_same, List.take_add_one, hc]
      show _ = some (HO.lst ((col ((dg l).cs.take i ++ [c]) x y).map V.int))
      rw [col_snoc]
      unfold cstep
      rw [List.map_append]
      rfl
  · rintro σ G ⟨x4, x5, x6, rfl, bt, hG⟩
    rw [List.length_map, zr, List.take_of_length_le (Nat.le_refl _)] at hG
    have hp0 : H p = none := by
      cases e : H p with
      | none => rfl
      | some o => have := s2 _ _ e; rw [hp] at this; cases this
    exact ⟨_, rfl, q p G (fun b o hb => bt _ _ (ne_of_none hb hp0) (same_new hp _ _ _ (s2 _ _ hb))) hp0 hG⟩
end
section
variable {P : Program} {w : World} {K : PySem.W.Frag} {mg : Str → Option Value} {base : Heap} {f : Addr} {fd : FuncData}
theorem ok_is_plain (F : Fun K "is_plain" "is_plain" s_is_plain f fd) (y_len : mg "len" = none)  : FnOk P w K mg base CX0 1 f fd ["colours"] spPlain := by
  refine F.ok sc_is_plain (fun vs H Q E h => ?_) (fun cdv A outer s H vs Q E hr h => ?_)
  · obtain ⟨cp, A, rfl, hA, z0, zA, q⟩ := h
    rfl
  obtain ⟨cp, A, rfl, hA, z0, zA, q⟩ := h
  refine ⟨_, (pss_one (ps_ret (pe_cmpR op_eq (pe_bm PySem.F.plainAttrs_list PySem.F.slot_list_count PySem.F.type_list_count mt_lcount (pv 0) (pa_cons (pe_ix ix_list (pv 0) pe_int (fun _ _ => rfl)) pa_nil)) (pe_callB call_len_seq rfl y_len PySem.boot_len (pa_cons (pv 0) pa_nil)) (nomark _)))), ?_⟩
  refine ⟨_, rfl, .inl ⟨rfl, _, SqL.of hA⟩, _, rfl, cp, _, _, _, rfl, rfl, SqL.of hA, at_getD (i := 0) z0, cp, A, _, rfl, rfl, SqL.of hA, _, rfl, cp, _, rfl, .inl (SqL.of hA), rfl, ?_⟩
  have e : decide (V.int ((A.count (A.getD 0 0) : Nat) : Int) = V.int (((A.map V.int).length : Nat) : Int)) = plainB A := by
    rw [Bool.eq_iff_iff, decide_eq_true_eq, List.length_map]
    unfold plainB
    rw [List.all_eq_true]
    constructor
    · intro h x hx
      have h1 : A.count (A.getD 0 0) = A.length := by have := V.int.inj h; omega
      exact beq_iff_eq.mpr (List.count_eq_length.mp h1 x hx).symm
    · intro h
      have h1 : A.count (A.getD 0 0) = A.length := List.count_eq_length.mpr fun x hx => (beq_iff_eq.mp (h x hx)).symm
      rw [h1]
  rw [e]
  exact q
end
section
variable {P : Program} {w : World} {K : PySem.W.Frag} {mg : Str → Option Value} {base : Heap} {f : Addr} {fd : FuncData}
theorem ok_is_colouring {c Pt : Addr} (F : Fun K "is_colouring" "is_colouring" s_is_colouring f fd) (hc : fd.code = .ref c) (TB : GxR.TabB base mg c Pt) (D_diagram : Dfn P w K mg base "diagram" 1 ["dance"] spDiag) (y_all : mg "all" = none) (y_len : mg "len" = none) : FnOk P w K mg base CX0 2 f fd ["dance", "colours"] (spIsCol Pt) := by
  refine okC F hc sc_is_colouring (fun vs H Q E h => ?_) (fun A0 outer s H vs Q E hr h => ?_)
  · obtain ⟨l, cp, A, rfl, _⟩ := h
    rfl
  obtain ⟨l, cp, A, rfl, hA, zA, zl, tg, q⟩ := h
  refine ⟨_, (pss_cons (ps_asg (pe_do D_diagram hr (pa_cons (pv 0) pa_nil)) (pg_tup (by rfl) (pgs_cons (pg_name (i := 2) sc_is_colouring.nd rfl (.inl rfl)) (pgs_cons (pg_name (i := 3) sc_is_colouring.nd rfl (.inl rfl)) (pgs_cons (pg_name (i := 4) sc_is_colouring.nd rfl (.inl rfl)) pgs_nil)))))
    (pss_cons (ps_if (pt_cmpR op_ne (pe_callB call_len_seq rfl y_len PySem.boot_len (pa_cons (pv 1) pa_nil)) (pv 2) (nomark _)) (pss_one (ps_ret pe_bl)) pss_nil)
    (pss_one (ps_ret (pe_all3 (k := 1) hr rfl y_all TB rfl ?sc (pv 3) (fun v => rfl)))))), ?rd⟩
  case sc =>
    refine ⟨rfl, rfl, by decide +kernel, rfl, rfl, rfl, rfl, by decide, by decide, by decide, fun y hy e => ?_⟩
    have hn : y.1 = ("colours" : Str) := by
      revert y
      decide +kernel
    rw [hn]
    exact ⟨_, rfl⟩
  case rd =>
    refine ⟨_, rfl, l, rfl, by omega, fun t kp H1 s1 nk dgm => ?_⟩
    obtain ⟨e, ht, he, rs, hrs, zr, kr⟩ := dgm
    have tg1 := TabG.same tg s1
    have hA1 := s1 _ _ hA
    have w0 := wf_dg l
    refine ⟨t, _, rfl, SqT.of ht, rfl, _, _, rfl, _, _, rfl, _, _, rfl, rfl, ?_⟩
    refine ⟨_, rfl, cp, _, rfl, .inl (SqL.of hA1), _, rfl, rfl, _, rfl, ?_⟩
    have q1 := fun H' b => q H' ((Bt.of s1 tg).trans b)
    by_cases hl : A.length = (dg l).n
    · have e1 : decide (V.int (((A.map V.int).length : Nat) : Int) = V.int (((dg l).n : Nat) : Int)) = true := decide_eq_true (by rw [List.length_map, hl])
      rw [e1]
      refine iteF ⟨_, rfl, kp, (dg l).cs.map crossV, keepAt (dg l).cs A, rfl, ⟨rs, hrs, by rw [List.length_map]; exact zr, fun i t q hi hq => ?_⟩, tg1, fun pins1 s2 J => ?_, fun G' tb => ?_⟩
      · rw [List.getElem?_map] at hq
        cases hcc : (dg l).cs[i]? with
        | none => rw [hcc] at hq; cases hq
        | some c =>
          rw [hcc] at hq
          cases hq
          exact kr i t c hi hcc
      · obtain ⟨ps, hps, _⟩ := tg1
        refine elt_cross (ic := 1) (cp := cp) J rfl rfl rfl rfl rfl (by decide +kernel) rfl rfl rfl rfl hA1 hps (by omega) fun i c hc2 => ?_
        obtain ⟨b1, b2, b3⟩ := w0.at_ i c hc2
        have := (List.getElem?_eq_some_iff.mp hc2).1
        have := w0.n
        exact ⟨by omega, by omega, by omega⟩
      · rw [List.length_map, all_keep]
        have q2 := q1 G' (Bt.tabbed tb)
        unfold isColB at q2
        rw [decide_eq_true hl, Bool.true_and] at q2
        exact q2
    · have e1 : decide (V.int (((A.map V.int).length : Nat) : Int) = V.int (((dg l).n : Nat) : Int)) = false := decide_eq_false fun z => hl (by have := V.int.inj z; rw [List.length_map] at this; omega)
      rw [e1]
      have q2 := q1 H1 (Bt.refl tg1)
      unfold isColB at q2
      rw [decide_eq_false hl, Bool.false_and] at q2
      exact iteT q2
end
section
variable {P : Program} {w : World} {K : PySem.W.Frag} {mg : Str → Option Value} {base : Heap} {f : Addr} {fd : FuncData}
theorem ok_reading (F : Fun K "reading" "reading" s_reading f fd) (D_is_plain : Dfn P w K mg base "is_plain" 2 ["colours"] spPlain) (D_is_colouring : Dfn P w K mg base "is_colouring" 2 ["dance", "colours"] (spIsCol Pt)) (D_diagram : Dfn P w K mg base "diagram" 2 ["dance"] spDiag) (D_fraction : Dfn P w K mg base "fraction" 2 ["p", "q"] spFrac)  : FnOk P w K mg base CX0 3 f fd ["dance", "colours"] (spReading Pt) := by
  refine F.ok sc_reading (fun vs H Q E h => ?_) (fun cdv A outer s H vs Q E hr h => ?_)
  · obtain ⟨l, cp, A, rfl, hl, hA, zA, zl, bd, tg, q⟩ := h
    rfl
  obtain ⟨l, cp, A, rfl, hl, hA, zA, zl, bd, tg, q⟩ := h
  refine ⟨_, (pss_cons (ps_if (PW.pt (pw_or (pt_not (pt_val (pe_do D_is_colouring hr (pa_cons (pv 0) (pa_cons (pv 1) pa_nil))))) (pw_or1 (pt_val (pe_do D_is_plain hr (pa_cons (pv 1) pa_nil)))))) (pss_one (ps_ret pe_non)) pss_nil)
    (pss_cons (ps_asg (pe_ix ix_tup (pe_do D_diagram hr (pa_cons (pv 0) pa_nil)) pe_int (fun _ _ => rfl)) (pg_tup (by rfl) (pgs_cons (pg_name (i := 2) sc_reading.nd rfl (.inl rfl)) (pgs_cons (pg_name (i := 3) sc_reading.nd rfl (.inl rfl)) (pgs_cons (pg_name (i := 4) sc_reading.nd rfl (.inl rfl)) (pgs_cons (pg_name (i := 5) sc_reading.nd rfl (.inl rfl)) pgs_nil))))))
    (pss_one (ps_ret (pe_do D_fraction hr (pa_cons (pe_op op_sub (pe_ix ix_list (pv 1) (pv 3) (fun _ _ => rfl)) (pe_ix ix_list (pv 1) (pv 2) (fun _ _ => rfl))) (pa_cons (pe_op op_sub (pe_ix ix_list (pv 1) (pv 3) (fun _ _ => rfl)) (pe_ix ix_list (pv 1) (pv 5) (fun _ _ => rfl))) pa_nil))))))), ?_⟩
  have w0 := wf_dg l
  refine ⟨_, rfl, _, rfl, l, cp, A, rfl, hA, zA, zl, tg, fun H1 b1 => ⟨_, rfl, ?_⟩⟩
  have hA1 := b1.lst tg hA
  cases hc : isColB l A with
  | false => exact iteT (q _ H1 b1 (by rw [dtR_none (.inl hc)]; exact non_is))
  | true =>
    obtain ⟨_, hlen⟩ := isCol_col hc
    have wn := w0.n
    have wa := w0.a
    have wb := w0.b
    have wd := w0.d
    refine iteF ⟨_, rfl, cp, A, rfl, hA1, by omega, zA, _, rfl, ?_⟩
    cases hp : plainB A with
    | true => exact iteT (q _ H1 b1 (by rw [dtR_none (.inr hp)]; exact non_is))
    | false =>
      refine iteF ⟨_, rfl, l, rfl, by omega, fun t kp H2 s2 nk dgm => ?_⟩
      obtain ⟨e, ht, he, cr⟩ := dgm
      have hA2 := SqL.of (K := K) (s2 _ _ hA1)
      refine ⟨t, _, _, _, rfl, rfl, SqT.of ht, rfl, e, _, rfl, SqT.of he, rfl, _, _, rfl, _, _, rfl, _, _, rfl, _, _, rfl, rfl, ?_⟩
      obtain ⟨r1, r2⟩ := reads hl hc hp
      have b0 := fun i => bd.at i
      refine ⟨_, rfl, _, rfl, cp, _, _, _, rfl, rfl, hA2, at_getD (by omega), _, rfl, _, rfl, cp, _, _, _, rfl, rfl, hA2, at_getD (by omega), _, _, rfl, rfl, _, rfl, _, rfl, cp, _, _, _, rfl, rfl, hA2, at_getD (by omega), _, rfl, _, rfl, cp, _, _, _, rfl, rfl, hA2, at_getD (by omega), _, _, rfl, rfl, _, _, rfl, r2, ?_, ?_, fun t3 H3 s3 tt => q _ H3 ((b1.same s2).same s3) ?_⟩
      · have h1 := b0 (dg l).b
        have h2 := b0 (dg l).a
        omega
      · have h1 := b0 (dg l).b
        have h2 := b0 (dg l).d
        omega
      · rw [dtR_some hc hp]
        rw [r1] at tt
        exact tup2_is (n := 0) tt
end
section
variable {P : Program} {w : World} {K : PySem.W.Frag} {mg : Str → Option Value} {base : Heap} {f : Addr} {fd : FuncData}
theorem ok_is_move (F : Fun K "is_move" "is_move" s_is_move f fd)  {dW : Addr} {tF : Tok} (gW : mg "WORDS" = some (.ref dW)) (hW : ∀ H, SqT K H dW (wds.map tx)) (gF : mg "WORD_IN_FRONT" = some (.str "RTR" tF)) : FnOk P w K mg base CX0 1 f fd ["move"] spIsMove := by
  refine F.ok sc_is_move (fun vs H Q E h => ?_) (fun cdv A outer s H vs Q E hr h => ?_)
  · obtain ⟨t, m, rfl, hT, hf, q⟩ := h
    rfl
  obtain ⟨t, m, rfl, hT, hf, q⟩ := h
  refine ⟨_, (pss_cons (ps_asg (pv 0) (pg_tup (by rfl) (pgs_cons (pg_name (i := 1) sc_is_move.nd rfl (.inl rfl)) (pgs_cons (pg_name (i := 2) sc_is_move.nd rfl (.inl rfl)) (pgs_cons (pg_name (i := 3) sc_is_move.nd rfl (.inl rfl)) pgs_nil)))))
    (pss_cons (ps_if (PW.pt (pw_and (pt_cmpR op_ne (pv 2) pe_str (nomark _)) (pw_and1 (pt_cmpR op_ne (pv 3) pe_str (nomark _))))) (pss_one (ps_ret pe_bl)) pss_nil)
    (pss_cons (ps_set (i := 4) sc_is_move.nd rfl (.inl rfl) (pe_op op_add_str (pv 2) (pv 3)))
    (pss_one (ps_ret (pe_or (pe_cmpR op_in_seq (pv 4) (pe_glob (v := .ref dW) rfl gW rfl) (by rfl)) (pe_one (pe_and (pe_cmpR op_eq (pv 1) pe_int (nomark _)) (pe_one (pe_cmpR op_eq (pv 4) (pe_glob (v := .str "RTR") rfl gF ⟨_, rfl⟩) (nomark _))))))))))), ?_⟩
  have z1 := hf.o
  have z2 := hf.n
  have sz : (S m.o).length + (S m.n).length ≤ sizeLine := by rw [S_len, S_len]; exact fits (by omega)
  have ee : ∀ l : List Nat, (decide (V.str (S l) = V.str "")) = decide (l = []) := fun l => by rw [e_empty]; exact decide_eq_decide.mpr tx_iff
  have q1 := q H (Same.refl H)
  have rest : m.o = [] ∨ m.n = [] → (isMv m = (decide (m.o ++ m.n ∈ wds) || (decide (m.pl = 0) && decide (m.o ++ m.n = wF)))) := fun h => by
    unfold isMv
    by_cases h1 : m.o = [] <;> by_cases h2 : m.n = []
    · rw [h1, h2]
      rw [show decide (([] : List Nat) ++ [] ∈ wds) = false by decide, show decide (([] : List Nat) ++ [] = wF) = false by decide]
      simp
    · rw [decide_eq_true h1, decide_eq_false h2]; simp
    · rw [decide_eq_true h2, decide_eq_false h1]; simp
    · exact (h.elim h1 h2).elim
  refine ⟨_, rfl, t, _, rfl, SqT.of hT, rfl, _, _, rfl, _, _, rfl, _, _, rfl, rfl, ?_⟩
  refine ⟨_, rfl, rfl, _, rfl, ?_⟩
  rw [ee]
  refine ite2 (fun c => ?A) (fun c => iteF ?B)
  case' A =>
    refine ⟨_, rfl, rfl, _, rfl, ?_⟩
    rw [ee]
    refine ite2 (fun c2 => ?D) (fun c2 => ?C)
  case D =>
    have n1 : ¬ m.o = [] := by simpa using c
    have n2 : ¬ m.n = [] := by simpa using c2
    have e : isMv m = false := by unfold isMv; rw [decide_eq_false n1, decide_eq_false n2]; rfl
    rw [e] at q1
    exact q1
  all_goals
    have hh : m.o = [] ∨ m.n = [] := by first | exact .inr (by simpa using c2) | exact .inl (by simpa using c)
    rw [rest hh] at q1
    refine ⟨_, rfl, _, rfl, _, _, rfl, rfl, sz, ?_⟩
    refine ⟨_, rfl, dW, _, rfl, .inr (hW H), rfl, flat_strs _, ?_⟩
    rw [S_app]
    refine ⟨_, rfl, ?_⟩
    rw [show (if false = true then !(inV (V.str (S (m.o ++ m.n))) (wds.map tx)) else inV (V.str (S (m.o ++ m.n))) (wds.map tx)) = decide (m.o ++ m.n ∈ wds) from inV_strs _ _]
    refine ite2 (fun c1 => ?_) (fun c1 => ?_)
    · rw [c1, Bool.true_or] at q1
      exact q1
    · rw [Bool.not_eq_true] at c1
      rw [c1, Bool.false_or] at q1
      refine ⟨_, rfl, rfl, _, rfl, ite2 (fun c2 => ?_) (fun c2 => ?_)⟩
      · have k2 : m.pl = 0 := V.int.inj (of_decide_eq_true c2)
        rw [decide_eq_true k2, Bool.true_and] at q1
        refine ⟨_, rfl, rfl, ?_⟩
        rw [e_RTR, show decide (V.str (S (m.o ++ m.n)) = V.str (S wF)) = decide (m.o ++ m.n = wF) from decide_eq_decide.mpr tx_iff]
        exact q1
      · have k2 : ¬ m.pl = 0 := fun z => c2 (decide_eq_true (congrArg V.int z))
        rw [decide_eq_false k2, Bool.false_and] at q1
        exact q1
end
section
variable {P : Program} {w : World} {K : PySem.W.Frag} {mg : Str → Option Value} {base : Heap} {f : Addr} {fd : FuncData}
theorem ok_madeX (F : Fun K "made" "made" s_made f fd) (D_is_move : Dfn P w K mg base "is_move" 1 ["move"] spIsMove) (y_len : mg "len" = none) {C : Addr} (EC : Err K mg "BadMove" C) : FnOk P w K mg base (CX P w) 2 f fd ["dance", "move"] (spMadeX C) := by
  refine F.okX sc_made (fun vs H Q E h => ?_) (fun cdv A outer s H vs Q E hr h => ?_)
  · obtain ⟨d, t, m, rfl, hT, hf, hd, q, qE⟩ := h
    rfl
  obtain ⟨d, t, m, rfl, hT, hf, hd, q, qE⟩ := h
  refine ⟨_, (pss_cons (ps_if (pt_not (pt_val (pe_do D_is_move hr (pa_cons (pv 1) pa_nil)))) (pss_one (L2.ps_raise rfl (L2.takes_of rfl rfl rfl rfl) (L2.pmk_own PySem.F.excBase_ValueError EC.x EC.g EC.k (raises_own EC.b EC.t) rfl))) pss_nil)
    (pss_cons (ps_asg (pv 1) (pg_tup (by rfl) (pgs_cons (pg_name (i := 2) sc_made.nd rfl (.inl rfl)) (pgs_cons (pg_name (i := 3) sc_made.nd rfl (.inl rfl)) (pgs_cons (pg_name (i := 4) sc_made.nd rfl (.inl rfl)) pgs_nil)))))
    (pss_cons (ps_set (i := 5) sc_made.nd rfl (.inl rfl) (pe_op op_add (pv 2) (pe_callB call_len_str rfl y_len PySem.boot_len (pa_cons (pv 3) pa_nil))))
    (pss_cons (ps_if (PW.pt (pw_or (pt_cmpR op_lt (pv 2) pe_int (nomark _)) (pw_or (pt_cmpR op_gt (pv 2) (pe_callB call_len_str rfl y_len PySem.boot_len (pa_cons (pv 0) pa_nil)) (nomark _)) (pw_or1 (pt_cmpR op_ne (pe_slice sl_str (pv 0) (po_some (pv 2)) (po_some (pv 5))) (pv 3) (nomark _)))))) (pss_one (L2.ps_raise rfl (L2.takes_of rfl rfl rfl rfl) (L2.pmk_own PySem.F.excBase_ValueError EC.x EC.g EC.k (raises_own EC.b EC.t) rfl))) pss_nil)
    (pss_one (ps_ret (pe_op op_add_str (pe_op op_add_str (pe_slice sl_str (pv 0) po_none (po_some (pv 2))) (pv 4)) (pe_slice sl_str (pv 0) (po_some (pv 5)) po_none)))))))), ?_⟩
  have z1 := hf.o
  have z2 := hf.n
  refine ⟨_, rfl, t, m, rfl, hT, hf, fun H1 s1 => ?_⟩
  refine ⟨_, rfl, ?_⟩
  cases e : isMv m with
  | false => exact iteT (qE (mkMv_not e) H1 s1)
  | true =>
    refine iteF ?_
    refine ⟨_, rfl, t, _, rfl, SqT.of (hT.same s1), rfl, _, _, rfl, _, _, rfl, _, _, rfl, rfl, ?_⟩
    refine ⟨_, rfl, _, rfl, _, rfl, by rw [S_len]; exact fits (by omega), _, _, rfl, rfl, ?_⟩
    rw [S_len]
    refine ⟨_, rfl, _, _, rfl, rfl, _, rfl, ite2 (fun c1 => ?_) (fun c1 => ?_)⟩
    · have k1 : m.pl < 0 := of_decide_eq_true c1
      have ec : canMv d m = false := by unfold canMv; rw [decide_eq_false (by omega), Bool.false_and]
      exact iteT (qE (mkMv_cannot ec) H1 s1)
    have k1 : 0 ≤ m.pl := by
      have : ¬ m.pl < 0 := fun z => c1 (decide_eq_true z)
      omega
    refine ⟨_, rfl, _, rfl, _, rfl, by rw [S_len]; exact fits (by omega), _, _, rfl, rfl, _, rfl, ?_⟩
    rw [S_len]
    refine ite2 (fun c2 => ?_) (fun c2 => ?_)
    · have k2 : (d.length : Int) < m.pl := of_decide_eq_true c2
      have ec : canMv d m = false := by unfold canMv; rw [decide_eq_false (show ¬ m.pl ≤ d.length by omega), Bool.false_and, Bool.and_false]
      exact iteT (qE (mkMv_cannot ec) H1 s1)
    have k2 : m.pl ≤ d.length := by
      have : ¬ (d.length : Int) < m.pl := fun z => c2 (decide_eq_true z)
      omega
    refine ⟨_, rfl, _, rfl, _, rfl, _, rfl, _, rfl, _, rfl, by rw [S_len]; exact fits (by omega), ?_⟩
    rw [S_mid d k1]
    refine ⟨_, rfl, rfl, _, rfl, ?_⟩
    rw [show decide (V.str (S ((d.drop m.pl.toNat).take m.o.length)) = V.str (S m.o)) = decide ((d.drop m.pl.toNat).take m.o.length = m.o) from decide_eq_decide.mpr tx_iff]
    refine ite2 (fun c3 => ?_) (fun c3 => ?_)
    · have k3 : ¬ (d.drop m.pl.toNat).take m.o.length = m.o := by simpa using c3
      have ec : canMv d m = false := by unfold canMv; rw [decide_eq_false k3, Bool.and_false, Bool.and_false]
      exact qE (mkMv_cannot ec) H1 s1
    · have k3 : (d.drop m.pl.toNat).take m.o.length = m.o := by simpa using c3
      have ec : canMv d m = true := by unfold canMv; rw [decide_eq_true k1, decide_eq_true k2, decide_eq_true k3]; rfl
      have q1 := q _ (mkMv_some e ec) H1 s1
      refine ⟨_, rfl, _, rfl, _, rfl, _, rfl, by rw [S_len]; exact fits (by omega), ?_⟩
      rw [S_take d k1]
      refine ⟨_, rfl, _, _, rfl, rfl, ?_, ?_⟩
      · rw [S_len, S_len, List.length_take]; exact fits (by omega)
      rw [S_app]
      refine ⟨_, rfl, _, rfl, _, rfl, _, rfl, by rw [S_len]; exact fits (by omega), ?_⟩
      rw [S_drop d (show 0 ≤ m.pl + (m.o.length : Int) by omega), show (m.pl + (m.o.length : Int)).toNat = m.pl.toNat + m.o.length by omega]
      refine ⟨_, _, rfl, rfl, ?_, ?_⟩
      · rw [S_len, S_len, List.length_append, List.length_take, List.length_drop]; exact fits (by omega)
      rw [S_app]
      exact q1
end
abbrev s_F__init__ : Stmt := inClass (top 36) 0
theorem sc_F__init__ : FnScope ["self", "fraction"] ["self"] (defScope s_F__init__) := ⟨rfl, rfl, rfl, by decide +kernel, rfl, by decide +kernel, by decide +kernel⟩
abbrev s_Ftake : Stmt := inClass (top 36) 1
theorem sc_Ftake : FnScope ["self", "letter"] ["self", "letter"] (defScope s_Ftake) := ⟨rfl, rfl, rfl, by decide +kernel, rfl, by decide +kernel, by decide +kernel⟩
abbrev s_Ftake_twist : Stmt := inClass (top 36) 2
theorem sc_Ftake_twist : FnScope ["self"] ["self"] (defScope s_Ftake_twist) := ⟨rfl, rfl, rfl, by decide +kernel, rfl, by decide +kernel, by decide +kernel⟩
abbrev s_Ftake_untwist : Stmt := inClass (top 36) 3
theorem sc_Ftake_untwist : FnScope ["self"] ["self"] (defScope s_Ftake_untwist) := ⟨rfl, rfl, rfl, by decide +kernel, rfl, by decide +kernel, by decide +kernel⟩
abbrev s_Ftake_turn : Stmt := inClass (top 36) 4
theorem sc_Ftake_turn : FnScope ["self", "many", "_"] ["self"] (defScope s_Ftake_turn) := ⟨rfl, rfl, rfl, by decide +kernel, rfl, by decide +kernel, by decide +kernel⟩
abbrev s_Fspread_untwist : Stmt := inClass (top 36) 5
theorem sc_Fspread_untwist : FnScope ["self"] ["self"] (defScope s_Fspread_untwist) := ⟨rfl, rfl, rfl, by decide +kernel, rfl, by decide +kernel, by decide +kernel⟩
abbrev s_Ffinish : Stmt := inClass (top 36) 6
theorem sc_Ffinish : FnScope ["self"] ["self"] (defScope s_Ffinish) := ⟨rfl, rfl, rfl, by decide +kernel, rfl, by decide +kernel, by decide +kernel⟩
abbrev s_Fleave_untwists : Stmt := inClass (top 36) 7
theorem sc_Fleave_untwists : FnScope ["self", "many"] ["self"] (defScope s_Fleave_untwists) := ⟨rfl, rfl, rfl, by decide +kernel, rfl, by decide +kernel, by decide +kernel⟩
abbrev s_Fmake : Stmt := inClass (top 36) 8
theorem sc_Fmake : FnScope ["self", "back", "old", "new", "place"] ["self", "back", "old", "new"] (defScope s_Fmake) := ⟨rfl, rfl, rfl, by decide +kernel, rfl, by decide +kernel, by decide +kernel⟩
abbrev s_Fends_with : Stmt := inClass (top 36) 9
theorem sc_Fends_with : FnScope ["self", "text"] ["self", "text"] (defScope s_Fends_with) := ⟨rfl, rfl, rfl, by decide +kernel, rfl, by decide +kernel, by decide +kernel⟩
abbrev s_Fis_now : Stmt := inClass (top 36) 10
theorem sc_Fis_now : FnScope ["self", "text"] ["self", "text"] (defScope s_Fis_now) := ⟨rfl, rfl, rfl, by decide +kernel, rfl, by decide +kernel, by decide +kernel⟩
section
def spMake (C : Addr) : Sp := fun vs H Q _ => ∃ (H0 : Hp) (p : Addr) (a o n b : List Nat) (ms : List Mv), vs = [.ref p, .int ((o.length + b.length : Nat) : Int), .str (S o), .str (S n)] ∧ FrAt C H0 H p (a ++ o ++ b) ms ∧ (a ++ o ++ b).length ≤ 100000 ∧ n.length ≤ 100 ∧ ms.length ≤ 100000 ∧ ∀ H', FrAt C H0 H' p (a ++ n ++ b) (ms ++ [⟨(a.length : Int), o, n⟩]) → Q .non H'
def spEnds (C : Addr) : Sp := fun vs H Q _ => ∃ (H0 : Hp) (p : Addr) (l t : List Nat) (ms : List Mv), vs = [.ref p, .str (S t)] ∧ FrAt C H0 H p l ms ∧ Lets l ∧ Lets t ∧ t ≠ [] ∧ t.length ≤ 100 ∧ l.length ≤ 200000 ∧ ∀ H', Same H H' → Q (.bl (decide (l.drop (l.length - t.length) = t))) H'
def spNow (C : Addr) : Sp := fun vs H Q _ => ∃ (H0 : Hp) (p : Addr) (l t : List Nat) (ms : List Mv), vs = [.ref p, .str (S t)] ∧ FrAt C H0 H p l ms ∧ Lets l ∧ Lets t ∧ t.length ≤ 100 ∧ l.length ≤ 200000 ∧ ∀ H', Same H H' → Q (.bl (decide (l = t))) H'
def spInitF (C : Addr) : Sp := fun vs H Q _ => ∃ (H0 : Hp) (p dx : Addr), vs = [.ref p] ∧ Same H0 H ∧ H0 p = none ∧ H p = some (.ins C dx []) ∧ ∀ H' : Hp, FrAt C H0 H' p [] [] → Q .non H'
theorem dp_chs {K : PySem.W.Frag} {H : Hp} : ∀ l : List Nat, DpAll K H (chs l) (l.map fun c => PyData.str (S [c]))
  | [] => .nil
  | c :: r => .cons (.str _) (dp_chs r)
theorem lay_chs : ∀ l : List Nat, Lets l → PyData.canLayAll0 (l.map fun c => PyData.str (S [c])) = true
  | [], _ => by simp [PyData.canLayAll0]
  | a :: r, h => by
    have e : PyData.strOk (S [a]) = true := by
      rcases h a List.mem_cons_self with rfl | rfl | rfl <;> decide +kernel
    simp [PyData.canLayAll0, PyData.canLay0, lay_chs r (fun c hc => h c (List.mem_cons_of_mem _ hc)), e]
theorem depth_chs : ∀ l : List Nat, PyData.depthAll (l.map fun c => PyData.str (S [c])) = 0
  | [] => by simp [PyData.depthAll]
  | a :: r => by simp [PyData.depthAll, PyData.depth, depth_chs r]
theorem sh_chs {l : List Nat} (h : Lets l) : SeqAt.shaped (.list (l.map fun c => PyData.str (S [c]))) = true := by
  unfold SeqAt.shaped
  have e : PyData.canLay0 (.list (l.map fun c => PyData.str (S [c]))) = true := by
    simp only [PyData.canLay0]
    exact lay_chs l h
  rw [e]
  simp only [PyData.depth, depth_chs l, Bool.true_and]
  decide
theorem eqv_chsAll : ∀ a b : List Nat, PyData.eqvAll (a.map fun c => PyData.str (S [c])) (b.map fun c => PyData.str (S [c])) = decide (a = b)
  | [], [] => by simp [PyData.eqvAll]
  | [], _ :: _ => by simp [PyData.eqvAll]
  | _ :: _, [] => by simp [PyData.eqvAll]
  | x :: a, y :: b => by
    rw [List.map_cons, List.map_cons, PyData.eqvAll, eqv_chsAll a b]
    have e : PyData.eqv (PyData.str (S [x])) (PyData.str (S [y])) = decide (x = y) := by
      have h : (S [x] = S [y]) ↔ x = y := ⟨fun z => by have := S_inj z; cases this; rfl, fun z => by rw [z]⟩
      rw [PyData.eqv, Bool.eq_iff_iff, beq_iff_eq, decide_eq_true_eq]
      exact h
    rw [e]
    by_cases h1 : x = y
    · subst h1
      simp
    · simp [h1]
theorem eqv_chs (a b : List Nat) : PyData.eqv (.list (a.map fun c => PyData.str (S [c]))) (.list (b.map fun c => PyData.str (S [c]))) = decide (a = b) := by
  rw [PyData.eqv]
  exact eqv_chsAll a b
theorem cut_end {l : List Nat} {k : Nat} (h : 0 < k) : cutV (chs l) (some (-(k : Int))) none = chs (l.drop (l.length - k)) := by
  unfold cutV chs
  have z : (l.map fun c => V.str (S [c])).length = l.length := List.length_map ..
  have e1 : HT.sIx (l.map fun c => V.str (S [c])).length 0 (some (-(k : Int))) = l.length - k := by
    rw [z]
    simp only [HT.sIx]
    split <;> omega
  have e2 : HT.sIx (l.map fun c => V.str (S [c])).length (l.map fun c => V.str (S [c])).length none = l.length := by
    rw [z]
    rfl
  rw [e1, e2, ← List.map_drop, List.take_of_length_le]
  rw [List.length_map, List.length_drop]
  omega
end
section
def spLeave (C : Addr) : Sp := fun vs H Q _ => ∃ (H0 : Hp) (p : Addr) (l : List Nat) (m : Nat) (ms : List Mv), vs = [.ref p] ∧ FrAt C H0 H p (l ++ List.replicate m 85) ms ∧ (∀ x, l ≠ x ++ [85]) ∧ Lets l ∧ (l ++ List.replicate m 85).length ≤ 100000 ∧ ∀ H', FrAt C H0 H' p l ms → Q (.int (m : Int)) H'
theorem drop_last (x : List Nat) (c : Nat) : (x ++ [c]).drop ((x ++ [c]).length - 1) = [c] := by
  rw [List.length_append, show x.length + ([c] : List Nat).length - 1 = x.length by show x.length + 1 - 1 = _; omega, List.drop_left]
theorem lets_U {l : List Nat} (h : Lets l) (j : Nat) : Lets (l ++ List.replicate j 85) := fun c hc => by
  rcases List.mem_append.mp hc with hc | hc
  · exact h c hc
  · exact .inr (.inl (List.eq_of_mem_replicate hc))
end
section
def spSpread (C : Addr) : Sp := fun vs H Q _ => ∃ (H0 : Hp) (p : Addr) (y : List Nat) (ms : List Mv), vs = [.ref p] ∧ FrAt C H0 H p (y ++ [85]) ms ∧ (y = [] ∨ ∃ x, y = x ++ [82]) ∧ Lets y ∧ y.length ≤ 90000 ∧ ms.length ≤ 90000 ∧
  ∀ H' l' ns, FrAt C H0 H' p l' (ms ++ ns) → Lead (y ++ [85]) ns l' → (y = [] ∧ l' = [84, 82] ∨ ∃ x, y = x ++ [82] ∧ l' = x ++ [84, 82, 84, 82]) → ns.length = 3 → FitAll ns 6 → Q .non H'
end
section
theorem e_RTRTR : (("RTRTR" : Str)) = S [82, 84, 82, 84, 82] := by decide +kernel
theorem FrAt.cast {C : Addr} {H0 H : Hp} {p : Addr} {l l' : List Nat} {ms : List Mv} (h : FrAt C H0 H p l ms) (e : l = l') : FrAt C H0 H p l' ms := e ▸ h
theorem FrAt.castM {C : Addr} {H0 H : Hp} {p : Addr} {l : List Nat} {ms ns : List Mv} (h : FrAt C H0 H p l ms) (e : ms = ns) : FrAt C H0 H p l ns := e ▸ h
theorem fit_by {ns : List Mv} (h : ns.all (fun m => decide (m.o.length ≤ 6) && decide (m.n.length ≤ 6)) = true) : FitAll ns 6 := fun m hm => by
  have := List.all_eq_true.mp h m hm
  rw [Bool.and_eq_true, decide_eq_true_eq, decide_eq_true_eq] at this
  exact ⟨this.1, this.2⟩
end
section
def spStep (C : Addr) (c : Nat) : Sp := fun vs H Q _ => ∃ (H0 : Hp) (p : Addr) (x : List Nat) (ms : List Mv), vs = [.ref p] ∧ FrAt C H0 H p x ms ∧ Fst x ∧ Lets x ∧ x.length ≤ 1000 ∧ ms.length ≤ 80000 ∧
  ∀ H' x' ns, FrAt C H0 H' p x' (ms ++ ns) → Lead (x ++ [c]) ns x' → Fst x' → wt x' ≤ wt x + 3 → ns.length ≤ 4 → FitAll ns 6 → Q .non H'
theorem last_ne {z y : List Nat} {a b : Nat} (h : z ++ [a] = y ++ [b]) : z = y ∧ a = b := by
  obtain ⟨h1, h2⟩ := List.append_inj' h rfl
  cases h2
  exact ⟨h1, rfl⟩
theorem pf_last {w : List Nat} (h : Pf w) : w = [] ∨ ∃ y, w = y ++ [82] := by
  cases h with
  | nil => exact .inl rfl
  | @snoc w a h => exact .inr ⟨w ++ List.replicate (a + 2) 84, by simp⟩
/-- the last untwist's partner -/
theorem fst_T {z : List Nat} (h : Fst (z ++ [84])) : Fst z := by
  generalize e : z ++ [84] = x at h
  cases h with
  | @A w b hw =>
    obtain ⟨n, rfl | rfl⟩ : ∃ n : Nat, b = (n : Int) ∨ b = -((n + 1 : Nat) : Int) := by
      by_cases hb : 0 ≤ b
      · exact ⟨b.toNat, .inl (by omega)⟩
      · exact ⟨(-b).toNat - 1, .inr (by omega)⟩
    · cases n with
      | zero =>
        rw [rn_nat, List.replicate_zero, List.append_nil] at e
        rcases pf_last hw with rfl | ⟨y, rfl⟩
        · simp at e
        · exact absurd (last_ne e).2 (by decide)
      | succ n =>
        rw [rn_nat, ← rep_snoc, ← List.append_assoc] at e
        rw [(last_ne e).1, ← rn_nat]
        exact .A _ hw
    · rw [rn_neg, ← rep_snoc, ← List.append_assoc] at e
      exact absurd (last_ne e).2 (by decide)
  | @B w m hw =>
    cases m with
    | zero =>
      rw [show w ++ ([84, 82] ++ List.replicate 0 85) = (w ++ [84]) ++ [82] by simp] at e
      exact absurd (last_ne e).2 (by decide)
    | succ m =>
      rw [← rep_snoc, ← List.append_assoc, ← List.append_assoc] at e
      exact absurd (last_ne e).2 (by decide)
  | C => exact absurd (last_ne (y := []) e).2 (by decide)
theorem fst_U {x : List Nat} (h : Fst x) (h1 : ∀ z, x ≠ z ++ [84]) (h2 : x ≠ [82]) : Fst (x ++ [85]) := by
  cases h with
  | @A w b hw =>
    obtain ⟨n, rfl | rfl⟩ : ∃ n : Nat, b = (n : Int) ∨ b = -((n + 1 : Nat) : Int) := by
      by_cases hb : 0 ≤ b
      · exact ⟨b.toNat, .inl (by omega)⟩
      · exact ⟨(-b).toNat - 1, .inr (by omega)⟩
    · cases n with
      | zero =>
        have e : w ++ rn (((0 : Nat)) : Int) ++ [85] = w ++ rn (-((1 : Nat) : Int)) := by rw [rn_nat, rn_neg, List.append_assoc]; rfl
        rw [e]
        exact .A _ hw
      | succ n => exact absurd (by rw [rn_nat, ← rep_snoc, ← List.append_assoc]) (h1 (w ++ List.replicate n 84))
    · have e : w ++ rn (-((n + 1 : Nat) : Int)) ++ [85] = w ++ rn (-((n + 1 + 1 : Nat) : Int)) := by rw [rn_neg, rn_neg, List.append_assoc, rep_snoc]
      rw [e]
      exact .A _ hw
  | @B w m hw =>
    have e : w ++ ([84, 82] ++ List.replicate m 85) ++ [85] = w ++ ([84, 82] ++ List.replicate (m + 1) 85) := by rw [← rep_snoc]; simp
    rw [e]
    exact .B _ hw
  | C => exact absurd rfl h2
end
section
theorem e_RU : (("RU" : Str)) = S [82, 85] := by decide +kernel
theorem chs_snoc (x : List Nat) (c : Nat) : chs x ++ [V.str (S [c])] = chs (x ++ [c]) := by unfold chs; rw [List.map_append]; rfl
theorem two_end {x : List Nat} {a b : Nat} : (x ++ [b]).drop ((x ++ [b]).length - ([a, b] : List Nat).length) = [a, b] ↔ ∃ z, x = z ++ [a] := by
  constructor
  · intro h
    have k := List.take_append_drop ((x ++ [b]).length - ([a, b] : List Nat).length) (x ++ [b])
    rw [h] at k
    exact ⟨_, (last_ne (y := x) (by rw [List.append_assoc]; exact k)).1.symm⟩
  · rintro ⟨z, rfl⟩
    rw [List.length_append, List.length_append, show z.length + ([a] : List Nat).length + ([b] : List Nat).length - ([a, b] : List Nat).length = z.length by show z.length + 1 + 1 - 2 = _; omega, List.append_assoc, List.drop_left]
    rfl
end
section
def spStepR (C : Addr) : Sp := fun vs H Q _ => ∃ (H0 : Hp) (p : Addr) (x : List Nat) (ms : List Mv), vs = [.ref p] ∧ FrAt C H0 H p x ms ∧ Fst x ∧ Lets x ∧ x.length ≤ 1000 ∧ ms.length ≤ 80000 ∧
  ∀ H' x' ns, FrAt C H0 H' p x' (ms ++ ns) → Lead (x ++ [82]) ns x' → Fst x' → wt x' ≤ wt x + 3 → ns.length ≤ wt x + 4 → FitAll ns 6 → Q .non H'
def spTakeF (C : Addr) : Sp := fun vs H Q _ => ∃ (H0 : Hp) (p : Addr) (x : List Nat) (ms : List Mv) (c : Nat), vs = [.ref p, .str (S [c])] ∧ (c = 84 ∨ c = 85 ∨ c = 82) ∧ FrAt C H0 H p x ms ∧ Fst x ∧ Lets x ∧ x.length ≤ 1000 ∧ ms.length ≤ 80000 ∧
  ∀ H' x' ns, FrAt C H0 H' p x' (ms ++ ns) → Lead (x ++ [c]) ns x' → Fst x' → wt x' ≤ wt x + 3 → ns.length ≤ wt x + 4 → FitAll ns 6 → Q .non H'
end
section
/-! ### the last three methods -/
theorem e_UT2 : (("UT" : Str)) = S [85, 84] := by decide +kernel
theorem e_TRTRT : (("TRTRT" : Str)) = S [84, 82, 84, 82, 84] := by decide +kernel
theorem e_RT2 : (("RT" : Str)) = S [82, 84] := by decide +kernel
theorem e_TRT2 : (("TRT" : Str)) = S [84, 82, 84] := by decide +kernel
theorem e_TR2 : (("TR" : Str)) = S [84, 82] := by decide +kernel
theorem end_iff {l t : List Nat} : l.drop (l.length - t.length) = t ↔ ∃ z, l = z ++ t := by
  constructor
  · intro h
    have k := List.take_append_drop (l.length - t.length) l
    rw [h] at k
    exact ⟨_, k.symm⟩
  · rintro ⟨z, rfl⟩
    rw [List.length_append, show z.length + t.length - t.length = z.length by omega, List.drop_left]
theorem fst_cases {x : List Nat} (h : Fst x) : (∃ w n, Pf w ∧ x = w ++ List.replicate n 84) ∨ (∃ w n, Pf w ∧ x = w ++ List.replicate (n + 1) 85) ∨ (∃ w m, Pf w ∧ x = w ++ [84, 82] ++ List.replicate m 85) ∨ x = [82] := by
  cases h with
  | @A w b hw =>
    obtain ⟨n, rfl | rfl⟩ : ∃ n : Nat, b = (n : Int) ∨ b = -((n + 1 : Nat) : Int) := by
      by_cases hb : 0 ≤ b
      · exact ⟨b.toNat, .inl (by omega)⟩
      · exact ⟨(-b).toNat - 1, .inr (by omega)⟩
    · exact .inl ⟨w, n, hw, by rw [rn_nat]⟩
    · exact .inr (.inl ⟨w, n, hw, by rw [rn_neg]⟩)
  | @B w m hw => exact .inr (.inr (.inl ⟨w, m, hw, by rw [List.append_assoc]⟩))
  | C => exact .inr (.inr (.inr rfl))
theorem fst_up {w : List Nat} (hw : Pf w) (n : Nat) : Fst (w ++ List.replicate n 84) := by rw [← rn_nat]; exact .A _ hw
theorem fst_dn {w : List Nat} (hw : Pf w) (n : Nat) : Fst (w ++ List.replicate n 85) := by rw [← rn_neg]; exact .A _ hw
theorem fst_b {w : List Nat} (hw : Pf w) (m : Nat) : Fst (w ++ [84, 82] ++ List.replicate m 85) := by rw [List.append_assoc]; exact .B m hw
/-- the last letter of what was put there as a whole -/
theorem pf_end {w z : List Nat} {c : Nat} (h : Pf w) (e : w = z ++ [c]) : c = 82 ∧ ∃ w1 a, Pf w1 ∧ z = w1 ++ List.replicate (a + 2) 84 := by
  cases h with
  | nil => simp at e
  | @snoc w a h =>
    rw [← List.append_assoc] at e
    obtain ⟨e1, e2⟩ := last_ne e
    exact ⟨e2.symm, w, a, h, e1.symm⟩
theorem fst_offU {z : List Nat} (h : Fst (z ++ [85])) : Fst z := by
  rcases fst_cases h with ⟨w, n, hw, e⟩ | ⟨w, n, hw, e⟩ | ⟨w, m, hw, e⟩ | e
  · cases n with
    | zero =>
      rw [List.replicate_zero, List.append_nil] at e
      exact absurd (pf_end hw e.symm).1 (by decide)
    | succ n =>
      rw [← rep_snoc, ← List.append_assoc] at e
      exact absurd (last_ne e).2 (by decide)
  · rw [← rep_snoc, ← List.append_assoc] at e
    rw [(last_ne e).1]
    exact fst_dn hw n
  · cases m with
    | zero =>
      rw [List.replicate_zero, List.append_nil, show w ++ [84, 82] = (w ++ [84]) ++ [82] by simp] at e
      exact absurd (last_ne e).2 (by decide)
    | succ m =>
      rw [← rep_snoc, ← List.append_assoc] at e
      rw [(last_ne e).1]
      exact fst_b hw m
  · exact absurd (last_ne (y := []) e).2 (by decide)
theorem fst_offR {z : List Nat} (h : Fst (z ++ [82])) : Fst z := by
  rcases fst_cases h with ⟨w, n, hw, e⟩ | ⟨w, n, hw, e⟩ | ⟨w, m, hw, e⟩ | e
  · cases n with
    | zero =>
      rw [List.replicate_zero, List.append_nil] at e
      obtain ⟨_, w1, a, h1, e1⟩ := pf_end hw e.symm
      rw [e1]
      exact fst_up h1 _
    | succ n =>
      rw [← rep_snoc, ← List.append_assoc] at e
      exact absurd (last_ne e).2 (by decide)
  · rw [← rep_snoc, ← List.append_assoc] at e
    exact absurd (last_ne e).2 (by decide)
  · cases m with
    | zero =>
      rw [List.replicate_zero, List.append_nil, show w ++ [84, 82] = (w ++ [84]) ++ [82] by simp] at e
      rw [(last_ne e).1]
      exact fst_up hw 1
    | succ m =>
      rw [← rep_snoc, ← List.append_assoc] at e
      exact absurd (last_ne e).2 (by decide)
  · rw [(last_ne (y := []) e).1]
    exact fst_up .nil 0
theorem fst_onR {x : List Nat} (h : Fst x) (h1 : ∀ z, x ≠ z ++ [82]) (h2 : ∀ z, x ≠ z ++ [85]) : Fst (x ++ [82]) := by
  rcases fst_cases h with ⟨w, n, hw, rfl⟩ | ⟨w, n, hw, rfl⟩ | ⟨w, m, hw, rfl⟩ | rfl
  · match n with
    | 0 =>
      cases hw with
      | nil => exact .C
      | @snoc w a hw => exact absurd (by simp) (h1 (w ++ List.replicate (a + 2) 84))
    | 1 =>
      have := fst_b hw 0
      rw [List.replicate_zero, List.append_nil] at this
      rw [show w ++ List.replicate 1 84 ++ [82] = w ++ [84, 82] by simp]
      exact this
    | n + 2 =>
      have := fst_up (Pf.snoc n hw) 0
      rw [List.replicate_zero, List.append_nil, ← List.append_assoc] at this
      exact this
  · exact absurd (by rw [← rep_snoc, ← List.append_assoc]) (h2 (w ++ List.replicate n 85))
  · cases m with
    | zero => exact absurd (by simp) (h1 (w ++ [84]))
    | succ m => exact absurd (by rw [← rep_snoc, ← List.append_assoc]) (h2 (w ++ [84, 82] ++ List.replicate m 85))
  · exact absurd rfl (h1 [])
theorem fst_onT {x : List Nat} (h : Fst x) (h1 : ∀ z, x ≠ z ++ [85]) (h2 : ∀ z, x ≠ z ++ [84, 82, 84, 82]) (h3 : x ≠ [82]) (h4 : x ≠ [84, 82]) : Fst (x ++ [84]) := by
  rcases fst_cases h with ⟨w, n, hw, rfl⟩ | ⟨w, n, hw, rfl⟩ | ⟨w, m, hw, rfl⟩ | rfl
  · rw [List.append_assoc, rep_snoc]
    exact fst_up hw _
  · exact absurd (by rw [← rep_snoc, ← List.append_assoc]) (h1 (w ++ List.replicate n 85))
  · cases m with
    | zero =>
      cases hw with
      | nil => exact absurd (by simp) h4
      | @snoc w a hw =>
        refine absurd ?_ (h2 (w ++ List.replicate (a + 1) 84))
        rw [show List.replicate (a + 2) 84 = List.replicate (a + 1) 84 ++ [84] from (rep_snoc _ _).symm]
        simp
    | succ m => exact absurd (by rw [← rep_snoc, ← List.append_assoc]) (h1 (w ++ [84, 82] ++ List.replicate m 85))
  · exact absurd rfl h3
theorem fst_offTRTR {z : List Nat} (h : Fst (z ++ [84, 82, 84, 82])) : Fst (z ++ [82]) := by
  have ea : z ++ [84, 82, 84, 82] = z ++ [84, 82, 84] ++ [82] := by simp
  rcases fst_cases h with ⟨w, n, hw, e⟩ | ⟨w, n, hw, e⟩ | ⟨w, m, hw, e⟩ | e
  · cases n with
    | zero =>
      rw [List.replicate_zero, List.append_nil, ea] at e
      obtain ⟨_, w1, a, h1, e1⟩ := pf_end hw e.symm
      rw [← rep_snoc, ← rep_snoc, show z ++ [84, 82, 84] = z ++ [84] ++ [82] ++ [84] by simp, ← List.append_assoc, ← List.append_assoc] at e1
      exact absurd (last_ne (last_ne e1).1).2 (by decide)
    | succ n =>
      rw [ea, ← rep_snoc, ← List.append_assoc] at e
      exact absurd (last_ne e).2 (by decide)
  · rw [ea, ← rep_snoc, ← List.append_assoc] at e
    exact absurd (last_ne e).2 (by decide)
  · cases m with
    | zero =>
      rw [List.replicate_zero, List.append_nil, show z ++ [84, 82, 84, 82] = (z ++ [84] ++ [82]) ++ [84, 82] by simp] at e
      have e1 := List.append_cancel_right e
      obtain ⟨_, w1, a, h1, e2⟩ := pf_end hw e1.symm
      rw [← rep_snoc, ← List.append_assoc] at e2
      rw [(last_ne e2).1]
      cases a with
      | zero =>
        have := fst_b h1 0
        rw [List.replicate_zero, List.append_nil] at this
        rw [show w1 ++ List.replicate (0 + 1) 84 ++ [82] = w1 ++ [84, 82] by simp]
        exact this
      | succ a =>
        have := fst_up (Pf.snoc a h1) 0
        rw [List.replicate_zero, List.append_nil, ← List.append_assoc] at this
        exact this
    | succ m =>
      rw [ea, ← rep_snoc, ← List.append_assoc] at e
      exact absurd (last_ne e).2 (by decide)
  · have := congrArg List.length e
    simp at this
/-- the Us at the end are left off -/
theorem fst_left {x : List Nat} (h : Fst x) : ∃ l m, x = l ++ List.replicate m 85 ∧ (∀ z, l ≠ z ++ [85]) ∧ (m = 0 ∨ Pf l ∨ ∃ w, Pf w ∧ l = w ++ [84, 82]) := by
  have nb : ∀ (w z : List Nat), w ++ [84, 82] ≠ z ++ [85] := fun w z e => by
    rw [show w ++ [84, 82] = (w ++ [84]) ++ [82] by simp] at e
    exact absurd (last_ne e).2 (by decide)
  rcases fst_cases h with ⟨w, n, hw, rfl⟩ | ⟨w, n, hw, rfl⟩ | ⟨w, m, hw, rfl⟩ | rfl
  · refine ⟨w ++ List.replicate n 84, 0, by simp, fun z e => ?_, .inl rfl⟩
    cases n with
    | zero =>
      rw [List.replicate_zero, List.append_nil] at e
      exact absurd (pf_end hw e).1 (by decide)
    | succ n =>
      rw [← rep_snoc, ← List.append_assoc] at e
      exact absurd (last_ne e).2 (by decide)
  · exact ⟨w, n + 1, rfl, fun z e => absurd (pf_end hw e).1 (by decide), .inr (.inl hw)⟩
  · exact ⟨w ++ [84, 82], m, rfl, nb w, .inr (.inr ⟨w, hw, rfl⟩)⟩
  · exact ⟨[82], 0, by simp, fun z e => absurd (last_ne (y := z) (z := []) e).2 (by decide), .inl rfl⟩
/-- the front while the Us left off are taken up again, one by one -/
def Mid (l : List Nat) (i : Nat) (y : List Nat) : Prop := (∃ w, Pf w ∧ y = w ++ [84, 82] ∧ wt w + 2 ≤ wt l + 3 * i) ∨ (i = 0 ∧ Pf l ∧ y = l)
theorem Mid.ready {l y : List Nat} {i : Nat} (h : Mid l i y) : y = [] ∨ ∃ x, y = x ++ [82] := by
  rcases h with ⟨w, _, rfl, _⟩ | ⟨_, hp, rfl⟩
  · exact .inr ⟨w ++ [84], by simp⟩
  · exact pf_last hp
theorem Mid.next {l y l' : List Nat} {i : Nat} (h : Mid l i y) (e : y = [] ∧ l' = [84, 82] ∨ ∃ x, y = x ++ [82] ∧ l' = x ++ [84, 82, 84, 82]) : Mid l (i + 1) l' := by
  have o2 : wt [82] = 1 := rfl
  have otr : wt [84, 82] = 2 := rfl
  rcases h with ⟨w, hw, rfl, z⟩ | ⟨rfl, hp, rfl⟩
  · rcases e with ⟨e, _⟩ | ⟨x, e, rfl⟩
    · simp at e
    · rw [show w ++ [84, 82] = (w ++ [84]) ++ [82] by simp] at e
      refine .inl ⟨w ++ (List.replicate (0 + 2) 84 ++ [82]), .snoc 0 hw, ?_, ?_⟩
      · rw [← (last_ne e).1]
        simp [List.replicate]
      · rw [wt_app]
        show wt w + 3 + 2 ≤ _
        omega
  · rcases e with ⟨rfl, rfl⟩ | ⟨x, e, rfl⟩
    · exact .inl ⟨[], .nil, rfl, by show 0 + 2 ≤ 0 + 3 * 1; omega⟩
    · obtain ⟨_, w1, a, h1, rfl⟩ := pf_end hp e
      refine .inl ⟨w1 ++ (List.replicate (a + 1 + 2) 84 ++ [82]), .snoc (a + 1) h1, ?_, ?_⟩
      · rw [show a + 1 + 2 = (a + 2) + 1 by omega, ← rep_snoc (a + 2) 84]
        simp
      · rw [e, wt_app, wt_app, wt_app, wt_app, wt_T, wt_T, o2]
        omega
/-- the front at the end, the k Us left off -/
def Fin (l : List Nat) (k : Nat) : Prop := (∃ w, Pf w ∧ l = w ++ [84, 82]) ∨ (Form (l ++ List.replicate k 85) ∧ (∀ z, l ≠ z ++ [82, 84, 82]) ∧ l ≠ [84, 82])
theorem form_dn {w : List Nat} (h : Pf w) (k : Nat) : Form (w ++ List.replicate k 85) := by
  obtain ⟨r, h2, e⟩ := pf_join h
  exact .inr ⟨r, -(k : Int), h2, by rw [← e, rn_neg]⟩
theorem pf_notRTR {w : List Nat} (h : Pf w) (z : List Nat) : w ≠ z ++ [82, 84, 82] := fun e => by
  rw [show z ++ [82, 84, 82] = (z ++ [82] ++ [84]) ++ [82] by simp] at e
  obtain ⟨_, w1, a, h1, e2⟩ := pf_end h e
  rw [← rep_snoc, ← rep_snoc, ← List.append_assoc, ← List.append_assoc] at e2
  exact absurd (last_ne (last_ne e2).1).2 (by decide)
theorem pf_notTR {w : List Nat} (h : Pf w) : w ≠ [84, 82] := fun e => by
  obtain ⟨_, w1, a, h1, e2⟩ := pf_end (z := [84]) h e
  have := congrArg List.length e2
  rw [List.length_append, List.length_replicate] at this
  have : ([84] : List Nat).length = 1 := rfl
  omega
theorem Fin.start {x : List Nat} (h : Fst x) : ∃ l m, x = l ++ List.replicate m 85 ∧ (∀ z, l ≠ z ++ [85]) ∧ Fin l m := by
  obtain ⟨l, m, e, nU, c⟩ := fst_left h
  refine ⟨l, m, e, nU, ?_⟩
  rcases c with rfl | hp | hb
  · rw [List.replicate_zero, List.append_nil] at e
    subst e
    rcases fst_cases h with ⟨w, n, hw, rfl⟩ | ⟨w, n, hw, rfl⟩ | ⟨w, m, hw, rfl⟩ | rfl
    · obtain ⟨r, h2, e⟩ := pf_join hw
      refine .inr ⟨.inr ⟨r, (n : Int), h2, by rw [← e, rn_nat]; simp⟩, fun z e => ?_, fun e => ?_⟩
      · cases n with
        | zero =>
          rw [List.replicate_zero, List.append_nil] at e
          exact pf_notRTR hw z e
        | succ n =>
          rw [← rep_snoc, ← List.append_assoc, show z ++ [82, 84, 82] = (z ++ [82, 84]) ++ [82] by simp] at e
          exact absurd (last_ne e).2 (by decide)
      · cases n with
        | zero =>
          rw [List.replicate_zero, List.append_nil] at e
          exact pf_notTR hw e
        | succ n =>
          rw [← rep_snoc, ← List.append_assoc] at e
          exact absurd (last_ne (y := [84]) e).2 (by decide)
    · exact absurd (by rw [← rep_snoc, ← List.append_assoc]) (nU (w ++ List.replicate n 85))
    · cases m with
      | zero => exact .inl ⟨w, hw, by simp⟩
      | succ m => exact absurd (by rw [← rep_snoc, ← List.append_assoc]) (nU (w ++ [84, 82] ++ List.replicate m 85))
    · refine .inr ⟨.inl rfl, fun z e => ?_, by decide⟩
      have := congrArg List.length e
      rw [List.length_append] at this
      have a1 : ([82] : List Nat).length = 1 := rfl
      have a2 : ([82, 84, 82] : List Nat).length = 3 := rfl
      omega
  · exact .inr ⟨form_dn hp m, pf_notRTR hp, pf_notTR hp⟩
  · exact .inl hb
/-- one turn of the last loop -/
theorem Fin.turn {l z : List Nat} {k : Nat} (h : Fin l k) (e : l = z ++ [82, 84, 82]) : ∃ y, z = y ++ [84] ∧ Fin (y ++ [82]) (k + 1) := by
  rcases h with ⟨w, hw, rfl⟩ | ⟨_, no, _⟩
  · rw [show z ++ [82, 84, 82] = (z ++ [82]) ++ [84, 82] by simp] at e
    obtain ⟨_, w1, a, h1, rfl⟩ := pf_end hw (List.append_cancel_right e)
    refine ⟨w1 ++ List.replicate (a + 1) 84, by rw [List.append_assoc, rep_snoc], ?_⟩
    cases a with
    | zero => exact .inl ⟨w1, h1, by simp⟩
    | succ a =>
      have hp := Pf.snoc a h1
      rw [← List.append_assoc] at hp
      exact .inr ⟨form_dn hp _, pf_notRTR hp, pf_notTR hp⟩
  · exact absurd e (no z)
theorem Fin.end {l : List Nat} {k : Nat} (h : Fin l k) (no : ∀ z, l ≠ z ++ [82, 84, 82]) : l = [84, 82] ∨ (Form (l ++ List.replicate k 85) ∧ l ≠ [84, 82]) := by
  rcases h with ⟨w, hw, rfl⟩ | ⟨hf, _, h2⟩
  · cases hw with
    | nil => exact .inl rfl
    | @snoc w a hw => exact absurd (by simp) (no (w ++ List.replicate (a + 2) 84))
  · exact .inr ⟨hf, h2⟩
theorem form_TR (k : Nat) : Form ([85] ++ List.replicate k 85) := by
  have := form_dn .nil (k + 1)
  rw [List.replicate_succ] at this
  exact this
theorem pf_lets {w : List Nat} (h : Pf w) : Lets w := by
  induction h with
  | nil => exact fun c hc => by cases hc
  | @snoc w a _ ih =>
    intro c hc
    rcases List.mem_append.mp hc with hc | hc
    · exact ih c hc
    · rcases List.mem_append.mp hc with hc | hc
      · exact .inl (List.eq_of_mem_replicate hc)
      · exact .inr (.inr (List.mem_singleton.mp hc))
theorem fst_lets {x : List Nat} (h : Fst x) : Lets x := by
  rcases fst_cases h with ⟨w, n, hw, rfl⟩ | ⟨w, n, hw, rfl⟩ | ⟨w, m, hw, rfl⟩ | rfl
  · intro c hc
    rcases List.mem_append.mp hc with hc | hc
    · exact pf_lets hw c hc
    · exact .inl (List.eq_of_mem_replicate hc)
  · exact lets_U (pf_lets hw) _
  · exact lets_U (lets_app (pf_lets hw) (lets_by rfl)) _
  · exact lets_by rfl
def spFinish (C : Addr) : Sp := fun vs H Q _ => ∃ (H0 : Hp) (p : Addr) (x : List Nat) (ms : List Mv), vs = [.ref p] ∧ FrAt C H0 H p x ms ∧ Fst x ∧ Lets x ∧ x.length ≤ 1000 ∧ ms.length ≤ 80000 ∧
  ∀ H' x' y ns, FrAt C H0 H' p y (ms ++ ns) → Lead x ns x' → Form x' → ns.length ≤ x.length + 3 → FitAll ns 6 → Q .non H'
end
section
def lenAt (H : Hp) (p : Addr) : Nat := match H p with
  | some (.ins _ _ fs) => match fs.lookup ("letters" : Str) with
    | some (.ref a) => match H a with
      | some (.lst xs) => xs.length
      | _ => 0
    | _ => 0
  | _ => 0
theorem lenAt_is {C : Addr} {H0 H : Hp} {p : Addr} {l : List Nat} {ms : List Mv} (h : FrAt C H0 H p l ms) : lenAt H p = l.length := by
  obtain ⟨dx, a, m, xs, hp, ha, _, _, _⟩ := h.at
  unfold lenAt
  rw [hp]
  simp only [ff_letters, ha]
  unfold chs
  rw [List.length_map]
end
section
variable {P : Program} {w : World} {K : PySem.W.Frag} {mg : Str → Option Value} {base : Heap} {f : Addr} {fd : FuncData}
theorem ok_Fis_now {C : Addr} (F : Fun K "is_now" "Front.is_now" s_Fis_now f fd) (T : TxF K mg C) (y_list : mg "list" = none) : FnOk P w K mg base CX0 1 f fd ["self", "text"] (spNow C) := by
  refine F.ok sc_Fis_now (fun vs H Q E h => ?_) (fun cdv A outer s H vs Q E hr h => ?_)
  · obtain ⟨H0, p, l, t, ms, rfl, fr, Ll, Lt, zt, zl, q⟩ := h
    rfl
  obtain ⟨H0, p, l, t, ms, rfl, fr, Ll, Lt, zt, zl, q⟩ := h
  refine ⟨_, pss_one (ps_ret (pe_cmpR (op_eqD hr.units) (pe_fld (pv 0) rfl) (pe_callTy (call_list_text rfl) rfl y_list (by decide +kernel) (pa_cons (pv 1) pa_nil)) (nomark _))), ?_⟩
  obtain ⟨s0, p0, dx, a, m, a0, m0, nam, hp, ha, hm⟩ := fr
  refine ⟨_, rfl, p, C, dx, _, _, rfl, hp, T.cl, T.nL, ff_letters _ _, _, rfl, t, rfl, fits (by omega), fun x hx => ?_⟩
  have SS := same_new hx (.lst (t.map fun c => V.str (S [c])))
  refine ⟨_, _, .lst (SqL.of (SS _ _ ha)) (dp_chs l), .lst (SqL.of upd_same) (dp_chs t), sh_chs Ll, sh_chs Lt, ?_⟩
  rw [eqv_chs]
  exact q _ SS
end
section
variable {P : Program} {w : World} {K : PySem.W.Frag} {mg : Str → Option Value} {base : Heap} {f : Addr} {fd : FuncData}
theorem ok_Fends_with {C : Addr} (F : Fun K "ends_with" "Front.ends_with" s_Fends_with f fd) (T : TxF K mg C) (y_list : mg "list" = none) (y_len : mg "len" = none) : FnOk P w K mg base CX0 1 f fd ["self", "text"] (spEnds C) := by
  refine F.ok sc_Fends_with (fun vs H Q E h => ?_) (fun cdv A outer s H vs Q E hr h => ?_)
  · obtain ⟨H0, p, l, t, ms, rfl, fr, Ll, Lt, nt, zt, zl, q⟩ := h
    rfl
  obtain ⟨H0, p, l, t, ms, rfl, fr, Ll, Lt, nt, zt, zl, q⟩ := h
  refine ⟨_, pss_one (ps_ret (pe_cmpR (op_eqD hr.units) (pe_slice sl_list (pe_fld (pv 0) rfl) (po_some (pe_un un_neg (pe_callB call_len_str rfl y_len PySem.boot_len (pa_cons (pv 1) pa_nil)))) po_none) (pe_callTy (call_list_text rfl) rfl y_list (by decide +kernel) (pa_cons (pv 1) pa_nil)) (nomark _))), ?_⟩
  obtain ⟨s0, p0, dx, a, m, a0, m0, nam, hp, ha, hm⟩ := fr
  have tp : 0 < t.length := List.length_pos_iff.mpr nt
  refine ⟨_, rfl, p, C, dx, _, _, rfl, hp, T.cl, T.nL, ff_letters _ _, _, rfl, _, rfl, by rw [S_len]; exact fits (by omega), _, rfl, _, rfl, a, _, rfl, SqL.of ha, fun y hy => ?_⟩
  rw [S_len, cut_end tp] at *
  have S1 := same_new hy (.lst (chs (l.drop (l.length - t.length))))
  refine ⟨_, rfl, t, rfl, fits (by omega), fun x hx => ?_⟩
  have S2 := same_new hx (.lst (t.map fun c => V.str (S [c])))
  refine ⟨_, _, .lst (SqL.of (S2 _ _ upd_same)) (dp_chs _), .lst (SqL.of upd_same) (dp_chs t), sh_chs (fun c hc => Ll c (List.mem_of_mem_drop hc)), sh_chs Lt, ?_⟩
  rw [eqv_chs]
  exact q _ (S1.trans S2)
end
section
variable {P : Program} {w : World} {K : PySem.W.Frag} {mg : Str → Option Value} {base : Heap} {f : Addr} {fd : FuncData}
theorem ok_Fmake {C : Addr} (F : Fun K "make" "Front.make" s_Fmake f fd) (T : TxF K mg C) (y_list : mg "list" = none) (y_len : mg "len" = none) : FnOk P w K mg base CX0 1 f fd ["self", "back", "old", "new"] (spMake C) := by
  refine F.ok sc_Fmake (fun vs H Q E h => ?_) (fun cdv A outer s H vs Q E hr h => ?_)
  · obtain ⟨H0, p, a, o, n, b, ms, rfl, fr, zl, zn, zm, q⟩ := h
    rfl
  obtain ⟨H0, p, a, o, n, b, ms, rfl, fr, zl, zn, zm, q⟩ := h
  refine ⟨_, pss_cons (ps_set (i := 4) sc_Fmake.nd rfl (.inl rfl) (pe_op op_sub (pe_callB call_len_seq rfl y_len PySem.boot_len (pa_cons (pe_fld (pv 0) rfl) pa_nil)) (pv 1)))
    (pss_cons (ps_asg (pe_callTy (call_list_text rfl) rfl y_list (by decide +kernel) (pa_cons (pv 3) pa_nil)) (pg_slc (pe_fld (pv 0) rfl) (po_some (pv 4)) (po_some (pe_op op_add (pv 4) (pe_callB call_len_str rfl y_len PySem.boot_len (pa_cons (pv 2) pa_nil))))))
    (pss_one (ps_expr (pe_bm PySem.F.plainAttrs_list PySem.F.slot_list_append PySem.F.type_list_append mt_append (pe_fld (pv 0) rfl) (pa_cons (pe_tup (pa_cons (pv 4) (pa_cons (pv 2) (pa_cons (pv 3) pa_nil)))) pa_nil))))), ?_⟩
  obtain ⟨dx, x, m, xs, hp, hx, hm, lx, nxm⟩ := fr.at
  rw [List.length_append, List.length_append] at zl
  refine ⟨_, rfl, p, C, dx, _, _, rfl, hp, T.cl, T.nL, ff_letters _ _, x, _, rfl, .inl (SqL.of hx), _, rfl, _, _, rfl, rfl, ?_⟩
  have hpl : (((chs (a ++ o ++ b)).length : Nat) : Int) - ((o.length + b.length : Nat) : Int) = (a.length : Int) := by
    unfold chs
    rw [List.length_map, List.length_append, List.length_append]
    omega
  dsimp only
  rw [hpl]
  refine ⟨_, rfl, n, rfl, fits (by omega), fun y hy => ?_⟩
  have S1 := same_new hy (.lst (n.map fun c => V.str (S [c])))
  have fr1 := fr.same S1
  have lw : (chs (a ++ o ++ b)).length = a.length + o.length + b.length := by
    unfold chs
    rw [List.length_map, List.length_append, List.length_append]
  have ln : (n.map fun c => V.str (S [c])).length = n.length := List.length_map ..
  refine ⟨_, rfl, p, C, dx, _, _, rfl, S1 _ _ hp, T.cl, T.nL, ff_letters _ _, _, rfl, _, rfl, _, rfl, _, rfl, _, rfl, by rw [S_len]; exact fits (by omega), _, _, rfl, rfl, _, rfl, x, y, _, _, (a.length : Int), (a.length : Int) + ((S o).length : Int), rfl, rfl, rfl, rfl, S1 _ _ hx, upd_same, ne_of_none hx hy, by omega, by omega, by rw [S_len, lw]; omega, by rw [lw, ln]; exact fits (by omega), ?_⟩
  have ec : (chs (a ++ o ++ b)).take (a.length : Int).toNat ++ (n.map fun c => V.str (S [c])) ++ (chs (a ++ o ++ b)).drop ((a.length : Int) + ((S o).length : Int)).toNat = chs (a ++ n ++ b) := by
    rw [S_len, Int.toNat_natCast, show ((a.length : Int) + (o.length : Int)).toNat = a.length + o.length by omega]
    exact chs_mid a o b n
  rw [ec]
  have fr2 := fr1.letters (S1 _ _ hp) (a ++ n ++ b)
  have hp2 : upd (upd H y (.lst (n.map fun c => V.str (S [c])))) x (.lst (chs (a ++ n ++ b))) p = some (.ins C dx (ff x m)) := by
    rw [upd_ne (ne_of (S1 _ _ hp) (S1 _ _ hx) (by intro z; cases z))]
    exact S1 _ _ hp
  have hm2 : upd (upd H y (.lst (n.map fun c => V.str (S [c])))) x (.lst (chs (a ++ n ++ b))) m = some (.lst xs) := by
    rw [upd_ne nxm.symm]
    exact S1 _ _ hm
  generalize upd (upd H y (.lst (n.map fun c => V.str (S [c])))) x (.lst (chs (a ++ n ++ b))) = H2 at *
  refine ⟨_, rfl, p, C, dx, _, _, rfl, hp2, T.cl, T.nM, ff_moves _ _, .inl ⟨rfl, _, SqL.of hm2⟩, _, rfl, _, rfl, _, rfl, fits (by show 3 ≤ 16777216; decide), fun t ht => ?_⟩
  have S3 := same_new ht (.tup [V.int (a.length : Int), .str (S o), .str (S n)])
  obtain ⟨xs', e1, l1, fr4⟩ := (fr2.same S3).push (S3 _ _ hp2) (t := t) (mv := ⟨(a.length : Int), o, n⟩) upd_same
  exact ⟨m, xs', _, rfl, rfl, e1, Nat.lt_of_lt_of_le (show xs'.length < 16777216 by omega) sizeLine_big, q _ fr4⟩
end
section
variable {P : Program} {w : World} {K : PySem.W.Frag} {mg : Str → Option Value} {base : Heap} {f : Addr} {fd : FuncData}
theorem ok_F__init__ {C : Addr} (F : Fun K "__init__" "Front.__init__" s_F__init__ f fd) (T : TxF K mg C)  : FnOk P w K mg base CX0 1 f fd ["self"] (spInitF C) := by
  refine F.ok sc_F__init__ (fun vs H Q E h => ?_) (fun cdv A outer s H vs Q E hr h => ?_)
  · obtain ⟨H0, p, dx, rfl, s0, p0, hp, q⟩ := h
    rfl
  obtain ⟨H0, p, dx, rfl, s0, p0, hp, q⟩ := h
  refine ⟨_, pss_cons (ps_fld (pv 0) (pe_lst pa_nil) rfl) (pss_one (ps_fld (pv 0) (pe_lst pa_nil) rfl)), ?_⟩
  refine ⟨Nat.zero_le _, fun a ha => ?_⟩
  have npa : p ≠ a := ne_of_none hp ha
  refine ⟨_, rfl, p, C, dx, [], rfl, (by rw [upd_ne npa]; exact hp), T.cl, T.nL, (by show 0 < 1000; decide), Nat.zero_le _, fun m hm => ?_⟩
  have npm : p ≠ m := fun z => by rw [z, upd_same] at hm; cases hm
  have nam : a ≠ m := fun z => by rw [← z, upd_ne npa.symm, upd_same] at hm; cases hm
  have hm0 : H m = none := by
    rw [upd_ne npm.symm, upd_ne nam.symm] at hm
    exact hm
  refine ⟨_, rfl, p, C, dx, _, rfl, Eq.trans (upd_ne npm) upd_same, T.cl, T.nM, (by show 1 < 1000; decide), ?_⟩
  refine q _ ⟨fun b o e => ?_, p0, dx, a, m, s0.free ha, s0.free hm0, nam, upd_same, ?_, [], by rw [upd_ne npm.symm, upd_same]; rfl, rfl, fun i r d hr _ => by cases hr⟩
  · have nbp : b ≠ p := fun z => by rw [z, p0] at e; cases e
    rw [upd_ne nbp, upd_ne (ne_of_none (s0 _ _ e) hm0), upd_ne nbp, upd_ne (ne_of_none (s0 _ _ e) ha)]
    exact s0 _ _ e
  · rw [upd_ne npa.symm, upd_ne nam, upd_ne npa.symm, upd_same]
    rfl
end
section
variable {P : Program} {w : World} {K : PySem.W.Frag} {mg : Str → Option Value} {base : Heap} {f : Addr} {fd : FuncData}
theorem ok_Fleave_untwists {C : Addr} (F : Fun K "leave_untwists" "Front.leave_untwists" s_Fleave_untwists f fd) (T : TxF K mg C) (D_ends_with : MDfn P w K mg base C "ends_with" 1 ["self", "text"] (spEnds C)) : FnOk P w K mg base CX0 2 f fd ["self"] (spLeave C) := by
  obtain ⟨g_ends_with, fd_ends_with, G_ends_with, B_ends_with, M_ends_with⟩ := D_ends_with.ex
  refine F.ok sc_Fleave_untwists (fun vs H Q E h => ?_) (fun cdv A outer s H vs Q E hr h => ?_)
  · obtain ⟨H0, p, l, m, ms, rfl, fr, nU, Ll, zl, q⟩ := h
    rfl
  obtain ⟨H0, p, l, m, ms, rfl, fr, nU, Ll, zl, q⟩ := h
  refine ⟨_, pss_cons (ps_set (i := 1) sc_Fleave_untwists.nd rfl (.inl rfl) pe_int)
    (pss_cons (ps_while PassesOwn.never (pt_val (pe_meth (pv 0) T.cl M_ends_with G_ends_with (hr.mono (by decide)) B_ends_with .nil pass0 (pa_cons pe_str pa_nil))) (pss_cons (ps_expr (pe_bm0 PySem.F.plainAttrs_list PySem.F.slot_list_pop PySem.F.type_list_pop mt_pop (pe_fld (pv 0) rfl))) (pss_one (ps_aug (i := 1) sc_Fleave_untwists.nd rfl (.inl rfl) pe_int ip_add))))
    (pss_one (ps_ret (pv 1)))), ?_⟩
  rw [List.length_append, List.length_replicate] at zl
  refine while_by (fun σ G => ∃ j : Nat, j ≤ m ∧ σ = [some (.ref p), some (.int (((m - j : Nat)) : Int))] ∧ FrAt C H0 G p (l ++ List.replicate j 85) ms) (fun σ _ => match σ with | [_, some (.int b)] => m - b.toNat | _ => 0) ⟨m, Nat.le_refl _, by rw [Nat.sub_self]; rfl, fr⟩ ?_ ?_
  · rintro σ G ⟨j, hj, rfl, fj⟩
    obtain ⟨dx, a, mm, xs, hp, ha, hm, lx, nam⟩ := fj.at
    rw [e_U]
    refine ⟨_, rfl, p, dx, _, rfl, hp, ff_no _ _ (by decide +kernel) (by decide +kernel), H0, p, _, [85], ms, rfl, fj, lets_U Ll j, lets_by rfl, by decide, by decide, by rw [List.length_append, List.length_replicate]; omega, fun G1 s1 => ⟨_, rfl, ?_⟩⟩
    have f1 := fj.same s1
    cases j with
    | zero =>
      have e : decide ((l ++ List.replicate 0 85).drop ((l ++ List.replicate 0 85).length - ([85] : List Nat).length) = [85]) = false := decide_eq_false fun z => by
        rw [show l ++ List.replicate 0 85 = l by simp] at z
        have k := List.take_append_drop (l.length - ([85] : List Nat).length) l
        rw [z] at k
        exact nU _ k.symm
      rw [e]
      refine iteF ⟨_, rfl, ?_⟩
      rw [show l ++ List.replicate 0 85 = l by simp] at f1
      exact q _ f1
    | succ j =>
      have e1 : l ++ List.replicate (j + 1) 85 = (l ++ List.replicate j 85) ++ [85] := by rw [← rep_snoc, List.append_assoc]
      have e : decide ((l ++ List.replicate (j + 1) 85).drop ((l ++ List.replicate (j + 1) 85).length - ([85] : List Nat).length) = [85]) = true := decide_eq_true (by rw [e1]; exact drop_last _ _)
      rw [e]
      have ha1 := s1 _ _ ha
      rw [e1] at ha1 f1
      have ec : chs ((l ++ List.replicate j 85) ++ [85]) = chs (l ++ List.replicate j 85) ++ [V.str (S [85])] := by unfold chs; rw [List.map_append]; rfl
      refine iteT ⟨_, rfl, p, C, dx, _, _, rfl, s1 _ _ hp, T.cl, T.nL, ff_letters _ _, .inl ⟨rfl, _, SqL.of ha1⟩, a, _, V.str (S [85]), rfl, rfl, ha1, ?_, ?_⟩
      · rw [ec, List.length_append, List.getElem?_append_right (by show _ ≤ _ + 1 - 1; omega)]
        show [V.str (S [85])][_ + 1 - 1 - _]? = _
        rw [show (chs (l ++ List.replicate j 85)).length + 1 - 1 - (chs (l ++ List.replicate j 85)).length = 0 by omega]
        rfl
      · rw [ec, List.dropLast_concat]
        have f2 := f1.letters (s1 _ _ hp) (l ++ List.replicate j 85)
        refine ⟨_, rfl, _, _, rfl, rfl, ⟨j, by omega, ?_, f2⟩, ?_⟩
        · show [_, some (V.int (((m - (j + 1) : Nat) : Int) + 1))] = _
          rw [show ((m - (j + 1) : Nat) : Int) + 1 = ((m - j : Nat) : Int) by omega]
        · show m - (((m - (j + 1) : Nat) : Int) + 1).toNat < m - ((m - (j + 1) : Nat) : Int).toNat
          omega
  · rintro σ H' Q1 Q2 hm ⟨v, e1, aa, dd, fs, e2, e3, e4, h0', p', l', t', ms', e5, e6, e7, e8, e9, e10, e11, k⟩
    exact ⟨v, e1, aa, dd, fs, e2, e3, e4, h0', p', l', t', ms', e5, e6, e7, e8, e9, e10, e11, fun G s => by
      obtain ⟨b, e12, qq⟩ := k G s
      exact ⟨b, e12, hm _ _ qq⟩⟩
end
section
variable {P : Program} {w : World} {K : PySem.W.Frag} {mg : Str → Option Value} {base : Heap} {f : Addr} {fd : FuncData}
theorem ok_Fspread_untwist {C : Addr} (F : Fun K "spread_untwist" "Front.spread_untwist" s_Fspread_untwist f fd) (T : TxF K mg C) (D_make : MDfn P w K mg base C "make" 1 ["self", "back", "old", "new"] (spMake C)) (D_is_now : MDfn P w K mg base C "is_now" 1 ["self", "text"] (spNow C)) : FnOk P w K mg base CX0 2 f fd ["self"] (spSpread C) := by
  obtain ⟨g_make, fd_make, G_make, B_make, M_make⟩ := D_make.ex
  obtain ⟨g_is_now, fd_is_now, G_is_now, B_is_now, M_is_now⟩ := D_is_now.ex
  refine F.ok sc_Fspread_untwist (fun vs H Q E h => ?_) (fun cdv A outer s H vs Q E hr h => ?_)
  · obtain ⟨H0, p, y, ms, rfl, fr, hy, Ly, zy, zm, q⟩ := h
    rfl
  obtain ⟨H0, p, y, ms, rfl, fr, hy, Ly, zy, zm, q⟩ := h
  refine ⟨_, pss_cons (ps_expr (pe_meth (pv 0) T.cl M_make G_make (hr.mono (by decide)) B_make .nil pass0 (pa_cons pe_int (pa_cons pe_str (pa_cons pe_str pa_nil))))) (pss_cons (ps_expr (pe_meth (pv 0) T.cl M_make G_make (hr.mono (by decide)) B_make .nil pass0 (pa_cons pe_int (pa_cons pe_str (pa_cons pe_str pa_nil))))) (pss_one (ps_if (pt_val (pe_meth (pv 0) T.cl M_is_now G_is_now (hr.mono (by decide)) B_is_now .nil pass0 (pa_cons pe_str pa_nil))) (pss_one (ps_expr (pe_meth (pv 0) T.cl M_make G_make (hr.mono (by decide)) B_make .nil pass0 (pa_cons pe_int (pa_cons pe_str (pa_cons pe_str pa_nil)))))) (pss_one (ps_expr (pe_meth (pv 0) T.cl M_make G_make (hr.mono (by decide)) B_make .nil pass0 (pa_cons pe_int (pa_cons pe_str (pa_cons pe_str pa_nil))))))))), ?_⟩
  rw [e_empty, e_six, e_UT, e_RTR, e_RR, e_RTRTR]
  obtain ⟨dx1, a1, m1, xs1, hp1, _, _, _, _⟩ := fr.at
  have c1 : FrAt C H0 _ p ((y ++ [85]) ++ [] ++ []) _ := fr.cast (by simp)
  refine ⟨_, rfl, p, dx1, _, rfl, hp1, ff_no _ _ (by decide +kernel) (by decide +kernel), H0, p, (y ++ [85]), [], [84, 82, 84, 82, 84, 82], [], _, rfl, c1, (by first | omega | (simp; omega) | simp), (by decide), (by first | omega | (simp; omega) | simp), fun G1 f1 => ?_⟩
  obtain ⟨dx2, a2, m2, xs2, hp2, _, _, _, _⟩ := f1.at
  have c2 : FrAt C H0 _ p (y ++ [85, 84] ++ [82, 84, 82, 84, 82]) _ := f1.cast (by simp)
  refine ⟨_, rfl, p, dx2, _, rfl, hp2, ff_no _ _ (by decide +kernel) (by decide +kernel), H0, p, y, [85, 84], [], [82, 84, 82, 84, 82], _, rfl, c2, (by first | omega | (simp; omega) | simp), (by decide), (by first | omega | (simp; omega) | simp), fun G2 f2 => ?_⟩
  obtain ⟨dx3, a3, m3, xs3, hp3, _, _, _, _⟩ := f2.at
  refine ⟨_, rfl, p, dx3, _, rfl, hp3, ff_no _ _ (by decide +kernel) (by decide +kernel), H0, p, _, [82, 84, 82, 84, 82], _, rfl, f2, ?_, lets_by rfl, by decide, by simp; omega, fun G3 s3 => ⟨_, rfl, ?_⟩⟩
  · intro c hc
    rcases List.mem_append.mp hc with hc | hc
    · rw [List.append_nil] at hc
      exact Ly c hc
    · exact lets_by (l := [82, 84, 82, 84, 82]) rfl c hc
  have f3 := f2.same s3
  rcases hy with hy | ⟨x, hy⟩
  · subst hy
    rw [decide_eq_true (show ([] : List Nat) ++ [] ++ [82, 84, 82, 84, 82] = [82, 84, 82, 84, 82] from rfl)]
    refine iteT ?_
    obtain ⟨dx4, a4, m4, xs4, hp4, _, _, _, _⟩ := f3.at
    have c4 : FrAt C H0 _ p ([] ++ [82, 84, 82] ++ [84, 82]) _ := f3.cast (by simp)
    refine ⟨_, rfl, p, dx4, _, rfl, hp4, ff_no _ _ (by decide +kernel) (by decide +kernel), H0, p, [], [82, 84, 82], [], [84, 82], _, rfl, c4, (by first | omega | (simp; omega) | simp), (by decide), (by first | omega | (simp; omega) | simp), fun G4 f4 => ?_⟩
    exact q G4 _ [⟨1, [], [84, 82, 84, 82, 84, 82]⟩, ⟨0, [85, 84], []⟩, ⟨0, [82, 84, 82], []⟩] (f4.castM (by simp)) lead_spread0 (.inl ⟨rfl, rfl⟩) rfl (fit_by rfl)
  · subst hy
    have zx : x.length ≤ 90000 := by rw [List.length_append] at zy; omega
    rw [decide_eq_false (show ¬ (x ++ [82] ++ [] ++ [82, 84, 82, 84, 82] = [82, 84, 82, 84, 82]) from fun z => by have := congrArg List.length z; simp at this)]
    refine iteF ?_
    obtain ⟨dx5, a5, m5, xs5, hp5, _, _, _, _⟩ := f3.at
    have c5 : FrAt C H0 _ p (x ++ [82, 82] ++ [84, 82, 84, 82]) _ := f3.cast (by simp)
    refine ⟨_, rfl, p, dx5, _, rfl, hp5, ff_no _ _ (by decide +kernel) (by decide +kernel), H0, p, x, [82, 82], [], [84, 82, 84, 82], _, rfl, c5, (by first | omega | (simp; omega) | simp), (by decide), (by first | omega | (simp; omega) | simp), fun G5 f5 => ?_⟩
    exact q G5 (x ++ [84, 82, 84, 82]) [⟨((x ++ [82, 85]).length : Int), [], [84, 82, 84, 82, 84, 82]⟩, ⟨((x ++ [82]).length : Int), [85, 84], []⟩, ⟨(x.length : Int), [82, 82], []⟩] ((f5.cast (by simp)).castM (by simp)) ((lead_spread x).cast (by simp) rfl) (.inr ⟨x, rfl, rfl⟩) rfl (fit_by rfl)
end
section
variable {P : Program} {w : World} {K : PySem.W.Frag} {mg : Str → Option Value} {base : Heap} {f : Addr} {fd : FuncData}
theorem ok_Ftake_untwist {C : Addr} (F : Fun K "take_untwist" "Front.take_untwist" s_Ftake_untwist f fd) (T : TxF K mg C) (D_make : MDfn P w K mg base C "make" 1 ["self", "back", "old", "new"] (spMake C)) (D_is_now : MDfn P w K mg base C "is_now" 1 ["self", "text"] (spNow C)) (D_ends_with : MDfn P w K mg base C "ends_with" 1 ["self", "text"] (spEnds C)) : FnOk P w K mg base CX0 2 f fd ["self"] (spStep C 85) := by
  obtain ⟨g_make, fd_make, G_make, B_make, M_make⟩ := D_make.ex
  obtain ⟨g_is_now, fd_is_now, G_is_now, B_is_now, M_is_now⟩ := D_is_now.ex
  obtain ⟨g_ends_with, fd_ends_with, G_ends_with, B_ends_with, M_ends_with⟩ := D_ends_with.ex
  refine F.ok sc_Ftake_untwist (fun vs H Q E h => ?_) (fun cdv A outer s H vs Q E hr h => ?_)
  · obtain ⟨H0, p, x, ms, rfl, fr, fx, Lx, zx, zm, q⟩ := h
    rfl
  obtain ⟨H0, p, x, ms, rfl, fr, fx, Lx, zx, zm, q⟩ := h
  refine ⟨_, pss_cons (ps_expr (pe_bm PySem.F.plainAttrs_list PySem.F.slot_list_append PySem.F.type_list_append mt_append (pe_fld (pv 0) rfl) (pa_cons pe_str pa_nil))) (pss_one (ps_if (pt_val (pe_meth (pv 0) T.cl M_ends_with G_ends_with (hr.mono (by decide)) B_ends_with .nil pass0 (pa_cons pe_str pa_nil))) (pss_one (ps_expr (pe_meth (pv 0) T.cl M_make G_make (hr.mono (by decide)) B_make .nil pass0 (pa_cons pe_int (pa_cons pe_str (pa_cons pe_str pa_nil)))))) (pss_one (ps_if (pt_val (pe_meth (pv 0) T.cl M_is_now G_is_now (hr.mono (by decide)) B_is_now .nil pass0 (pa_cons pe_str pa_nil))) (pss_cons (ps_expr (pe_meth (pv 0) T.cl M_make G_make (hr.mono (by decide)) B_make .nil pass0 (pa_cons pe_int (pa_cons pe_str (pa_cons pe_str pa_nil))))) (pss_cons (ps_expr (pe_meth (pv 0) T.cl M_make G_make (hr.mono (by decide)) B_make .nil pass0 (pa_cons pe_int (pa_cons pe_str (pa_cons pe_str pa_nil))))) (pss_one (ps_expr (pe_meth (pv 0) T.cl M_make G_make (hr.mono (by decide)) B_make .nil pass0 (pa_cons pe_int (pa_cons pe_str (pa_cons pe_str pa_nil)))))))) pss_nil)))), ?_⟩
  rw [e_U, e_TU, e_RU, e_empty, e_RTR, e_RR]
  obtain ⟨dx, a, m, xs, hp, ha, hm, _, _⟩ := fr.at
  have zc : (chs x).length = x.length := List.length_map ..
  refine ⟨_, rfl, p, C, dx, _, _, rfl, hp, T.cl, T.nL, ff_letters _ _, .inl ⟨rfl, _, SqL.of ha⟩, a, _, _, rfl, rfl, ha, Nat.lt_of_lt_of_le (show (chs x).length < 16777216 by omega) sizeLine_big, ?_⟩
  rw [chs_snoc]
  have f1 := fr.letters hp (x ++ [85])
  have Lx1 : Lets (x ++ [85]) := lets_app Lx (lets_by rfl)
  have z1 : (x ++ [85]).length ≤ 1001 := by rw [List.length_append]; show _ + 1 ≤ _; omega
  obtain ⟨dx1, a1, m1, xs1, hp1, _, _, _, _⟩ := f1.at
  refine ⟨_, rfl, p, dx1, _, rfl, hp1, ff_no _ _ (by decide +kernel) (by decide +kernel), H0, p, _, [84, 85], _, rfl, f1, Lx1, lets_by rfl, by decide, by decide, by omega, fun G1 s1 => ⟨_, rfl, ?_⟩⟩
  have f2 := f1.same s1
  refine ite2 (fun k => ?_) (fun k => ?_)
  · obtain ⟨z, rfl⟩ := two_end.mp (of_decide_eq_true k)
    rw [List.length_append] at zx
    obtain ⟨dx3, a3, m3, xs3, hp3, _, _, _, _⟩ := f2.at
    have c3 : FrAt C H0 _ p (z ++ [84, 85] ++ []) _ := f2.cast (by simp)
    refine ⟨_, rfl, p, dx3, _, rfl, hp3, ff_no _ _ (by decide +kernel) (by decide +kernel), H0, p, z, [84, 85], [], [], _, rfl, c3, (by first | omega | (simp; omega) | simp), (by decide), (by first | omega | (simp; omega) | simp), fun G3 f3 => ?_⟩
    refine q G3 z [⟨(z.length : Int), [84, 85], []⟩] (f3.cast (by simp)) ((lead_TU z).cast (by simp) rfl) (fst_T fx) ?_ (by show 1 ≤ 4; decide) (fit_by rfl)
    rw [wt_app]
    omega
  · have hT : ∀ z, x ≠ z ++ [84] := fun z e => k (decide_eq_true (two_end.mpr ⟨z, e⟩))
    obtain ⟨dx2, a2, m2, xs2, hp2, _, _, _, _⟩ := f2.at
    refine ⟨_, rfl, p, dx2, _, rfl, hp2, ff_no _ _ (by decide +kernel) (by decide +kernel), H0, p, _, [82, 85], _, rfl, f2, Lx1, lets_by rfl, by decide, by omega, fun G2 s2 => ⟨_, rfl, ?_⟩⟩
    have f3 := f2.same s2
    refine ite2 (fun k2 => ?_) (fun k2 => ?_)
    · have e := (last_ne (y := [82]) (of_decide_eq_true k2)).1
      subst e
      obtain ⟨dx4, a4, m4, xs4, hp4, _, _, _, _⟩ := f3.at
      have c4 : FrAt C H0 _ p ([] ++ [] ++ [82, 85]) _ := f3.cast (by simp)
      refine ⟨_, rfl, p, dx4, _, rfl, hp4, ff_no _ _ (by decide +kernel) (by decide +kernel), H0, p, [], [], [82, 84, 82], [82, 85], _, rfl, c4, (by first | omega | (simp; omega) | simp), (by decide), (by first | omega | (simp; omega) | simp), fun G4 f4 => ?_⟩
      obtain ⟨dx5, a5, m5, xs5, hp5, _, _, _, _⟩ := f4.at
      have c5 : FrAt C H0 _ p ([82, 84] ++ [82, 82] ++ [85]) _ := f4.cast (by simp)
      refine ⟨_, rfl, p, dx5, _, rfl, hp5, ff_no _ _ (by decide +kernel) (by decide +kernel), H0, p, [82, 84], [82, 82], [], [85], _, rfl, c5, (by first | omega | (simp; omega) | simp), (by decide), (by first | omega | (simp; omega) | simp), fun G5 f5 => ?_⟩
      obtain ⟨dx6, a6, m6, xs6, hp6, _, _, _, _⟩ := f5.at
      have c6 : FrAt C H0 _ p ([82] ++ [84, 85] ++ []) _ := f5.cast (by simp)
      refine ⟨_, rfl, p, dx6, _, rfl, hp6, ff_no _ _ (by decide +kernel) (by decide +kernel), H0, p, [82], [84, 85], [], [], _, rfl, c6, (by first | omega | (simp; omega) | simp), (by decide), (by first | omega | (simp; omega) | simp), fun G6 f6 => ?_⟩
      exact q G6 [82] [⟨0, [], [82, 84, 82]⟩, ⟨2, [82, 82], []⟩, ⟨1, [84, 85], []⟩] (f6.castM (by simp)) lead_RU .C (by decide) (by decide) (fit_by rfl)
    · have hR : x ≠ [82] := fun e => k2 (decide_eq_true (by rw [e]; rfl))
      refine q G2 (x ++ [85]) [] (f3.castM (by simp)) (Lead.refl _) (fst_U fx hT hR) ?_ (by decide) (fit_by rfl)
      rw [wt_app]
      show wt x + 3 ≤ _
      omega
end
section
variable {P : Program} {w : World} {K : PySem.W.Frag} {mg : Str → Option Value} {base : Heap} {f : Addr} {fd : FuncData}
theorem ok_Ftake {C : Addr} (F : Fun K "take" "Front.take" s_Ftake f fd) (T : TxF K mg C) (D_take_twist : MDfn P w K mg base C "take_twist" 2 ["self"] (spStep C 84)) (D_take_untwist : MDfn P w K mg base C "take_untwist" 2 ["self"] (spStep C 85)) (D_take_turn : MDfn P w K mg base C "take_turn" 3 ["self"] (spStepR C)) : FnOk P w K mg base CX0 4 f fd ["self", "letter"] (spTakeF C) := by
  obtain ⟨g_take_twist, fd_take_twist, G_take_twist, B_take_twist, M_take_twist⟩ := D_take_twist.ex
  obtain ⟨g_take_untwist, fd_take_untwist, G_take_untwist, B_take_untwist, M_take_untwist⟩ := D_take_untwist.ex
  obtain ⟨g_take_turn, fd_take_turn, G_take_turn, B_take_turn, M_take_turn⟩ := D_take_turn.ex
  refine F.ok sc_Ftake (fun vs H Q E h => ?_) (fun cdv A outer s H vs Q E hr h => ?_)
  · obtain ⟨H0, p, x, ms, c, rfl, hc, fr, fx, Lx, zx, zm, q⟩ := h
    rfl
  obtain ⟨H0, p, x, ms, c, rfl, hc, fr, fx, Lx, zx, zm, q⟩ := h
  refine ⟨_, pss_one (ps_if (pt_cmpR op_eq (pv 1) pe_str (nomark _)) (pss_one (ps_expr (pe_meth0 (pv 0) T.cl M_take_twist G_take_twist (hr.mono (by decide)) B_take_twist .nil pass0))) (pss_one (ps_if (pt_cmpR op_eq (pv 1) pe_str (nomark _)) (pss_one (ps_expr (pe_meth0 (pv 0) T.cl M_take_untwist G_take_untwist (hr.mono (by decide)) B_take_untwist .nil pass0))) (pss_one (ps_expr (pe_meth0 (pv 0) T.cl M_take_turn G_take_turn (hr.mono (by decide)) B_take_turn .nil pass0)))))), ?_⟩
  obtain ⟨dx, a, m, xs, hp, ha, hm, _, _⟩ := fr.at
  refine ⟨_, rfl, rfl, _, rfl, ite2 (fun k1 => ?_) (fun k1 => ?_)⟩
  · have e : c = 84 := (sign_eq e_T).mp (of_decide_eq_true k1)
    subst e
    exact ⟨_, rfl, p, dx, _, rfl, hp, ff_no _ _ (by decide +kernel) (by decide +kernel), H0, p, x, ms, rfl, fr, fx, Lx, zx, zm, fun H' x' ns h1 h2 h3 h4 h5 h6 => q H' x' ns h1 h2 h3 h4 (by omega) h6⟩
  have n1 : ¬ c = 84 := fun z => k1 (decide_eq_true ((sign_eq e_T).mpr z))
  refine ⟨_, rfl, rfl, _, rfl, ite2 (fun k2 => ?_) (fun k2 => ?_)⟩
  · have e : c = 85 := (sign_eq e_U).mp (of_decide_eq_true k2)
    subst e
    exact ⟨_, rfl, p, dx, _, rfl, hp, ff_no _ _ (by decide +kernel) (by decide +kernel), H0, p, x, ms, rfl, fr, fx, Lx, zx, zm, fun H' x' ns h1 h2 h3 h4 h5 h6 => q H' x' ns h1 h2 h3 h4 (by omega) h6⟩
  have n2 : ¬ c = 85 := fun z => k2 (decide_eq_true ((sign_eq e_U).mpr z))
  have e : c = 82 := by omega
  subst e
  exact ⟨_, rfl, p, dx, _, rfl, hp, ff_no _ _ (by decide +kernel) (by decide +kernel), H0, p, x, ms, rfl, fr, fx, Lx, zx, zm, q⟩
end
section
variable {P : Program} {w : World} {K : PySem.W.Frag} {mg : Str → Option Value} {base : Heap} {f : Addr} {fd : FuncData}
theorem ok_Ftake_twist {C : Addr} (F : Fun K "take_twist" "Front.take_twist" s_Ftake_twist f fd) (T : TxF K mg C) (D_make : MDfn P w K mg base C "make" 1 ["self", "back", "old", "new"] (spMake C)) (D_is_now : MDfn P w K mg base C "is_now" 1 ["self", "text"] (spNow C)) (D_ends_with : MDfn P w K mg base C "ends_with" 1 ["self", "text"] (spEnds C)) : FnOk P w K mg base CX0 2 f fd ["self"] (spStep C 84) := by
  obtain ⟨g_make, fd_make, G_make, B_make, M_make⟩ := D_make.ex
  obtain ⟨g_is_now, fd_is_now, G_is_now, B_is_now, M_is_now⟩ := D_is_now.ex
  obtain ⟨g_ends_with, fd_ends_with, G_ends_with, B_ends_with, M_ends_with⟩ := D_ends_with.ex
  refine F.ok sc_Ftake_twist (fun vs H Q E h => ?_) (fun cdv A outer s H vs Q E hr h => ?_)
  · obtain ⟨H0, p, x, ms, rfl, fr, fx, Lx, zx, zm, q⟩ := h
    rfl
  obtain ⟨H0, p, x, ms, rfl, fr, fx, Lx, zx, zm, q⟩ := h
  refine ⟨_, pss_cons (ps_expr (pe_bm PySem.F.plainAttrs_list PySem.F.slot_list_append PySem.F.type_list_append mt_append (pe_fld (pv 0) rfl) (pa_cons pe_str pa_nil))) (pss_one (ps_if (pt_val (pe_meth (pv 0) T.cl M_ends_with G_ends_with (hr.mono (by decide)) B_ends_with .nil pass0 (pa_cons pe_str pa_nil))) (pss_one (ps_expr (pe_meth (pv 0) T.cl M_make G_make (hr.mono (by decide)) B_make .nil pass0 (pa_cons pe_int (pa_cons pe_str (pa_cons pe_str pa_nil)))))) (pss_one (ps_if (pt_val (pe_meth (pv 0) T.cl M_ends_with G_ends_with (hr.mono (by decide)) B_ends_with .nil pass0 (pa_cons pe_str pa_nil))) (pss_cons (ps_expr (pe_meth (pv 0) T.cl M_make G_make (hr.mono (by decide)) B_make .nil pass0 (pa_cons pe_int (pa_cons pe_str (pa_cons pe_str pa_nil))))) (pss_one (ps_expr (pe_meth (pv 0) T.cl M_make G_make (hr.mono (by decide)) B_make .nil pass0 (pa_cons pe_int (pa_cons pe_str (pa_cons pe_str pa_nil))))))) (pss_one (ps_if (pt_val (pe_meth (pv 0) T.cl M_is_now G_is_now (hr.mono (by decide)) B_is_now .nil pass0 (pa_cons pe_str pa_nil))) (pss_cons (ps_expr (pe_meth (pv 0) T.cl M_make G_make (hr.mono (by decide)) B_make .nil pass0 (pa_cons pe_int (pa_cons pe_str (pa_cons pe_str pa_nil))))) (pss_one (ps_expr (pe_meth (pv 0) T.cl M_make G_make (hr.mono (by decide)) B_make .nil pass0 (pa_cons pe_int (pa_cons pe_str (pa_cons pe_str pa_nil))))))) (pss_one (ps_if (pt_val (pe_meth (pv 0) T.cl M_is_now G_is_now (hr.mono (by decide)) B_is_now .nil pass0 (pa_cons pe_str pa_nil))) (pss_cons (ps_expr (pe_meth (pv 0) T.cl M_make G_make (hr.mono (by decide)) B_make .nil pass0 (pa_cons pe_int (pa_cons pe_str (pa_cons pe_str pa_nil))))) (pss_cons (ps_expr (pe_meth (pv 0) T.cl M_make G_make (hr.mono (by decide)) B_make .nil pass0 (pa_cons pe_int (pa_cons pe_str (pa_cons pe_str pa_nil))))) (pss_cons (ps_expr (pe_meth (pv 0) T.cl M_make G_make (hr.mono (by decide)) B_make .nil pass0 (pa_cons pe_int (pa_cons pe_str (pa_cons pe_str pa_nil))))) (pss_one (ps_expr (pe_meth (pv 0) T.cl M_make G_make (hr.mono (by decide)) B_make .nil pass0 (pa_cons pe_int (pa_cons pe_str (pa_cons pe_str pa_nil))))))))) pss_nil)))))))), ?_⟩
  rw [e_T, e_UT2, e_TRTRT, e_RT2, e_TRT2, e_empty, e_RTR, e_RR, e_six]
  obtain ⟨dx, a, m, xs, hp, ha, hm, _, _⟩ := fr.at
  have zc : (chs x).length = x.length := List.length_map ..
  refine ⟨_, rfl, p, C, dx, _, _, rfl, hp, T.cl, T.nL, ff_letters _ _, .inl ⟨rfl, _, SqL.of ha⟩, a, _, _, rfl, rfl, ha, Nat.lt_of_lt_of_le (show (chs x).length < 16777216 by omega) sizeLine_big, ?_⟩
  rw [chs_snoc]
  have f1 := fr.letters hp (x ++ [84])
  have Lx1 : Lets (x ++ [84]) := lets_app Lx (lets_by rfl)
  have z1 : (x ++ [84]).length ≤ 1001 := by rw [List.length_append]; show _ + 1 ≤ _; omega
  obtain ⟨dx1, a1, m1, xs1, hp1, _, _, _, _⟩ := f1.at
  refine ⟨_, rfl, p, dx1, _, rfl, hp1, ff_no _ _ (by decide +kernel) (by decide +kernel), H0, p, _, [85, 84], _, rfl, f1, Lx1, lets_by rfl, by decide, by decide, by omega, fun G1 s1 => ⟨_, rfl, ?_⟩⟩
  have f2 := f1.same s1
  refine ite2 (fun k => ?_) (fun k => ?_)
  · obtain ⟨z, rfl⟩ := two_end.mp (of_decide_eq_true k)
    rw [List.length_append] at zx
    obtain ⟨dx3, a3, m3, xs3, hp3, _, _, _, _⟩ := f2.at
    have c3 : FrAt C H0 _ p (z ++ [85, 84] ++ []) _ := f2.cast (by simp)
    refine ⟨_, rfl, p, dx3, _, rfl, hp3, ff_no _ _ (by decide +kernel) (by decide +kernel), H0, p, z, [85, 84], [], [], _, rfl, c3, (by first | omega | (simp; omega) | simp), (by decide), (by first | omega | (simp; omega) | simp), fun G3 f3 => ?_⟩
    refine q G3 z [⟨(z.length : Int), [85, 84], []⟩] (f3.cast (by simp)) ((lead_UT z).cast (by simp) rfl) (fst_offU fx) ?_ (by show 1 ≤ 4; decide) (fit_by rfl)
    rw [wt_app]
    omega
  have hU : ∀ z, x ≠ z ++ [85] := fun z e => k (decide_eq_true (two_end.mpr ⟨z, e⟩))
  obtain ⟨dx2, a2, m2, xs2, hp2, _, _, _, _⟩ := f2.at
  refine ⟨_, rfl, p, dx2, _, rfl, hp2, ff_no _ _ (by decide +kernel) (by decide +kernel), H0, p, _, [84, 82, 84, 82, 84], _, rfl, f2, Lx1, lets_by rfl, by decide, by decide, by omega, fun G2 s2 => ⟨_, rfl, ?_⟩⟩
  have f3 := f2.same s2
  refine ite2 (fun k => ?_) (fun k => ?_)
  · obtain ⟨z, ez⟩ := end_iff.mp (of_decide_eq_true k)
    have ex : x = z ++ [84, 82, 84, 82] := (last_ne (by rw [ez]; simp : x ++ [84] = (z ++ [84, 82, 84, 82]) ++ [84])).1
    subst ex
    rw [List.length_append] at zx
    obtain ⟨dx4, a4, m4, xs4, hp4, _, _, _, _⟩ := f3.at
    have c4 : FrAt C H0 _ p ((z ++ [84, 82, 84, 82, 84]) ++ [] ++ []) _ := f3.cast (by simp)
    refine ⟨_, rfl, p, dx4, _, rfl, hp4, ff_no _ _ (by decide +kernel) (by decide +kernel), H0, p, (z ++ [84, 82, 84, 82, 84]), [], [82, 82], [], _, rfl, c4, (by first | omega | (simp; omega) | simp), (by decide), (by first | omega | (simp; omega) | simp), fun G4 f4 => ?_⟩
    obtain ⟨dx5, a5, m5, xs5, hp5, _, _, _, _⟩ := f4.at
    have c5 : FrAt C H0 _ p (z ++ [84, 82, 84, 82, 84, 82] ++ [82]) _ := f4.cast (by simp)
    refine ⟨_, rfl, p, dx5, _, rfl, hp5, ff_no _ _ (by decide +kernel) (by decide +kernel), H0, p, z, [84, 82, 84, 82, 84, 82], [], [82], _, rfl, c5, (by first | omega | (simp; omega) | simp), (by decide), (by first | omega | (simp; omega) | simp), fun G5 f5 => ?_⟩
    refine q G5 (z ++ [82]) [⟨((z ++ [84, 82, 84, 82, 84]).length : Int), [], [82, 82]⟩, ⟨(z.length : Int), [84, 82, 84, 82, 84, 82], []⟩] ((f5.cast (by simp)).castM (by simp)) ((lead_TRTRT z).cast (by simp) rfl) (fst_offTRTR fx) ?_ (by show 2 ≤ 4; decide) (fit_by rfl)
    rw [wt_app, wt_app]
    show wt z + 1 ≤ _
    omega
  have hE : ∀ z, x ≠ z ++ [84, 82, 84, 82] := fun z e => k (decide_eq_true (end_iff.mpr ⟨z, by rw [e]; simp⟩))
  obtain ⟨dx3, a3, m3, xs3, hp3, _, _, _, _⟩ := f3.at
  refine ⟨_, rfl, p, dx3, _, rfl, hp3, ff_no _ _ (by decide +kernel) (by decide +kernel), H0, p, _, [82, 84], _, rfl, f3, Lx1, lets_by rfl, by decide, by omega, fun G3 s3 => ⟨_, rfl, ?_⟩⟩
  have f4 := f3.same s3
  refine ite2 (fun k => ?_) (fun k => ?_)
  · have ex := (last_ne (y := [82]) (of_decide_eq_true k)).1
    subst ex
    obtain ⟨dx4, a4, m4, xs4, hp4, _, _, _, _⟩ := f4.at
    have c4 : FrAt C H0 _ p ([82, 84] ++ [] ++ []) _ := f4.cast (by simp)
    refine ⟨_, rfl, p, dx4, _, rfl, hp4, ff_no _ _ (by decide +kernel) (by decide +kernel), H0, p, [82, 84], [], [82, 82], [], _, rfl, c4, (by first | omega | (simp; omega) | simp), (by decide), (by first | omega | (simp; omega) | simp), fun G4 f5 => ?_⟩
    obtain ⟨dx5, a5, m5, xs5, hp5, _, _, _, _⟩ := f5.at
    have c5 : FrAt C H0 _ p ([] ++ [82, 84, 82] ++ [82]) _ := f5.cast (by simp)
    refine ⟨_, rfl, p, dx5, _, rfl, hp5, ff_no _ _ (by decide +kernel) (by decide +kernel), H0, p, [], [82, 84, 82], [], [82], _, rfl, c5, (by first | omega | (simp; omega) | simp), (by decide), (by first | omega | (simp; omega) | simp), fun G5 f6 => ?_⟩
    exact q G5 [82] [⟨2, [], [82, 82]⟩, ⟨0, [82, 84, 82], []⟩] (f6.castM (by simp)) lead_RT .C (by decide) (by decide) (fit_by rfl)
  have hR : x ≠ [82] := fun e => k (decide_eq_true (by rw [e]; rfl))
  obtain ⟨dx4, a4, m4, xs4, hp4, _, _, _, _⟩ := f4.at
  refine ⟨_, rfl, p, dx4, _, rfl, hp4, ff_no _ _ (by decide +kernel) (by decide +kernel), H0, p, _, [84, 82, 84], _, rfl, f4, Lx1, lets_by rfl, by decide, by omega, fun G4 s4 => ⟨_, rfl, ?_⟩⟩
  have f5 := f4.same s4
  refine ite2 (fun k => ?_) (fun k => ?_)
  · have ex := (last_ne (y := [84, 82]) (of_decide_eq_true k)).1
    subst ex
    obtain ⟨dx5, a5, m5, xs5, hp5, _, _, _, _⟩ := f5.at
    have c5 : FrAt C H0 _ p ([] ++ [] ++ [84, 82, 84]) _ := f5.cast (by simp)
    refine ⟨_, rfl, p, dx5, _, rfl, hp5, ff_no _ _ (by decide +kernel) (by decide +kernel), H0, p, [], [], [82, 84, 82], [84, 82, 84], _, rfl, c5, (by first | omega | (simp; omega) | simp), (by decide), (by first | omega | (simp; omega) | simp), fun G5 f6 => ?_⟩
    obtain ⟨dx6, a6, m6, xs6, hp6, _, _, _, _⟩ := f6.at
    have c6 : FrAt C H0 _ p ([82, 84, 82, 84, 82, 84] ++ [] ++ []) _ := f6.cast (by simp)
    refine ⟨_, rfl, p, dx6, _, rfl, hp6, ff_no _ _ (by decide +kernel) (by decide +kernel), H0, p, [82, 84, 82, 84, 82, 84], [], [82, 82], [], _, rfl, c6, (by first | omega | (simp; omega) | simp), (by decide), (by first | omega | (simp; omega) | simp), fun G6 f7 => ?_⟩
    obtain ⟨dx7, a7, m7, xs7, hp7, _, _, _, _⟩ := f7.at
    have c7 : FrAt C H0 _ p ([82] ++ [84, 82, 84, 82, 84, 82] ++ [82]) _ := f7.cast (by simp)
    refine ⟨_, rfl, p, dx7, _, rfl, hp7, ff_no _ _ (by decide +kernel) (by decide +kernel), H0, p, [82], [84, 82, 84, 82, 84, 82], [], [82], _, rfl, c7, (by first | omega | (simp; omega) | simp), (by decide), (by first | omega | (simp; omega) | simp), fun G7 f8 => ?_⟩
    obtain ⟨dx8, a8, m8, xs8, hp8, _, _, _, _⟩ := f8.at
    have c8 : FrAt C H0 _ p ([] ++ [82, 82] ++ []) _ := f8.cast (by simp)
    refine ⟨_, rfl, p, dx8, _, rfl, hp8, ff_no _ _ (by decide +kernel) (by decide +kernel), H0, p, [], [82, 82], [], [], _, rfl, c8, (by first | omega | (simp; omega) | simp), (by decide), (by first | omega | (simp; omega) | simp), fun G8 f9 => ?_⟩
    exact q G8 [] [⟨0, [], [82, 84, 82]⟩, ⟨6, [], [82, 82]⟩, ⟨1, [84, 82, 84, 82, 84, 82], []⟩, ⟨0, [82, 82], []⟩] (f9.castM (by simp)) lead_TRT (fst_up .nil 0) (by decide) (by decide) (fit_by rfl)
  have hTR : x ≠ [84, 82] := fun e => k (decide_eq_true (by rw [e]; rfl))
  refine q G4 (x ++ [84]) [] (f5.castM (by simp)) (Lead.refl _) (fst_onT fx hU hE hR hTR) ?_ (by decide) (fit_by rfl)
  rw [wt_app]
  show wt x + 1 ≤ _
  omega
end
section
variable {P : Program} {w : World} {K : PySem.W.Frag} {mg : Str → Option Value} {base : Heap} {f : Addr} {fd : FuncData}
theorem ok_Ftake_turn {C : Addr} (F : Fun K "take_turn" "Front.take_turn" s_Ftake_turn f fd) (T : TxF K mg C) (D_leave_untwists : MDfn P w K mg base C "leave_untwists" 2 ["self"] (spLeave C)) (D_spread_untwist : MDfn P w K mg base C "spread_untwist" 2 ["self"] (spSpread C)) (D_make : MDfn P w K mg base C "make" 1 ["self", "back", "old", "new"] (spMake C)) (D_ends_with : MDfn P w K mg base C "ends_with" 1 ["self", "text"] (spEnds C)) (y_range : mg "range" = none) : FnOk P w K mg base CX0 3 f fd ["self"] (spStepR C) := by
  obtain ⟨g_leave_untwists, fd_leave_untwists, G_leave_untwists, B_leave_untwists, M_leave_untwists⟩ := D_leave_untwists.ex
  obtain ⟨g_spread_untwist, fd_spread_untwist, G_spread_untwist, B_spread_untwist, M_spread_untwist⟩ := D_spread_untwist.ex
  obtain ⟨g_make, fd_make, G_make, B_make, M_make⟩ := D_make.ex
  obtain ⟨g_ends_with, fd_ends_with, G_ends_with, B_ends_with, M_ends_with⟩ := D_ends_with.ex
  refine F.ok sc_Ftake_turn (fun vs H Q E h => ?_) (fun cdv A outer s H vs Q E hr h => ?_)
  · obtain ⟨H0, p, x, ms, rfl, fr, fx, Lx, zx, zm, q⟩ := h
    rfl
  obtain ⟨H0, p, x, ms, rfl, fr, fx, Lx, zx, zm, q⟩ := h
  refine ⟨_, pss_cons (ps_set (i := 1) sc_Ftake_turn.nd rfl (.inl rfl) (pe_meth0 (pv 0) T.cl M_leave_untwists G_leave_untwists (hr.mono (by decide)) B_leave_untwists .nil pass0))
    (pss_cons (ps_for PassesOwn.never rfl (pi_range1 rfl y_range (pa_cons (pv 1) pa_nil)) (pg_name (i := 2) sc_Ftake_turn.nd rfl (.inl rfl)) (pss_cons (ps_expr (pe_bm PySem.F.plainAttrs_list PySem.F.slot_list_append PySem.F.type_list_append mt_append (pe_fld (pv 0) rfl) (pa_cons pe_str pa_nil))) (pss_one (ps_expr (pe_meth0 (pv 0) T.cl M_spread_untwist G_spread_untwist (hr.mono (by decide)) B_spread_untwist .nil pass0)))))
    (pss_cons (ps_expr (pe_bm PySem.F.plainAttrs_list PySem.F.slot_list_append PySem.F.type_list_append mt_append (pe_fld (pv 0) rfl) (pa_cons pe_str pa_nil))) (pss_one (ps_if (pt_val (pe_meth (pv 0) T.cl M_ends_with G_ends_with (hr.mono (by decide)) B_ends_with .nil pass0 (pa_cons pe_str pa_nil))) (pss_one (ps_expr (pe_meth (pv 0) T.cl M_make G_make (hr.mono (by decide)) B_make .nil pass0 (pa_cons pe_int (pa_cons pe_str (pa_cons pe_str pa_nil)))))) pss_nil)))), ?_⟩
  rw [e_R, e_U, e_RR, e_empty]
  obtain ⟨l, m, rfl, nU, cs⟩ := fst_left fx
  obtain ⟨dx, a, mm, xs, hp, ha, hm, _, _⟩ := fr.at
  have zl : l.length + m ≤ 1000 := by rw [List.length_append, List.length_replicate] at zx; exact zx
  have Ll : Lets l := fun c hc => Lx c (List.mem_append_left _ hc)
  refine ⟨_, rfl, p, dx, _, rfl, hp, ff_no _ _ (by decide +kernel) (by decide +kernel), H0, p, l, m, ms, rfl, fr, nU, Ll, by omega, fun G fG => ?_⟩
  have wx : wt (l ++ List.replicate m 85) = wt l + 3 * m := by rw [wt_app, wt_U]
  refine ⟨_, rfl, (m : Int), rfl, by omega, by omega, for_range (lo := 0) (n := (m : Int).toNat) (fun i σ F => ∃ (y : List Nat) (ns : List Mv) (x2 : Option V), σ = [some (.ref p), some (.int (m : Int)), x2] ∧ FrAt C H0 F p y (ms ++ ns) ∧ Lead (l ++ List.replicate i 85) ns y ∧ ns.length = 3 * i ∧ FitAll ns 6 ∧ Lets y ∧ y.length ≤ l.length + 3 * i ∧ (i = 0 → y = l) ∧ (0 < m → Mid l i y)) ?_ ?_ ?_⟩
  · refine ⟨l, [], _, rfl, fG.castM (by simp), (Lead.refl l).cast (by simp) rfl, rfl, fit_by rfl, Ll, by omega, fun _ => rfl, fun h => ?_⟩
    rcases cs with h0 | hp | ⟨w, hw, e⟩
    · omega
    · exact .inr ⟨rfl, hp, rfl⟩
    · refine .inl ⟨w, hw, e, ?_⟩
      rw [e, wt_app]
      show wt w + 2 ≤ wt w + 2 + _
      omega
  · rintro i σ F hi ⟨y, ns, x2, rfl, fF, ld, nl, ft, Ly, zy, _, md⟩
    have hi' : i < m := by omega
    have md := md (by omega)
    obtain ⟨dx1, a1, m1, xs1, hp1, ha1, _, _, _⟩ := fF.at
    have zc : (chs y).length = y.length := List.length_map ..
    refine ⟨_, rfl, p, C, dx1, _, _, rfl, hp1, T.cl, T.nL, ff_letters _ _, .inl ⟨rfl, _, SqL.of ha1⟩, a1, _, _, rfl, rfl, ha1, Nat.lt_of_lt_of_le (show (chs y).length < 16777216 by omega) sizeLine_big, ?_⟩
    rw [chs_snoc]
    have f1 := fF.letters hp1 (y ++ [85])
    obtain ⟨dx2, a2, m2, xs2, hp2, _, _, _, _⟩ := f1.at
    refine ⟨_, rfl, p, dx2, _, rfl, hp2, ff_no _ _ (by decide +kernel) (by decide +kernel), H0, p, y, _, rfl, f1, md.ready, Ly, by omega, by rw [List.length_append]; omega, fun F2 l' ns' f2 ld2 e2 nl2 ft2 => ?_⟩
    refine ⟨l', ns ++ ns', _, rfl, f2.castM (by rw [List.append_assoc]), ?_, by rw [List.length_append]; omega, ?_, ?_, ?_, fun h => by omega, fun _ => md.next e2⟩
    · refine Lead.trans ((ld.more [85]).cast ?_ rfl) ld2
      rw [List.append_assoc, rep_snoc]
    · intro v hv
      rcases List.mem_append.mp hv with hv | hv
      · exact ft v hv
      · exact ft2 v hv
    · rcases e2 with ⟨rfl, rfl⟩ | ⟨z, rfl, rfl⟩
      · exact lets_by rfl
      · exact lets_app (fun c hc => Ly c (List.mem_append_left _ hc)) (lets_by rfl)
    · rcases e2 with ⟨rfl, rfl⟩ | ⟨z, rfl, rfl⟩
      · show 2 ≤ _
        omega
      · rw [List.length_append] at zy ⊢
        have : ([82] : List Nat).length = 1 := rfl
        have : ([84, 82, 84, 82] : List Nat).length = 4 := rfl
        omega
  · rintro σ F ⟨y, ns, x2, rfl, fF, ld, nl, ft, Ly, zy, y0, md⟩
    rw [Int.toNat_natCast] at ld nl zy y0 md
    obtain ⟨dx1, a1, m1, xs1, hp1, ha1, _, _, _⟩ := fF.at
    have zc : (chs y).length = y.length := List.length_map ..
    refine ⟨_, rfl, p, C, dx1, _, _, rfl, hp1, T.cl, T.nL, ff_letters _ _, .inl ⟨rfl, _, SqL.of ha1⟩, a1, _, _, rfl, rfl, ha1, Nat.lt_of_lt_of_le (show (chs y).length < 16777216 by omega) sizeLine_big, ?_⟩
    rw [chs_snoc]
    have f1 := fF.letters hp1 (y ++ [82])
    have Ly1 : Lets (y ++ [82]) := lets_app Ly (lets_by rfl)
    obtain ⟨dx2, a2, m2, xs2, hp2, _, _, _, _⟩ := f1.at
    refine ⟨_, rfl, p, dx2, _, rfl, hp2, ff_no _ _ (by decide +kernel) (by decide +kernel), H0, p, _, [82, 82], _, rfl, f1, Ly1, lets_by rfl, by decide, by decide, by rw [List.length_append]; show _ + 1 ≤ _; omega, fun G2 s2 => ⟨_, rfl, ?_⟩⟩
    have f2 := f1.same s2
    have ld1 : Lead (l ++ List.replicate m 85 ++ [82]) ns (y ++ [82]) := ld.more [82]
    refine ite2 (fun k => ?_) (fun k => ?_)
    · obtain ⟨z, rfl⟩ := two_end.mp (of_decide_eq_true k)
      rw [List.length_append] at zy
      obtain ⟨dx3, a3, m3, xs3, hp3, _, _, _, _⟩ := f2.at
      have c3 : FrAt C H0 _ p (z ++ [82, 82] ++ []) _ := f2.cast (by simp)
      refine ⟨_, rfl, p, dx3, _, rfl, hp3, ff_no _ _ (by decide +kernel) (by decide +kernel), H0, p, z, [82, 82], [], [], _, rfl, c3, (by first | omega | (simp; omega) | simp), (by decide), (by first | omega | (simp; omega) | simp), fun G3 f3 => ?_⟩
      refine q G3 z (ns ++ [⟨(z.length : Int), [82, 82], []⟩]) ((f3.cast (by simp)).castM (by simp)) (Lead.trans ld1 ((lead_RR z).cast (by simp) rfl)) ?_ ?_ ?_ ?_
      · by_cases m0 : 0 < m
        · rcases md m0 with ⟨w, hw, e, _⟩ | ⟨e0, _, _⟩
          · rw [show w ++ [84, 82] = (w ++ [84]) ++ [82] by simp] at e
            rw [(last_ne e).1]
            exact fst_up hw 1
          · omega
        · have e0 : m = 0 := by omega
          subst e0
          rw [List.replicate_zero, List.append_nil, ← y0 rfl] at fx
          exact fst_offR fx
      · rw [wx]
        by_cases m0 : 0 < m
        · rcases md m0 with ⟨w, hw, e, wl⟩ | ⟨e0, _, _⟩
          · rw [show w ++ [84, 82] = (w ++ [84]) ++ [82] by simp] at e
            rw [(last_ne e).1, wt_app]
            show wt w + 1 ≤ _
            omega
          · omega
        · have e0 : m = 0 := by omega
          rw [← y0 e0, wt_app]
          omega
      · rw [wx, List.length_append]
        show _ + 1 ≤ _
        omega
      · intro v hv
        rcases List.mem_append.mp hv with hv | hv
        · exact ft v hv
        · exact fit_by (ns := [⟨(z.length : Int), [82, 82], []⟩]) rfl v hv
    · have hR : ∀ z, y ≠ z ++ [82] := fun z e => k (decide_eq_true (two_end.mpr ⟨z, e⟩))
      have m0 : m = 0 := by
        refine Decidable.byContradiction fun z => ?_
        rcases md (by omega) with ⟨w, hw, e, _⟩ | ⟨e0, _, _⟩
        · exact hR (w ++ [84]) (by rw [e]; simp)
        · omega
      subst m0
      have yl := y0 rfl
      subst yl
      rw [List.replicate_zero, List.append_nil] at fx
      refine q G2 (y ++ [82]) ns f2 ld1 (fst_onR fx hR nU) ?_ (by omega) ft
      rw [wx, wt_app]
      show wt y + 1 ≤ _
      omega
end
section
variable {P : Program} {w : World} {K : PySem.W.Frag} {mg : Str → Option Value} {base : Heap} {f : Addr} {fd : FuncData}
theorem ok_Ffinish {C : Addr} (F : Fun K "finish" "Front.finish" s_Ffinish f fd) (T : TxF K mg C) (D_leave_untwists : MDfn P w K mg base C "leave_untwists" 2 ["self"] (spLeave C)) (D_is_now : MDfn P w K mg base C "is_now" 1 ["self", "text"] (spNow C)) (D_make : MDfn P w K mg base C "make" 1 ["self", "back", "old", "new"] (spMake C)) (D_ends_with : MDfn P w K mg base C "ends_with" 1 ["self", "text"] (spEnds C)) : FnOk P w K mg base CX0 3 f fd ["self"] (spFinish C) := by
  obtain ⟨g_leave_untwists, fd_leave_untwists, G_leave_untwists, B_leave_untwists, M_leave_untwists⟩ := D_leave_untwists.ex
  obtain ⟨g_is_now, fd_is_now, G_is_now, B_is_now, M_is_now⟩ := D_is_now.ex
  obtain ⟨g_make, fd_make, G_make, B_make, M_make⟩ := D_make.ex
  obtain ⟨g_ends_with, fd_ends_with, G_ends_with, B_ends_with, M_ends_with⟩ := D_ends_with.ex
  refine F.ok sc_Ffinish (fun vs H Q E h => ?_) (fun cdv A outer s H vs Q E hr h => ?_)
  · obtain ⟨H0, p, x, ms, rfl, fr, fx, Lx, zx, zm, q⟩ := h
    rfl
  obtain ⟨H0, p, x, ms, rfl, fr, fx, Lx, zx, zm, q⟩ := h
  refine ⟨_, pss_cons (ps_expr (pe_meth0 (pv 0) T.cl M_leave_untwists G_leave_untwists (hr.mono (by decide)) B_leave_untwists .nil pass0))
    (pss_cons (ps_while PassesOwn.never (pt_val (pe_meth (pv 0) T.cl M_ends_with G_ends_with (hr.mono (by decide)) B_ends_with .nil pass0 (pa_cons pe_str pa_nil))) (pss_cons (ps_expr (pe_meth (pv 0) T.cl M_make G_make (hr.mono (by decide)) B_make .nil pass0 (pa_cons pe_int (pa_cons pe_str (pa_cons pe_str pa_nil))))) (pss_cons (ps_expr (pe_meth (pv 0) T.cl M_make G_make (hr.mono (by decide)) B_make .nil pass0 (pa_cons pe_int (pa_cons pe_str (pa_cons pe_str pa_nil))))) (pss_cons (ps_expr (pe_meth (pv 0) T.cl M_make G_make (hr.mono (by decide)) B_make .nil pass0 (pa_cons pe_int (pa_cons pe_str (pa_cons pe_str pa_nil))))) (pss_one (ps_expr (pe_meth0 (pv 0) T.cl M_leave_untwists G_leave_untwists (hr.mono (by decide)) B_leave_untwists .nil pass0)))))))
    (pss_one (ps_if (pt_val (pe_meth (pv 0) T.cl M_is_now G_is_now (hr.mono (by decide)) B_is_now .nil pass0 (pa_cons pe_str pa_nil))) (pss_cons (ps_expr (pe_meth (pv 0) T.cl M_make G_make (hr.mono (by decide)) B_make .nil pass0 (pa_cons pe_int (pa_cons pe_str (pa_cons pe_str pa_nil))))) (pss_cons (ps_expr (pe_meth (pv 0) T.cl M_make G_make (hr.mono (by decide)) B_make .nil pass0 (pa_cons pe_int (pa_cons pe_str (pa_cons pe_str pa_nil))))) (pss_one (ps_expr (pe_meth (pv 0) T.cl M_make G_make (hr.mono (by decide)) B_make .nil pass0 (pa_cons pe_int (pa_cons pe_str (pa_cons pe_str pa_nil)))))))) pss_nil))), ?_⟩
  rw [e_RTR, e_TU, e_RR, e_six, e_empty, e_TR2, e_UT2]
  obtain ⟨l, m, rfl, nU, fin⟩ := Fin.start fx
  obtain ⟨dx, a, mm, xs, hp, ha, hm, _, _⟩ := fr.at
  have zl : l.length + m ≤ 1000 := by rw [List.length_append, List.length_replicate] at zx; exact zx
  have Ll : Lets l := fun c hc => Lx c (List.mem_append_left _ hc)
  refine ⟨_, rfl, p, dx, _, rfl, hp, ff_no _ _ (by decide +kernel) (by decide +kernel), H0, p, l, m, ms, rfl, fr, nU, Ll, by omega, fun G fG => ?_⟩
  have lx : (l ++ List.replicate m 85).length = l.length + m := by rw [List.length_append, List.length_replicate]
  rw [lx] at q
  refine while_by (fun σ F => ∃ (y : List Nat) (k : Nat) (ns : List Mv), σ = [some (.ref p)] ∧ FrAt C H0 F p y (ms ++ ns) ∧ Lead (l ++ List.replicate m 85) ns (y ++ List.replicate k 85) ∧ Fin y k ∧ (∀ z, y ≠ z ++ [85]) ∧ Lets y ∧ ns.length + y.length ≤ l.length ∧ FitAll ns 6) (fun _ F => lenAt F p) ⟨l, m, [], rfl, fG.castM (by simp), Lead.refl _, fin, nU, Ll, by show 0 + _ ≤ _; omega, fit_by rfl⟩ ?_ ?_
  · rintro σ F ⟨y, k, ns, rfl, fF, ld, fn, nUy, Ly, zy, ft⟩
    obtain ⟨dx1, a1, m1, xs1, hp1, _, _, _, _⟩ := fF.at
    refine ⟨_, rfl, p, dx1, _, rfl, hp1, ff_no _ _ (by decide +kernel) (by decide +kernel), H0, p, _, [82, 84, 82], _, rfl, fF, Ly, lets_by rfl, by decide, by decide, by omega, fun G1 s1 => ⟨_, rfl, ?_⟩⟩
    have f1 := fF.same s1
    refine ite2 (fun t => ?_) (fun t => ?_)
    · obtain ⟨z, ez⟩ := end_iff.mp (of_decide_eq_true t)
      obtain ⟨u, rfl, fn2⟩ := fn.turn ez
      subst ez
      have zu : u.length + 4 ≤ l.length := by
        rw [List.length_append, List.length_append] at zy
        have : ([84] : List Nat).length = 1 := rfl
        have : ([82, 84, 82] : List Nat).length = 3 := rfl
        omega
      have zn : ns.length ≤ 1000 := by omega
      obtain ⟨dx3, a3, m3, xs3, hp3, _, _, _, _⟩ := f1.at
      have c3 : FrAt C H0 _ p ((u ++ [84, 82, 84, 82]) ++ [] ++ []) _ := f1.cast (by simp)
      refine ⟨_, rfl, p, dx3, _, rfl, hp3, ff_no _ _ (by decide +kernel) (by decide +kernel), H0, p, (u ++ [84, 82, 84, 82]), [], [84, 85], [], _, rfl, c3, (by first | omega | (simp; omega) | simp), (by decide), (by first | omega | (simp; omega) | simp), fun G3 f3 => ?_⟩
      obtain ⟨dx4, a4, m4, xs4, hp4, _, _, _, _⟩ := f3.at
      have c4 : FrAt C H0 _ p ((u ++ [84, 82, 84, 82, 84]) ++ [] ++ [85]) _ := f3.cast (by simp)
      refine ⟨_, rfl, p, dx4, _, rfl, hp4, ff_no _ _ (by decide +kernel) (by decide +kernel), H0, p, (u ++ [84, 82, 84, 82, 84]), [], [82, 82], [85], _, rfl, c4, (by first | omega | (simp; omega) | simp), (by decide), (by first | omega | (simp; omega) | simp), fun G4 f4 => ?_⟩
      obtain ⟨dx5, a5, m5, xs5, hp5, _, _, _, _⟩ := f4.at
      have c5 : FrAt C H0 _ p (u ++ [84, 82, 84, 82, 84, 82] ++ [82, 85]) _ := f4.cast (by simp)
      refine ⟨_, rfl, p, dx5, _, rfl, hp5, ff_no _ _ (by decide +kernel) (by decide +kernel), H0, p, u, [84, 82, 84, 82, 84, 82], [], [82, 85], _, rfl, c5, (by first | omega | (simp; omega) | simp), (by decide), (by first | omega | (simp; omega) | simp), fun G5 f5 => ?_⟩
      have c6 : FrAt C H0 _ p (u ++ [82] ++ List.replicate 1 85) _ := f5.cast (by simp)
      obtain ⟨dx6, a6, m6, xs6, hp6, _, _, _, _⟩ := c6.at
      have nU2 : ∀ z, u ++ [82] ≠ z ++ [85] := fun z e => absurd (last_ne e).2 (by decide)
      have Lu : Lets (u ++ [82]) := lets_app (fun c hc => Ly c (by simp [hc])) (lets_by rfl)
      refine ⟨_, rfl, p, dx6, _, rfl, hp6, ff_no _ _ (by decide +kernel) (by decide +kernel), H0, p, _, 1, _, rfl, c6, nU2, Lu, by rw [List.length_append, List.length_append]; show u.length + 1 + 1 ≤ _; omega, fun G7 f7 => ⟨⟨u ++ [82], k + 1, ns ++ [⟨((u ++ [84, 82, 84, 82]).length : Int), [], [84, 85]⟩, ⟨((u ++ [84, 82, 84, 82, 84]).length : Int), [], [82, 82]⟩, ⟨(u.length : Int), [84, 82, 84, 82, 84, 82], []⟩], rfl, f7.castM (by simp), ?_, fn2, nU2, Lu, ?_, ?_⟩, ?_⟩⟩
      · refine Lead.trans (ld.cast rfl ?_) (((lead_finish u).more (List.replicate k 85)).cast rfl ?_)
        · simp
        · rw [List.replicate_succ]
          simp
      · rw [List.length_append, List.length_append] at zy
        have : ([84] : List Nat).length = 1 := rfl
        have : ([82, 84, 82] : List Nat).length = 3 := rfl
        simp only [List.length_append, List.length_cons, List.length_nil]
        omega
      · intro v hv
        rcases List.mem_append.mp hv with hv | hv
        · exact ft v hv
        · simp only [List.mem_cons, List.not_mem_nil, or_false] at hv
          rcases hv with rfl | rfl | rfl <;> exact ⟨by simp, by simp⟩
      · rw [lenAt_is f7, lenAt_is fF, List.length_append, List.length_append, List.length_append]
        show u.length + 1 < u.length + 1 + 3
        omega
    · have no : ∀ z, y ≠ z ++ [82, 84, 82] := fun z e => t (decide_eq_true (end_iff.mpr ⟨z, e⟩))
      obtain ⟨dx2, a2, m2, xs2, hp2, _, _, _, _⟩ := f1.at
      refine ⟨_, rfl, p, dx2, _, rfl, hp2, ff_no _ _ (by decide +kernel) (by decide +kernel), H0, p, _, [84, 82], _, rfl, f1, Ly, lets_by rfl, by decide, by omega, fun G2 s2 => ⟨_, rfl, ?_⟩⟩
      have f2 := f1.same s2
      have zn : ns.length ≤ 1000 := by omega
      rcases fn.end no with rfl | ⟨fo, ne⟩
      · rw [decide_eq_true rfl]
        refine iteT ?_
        obtain ⟨dx3, a3, m3, xs3, hp3, _, _, _, _⟩ := f2.at
        have c3 : FrAt C H0 _ p ([] ++ [] ++ [84, 82]) _ := f2.cast (by simp)
        refine ⟨_, rfl, p, dx3, _, rfl, hp3, ff_no _ _ (by decide +kernel) (by decide +kernel), H0, p, [], [], [82, 84, 82], [84, 82], _, rfl, c3, (by first | omega | (simp; omega) | simp), (by decide), (by first | omega | (simp; omega) | simp), fun G3 f3 => ?_⟩
        obtain ⟨dx4, a4, m4, xs4, hp4, _, _, _, _⟩ := f3.at
        have c4 : FrAt C H0 _ p ([] ++ [] ++ [82, 84, 82, 84, 82]) _ := f3.cast (by simp)
        refine ⟨_, rfl, p, dx4, _, rfl, hp4, ff_no _ _ (by decide +kernel) (by decide +kernel), H0, p, [], [], [85, 84], [82, 84, 82, 84, 82], _, rfl, c4, (by first | omega | (simp; omega) | simp), (by decide), (by first | omega | (simp; omega) | simp), fun G4 f4 => ?_⟩
        obtain ⟨dx5, a5, m5, xs5, hp5, _, _, _, _⟩ := f4.at
        have c5 : FrAt C H0 _ p ([85] ++ [84, 82, 84, 82, 84, 82] ++ []) _ := f4.cast (by simp)
        refine ⟨_, rfl, p, dx5, _, rfl, hp5, ff_no _ _ (by decide +kernel) (by decide +kernel), H0, p, [85], [84, 82, 84, 82, 84, 82], [], [], _, rfl, c5, (by first | omega | (simp; omega) | simp), (by decide), (by first | omega | (simp; omega) | simp), fun G5 f5 => ?_⟩
        refine q G5 ([85] ++ List.replicate k 85) [85] (ns ++ [⟨0, [], [82, 84, 82]⟩, ⟨0, [], [85, 84]⟩, ⟨1, [84, 82, 84, 82, 84, 82], []⟩]) (f5.castM (by simp)) (Lead.trans ld (lead_finish0.more _)) (form_TR k) (by rw [List.length_append]; show ns.length + 3 ≤ _; omega) ?_
        intro v hv
        rcases List.mem_append.mp hv with hv | hv
        · exact ft v hv
        · exact fit_by (ns := [⟨0, [], [82, 84, 82]⟩, ⟨0, [], [85, 84]⟩, ⟨1, [84, 82, 84, 82, 84, 82], []⟩]) rfl v hv
      · rw [decide_eq_false ne]
        exact iteF (q G2 _ y ns f2 ld fo (by omega) ft)
  · rintro σ H' Q1 Q2 hm ⟨v, e1, aa, dd, fs, e2, e3, e4, h0', p', l', t', ms', e5, e6, e7, e8, e9, e10, e11, k⟩
    exact ⟨v, e1, aa, dd, fs, e2, e3, e4, h0', p', l', t', ms', e5, e6, e7, e8, e9, e10, e11, fun G s => by
      obtain ⟨b, e12, qq⟩ := k G s
      exact ⟨b, e12, hm _ _ qq⟩⟩
end
section
variable {P : Program} {w : World} {K : PySem.W.Frag} {mg : Str → Option Value} {base : Heap} {f : Addr} {fd : FuncData}
theorem ok_to_standard {C fI : Addr} {fdI : FuncData} (F : Fun K "to_standard" "to_standard" s_to_standard f fd) (T : TxF K mg C) (M : Mk K C fI) (GI : FnOk P w K mg base CX0 1 fI fdI ["self"] (spInitF C)) (bI : Binds K fdI ["self"] []) (D_take : MDfn P w K mg base C "take" 4 ["self", "letter"] (spTakeF C)) (D_finish : MDfn P w K mg base C "finish" 3 ["self"] (spFinish C)) : FnOk P w K mg base CX0 6 f fd ["dance"] spToStd := by
  obtain ⟨g_take, fd_take, G_take, B_take, M_take⟩ := D_take.ex
  obtain ⟨g_finish, fd_finish, G_finish, B_finish, M_finish⟩ := D_finish.ex
  refine F.ok sc_to_standard (fun vs H Q E h => ?_) (fun cdv A outer s H vs Q E hr h => ?_)
  · obtain ⟨l, rfl, _⟩ := h
    rfl
  obtain ⟨l, rfl, hl, zl, q⟩ := h
  have hr5 : Room 2 _ := hr.mono (by decide)
  refine ⟨_, pss_cons (ps_set (i := 1) sc_to_standard.nd rfl (.inl rfl) (pe_make0 M GI hr5 rfl T.mgC bI .nil pass0)) (pss_cons (ps_for PassesOwn.never rfl (pi_str (pv 0)) (pg_name (i := 2) sc_to_standard.nd rfl (.inl rfl)) (pss_one (ps_expr (pe_meth (pv 1) T.cl M_take G_take (hr.mono (by decide)) B_take .nil pass0 (pa_cons (pv 2) pa_nil)))))
    (pss_cons (ps_expr (pe_meth0 (pv 1) T.cl M_finish G_finish (hr.mono (by decide)) B_finish .nil pass0)) (pss_one (ps_ret (pe_fld (pv 1) rfl))))), ?_⟩
  intro p dx np ndx ndp
  have s0 : Same H (upd (upd H dx (.own p)) p (.ins C dx [])) := fun b o e => by
    rw [upd_ne (ne_of_none e np), upd_ne (ne_of_none e ndx)]
    exact e
  refine ⟨H, p, dx, rfl, s0, np, upd_same, fun H1 f0 => ⟨rfl, ?_⟩⟩
  refine ⟨_, rfl, _, rfl, for_str (l := l) (fun i σ F => ∃ (x : List Nat) (ms : List Mv) (x2 : Option V), σ = [some (.str (S l)), some (.ref p), x2] ∧ FrAt C H F p x ms ∧ Lead (l.take i) ms x ∧ Fst x ∧ wt x ≤ 3 * i ∧ ms.length ≤ 400 * i ∧ FitAll ms 6) ?_ ?_ ?_⟩
  · exact ⟨[], [], _, rfl, f0, Lead.refl _, fst_up .nil 0, Nat.zero_le _, Nat.zero_le _, fit_by rfl⟩
  · rintro i c σ F hc ⟨x, ms, x2, rfl, fF, ld, fx, wx, ml, ft⟩
    have hi : i < l.length := (List.getElem?_eq_some_iff.mp hc).1
    have xl : x.length ≤ wt x := by unfold wt; omega
    obtain ⟨dx1, a1, m1, xs1, hp1, _, _, _, _⟩ := fF.at
    refine ⟨_, rfl, p, dx1, _, rfl, hp1, ff_no _ _ (by decide +kernel) (by decide +kernel), _, rfl, H, p, x, ms, c, rfl, hl c (List.mem_of_getElem? hc), fF, fx, fst_lets fx, by omega, by omega, fun F2 x' ns f2 ld2 fx2 w2 n2 ft2 => ?_⟩
    refine ⟨x', ms ++ ns, _, rfl, f2, ?_, fx2, by omega, by rw [List.length_append]; omega, fun v hv => ?_⟩
    · rw [List.take_add_one, hc]
      exact Lead.trans (ld.more [c]) ld2
    · rcases List.mem_append.mp hv with hv | hv
      · exact ft v hv
      · exact ft2 v hv
  · rintro σ F ⟨x, ms, x2, rfl, fF, ld, fx, wx, ml, ft⟩
    rw [List.take_of_length_le (Nat.le_refl _)] at ld
    have xl : x.length ≤ wt x := by unfold wt; omega
    obtain ⟨dx1, a1, m1, xs1, hp1, _, _, _, _⟩ := fF.at
    refine ⟨_, rfl, p, dx1, _, rfl, hp1, ff_no _ _ (by decide +kernel) (by decide +kernel), H, p, x, ms, rfl, fF, fx, fst_lets fx, by omega, by omega, fun F2 x' y ns f2 ld2 fo n2 ft2 => ?_⟩
    obtain ⟨sF, _, dx2, a2, m2, _, _, _, hp2, _, hm2⟩ := f2
    have LD := Lead.trans ld ld2
    refine ⟨_, rfl, p, C, dx2, _, _, rfl, hp2, T.cl, T.nM, ff_moves _ _, q m2 (ms ++ ns) F2 sF hm2 (fun v hv => ?_) (by rw [List.length_append]; omega) ?_⟩
    · rcases List.mem_append.mp hv with hv | hv
      · exact ft v hv
      · exact ft2 v hv
    · have := LD []
      rw [List.append_nil, List.append_nil] at this
      rw [this, ← LD.num, form_is fo]
end
def spLeadsG : Sp := fun vs H Q _ => ∃ (o e : List Nat) (p : Addr) (ms : List Mv) (kk : Nat), vs = [.str (S o), .ref p, .str (S e)] ∧ Tl H p (ms.map Mv.vs) ∧ FitAll ms kk ∧ kk ≤ 200 ∧ o.length + kk * ms.length ≤ 900000 ∧ ∀ H', Same H H' → Q (.bl (decide (led o ms = some e))) H'
def spBackM : Sp := fun vs H Q _ => ∃ (p : Addr) (ms : List Mv), vs = [.ref p] ∧ Tl H p (ms.map Mv.vs) ∧ ms.length ≤ 100000 ∧ ∀ a H', Same H H' → Tl H' a ((backMs ms).map Mv.vs) → Q (.ref a) H'
/-- a paper with moves -/
def spJudgeA : Sp := fun vs H Q _ => ∃ (l m : List Nat), vs = [.str (S l), .str (S m)] ∧ Lets l ∧ Lets m ∧ l.length ≤ 130 ∧ m.length ≤ 130 ∧ run (0, 1) l = run (0, 1) m ∧ ∀ (t p : Addr) (ms : List Mv) H', Same H H' → H' t = some (.tup [.str "alike", .ref p]) → Tl H' p (ms.map Mv.vs) → FitAll ms 6 → ms.length ≤ 120000 → led l ms = some m → Q (.ref t) H'
def spAccA : Sp := fun vs H Q _ => ∃ (o e : List Nat) (t p : Addr) (ms : List Mv) (kk : Nat), vs = [.str (S o), .str (S e), .ref t] ∧ H t = some (.tup [.str "alike", .ref p]) ∧ Tl H p (ms.map Mv.vs) ∧ FitAll ms kk ∧ kk ≤ 200 ∧ o.length + kk * ms.length ≤ 900000 ∧ ∀ H', Same H H' → Q (.bl (decide (led o ms = some e))) H'
theorem Tl.cat {H H' : Hp} {p q r : Addr} {ds es : List (List V)} {xs ys : List V} (h : Tl H p ds) (k : Tl H q es) (s : Same H H') (hp : H p = some (.lst xs)) (hq : H q = some (.lst ys)) (hr : H' r = some (.lst (xs ++ ys))) : Tl H' r (ds ++ es) := by
  obtain ⟨rs, e1, z1, k1⟩ := h
  obtain ⟨us, e2, z2, k2⟩ := k
  rw [e1] at hp
  rw [e2] at hq
  cases hp; cases hq
  refine ⟨rs ++ us, by rw [hr, List.map_append], by rw [List.length_append, List.length_append, z1, z2], fun i r d hr hd => ?_⟩
  by_cases c : i < rs.length
  · rw [List.getElem?_append_left c] at hr
    rw [List.getElem?_append_left (by omega)] at hd
    exact s _ _ (k1 i r d hr hd)
  · rw [List.getElem?_append_right (by omega)] at hr
    rw [List.getElem?_append_right (by omega), ← z1] at hd
    exact s _ _ (k2 _ r d hr hd)
section
variable {P : Program} {w : World} {K : PySem.W.Frag} {mg : Str → Option Value} {base : Heap} {f : Addr} {fd : FuncData}
theorem ok_leads (F : Fun K "leads" "leads" s_leads f fd)  {gm C : Addr} {gd : FuncData} (Gm : FnOk P w K mg base (CX P w) 2 gm gd ["dance", "move"] (spMadeX C)) (mG : mg "made" = some (.ref gm)) (kG : PySem.W.keepIn K (.ref gm) = true) (bG : Binds K gd ["dance", "move"] []) (gC : mg "BadMove" = some (.ref C)) (XC : PySem.W.exmOne K (.ref C) (.ref C) = some true) : FnOk P w K mg base CX0 3 f fd ["one", "moves", "other"] spLeadsG := by
  refine F.ok sc_leads (fun vs H Q E h => ?_) (fun cdv A outer s H vs Q E hr h => ?_)
  · obtain ⟨o, e, p, ms, kk, rfl, tl, fa, hk, hz, q⟩ := h
    rfl
  obtain ⟨o, e, p, ms, kk, rfl, tl, fa, hk, hz, q⟩ := h
  refine ⟨_, (pss_cons (ps_set (i := 3) sc_leads.nd rfl (.inl rfl) (pv 0))
    (pss_cons (ps_for PassesOwn.never rfl (pi_list (pv 1)) (pg_name (i := 4) sc_leads.nd rfl (.inl rfl))
    (pss_one (ps_try_only (tb := fun W => tAsg (tCallS (spMadeX C) (WE W) (tCons (tVar 3) (tCons (tVar 4) tNil))) (gName 3)) (ts := fun a cls d => tRet (tC (.bl false))) (Wout := fun _ _ _ _ => False) rfl rfl ⟨rfl, by decide, Or.inl gC⟩ takes0
      (fun W pn xe tk _ => pss_one (ps_set (i := 3) sc_leads.nd rfl (.inl rfl) (by exact (pe_callS Gm hr rfl mG kG bG (fun σ => passAt tk σ) (by exact (pa_cons (pv 3) (pa_cons (pv 4) pa_nil)))))))
      (fun a oe cls d pn _ _ => pss_one (ps_ret pe_bl)))))
    (pss_one (ps_ret (pe_cmpR op_eq (pv 3) (pv 2) (nomark _)))))), ?_⟩
  obtain ⟨xs, hxs, lxs⟩ := tl.lst
  rw [List.length_map] at lxs
  refine ⟨_, rfl, _, rfl, p, rfl, ⟨xs, SqL.of hxs⟩, for_list (K := K) (tb := fun D σ H => tAsg (tCallS (spMadeX C) (WE (wOnly K (.ref C) (fun a cls d => tRet (tC (.bl false))) (fun _ _ _ _ => False) D)) (tCons (tVar 3) (tCons (tVar 4) tNil))) (gName 3) D σ H) (a := p) (xs := xs) (fun i σ G => ∃ (d : List Nat) (x4 : Option V), σ = [some (.str (S o)), some (.ref p), some (.str (S e)), some (.str (S d)), x4] ∧ Same H G ∧ led o (ms.take i) = some d ∧ d.length ≤ o.length + kk * i) ?_ ?_ ?_ ?_⟩
  · exact ⟨o, _, rfl, Same.refl H, rfl, by omega⟩
  · rintro i σ G _ ⟨d, x4, _, sm, _⟩
    exact SqL.of (sm _ _ hxs)
  · rintro i y σ G hy ⟨d, x4, rfl, sm, hd, hl⟩
    have hi : i < ms.length := by rw [← lxs]; exact (List.getElem?_eq_some_iff.mp hy).1
    have hm : ms[i]? = some ms[i] := List.getElem?_eq_getElem hi
    obtain ⟨xs', r, e1, _, e2, e3⟩ := tl.at (i := i) (d := Mv.vs ms[i]) (by rw [List.getElem?_map, hm]; rfl)
    rw [hxs] at e1
    cases e1
    rw [hy] at e2
    cases e2
    have lt := led_take (d := o) hm
    rw [hd] at lt
    have fm := fa _ (List.getElem_mem hi)
    refine ⟨_, rfl, _, rfl, d, r, ms[i], rfl, Tm.same e3 sm, fm.mono (by omega), (by have := Nat.mul_le_mul_left kk (Nat.le_of_lt hi); omega), fun x hx G1 s1 => ?_, fun hx G1 s1 => ⟨true, XC, fun _ a ha => ?_, fun z => nomatch z⟩⟩
    · exact ⟨x, _, rfl, sm.trans s1, lt.trans hx, by have := mkMv_len fm hx; rw [Nat.mul_succ]; omega⟩
    · have q1 := q G1 (sm.trans s1)
      rw [led_stop (lt.trans hx)] at q1
      exact q1
  · rintro σ G ⟨d, x4, rfl, sm, hd, _⟩
    rw [List.take_of_length_le (show ms.length ≤ xs.length by omega)] at hd
    have q1 := q G sm
    rw [hd] at q1
    refine ⟨_, rfl, _, rfl, rfl, ?_⟩
    rw [show decide (V.str (S d) = V.str (S e)) = decide (some d = some e) from decide_eq_decide.mpr (tx_iff.trans ⟨fun h => by rw [h], fun h => Option.some.inj h⟩)]
    exact q1
end
section
variable {P : Program} {w : World} {K : PySem.W.Frag} {mg : Str → Option Value} {base : Heap} {f : Addr} {fd : FuncData}
theorem ok_taken_back (F : Fun K "taken_back" "taken_back" s_taken_back f fd)   : FnOk P w K mg base CX0 1 f fd ["moves"] spBackM := by
  refine F.ok sc_taken_back (fun vs H Q E h => ?_) (fun cdv A outer s H vs Q E hr h => ?_)
  · obtain ⟨p, ms, rfl, tl, hz, q⟩ := h
    rfl
  obtain ⟨p, ms, rfl, tl, hz, q⟩ := h
  refine ⟨_, (pss_one (ps_ret (pe_lc (own := [("place", 1), ("old", 2), ("new", 3)]) (g := (gTup K 3 (gCons (gName 1) (gCons (gName 2) (gCons (gName 3) gNil))))) (tt := tYes) (by rfl) sc_taken_back.nd (pi_list (pe_revL (pv 0))) (blkOk_by (own := [("place", 1), ("old", 2), ("new", 3)]) (N := ["moves", "place", "old", "new"]) (sc := defScope s_taken_back) (by decide +kernel)) (fun _ _ _ _ _ => pg_tup (by rfl) (pgs_cons (pg_name (i := 1) sc_taken_back.nd rfl (.inl rfl)) (pgs_cons (pg_name (i := 2) sc_taken_back.nd rfl (.inl rfl)) (pgs_cons (pg_name (i := 3) sc_taken_back.nd rfl (.inl rfl)) pgs_nil)))) (fun _ _ _ _ _ => pts_nil) (fun _ _ _ _ _ => (pe_tup (pa_cons (pv 1) (pa_cons (pv 3) (pa_cons (pv 2) pa_nil)))))))), ?_⟩
  obtain ⟨rs, hp, zr, kr⟩ := tl
  rw [List.length_map] at zr
  refine ⟨_, rfl, p, _, rfl, SqL.of hp, fun a ha => ?_⟩
  rw [show (rs.map V.ref).reverse = rs.reverse.map V.ref by rw [List.map_reverse]]
  have S1 : Same H (upd H a (.lst (rs.reverse.map V.ref))) := same_new ha _
  refine ⟨a, rfl, ⟨_, SqL.of upd_same⟩, fun D hD => lc_list (K := K) (a := a) (xs := rs.reverse.map V.ref) (fun i G => Same H G ∧ G a = some (.lst (rs.reverse.map V.ref)) ∧ ∃ us : List Addr, G D = some (.lst (us.map V.ref)) ∧ us.length = i ∧ ∀ (j : Nat) (u : Addr) (d : List V), us[j]? = some u → ((backMs ms).map Mv.vs)[j]? = some d → G u = some (.tup d)) ⟨S1.trans (same_new hD _), same_new hD _ _ _ upd_same, [], upd_same, rfl, fun j u d hu => by cases hu⟩ ?_ ?_ ?_⟩
  · rintro i G _ ⟨_, hG, _⟩
    exact SqL.of hG
  · rintro i x G hx ⟨sG, hGa, us, hG, ul, uv⟩
    rw [List.getElem?_map] at hx
    have hi : i < rs.length := by
      cases e : rs.reverse[i]? with
      | none => rw [e] at hx; cases hx
      | some u => have := (List.getElem?_eq_some_iff.mp e).1; rw [List.length_reverse] at this; exact this
    obtain ⟨u, hrr⟩ : ∃ u, rs[rs.length - 1 - i]? = some u := ⟨_, List.getElem?_eq_getElem (by omega)⟩
    obtain ⟨m, hmi⟩ : ∃ m, ms[rs.length - 1 - i]? = some m := ⟨_, List.getElem?_eq_getElem (by omega)⟩
    have hri : rs.reverse[i]? = some u := by
      rw [List.getElem?_reverse hi]
      exact hrr
    have hbi : (backMs ms)[i]? = some m.flip := by
      unfold backMs
      rw [List.getElem?_map, List.getElem?_reverse (by omega), show ms.length - 1 - i = rs.length - 1 - i by omega, hmi]
      rfl
    rw [hri] at hx
    cases hx
    have T : G u = some (.tup m.vs) := sG _ _ (kr _ u _ hrr (by rw [List.getElem?_map, hmi]; rfl))
    refine ⟨u, _, rfl, SqT.of T, rfl, _, _, rfl, _, _, rfl, _, _, rfl, rfl, rfl, ?_⟩
    refine ⟨_, rfl, _, rfl, _, rfl, fits (by show 3 ≤ 16777216; decide), fun t ht => ?_⟩
    have St := same_new ht (.tup [V.int m.pl, .str (S m.n), .str (S m.o)])
    refine ⟨_, St _ _ hG, Nat.lt_of_lt_of_le (show (us.map V.ref).length < 16777216 by rw [List.length_map]; omega) sizeLine_big, ?_, ?_, us ++ [t], by rw [upd_same, List.map_append]; rfl, by rw [List.length_append, ul]; rfl, ?_⟩
    · intro b o hb
      have nD : b ≠ D := ne_of_none (same_new ha (.lst (rs.reverse.map V.ref)) _ _ hb) hD
      rw [upd_ne nD]
      exact St _ _ (sG _ _ hb)
    · have nD : a ≠ D := fun z => by rw [← z, upd_same] at hD; cases hD
      rw [upd_ne nD]
      exact St _ _ hGa
    · intro j u' d hu hd
      have key : (upd G t (.tup [V.int m.pl, .str (S m.n), .str (S m.o)])) u' = some (.tup d) := by
        by_cases c : j < us.length
        · rw [List.getElem?_append_left c] at hu
          exact St _ _ (uv j u' d hu hd)
        · have e : j = us.length := by
            have := (List.getElem?_eq_some_iff.mp hu).1
            rw [List.length_append] at this
            have : ([t] : List Addr).length = 1 := rfl
            omega
          subst e
          rw [List.getElem?_append_right (Nat.le_refl _), Nat.sub_self] at hu
          cases hu
          rw [ul, List.getElem?_map, hbi] at hd
          cases hd
          exact upd_same
      rw [upd_ne (ne_of key (St _ _ hG) (fun z => nomatch z))]
      exact key
  · rintro G ⟨sG, _, us, hG, ul, uv⟩
    rw [List.length_map, List.length_reverse] at ul
    exact q D G sG ⟨us, hG, by unfold backMs; rw [List.length_map, List.length_map, List.length_reverse, ul, zr], uv⟩
end
def strsB : List Value → List Str → Bool
  | [], [] => true
  | .str a _ :: r, b :: s => decide (a = b) && strsB r s
  | _, _ => false
theorem strs_ok : ∀ (us : List Value) (zs : List Str), strsB us zs = true → Vals (zs.map V.str) us
  | [], [], _ => .nil
  | .str a t :: r, b :: s, h => by
    obtain ⟨h1, h2⟩ := He.ba (show (decide (a = b) && strsB r s) = true from h)
    have e := of_decide_eq_true h1
    subst e
    exact .cons ⟨t, rfl⟩ (strs_ok r s h2)
  | [], _ :: _, h => by cases h
  | .none :: _, [], h => by cases h
  | .bool _ :: _, [], h => by cases h
  | v :: r, [], h => by cases v <;> cases h
  | v :: r, b :: s, h => by
    cases v with
    | str a t =>
      obtain ⟨h1, h2⟩ := He.ba (show (decide (a = b) && strsB r s) = true from h)
      have e := of_decide_eq_true h1
      subst e
      exact .cons ⟨t, rfl⟩ (strs_ok r s h2)
    | _ => cases h
def tupB (K : PySem.W.Frag) (a : Addr) (zs : List Str) : Bool := match K.lookup a with
  | some o => decide (o.cls = .type "tuple") && (match o.data with
    | .seq its _ => strsB its.toList zs
    | _ => false)
  | none => false
theorem tup_ok {K : PySem.W.Frag} {a : Addr} {zs : List Str} (h : tupB K a zs = true) (hz : zs.length ≤ 1000) : ∀ H, SqT K H a (zs.map V.str) := by
  intro H
  unfold tupB at h
  cases e : K.lookup a with
  | none => rw [e] at h; cases h
  | some o =>
    rw [e] at h
    obtain ⟨h1, h2⟩ := He.ba (show (decide (o.cls = .type "tuple") && (match o.data with
      | .seq its _ => strsB its.toList zs
      | _ => false)) = true from h)
    cases ed : o.data with
    | seq its n =>
      rw [ed] at h2
      have v := strs_ok _ _ h2
      refine .inr ⟨o, its, n, e, of_decide_eq_true h1, ed, ?_, v⟩
      have := v.length
      rw [List.length_map] at this
      rw [sizeLine_eq]
      have e2 : its.toList.length = its.size := Array.length_toList
      omega
    | _ => rw [ed] at h2; cases h2
def wordsB (K : PySem.W.Frag) : Bool := tupB K (He.ga K "WORDS") ["TU", "UT", "RR", "TRTRTR"]
theorem words_ok {K : PySem.W.Frag} (h : wordsB K = true) : ∀ H, SqT K H (He.ga K "WORDS") (wds.map tx) := by
  intro H
  rw [← four_words]
  exact tup_ok h (by decide) H
def kindS (b : Bool) : Str := if b = true then "alike" else "apart"
/-- what judge says of two dances -/
def PaperAt (H : Hp) (t : Addr) (l m : List Nat) : Prop :=
  (run (0, 1) l = run (0, 1) m ∧ ∃ (p : Addr) (ms : List Mv), H t = some (.tup [.str "alike", .ref p]) ∧ Tl H p (ms.map Mv.vs) ∧ FitAll ms 6 ∧ ms.length ≤ 120000 ∧ led l ms = some m) ∨
  (run (0, 1) l ≠ run (0, 1) m ∧ ∃ (a b : Addr), H t = some (.tup [.str "apart", .ref a, .ref b]) ∧ H a = some (.lst ((col (dg l).cs 0 1).map V.int)) ∧ H b = some (.lst ((col (dg m).cs 0 1).map V.int)))
theorem Tl.bt {P : Addr} {H H' : Hp} {p : Addr} {ds : List (List V)} (h : Tl H p ds) (s : Bt P H H') (t : GxR.TabG H P) : Tl H' p ds := by
  obtain ⟨rs, a, b, c⟩ := h
  exact ⟨rs, s.lst t a, b, fun i r d h1 h2 => s.tup t (c i r d h1 h2)⟩
theorem PaperAt.bt {P : Addr} {H H' : Hp} {t : Addr} {l m : List Nat} (h : PaperAt H t l m) (s : Bt P H H') (tg : GxR.TabG H P) : PaperAt H' t l m := by
  rcases h with ⟨e, p, ms, a, b, c⟩ | ⟨e, a, b, c, d, f⟩
  · exact .inl ⟨e, p, ms, s.tup tg a, b.bt s tg, c⟩
  · exact .inr ⟨e, a, b, s.tup tg c, s.lst tg d, s.lst tg f⟩
theorem PaperAt.kind {H : Hp} {t : Addr} {l m : List Nat} (h : PaperAt H t l m) : ∃ xs, H t = some (.tup (.str (kindS (decide (run (0, 1) l = run (0, 1) m))) :: xs)) := by
  rcases h with ⟨e, p, ms, a, _⟩ | ⟨e, a, b, c, _⟩
  · rw [decide_eq_true e]; exact ⟨_, a⟩
  · rw [decide_eq_false e]; exact ⟨_, c⟩
def spJudge : Sp := fun vs H Q _ => ∃ (l m : List Nat), vs = [.str (S l), .str (S m)] ∧ Lets l ∧ Lets m ∧ l.length ≤ 130 ∧ m.length ≤ 130 ∧ ∀ (t : Addr) H', Same H H' → PaperAt H' t l m → Q (.ref t) H'
def spAcc (Pt : Addr) : Sp := fun vs H Q _ => ∃ (l m : List Nat) (t : Addr), vs = [.str (S l), .str (S m), .ref t] ∧ Lets l ∧ Lets m ∧ l.length ≤ 125 ∧ m.length ≤ 125 ∧ PaperAt H t l m ∧ GxR.TabG H Pt ∧ ∀ H', Bt Pt H H' → Q (.bl true) H'
theorem col01_bd {l : List Nat} (h : l.length ≤ 125) : Bd (col (dg l).cs 0 1) (2 ^ 199) := (col_bound (B := 1) (x := 0) (y := 1) (by decide) (by decide) (dg l).cs).mono (by
  have d1 := dg_len l
  have h3 : 3 ^ (dg l).cs.length ≤ 3 ^ 125 := Nat.pow_le_pow_right (by decide) (by omega)
  exact Nat.le_trans (Nat.mul_le_mul_left _ h3) (by decide))
theorem col01_dt (l : List Nat) : dtR l (col (dg l).cs 0 1) = .tup [.int (run (0, 1) l).1, .int (run (0, 1) l).2] := by
  have ic := isCol_mk l 0 1
  refine dtR_some ic ?_
  cases e : plainB (col (dg l).cs 0 1) with
  | false => rfl
  | true =>
    have := (plain_iff ic).mp e
    rw [(col_zero _ 0 1).1, (col_zero _ 0 1).2] at this
    exact absurd this (by decide)
theorem is_pair {H : Hp} {v : V} {a b : Int} (h : Is H 1 v (.tup [.int a, .int b])) : ∃ t, v = .ref t ∧ Tup2 H t (a, b) := by
  obtain ⟨t, xs, rfl, e2, e3, _, e5⟩ := h
  obtain ⟨x, y, rfl⟩ : ∃ x y, xs = [x, y] := by
    match xs, e3 with
    | [x, y], _ => exact ⟨x, y, rfl⟩
  have h0 : x = V.int a := e5 0 x _ rfl rfl
  have h1 : y = V.int b := e5 1 y _ rfl rfl
  subst h0 h1
  exact ⟨t, rfl, e2⟩
section
variable {P : Program} {w : World} {K : PySem.W.Frag} {mg : Str → Option Value} {base : Heap} {f : Addr} {fd : FuncData}
theorem ok_judge (F : Fun K "judge" "judge" s_judge f fd) (D_num : Dfn P w K mg base "number" 6 ["dance"] spNum) (D_colouring : Dfn P w K mg base "colouring" 6 ["dance", "first", "second"] spCol) (D_to_standard : Dfn P w K mg base "to_standard" 6 ["dance"] spToStd) (D_taken_back : Dfn P w K mg base "taken_back" 6 ["moves"] spBackM)  : FnOk P w K mg base CX0 7 f fd ["one", "other"] spJudge := by
  refine F.ok sc_judge (fun vs H Q E h => ?_) (fun cdv A outer s H vs Q E hr h => ?_)
  · obtain ⟨l, m, rfl, hl, hm, zl, zm, q⟩ := h
    rfl
  obtain ⟨l, m, rfl, hl, hm, zl, zm, q⟩ := h
  refine ⟨_, (pss_cons (ps_if (pt_cmpR (op_neD hr.units) (pe_do D_num hr (pa_cons (pv 0) pa_nil)) (pe_do D_num hr (pa_cons (pv 1) pa_nil)) (nomark _)) (pss_one (ps_ret (pe_tup (pa_cons pe_str (pa_cons (pe_do D_colouring hr (pa_cons (pv 0) (pa_cons pe_int (pa_cons pe_int pa_nil)))) (pa_cons (pe_do D_colouring hr (pa_cons (pv 1) (pa_cons pe_int (pa_cons pe_int pa_nil)))) pa_nil)))))) pss_nil)
    (pss_one (ps_ret (pe_tup (pa_cons pe_str (pa_cons (pe_op op_cat (pe_do D_to_standard hr (pa_cons (pv 0) pa_nil)) (pe_do D_taken_back hr (pa_cons (pe_do D_to_standard hr (pa_cons (pv 1) pa_nil)) pa_nil))) pa_nil)))))), ?_⟩
  refine ⟨_, rfl, l, rfl, fun t1 H1 s1 T1 => ⟨_, rfl, m, rfl, fun t2 H2 s2 T2 => ⟨_, _, dp_tup2 (T1.same s2), dp_tup2 T2, sh2 _ _, sh2 _ _, ?_⟩⟩⟩
  rw [eqv2]
  refine ⟨_, rfl, ite2 (fun hc => ?_) (fun hc => ?_)⟩
  · have hn : run (0, 1) l ≠ run (0, 1) m := fun z => by rw [decide_eq_true z] at hc; cases hc
    refine ⟨_, rfl, l, 0, 1, rfl, by omega, fun a H3 s3 na ha => ⟨_, rfl, m, 0, 1, rfl, by omega, fun b H4 s4 nb hb => ⟨fits (by show 3 ≤ 16777216; decide), fun t ht => ?_⟩⟩⟩
    have S5 := same_new ht (.tup [V.str "apart", .ref a, .ref b])
    exact q t _ ((s1.trans s2).trans (s3.trans (s4.trans S5))) (.inr ⟨hn, a, b, upd_same, S5 _ _ (s4 _ _ ha), S5 _ _ hb⟩)
  have hn : run (0, 1) l = run (0, 1) m := Decidable.byContradiction fun z => hc (by rw [decide_eq_false z]; rfl)
  refine ⟨_, rfl, l, rfl, hl, zl, fun p1 ms1 H3 s3 tl1 f1 z1 e1 => ?_⟩
  refine ⟨_, rfl, m, rfl, hm, zm, fun p2 ms2 H4 s4 tl2 f2 z2 e2 => ?_⟩
  refine ⟨p2, ms2, rfl, tl2, by omega, fun p3 H5 s5 tl3 => ?_⟩
  obtain ⟨xs, hx, lx⟩ := ((tl1.same s4).same s5).lst
  obtain ⟨ys, hy, ly⟩ := tl3.lst
  rw [List.length_map] at lx ly
  have lb : (backMs ms2).length = ms2.length := by unfold backMs; rw [List.length_map, List.length_reverse]
  refine ⟨p1, p3, xs, ys, rfl, rfl, hx, hy, fits (by omega), fun p4 h4 => ?_⟩
  have S4 := same_new h4 (.lst (xs ++ ys))
  refine ⟨fits (by show 2 ≤ 16777216; decide), fun tp htp => ?_⟩
  have S5 := same_new htp (.tup [V.str "alike", .ref p4])
  have TL := (Tl.cat ((tl1.same s4).same s5) tl3 S4 hx hy upd_same).same S5
  rw [← List.map_append] at TL
  have bk := led_back ms2 e2
  refine q tp _ ((((((s1.trans s2).trans s3).trans s4).trans s5).trans S4).trans S5) (.inl ⟨hn, p4, ms1 ++ backMs ms2, upd_same, TL, fit_app f1 (fit_flip f2), by rw [List.length_append, lb]; omega, ?_⟩)
  rw [led_app, e1]
  show led (stv (run (0, 1) l)) (backMs ms2) = some m
  rw [hn]
  exact bk
end
section
variable {P : Program} {w : World} {K : PySem.W.Frag} {mg : Str → Option Value} {base : Heap} {f : Addr} {fd : FuncData}
theorem ok_accepts (F : Fun K "accepts" "accepts" s_accepts f fd) (D_leads : Dfn P w K mg base "leads" 4 ["one", "moves", "other"] spLeadsG) (D_reading : Dfn P w K mg base "reading" 4 ["dance", "colours"] (spReading Pt))  : FnOk P w K mg base CX0 5 f fd ["one", "other", "paper"] (spAcc Pt) := by
  refine F.ok sc_accepts (fun vs H Q E h => ?_) (fun cdv A outer s H vs Q E hr h => ?_)
  · obtain ⟨l, m, t, rfl, hl, hm, zl, zm, pa, tg, q⟩ := h
    rfl
  obtain ⟨l, m, t, rfl, hl, hm, zl, zm, pa, tg, q⟩ := h
  refine ⟨_, (pss_cons (ps_if (pt_cmpR op_eq (pe_ix ix_tup (pv 2) pe_int (fun _ _ => rfl)) pe_str (nomark _)) (pss_one (ps_ret (pe_do D_leads hr (pa_cons (pv 0) (pa_cons (pe_ix ix_tup (pv 2) pe_int (fun _ _ => rfl)) (pa_cons (pv 1) pa_nil)))))) pss_nil)
    (pss_cons (ps_set (i := 3) sc_accepts.nd rfl (.inl rfl) (pe_do D_reading hr (pa_cons (pv 0) (pa_cons (pe_ix ix_tup (pv 2) pe_int (fun _ _ => rfl)) pa_nil))))
    (pss_cons (ps_set (i := 4) sc_accepts.nd rfl (.inl rfl) (pe_do D_reading hr (pa_cons (pv 1) (pa_cons (pe_ix ix_tup (pv 2) pe_int (fun _ _ => rfl)) pa_nil))))
    (pss_cons (ps_if (PW.pt (pw_or (pt_cmpR op_isN (pv 3) pe_non (nomark _)) (pw_or1 (pt_cmpR op_isN (pv 4) pe_non (nomark _))))) (pss_one (ps_ret pe_bl)) pss_nil)
    (pss_one (ps_ret (pe_cmpR (op_neD hr.units) (pv 3) (pv 4) (nomark _)))))))), ?_⟩
  rcases pa with ⟨e, p, ms, ht, tl, f, z, hled⟩ | ⟨e, a, b, ht, ha, hb⟩
  · refine ⟨_, rfl, t, _, _, _, rfl, rfl, SqT.of ht, rfl, rfl, _, rfl, ?_⟩
    rw [decide_eq_true rfl]
    refine iteT ⟨_, rfl, _, rfl, t, _, _, _, rfl, rfl, SqT.of ht, rfl, _, rfl, l, m, p, ms, 6, rfl, tl, f, by decide, by omega, fun H' s' => ?_⟩
    rw [decide_eq_true hled]
    exact q H' ((Bt.refl tg).same s')
  · have lc : ∀ d : List Nat, d.length ≤ 125 → (col (dg d).cs 0 1).length ≤ 1000 := fun d hd => by
      have := col_len 0 1 (dg d).cs
      have := dg_len d
      omega
    refine ⟨_, rfl, t, _, _, _, rfl, rfl, SqT.of ht, rfl, rfl, _, rfl, iteF ?_⟩
    refine ⟨_, rfl, _, rfl, t, _, _, _, rfl, rfl, SqT.of ht, rfl, l, a, _, rfl, hl, ha, lc l zl, by omega, col01_bd zl, tg, fun v1 H1 b1 i1 => ?_⟩
    rw [col01_dt] at i1
    obtain ⟨t1, rfl, T1⟩ := is_pair i1
    have ht1 := b1.tup tg ht
    refine ⟨_, rfl, _, rfl, t, _, _, _, rfl, rfl, SqT.of ht1, rfl, m, b, _, rfl, hm, b1.lst tg hb, lc m zm, by omega, col01_bd zm, b1.2, fun v2 H2 b2 i2 => ?_⟩
    rw [col01_dt] at i2
    obtain ⟨t2, rfl, T2⟩ := is_pair i2
    have T1' : Tup2 H2 t1 (run (0, 1) l) := b2.tup b1.2 T1
    refine ⟨_, rfl, rfl, _, rfl, iteF ⟨_, rfl, rfl, _, rfl, iteF ?_⟩⟩
    refine ⟨_, rfl, _, rfl, _, _, dp_tup2 T1', dp_tup2 T2, sh2 _ _, sh2 _ _, ?_⟩
    rw [eqv2, decide_eq_false e]
    exact q H2 (b1.trans b2)
end
def spQuo (K : PySem.W.Frag) : Sp := fun vs H Q _ => ∃ (t : Addr) (v : Int × Int), vs = [.ref t] ∧ Tup2 H t v ∧ Good v ∧ v.1.natAbs < 2 ^ 8000 ∧ v.2.natAbs < 2 ^ 8000 ∧ ∀ a H', Same H H' → H a = none → H' a = some (.lst (((quo v).map Int.ofNat).map V.int)) → Q (.ref a) H'
def spSteps : Sp := fun vs H Q _ => ∃ (t : Addr) (v : Int × Int), vs = [.ref t] ∧ Tup2 H t v ∧ Good v ∧ v.1.natAbs < 2 ^ 8000 ∧ v.2.natAbs < 2 ^ 8000 ∧ ∀ H', Same H H' → Q (.int (stp v)) H'
theorem same_upd {H0 G : Hp} {a : Addr} {o : HO} (s : Same H0 G) (n : H0 a = none) : Same H0 (upd G a o) := fun b u h => by rw [upd_ne (ne_of_none h n)]; exact s b u h
theorem sum_nat : ∀ l : List Nat, ((l.map Int.ofNat).sum : Int) = ((l.sum : Nat) : Int)
  | [] => rfl
  | a :: l => by
    rw [List.map_cons, List.sum_cons, List.sum_cons, sum_nat l]
    rfl
section
variable {P : Program} {w : World} {K : PySem.W.Frag} {mg : Str → Option Value} {base : Heap} {f : Addr} {fd : FuncData}
theorem ok_quotients (F : Fun K "quotients" "quotients" s_quotients f fd) (y_abs : mg "abs" = none)  : FnOk P w K mg base CX0 1 f fd ["fraction"] (spQuo K) := by
  refine F.ok sc_quotients (fun vs H Q E h => ?_) (fun cdv A outer s H vs Q E hr h => ?_)
  · obtain ⟨t, v, rfl, hT, g, z1, z2, q⟩ := h
    rfl
  obtain ⟨t, v, rfl, hT, g, z1, z2, q⟩ := h
  refine ⟨_, (pss_cons (ps_asg (pv 0) (pg_tup (by rfl) (pgs_cons (pg_name (i := 1) sc_quotients.nd rfl (.inl rfl)) (pgs_cons (pg_name (i := 2) sc_quotients.nd rfl (.inl rfl)) pgs_nil))))
    (pss_cons (ps_if (pt_cmpR op_eq (pv 2) pe_int (nomark _)) (pss_one (ps_ret (pe_lst (pa_cons pe_int (pa_cons pe_int pa_nil))))) pss_nil)
    (pss_cons (ps_set (i := 3) sc_quotients.nd rfl (.inl rfl) (pe_lst pa_nil))
    (pss_cons (ps_set (i := 4) sc_quotients.nd rfl (.inl rfl) (pe_callB call_abs rfl y_abs (by decide +kernel) (pa_cons (pv 1) pa_nil)))
    (pss_cons (ps_while PassesOwn.never (pt_cmpR op_gt (pv 2) pe_int (nomark _)) (pss_cons (ps_expr (pe_bm PySem.F.plainAttrs_list PySem.F.slot_list_append PySem.F.type_list_append mt_append (pv 3) (pa_cons (pe_op op_fdivW (pv 4) (pv 2)) pa_nil)))
    (pss_one (ps_par (i := 4) (j := 2) (by rfl) sc_quotients.nd rfl rfl (by decide) rfl rfl (pa_cons (pv 2) (pa_cons (pe_op op_modN (pv 4) (pv 2)) pa_nil)) (by rfl)))))
    (pss_one (ps_ret (pv 3)))))))), ?_⟩
  obtain ⟨p, q'⟩ := v
  refine ⟨_, rfl, t, _, rfl, SqT.of hT, rfl, _, _, rfl, _, _, rfl, rfl, ?_⟩
  refine ⟨_, rfl, rfl, _, rfl, ite2 (fun c => ?_) (fun c => ?_)⟩
  · have k : q' = 0 := V.int.inj (of_decide_eq_true c)
    subst k
    refine ⟨fits (by decide), fun a ha => q a _ (same_new ha _) ha ?_⟩
    rw [upd_same]
    rfl
  have k : ¬ q' = 0 := fun z => c (decide_eq_true (congrArg V.int z))
  have h0 : 0 < q' := by
    rcases g.1 with h1 | h1
    · exact h1
    · cases h1; exact absurd rfl k
  have eq0 : quo (p, q') = QL p.natAbs q'.natAbs := if_neg k
  have ql := quo_len (v := (p, q')) (n := 8000) z2 (by decide)
  rw [eq0] at q ql
  refine ⟨fits (by decide), fun pa hpa => ⟨_, rfl, _, rfl, ?_⟩⟩
  have e2 : (if p < 0 then -p else p) = (p.natAbs : Int) := by split <;> omega
  rw [e2]
  refine while_by (fun σ G => ∃ (x y : Nat) (cs : List Nat), σ = [some (.ref t), some (.int p), some (.int (y : Int)), some (.ref pa), some (.int (x : Int))] ∧ Same H G ∧ G pa = some (.lst ((cs.map Int.ofNat).map V.int)) ∧ QL p.natAbs q'.natAbs = cs ++ QL x y ∧ y < 2 ^ 8000) (fun σ _ => match σ with | [_, _, some (.int b), _, _] => b.natAbs | _ => 0) ⟨p.natAbs, q'.natAbs, [], by rw [Int.natAbs_of_nonneg (Int.le_of_lt h0)]; rfl, same_new hpa _, upd_same, rfl, z2⟩ ?_ ?_
  · rintro σ G ⟨x, y, cs, rfl, sm, hG, ej, yb⟩
    refine ⟨_, rfl, _, _, rfl, rfl, _, rfl, ite2 (fun c1 => ?_) (fun c1 => ?_)⟩
    · have y0 : 0 < y := by
        have : (0 : Int) < (y : Int) := of_decide_eq_true c1
        omega
      have gd := wide_div (i := (x : Int)) (j := (y : Int)) (b := 8000) (by omega) (by rw [Int.natAbs_natCast]; exact yb) (by decide) (by decide)
      have lc : cs.length + 1 ≤ 16000 := by
        rw [ej, QL_step y0, List.length_append, List.length_cons] at ql
        omega
      refine ⟨_, rfl, .inl ⟨rfl, _, SqL.of hG⟩, _, rfl, _, rfl, _, _, rfl, rfl, gd, pa, _, _, rfl, rfl, hG, Nat.lt_of_lt_of_le (show ((cs.map Int.ofNat).map V.int).length < 16777216 by rw [List.length_map, List.length_map]; omega) sizeLine_big, ?_⟩
      refine ⟨_, rfl, _, rfl, _, rfl, _, _, rfl, rfl, (show (y : Int) ≠ 0 by omega), _, _, rfl, ⟨y, x % y, cs ++ [x / y], ?_, same_upd sm hpa, ?_, ?_, Nat.lt_trans (Nat.mod_lt _ y0) yb⟩, ?_⟩
      · have em : ((x : Int).fmod (y : Int)) = ((x % y : Nat) : Int) := by
          rw [Int.fmod_eq_emod_of_nonneg _ (Int.natCast_nonneg y)]
          rfl
        rw [← em]
        rfl
      · rw [upd_same, List.map_append, List.map_append]
        rfl
      · rw [ej, QL_step y0, List.append_assoc]
        rfl
      · show ((x : Int).fmod (y : Int)).natAbs < (y : Int).natAbs
        exact fmod_less (by omega)
    · have y0 : y = 0 := by
        have : ¬ (0 : Int) < (y : Int) := fun z => c1 (decide_eq_true z)
        omega
      subst y0
      rw [QL_zero, List.append_nil] at ej
      rw [ej] at q
      exact ⟨_, rfl, q pa G sm hpa hG⟩
  · rintro σ H' Q1 Q2 hm ⟨v, e, i, j, e1, e2, b, e3, qq⟩
    exact ⟨v, e, i, j, e1, e2, b, e3, hm _ _ qq⟩
end
section
variable {P : Program} {w : World} {K : PySem.W.Frag} {mg : Str → Option Value} {base : Heap} {f : Addr} {fd : FuncData}
theorem ok_steps (F : Fun K "steps" "steps" s_steps f fd) (D_quotients : Dfn P w K mg base "quotients" 1 ["fraction"] (spQuo K)) (y_sum : mg "sum" = none) (y_len : mg "len" = none)  : FnOk P w K mg base CX0 2 f fd ["fraction"] spSteps := by
  refine F.ok sc_steps (fun vs H Q E h => ?_) (fun cdv A outer s H vs Q E hr h => ?_)
  · obtain ⟨t, v, rfl, hT, g, z1, z2, q⟩ := h
    rfl
  obtain ⟨t, v, rfl, hT, g, z1, z2, q⟩ := h
  refine ⟨_, (pss_cons (ps_set (i := 1) sc_steps.nd rfl (.inl rfl) (pe_do D_quotients hr (pa_cons (pv 0) pa_nil)))
    (pss_one (ps_ret (pe_op op_sub (pe_op op_add (pe_callB (cr_sum rfl) rfl y_sum (by decide +kernel) (pa_cons (pv 1) pa_nil)) (pe_callB call_len_seq rfl y_len PySem.boot_len (pa_cons (pv 1) pa_nil))) pe_int)))), ?_⟩
  refine ⟨_, rfl, t, v, rfl, hT, g, z1, z2, fun a H' sm na ha => ?_⟩
  refine ⟨_, rfl, a, _, rfl, SqL.of ha, _, rfl, a, _, rfl, .inl (SqL.of ha), _, _, rfl, rfl, _, _, rfl, rfl, ?_⟩
  rw [sum_nat, List.length_map, List.length_map]
  have := quo_stp g
  have e : ((quo v).sum : Int) + ((quo v).length : Int) - 1 = (stp v : Int) := by omega
  show Q (.int (((quo v).sum : Int) + ((quo v).length : Int) - 1)) H'
  rw [e]
  exact q H' sm
end
theorem lc_enum {K : PySem.W.Frag} {a : Addr} {xs : List V} {g : TG} {tt : TT} {te : TE} {vs : List Nat} {σ : L2.St} {H1 : Hp} {D : Addr} {Qd : Hp → Prop} (Pv : Nat → Hp → Prop) (h0 : Pv 0 (upd H1 D (.lst []))) (hl : ∀ i H, i ≤ xs.length → Pv i H → SqL K H a xs)
    (hs : ∀ i x H T, xs[i]? = some x → Pv i H → H T = none → g (.ref T) (wipe σ vs) (upd H T (.tup [.int (i : Nat), x])) fun σ2 H2 => wipe σ2 vs = wipe σ vs ∧ tt σ2 H2 fun b H3 =>
      if b = true then te σ2 H3 fun y H4 => ∃ acc, H4 D = some (.lst acc) ∧ acc.length < sizeLine ∧ Pv (i + 1) (upd H4 D (.lst (acc ++ [y]))) else Pv (i + 1) H3) (hd : ∀ H, Pv xs.length H → Qd H) :
    ∃ W : Nat → Nat → Hp → Prop, (∃ m, W 0 m (upd H1 D (.lst []))) ∧ ∀ i m H, W i m H →
      ((Ite K a).stop i H ∧ Qd H) ∨ ((Ite K a).go i H ∧ ∃ Nx : Hp → Prop, (∀ H', Nx H' → ∃ m', m' < m ∧ W (i + 1) m' H') ∧ ∀ x H', (Ite K a).yld i H x H' → g x (wipe σ vs) H' fun σ2 H2 => wipe σ2 vs = wipe σ vs ∧ tt σ2 H2 fun b H3 =>
        if b = true then te σ2 H3 fun y H4 => ∃ acc, H4 D = some (.lst acc) ∧ acc.length < sizeLine ∧ Nx (upd H4 D (.lst (acc ++ [y]))) else Nx H3) := by
  refine ⟨fun j n G => n = xs.length - j ∧ j ≤ xs.length ∧ Pv j G, ⟨xs.length, by simp, Nat.zero_le _, h0⟩, ?_⟩
  rintro j n G ⟨rfl, hj, p⟩
  have at_ := hl j G hj p
  by_cases c : j < xs.length
  · refine .inr ⟨⟨xs, xs[j], at_, by simp [c]⟩, Pv (j + 1), fun G' p' => ⟨xs.length - (j + 1), by omega, rfl, c, p'⟩, fun x G' y => ?_⟩
    obtain ⟨T, z, rfl, hT, rfl, e⟩ := y
    exact hs j z G T (e xs at_) p hT
  · have e : j = xs.length := by omega
    subst e
    exact .inl ⟨⟨xs, at_, Nat.le_refl _⟩, hd G p⟩
abbrev rtup (r : Nat × Nat) : HO := .tup [.str (S [r.1]), .int (r.2 : Int)]
theorem rn_add {G : Hp} {D u : Addr} {ts : List Addr} {ps : List (Nat × Nat)} {r : Nat × Nat} (hG : G D = some (.lst (ts.map V.ref))) (tv : ∀ (j : Nat) (u : Addr) (r : Nat × Nat), ts[j]? = some u → ps[j]? = some r → G u = some (rtup r)) (hr : ps[ts.length]? = some r) (T : G u = some (rtup r)) :
    ∀ (j : Nat) (u' : Addr) (r' : Nat × Nat), (ts ++ [u])[j]? = some u' → ps[j]? = some r' → (upd G D (.lst (ts.map V.ref ++ [V.ref u]))) u' = some (rtup r') := by
  intro j u' r' hu' hr'
  have key : G u' = some (rtup r') := by
    by_cases c : j < ts.length
    · rw [List.getElem?_append_left c] at hu'
      exact tv j u' r' hu' hr'
    · have e : j = ts.length := by
        have := (List.getElem?_eq_some_iff.mp hu').1
        rw [List.length_append] at this
        have : ([u] : List Addr).length = 1 := rfl
        omega
      subst e
      rw [List.getElem?_append_right (Nat.le_refl _), Nat.sub_self] at hu'
      cases hu'
      rw [hr] at hr'
      cases hr'
      exact T
  rw [upd_ne (ne_of key hG (fun z => nomatch z))]
  exact key
theorem rn_rev {G : Hp} {p : Addr} {ts : List Addr} {ps : List (Nat × Nat)} (hp : G p = some (.lst (ts.map V.ref).reverse)) (hl : ts.length = ps.length) (tv : ∀ (j : Nat) (u : Addr) (r : Nat × Nat), ts[j]? = some u → ps[j]? = some r → G u = some (rtup r)) : Rn G p ps.reverse := by
  refine ⟨ts.reverse, by rw [hp, List.map_reverse], by rw [List.length_reverse, List.length_reverse, hl], fun i t r ht hr => ?_⟩
  have hi : i < ts.length := by
    have := (List.getElem?_eq_some_iff.mp ht).1
    rw [List.length_reverse] at this
    exact this
  rw [List.getElem?_reverse hi] at ht
  rw [List.getElem?_reverse (by omega), ← hl] at hr
  exact tv _ t r ht hr
def spRuns : Sp := fun vs H Q _ => ∃ (t : Addr) (v : Int × Int), vs = [.ref t] ∧ Tup2 H t v ∧ Good v ∧ v.1.natAbs < 2 ^ 8000 ∧ v.2.natAbs < 2 ^ 8000 ∧ ∀ a H', Same H H' → H a = none → Rn H' a (al (fl v) (quo v)).reverse → Q (.ref a) H'
def spUndo : Sp := fun vs H Q _ => ∃ (l : List Nat), vs = [.str (S l)] ∧ Lets l ∧ l.length ≤ 1000 ∧ ∀ H', Same H H' → Q (.str (S (mir (dl (run (0, 1) l)).reverse))) H'
theorem e_UT3 : (("UT" : Str)) = S [85, 84] := by decide +kernel
theorem e_TU3 : (("TU" : Str)) = S [84, 85] := by decide +kernel
theorem pick_fl {c : Nat} (h : c = 84 ∨ c = 85) (i : Nat) : atI [c, swc c] ((i % 2 : Nat) : Int) = some (if i % 2 = 0 then c else swc c) := by
  have : i % 2 = 0 ∨ i % 2 = 1 := by omega
  rcases this with e | e
  · rw [e]; rfl
  · rw [e]; rfl
theorem run_two (l : List Nat) : (run (0, 1) l).1.natAbs ≤ 2 ^ l.length ∧ (run (0, 1) l).2.natAbs ≤ 2 ^ l.length := by
  have := run_size l (v := (0, 1)) (n := 1) (by decide) (by decide) (Nat.le_refl _)
  rw [Nat.mul_one] at this
  exact this
theorem run_small {l : List Nat} (h : l.length ≤ 7000) : (run (0, 1) l).1.natAbs < 2 ^ 8000 ∧ (run (0, 1) l).2.natAbs < 2 ^ 8000 := by
  have e : 2 ^ l.length < 2 ^ 8000 := Nat.pow_lt_pow_right (by decide) (by omega)
  exact ⟨Nat.lt_of_le_of_lt (run_two l).1 e, Nat.lt_of_le_of_lt (run_two l).2 e⟩
theorem flat_one (c n : Nat) : (List.replicate n [c]).flatten = List.replicate n c := by simp
theorem sum_wd (ps : List (Nat × Nat)) : ((ps.map wd).map List.length).sum = (ps.map (·.2)).sum := by
  congr 1
  rw [List.map_map]
  apply List.map_congr_left
  intro p _
  show (List.replicate p.2 p.1).length = p.2
  rw [List.length_replicate]
theorem al_two : ∀ (qs : List Nat) (c : Nat), (al c qs).map (·.2) = qs
  | [], _ => rfl
  | a :: r, c => by
    show a :: (al (swc c) r).map (·.2) = a :: r
    rw [al_two r (swc c)]
theorem back_dl {l : List Nat} (h : Lets l) : run (0, 1) (l ++ mir (dl (run (0, 1) l)).reverse) = (0, 1) := by
  have g := good_run l Good.zero
  rw [run_app]
  have := run_back (dl (run (0, 1) l)) Good.zero (lets_dl _)
  rw [run_dl g] at this
  exact this
section
variable {P : Program} {w : World} {K : PySem.W.Frag} {mg : Str → Option Value} {base : Heap} {f : Addr} {fd : FuncData}
theorem ok_runs (F : Fun K "runs" "runs" s_runs f fd) (D_quotients : Dfn P w K mg base "quotients" 1 ["fraction"] (spQuo K)) (y_enumerate : mg "enumerate" = none)  : FnOk P w K mg base CX0 2 f fd ["fraction"] spRuns := by
  refine F.ok sc_runs (fun vs H Q E h => ?_) (fun cdv A outer s H vs Q E hr h => ?_)
  · obtain ⟨t, v, rfl, hT, g, z1, z2, q⟩ := h
    rfl
  obtain ⟨t, v, rfl, hT, g, z1, z2, q⟩ := h
  refine ⟨_, (pss_cons (ps_set (i := 1) sc_runs.nd rfl (.inr rfl) (pe_ifExp (pt_cmpR op_lt (pe_ix ix_tup (pv 0) pe_int (fun _ _ => rfl)) pe_int (nomark _)) pe_str pe_str))
    (pss_one (ps_ret (pe_revL (pe_lc (own := [("k", 2), ("part", 3)]) (g := (gTup K 2 (gCons (gName 2) (gCons (gName 3) gNil)))) (tt := tYes) (by rfl) sc_runs.nd (pi_enum rfl y_enumerate (pa_cons (pe_do D_quotients hr (pa_cons (pv 0) pa_nil)) pa_nil)) (blkOk_by (own := [("k", 2), ("part", 3)]) (N := ["fraction", "letters", "k", "part"]) (sc := defScope s_runs) (by decide +kernel)) (fun _ _ _ _ _ => pg_tup (by rfl) (pgs_cons (pg_name (i := 2) sc_runs.nd rfl (.inl rfl)) (pgs_cons (pg_name (i := 3) sc_runs.nd rfl (.inl rfl)) pgs_nil))) (fun _ _ _ _ _ => pts_nil) (fun _ _ _ _ _ => (pe_tup (pa_cons (pe_ix ix_str (pv 1) (pe_op op_odd (pv 2) pe_int) (fun _ _ => rfl)) (pa_cons (pv 3) pa_nil))))))))), ?_⟩
  rw [e_UT3, e_TU3]
  have two : 2 ≤ sizeLine := fits (by decide)
  refine ⟨_, rfl, t, _, _, _, rfl, rfl, SqT.of hT, rfl, _, _, rfl, rfl, _, rfl, ite2 (fun k => ?A) (fun k => ?B)⟩
  case A =>
    have hc : (85 = 84 ∨ 85 = 85) ∧ fl v = 85 := ⟨.inr rfl, if_pos (of_decide_eq_true k)⟩
    rw [show S [85, 84] = S [85, swc 85] from rfl]
    obtain ⟨hc, hf⟩ := hc
    rw [hf] at q
    refine ⟨_, rfl, t, v, rfl, hT, g, z1, z2, fun a H1 s1 na ha => ⟨a, _, rfl, SqL.of ha, fun D hD => lc_enum (K := K) (a := a) (xs := ((quo v).map Int.ofNat).map V.int) (fun i G => Same H1 G ∧ ∃ ts : List Addr, G D = some (.lst (ts.map V.ref)) ∧ ts.length = i ∧ ∀ (j : Nat) (u : Addr) (r : Nat × Nat), ts[j]? = some u → (al 85 (quo v))[j]? = some r → G u = some (rtup r)) ⟨same_new hD _, [], upd_same, rfl, fun j u r hu => by cases hu⟩ ?_ ?_ ?_⟩⟩
    · rintro i G _ ⟨sG, _⟩
      exact SqL.of (sG _ _ ha)
    · rintro i x G T hx ⟨sG, ts, hG, tl, tv⟩ hT2
      rw [List.getElem?_map, List.getElem?_map] at hx
      cases hq : (quo v)[i]? with
      | none => rw [hq] at hx; cases hx
      | some b =>
        rw [hq] at hx
        cases hx
        have hi : i < (quo v).length := (List.getElem?_eq_some_iff.mp hq).1
        have ql := quo_len z2 (by decide)
        refine ⟨T, _, rfl, SqT.of upd_same, rfl, _, _, rfl, _, _, rfl, rfl, rfl, ?_⟩
        refine ⟨_, rfl, _, rfl, i, rfl, rfl, S [85, swc 85], _, _, rfl, rfl, fits (by decide +kernel), pick_fl hc i, _, rfl, two, fun u hu => ?_⟩
        have S2 : Same G (upd (upd G T (.tup [V.int (i : Nat), V.int (Int.ofNat b)])) u (.tup [.str (S [if i % 2 = 0 then 85 else swc 85]), V.int (Int.ofNat b)])) := (same_new hT2 _).trans (same_new hu _)
        refine ⟨_, S2 _ _ hG, Nat.lt_of_lt_of_le (show (ts.map V.ref).length < 16777216 by rw [List.length_map]; omega) sizeLine_big, fun x o hx => ?_, ts ++ [u], by rw [upd_same, List.map_append]; rfl, by rw [List.length_append, tl]; rfl, rn_add (r := (if i % 2 = 0 then 85 else swc 85, b)) (S2 _ _ hG) (fun j u' r' h1 h2 => S2 _ _ (tv j u' r' h1 h2)) (by rw [tl, al_get _ _ _ hc, hq]; rfl) upd_same⟩
        rw [upd_ne (ne_of_none hx hD)]
        exact S2 _ _ (sG _ _ hx)
    · rintro G ⟨sG, ts, hG, tl, tv⟩
      rw [List.length_map, List.length_map] at tl
      refine ⟨D, _, rfl, SqL.of hG, fun rp hrp => ?_⟩
      have S3 := same_new hrp (.lst (ts.map V.ref).reverse)
      have hn : H rp = none := by
        cases e : H rp with
        | none => rfl
        | some o =>
          have := (s1.trans sG) _ _ e
          rw [hrp] at this
          cases this
      exact q rp _ ((s1.trans sG).trans S3) hn (rn_rev upd_same (by rw [tl, al_len]) (fun j u r h1 h2 => S3 _ _ (tv j u r h1 h2)))
  case B =>
    have hc : (84 = 84 ∨ 84 = 85) ∧ fl v = 84 := ⟨.inl rfl, if_neg (fun z => k (decide_eq_true z))⟩
    rw [show S [84, 85] = S [84, swc 84] from rfl]
    obtain ⟨hc, hf⟩ := hc
    rw [hf] at q
    refine ⟨_, rfl, t, v, rfl, hT, g, z1, z2, fun a H1 s1 na ha => ⟨a, _, rfl, SqL.of ha, fun D hD => lc_enum (K := K) (a := a) (xs := ((quo v).map Int.ofNat).map V.int) (fun i G => Same H1 G ∧ ∃ ts : List Addr, G D = some (.lst (ts.map V.ref)) ∧ ts.length = i ∧ ∀ (j : Nat) (u : Addr) (r : Nat × Nat), ts[j]? = some u → (al 84 (quo v))[j]? = some r → G u = some (rtup r)) ⟨same_new hD _, [], upd_same, rfl, fun j u r hu => by cases hu⟩ ?_ ?_ ?_⟩⟩
    · rintro i G _ ⟨sG, _⟩
      exact SqL.of (sG _ _ ha)
    · rintro i x G T hx ⟨sG, ts, hG, tl, tv⟩ hT2
      rw [List.getElem?_map, List.getElem?_map] at hx
      cases hq : (quo v)[i]? with
      | none => rw [hq] at hx; cases hx
      | some b =>
        rw [hq] at hx
        cases hx
        have hi : i < (quo v).length := (List.getElem?_eq_some_iff.mp hq).1
        have ql := quo_len z2 (by decide)
        refine ⟨T, _, rfl, SqT.of upd_same, rfl, _, _, rfl, _, _, rfl, rfl, rfl, ?_⟩
        refine ⟨_, rfl, _, rfl, i, rfl, rfl, S [84, swc 84], _, _, rfl, rfl, fits (by decide +kernel), pick_fl hc i, _, rfl, two, fun u hu => ?_⟩
        have S2 : Same G (upd (upd G T (.tup [V.int (i : Nat), V.int (Int.ofNat b)])) u (.tup [.str (S [if i % 2 = 0 then 84 else swc 84]), V.int (Int.ofNat b)])) := (same_new hT2 _).trans (same_new hu _)
        refine ⟨_, S2 _ _ hG, Nat.lt_of_lt_of_le (show (ts.map V.ref).length < 16777216 by rw [List.length_map]; omega) sizeLine_big, fun x o hx => ?_, ts ++ [u], by rw [upd_same, List.map_append]; rfl, by rw [List.length_append, tl]; rfl, rn_add (r := (if i % 2 = 0 then 84 else swc 84, b)) (S2 _ _ hG) (fun j u' r' h1 h2 => S2 _ _ (tv j u' r' h1 h2)) (by rw [tl, al_get _ _ _ hc, hq]; rfl) upd_same⟩
        rw [upd_ne (ne_of_none hx hD)]
        exact S2 _ _ (sG _ _ hx)
    · rintro G ⟨sG, ts, hG, tl, tv⟩
      rw [List.length_map, List.length_map] at tl
      refine ⟨D, _, rfl, SqL.of hG, fun rp hrp => ?_⟩
      have S3 := same_new hrp (.lst (ts.map V.ref).reverse)
      have hn : H rp = none := by
        cases e : H rp with
        | none => rfl
        | some o =>
          have := (s1.trans sG) _ _ e
          rw [hrp] at this
          cases this
      exact q rp _ ((s1.trans sG).trans S3) hn (rn_rev upd_same (by rw [tl, al_len]) (fun j u r h1 h2 => S3 _ _ (tv j u r h1 h2)))
end
section
variable {P : Program} {w : World} {K : PySem.W.Frag} {mg : Str → Option Value} {base : Heap} {f : Addr} {fd : FuncData}
theorem ok_undo (F : Fun K "undo" "undo" s_undo f fd) (D_backward : Dfn P w K mg base "backward" 4 ["dance"] spBack) (D_runs : Dfn P w K mg base "runs" 4 ["fraction"] spRuns) (D_num : Dfn P w K mg base "number" 4 ["dance"] spNum)  : FnOk P w K mg base CX0 5 f fd ["dance"] spUndo := by
  refine F.ok sc_undo (fun vs H Q E h => ?_) (fun cdv A outer s H vs Q E hr h => ?_)
  · obtain ⟨l, rfl, hl, zl, q⟩ := h
    rfl
  obtain ⟨l, rfl, hl, zl, q⟩ := h
  refine ⟨_, (pss_one (ps_ret (pe_do D_backward hr (pa_cons (pe_join pe_str (pe_lc (own := [("letter", 1), ("many", 2)]) (g := (gTup K 2 (gCons (gName 1) (gCons (gName 2) gNil)))) (tt := tYes) (by rfl) sc_undo.nd (pi_list (pe_do D_runs hr (pa_cons (pe_do D_num hr (pa_cons (pv 0) pa_nil)) pa_nil))) (blkOk_by (own := [("letter", 1), ("many", 2)]) (N := ["dance", "letter", "many"]) (sc := defScope s_undo) (by decide +kernel)) (fun _ _ _ _ _ => pg_tup (by rfl) (pgs_cons (pg_name (i := 1) sc_undo.nd rfl (.inl rfl)) (pgs_cons (pg_name (i := 2) sc_undo.nd rfl (.inl rfl)) pgs_nil))) (fun _ _ _ _ _ => pts_nil) (fun _ _ _ _ _ => (pe_op op_mul_str (pv 1) (pv 2))))) pa_nil)))), ?_⟩
  have g := good_run l Good.zero
  have rs := run_small (l := l) (by omega)
  have st := stp_run l Good.zero
  rw [stp_zero] at st
  have ld := len_dl g
  refine ⟨⟨_, rfl⟩, _, rfl, l, rfl, fun t H1 s1 T1 => ⟨t, _, rfl, T1, g, rs.1, rs.2, fun a H2 s2 na hR => ?_⟩⟩
  obtain ⟨ts, ha, tl, tv⟩ := hR
  have ps_mem : ∀ r ∈ (al (fl (run (0, 1) l)) (quo (run (0, 1) l))).reverse, (r.1 = 84 ∨ r.1 = 85) ∧ r.2 ≤ 1000 := fun r hr => by
    have hr' := List.mem_reverse.mp hr
    refine ⟨al_or _ _ (fl_or _) r hr', ?_⟩
    have : r.2 ∈ quo (run (0, 1) l) := by
      rw [← al_two (quo (run (0, 1) l)) (fl (run (0, 1) l))]
      exact List.mem_map.mpr ⟨r, hr', rfl⟩
    have := le_sum this
    have h2 := quo_stp g
    have h3 : 0 < (quo (run (0, 1) l)).length := List.length_pos_iff.mpr (quo_ne g)
    omega
  have jl := joinL_len ((al (fl (run (0, 1) l)) (quo (run (0, 1) l))).reverse.map wd) (fun z => by
    have := congrArg List.length z
    rw [List.length_map, List.length_reverse, al_len] at this
    exact quo_ne g (List.length_eq_zero_iff.mp this))
  have eD : TL.joinL [82] ((al (fl (run (0, 1) l)) (quo (run (0, 1) l))).reverse.map wd) = dl (run (0, 1) l) := rfl
  rw [eD] at jl
  generalize (al (fl (run (0, 1) l)) (quo (run (0, 1) l))).reverse = ps at *
  refine ⟨a, rfl, ⟨_, SqL.of ha⟩, fun D hD => lc_list (K := K) (a := a) (xs := ts.map V.ref) (fun i G => Same H2 G ∧ G D = some (.lst ((ps.take i).map fun r => V.str (S (wd r))))) ⟨same_new hD _, upd_same⟩ ?_ ?_ ?_⟩
  · rintro i G _ ⟨sG, _⟩
    exact SqL.of (sG _ _ ha)
  · rintro i x G hx ⟨sG, hG⟩
    rw [List.getElem?_map] at hx
    have hi : i < ts.length := by
      cases e : ts[i]? with
      | none => rw [e] at hx; cases hx
      | some u => exact (List.getElem?_eq_some_iff.mp e).1
    have hti : ts[i]? = some ts[i] := List.getElem?_eq_getElem hi
    rw [hti] at hx
    cases hx
    have hpi : ps[i]? = some ps[i] := List.getElem?_eq_getElem (by omega)
    have pm := ps_mem ps[i] (List.getElem_mem (by omega))
    generalize ps[i] = r at hpi pm
    generalize ts[i] = u at hti ⊢
    have T := sG _ _ (tv i u r hti hpi)
    refine ⟨u, _, rfl, SqT.of T, rfl, _, _, rfl, _, _, rfl, rfl, rfl, ?_⟩
    refine ⟨_, rfl, _, rfl, [r.1], (r.2 : Int), rfl, rfl, by omega, by omega, by rw [Int.toNat_natCast]; show 1 * r.2 ≤ _; omega, ?_⟩
    rw [Int.toNat_natCast, flat_one]
    refine ⟨_, hG, ?_, fun b o hb => ?_, ?_⟩
    · rw [List.length_map, List.length_take]
      have : ps.length ≤ 1001 := by
        rw [List.length_map] at jl
        omega
      exact Nat.lt_of_lt_of_le (show min i ps.length < 16777216 by omega) sizeLine_big
    · rw [upd_ne (ne_of_none hb hD)]
      exact sG _ _ hb
    · rw [upd_same, List.take_add_one, hpi, List.map_append]
      rfl
  · rintro G ⟨sG, hG⟩
    rw [List.length_map, tl, List.take_of_length_le (Nat.le_refl _)] at hG
    refine ⟨S [82], D, (ps.map wd).map S, by rw [e_R], rfl, .inl (SqL.of ?_), ?_, ?_⟩
    · rw [hG, List.map_map, List.map_map]
      rfl
    · rw [sum_S, S_len, List.length_map]
      show _ + _ * 1 ≤ 16777216
      omega
    · rw [join_S, eD]
      exact ⟨_, rfl, lets_dl _, by omega, fun H' s' => q H' ((s1.trans s2).trans (sG.trans s'))⟩
end
abbrev s_L__init__ : Stmt := inClass (top 20) 0
theorem sc_L__init__ : FnScope ["self", "fraction"] ["self", "fraction"] (defScope s_L__init__) := ⟨rfl, rfl, rfl, by decide +kernel, rfl, by decide +kernel, by decide +kernel⟩
abbrev s_Ldance_count : Stmt := inClass (top 20) 1
theorem sc_Ldance_count : FnScope ["self"] ["self"] (defScope s_Ldance_count) := ⟨rfl, rfl, rfl, by decide +kernel, rfl, by decide +kernel, by decide +kernel⟩
abbrev s_Ldance : Stmt := inClass (top 20) 2
theorem sc_Ldance : FnScope ["self", "rank", "letter", "many", "words", "at"] ["self", "rank"] (defScope s_Ldance) := ⟨rfl, rfl, rfl, by decide +kernel, rfl, by decide +kernel, by decide +kernel⟩
abbrev s_Lrank_of : Stmt := inClass (top 20) 3
theorem sc_Lrank_of : FnScope ["self", "dance", "rank", "at", "behind"] ["self", "dance"] (defScope s_Lrank_of) := ⟨rfl, rfl, rfl, by decide +kernel, rfl, by decide +kernel, by decide +kernel⟩
abbrev s_Ldances : Stmt := inClass (top 20) 4
section
open PySem PySem.Spec PyProof.Rows
variable {X : Cx}
/-- xs[i] for xs[i] += .. -/
theorem pget_at : PGet X (fun o i H Q => ∃ (p : Addr) (xs : List V) (k : Nat) (z : V), o = V.ref p ∧ i = .int (k : Int) ∧ SqL X.K H p xs ∧ xs[k]? = some z ∧ Q z H) := by
  intro pins s σ H o i ov iv Q I rx ry h
  obtain ⟨p, xs, k, z, rfl, rfl, hq, he, q⟩ := h
  cases rx
  obtain ⟨t, rfl⟩ := ry
  obtain ⟨its, r, pl, hz⟩ := I.list hq
  obtain ⟨w, ew, rw'⟩ := r.get he
  have hl := r.length
  have hn := line63
  have kl := (List.getElem?_eq_some_iff.mp he).1
  exact wpAny_getItem_list pl.isList (by omega) (by omega) (by rw [Int.toNat_natCast]; simpa using ew) ⟨z, H, I, rw', q⟩
end
section
open TL
theorem tl_S' (l : List Nat) : tl (S l) = l := S_list l
theorem join_E (xs : List (List Nat)) : Txt.join (S []) (xs.map S) = S xs.flatten := by
  have jf : ∀ xs : List (List Nat), TL.joinL [] xs = xs.flatten := by
    intro xs
    induction xs with
    | nil => rfl
    | cons x r ih =>
      cases r with
      | nil => simp [TL.joinL]
      | cons y r =>
        show x ++ ([] ++ TL.joinL [] (y :: r)) = _
        rw [ih]
        rfl
  have e := tl_join (S []) (xs.map S)
  rw [← join_eq, List.map_map] at e
  have e2 : (tl ∘ S) = id := by funext l; exact tl_S' l
  rw [e2, List.map_id, tl_S', jf] at e
  exact (S_eta (Txt.join (S []) (xs.map S))).symm.trans (congrArg S e)
/-- the fields of an object of the class -/
def lf (t r w : Addr) : List (Str × V) := putF "ways" (.ref w) (putF "runs" (.ref r) (putF "fraction" (.ref t) []))
theorem n_wr : ¬ (("ways" : Str) = "runs") := by decide +kernel
theorem n_wf : ¬ (("ways" : Str) = "fraction") := by decide +kernel
theorem n_rf : ¬ (("runs" : Str) = "fraction") := by decide +kernel
theorem lf_ways (t r w : Addr) : (lf t r w).lookup ("ways" : Str) = some (.ref w) := by
  unfold lf
  rw [lookup_putF, if_pos rfl]
theorem lf_runs (t r w : Addr) : (lf t r w).lookup ("runs" : Str) = some (.ref r) := by
  unfold lf
  rw [lookup_putF, if_neg (Ne.symm n_wr), lookup_putF, if_pos rfl]
theorem lf_frac (t r w : Addr) : (lf t r w).lookup ("fraction" : Str) = some (.ref t) := by
  unfold lf
  rw [lookup_putF, if_neg (Ne.symm n_wf), lookup_putF, if_neg (Ne.symm n_rf), lookup_putF, if_pos rfl]
theorem lf_no (t r w : Addr) {x : Str} (h1 : ¬ x = "ways") (h2 : ¬ x = "runs") (h3 : ¬ x = "fraction") : (lf t r w).lookup x = none := by
  unfold lf
  rw [lookup_putF, if_neg h1]
  rw [lookup_putF, if_neg h2]
  rw [lookup_putF, if_neg h3]
  all_goals rfl
def nint (ns : List Nat) : List V := ns.map fun n : Nat => V.int (n : Int)
/-- at p stands the object of v -/
def LdAt (C : Addr) (H : Hp) (p : Addr) (v : Int × Int) : Prop := ∃ (dx t r w : Addr), H p = some (.ins C dx (lf t r w)) ∧ Tup2 H t v ∧ Rn H r (rl v) ∧ H w = some (.lst (nint (wys (ns_ (rl v)))))
theorem LdAt.same {C : Addr} {H H' : Hp} {p : Addr} {v : Int × Int} (h : LdAt C H p v) (s : Same H H') : LdAt C H' p v := by
  obtain ⟨dx, t, r, w, h1, h2, h3, h4⟩ := h
  exact ⟨dx, t, r, w, s _ _ h1, h2.same s, h3.same s, s _ _ h4⟩
structure TxL (K : PySem.W.Frag) (mg : Str → Option Value) (C : Addr) : Prop where
  cl : Cls K C
  nF : NoAttr K C "fraction"
  nR : NoAttr K C "runs"
  nW : NoAttr K C "ways"
  mgC : mg "LeastDances" = some (.ref C)
structure MDfnL (P : Program) (w : World) (K : PySem.W.Frag) (mg : Str → Option Value) (base : Heap) (C : Addr) (m : Str) (k : Nat) (ps : List Str) (sp : Sp) : Prop where
  ex : ∃ g fd, FnOk P w K mg base CX0 k g fd ps sp ∧ Binds K fd ps [] ∧ Meth K C m g
def spWaysOn : Sp := fun vs H Q _ => ∃ (a : Addr) (R : List (Nat × Nat)), vs = [.ref a] ∧ Rn H a R ∧ 1 ≤ R.length ∧ R.length ≤ 100000 ∧ ∀ p H', Same H H' → H p = none → H' p = some (.lst (nint (wys (ns_ R)))) → Q (.ref p) H'
def spInitL (C : Addr) : Sp := fun vs H Q _ => ∃ (H0 : Hp) (p t dx : Addr) (v : Int × Int), vs = [.ref p, .ref t] ∧ Same H0 H ∧ H0 p = none ∧ H p = some (.ins C dx []) ∧ Tup2 H t v ∧ t ≠ p ∧ Good v ∧ stp v ≤ 2000 ∧ ∀ H' : Hp, Same H0 H' → LdAt C H' p v → Q .non H'
def spCountL (C : Addr) : Sp := fun vs H Q _ => ∃ (p : Addr) (v : Int × Int), vs = [.ref p] ∧ LdAt C H p v ∧ Good v ∧ Q (.int (wy (ns_ (rl v)) : Nat)) H
def spDanceL (C : Addr) : Sp := fun vs H Q _ => ∃ (p : Addr) (v : Int × Int) (k : Nat), vs = [.ref p, .int (k : Int)] ∧ LdAt C H p v ∧ Good v ∧ stp v ≤ 2000 ∧ k < wy (ns_ (rl v)) ∧ ∀ H', Same H H' → Q (.str (S (ld (rl v) k))) H'
def spRankL (C : Addr) : Sp := fun vs H Q _ => ∃ (p : Addr) (v : Int × Int) (k : Nat), vs = [.ref p, .str (S (ld (rl v) k))] ∧ LdAt C H p v ∧ Good v ∧ stp v ≤ 2000 ∧ k < wy (ns_ (rl v)) ∧ ∀ H', Same H H' → Q (.int (k : Int)) H'
theorem stp8 {v : Int × Int} (g : Good v) (h : stp v ≤ 7000) : v.1.natAbs < 2 ^ 8000 ∧ v.2.natAbs < 2 ^ 8000 := by
  have := stp_size _ v g rfl
  have e : 2 ^ stp v < 2 ^ 8000 := Nat.pow_lt_pow_right (by decide) (by omega)
  exact ⟨Nat.lt_of_le_of_lt this.1 e, Nat.lt_of_le_of_lt this.2 e⟩
theorem rl_fit {v : Int × Int} (g : Good v) : 1 ≤ (rl v).length ∧ (rl v).length ≤ stp v + 1 ∧ (ns_ (rl v)).sum ≤ stp v := by
  have a := quo_stp g
  have b := rl_ne g
  have c : 0 < (rl v).length := List.length_pos_iff.mpr b
  have d : (ns_ (rl v)).sum = (quo v).sum := by rw [ns_rl, List.sum_reverse]
  have e := rl_len v
  omega
theorem ns_len (R : List (Nat × Nat)) : (ns_ R).length = R.length := List.length_map ..
theorem ns_drop (R : List (Nat × Nat)) (i : Nat) : ns_ (R.drop i) = (ns_ R).drop i := List.map_drop ..
theorem nint_len (ns : List Nat) : (nint ns).length = ns.length := List.length_map ..
theorem nint_at {ns : List Nat} {i n : Nat} (h : ns[i]? = some n) : (nint ns)[i]? = some (V.int (n : Int)) := by
  unfold nint
  rw [List.getElem?_map, h]
  rfl
/-- the ways as they stand after k turns -/
def wyk (ns : List Nat) (k : Nat) : List Nat := (List.range ns.length).map fun i => if ns.length - 2 - k ≤ i then wy (ns.drop i) else 1
theorem wyk_len (ns : List Nat) (k : Nat) : (wyk ns k).length = ns.length := by unfold wyk; rw [List.length_map, List.length_range]
theorem wyk_at {ns : List Nat} {k i : Nat} (h : i < ns.length) : (wyk ns k)[i]? = some (if ns.length - 2 - k ≤ i then wy (ns.drop i) else 1) := by
  unfold wyk
  rw [List.getElem?_map, List.getElem?_range h]
  rfl
theorem wy_short : ∀ {ns : List Nat}, ns.length ≤ 2 → wy ns = 1
  | [], _ => rfl
  | [_], _ => rfl
  | [_, _], _ => rfl
  | _ :: _ :: _ :: _, h => by simp at h
theorem wyk_zero (ns : List Nat) : wyk ns 0 = List.replicate ns.length 1 := by
  apply List.ext_getElem?
  intro i
  by_cases h : i < ns.length
  · rw [wyk_at h, List.getElem?_replicate, if_pos h]
    split
    · rw [wy_short (by rw [List.length_drop]; omega)]
    · rfl
  · rw [List.getElem?_eq_none (by rw [wyk_len]; omega), List.getElem?_eq_none (by rw [List.length_replicate]; omega)]
theorem wyk_end (ns : List Nat) {k : Nat} (h : ns.length ≤ k + 2) : wyk ns k = wys ns := by
  unfold wyk wys
  apply List.map_congr_left
  intro i _
  rw [if_pos (by omega)]
theorem wyk_set {ns : List Nat} {k : Nat} (h : k + 3 ≤ ns.length) : (wyk ns k).set (ns.length - 3 - k) (wy (ns.drop (ns.length - 3 - k))) = wyk ns (k + 1) := by
  apply List.ext_getElem?
  intro i
  by_cases hi : i < ns.length
  · rw [List.getElem?_set, wyk_at hi, wyk_at hi, wyk_len]
    by_cases e : ns.length - 3 - k = i
    · rw [if_pos e, if_pos (by omega), if_pos (by omega), e]
    · rw [if_neg e]
      by_cases c : ns.length - 2 - k ≤ i
      · rw [if_pos c, if_pos (by omega)]
      · rw [if_neg c, if_neg (by omega)]
  · rw [List.getElem?_eq_none (by rw [List.length_set, wyk_len]; omega), List.getElem?_eq_none (by rw [wyk_len]; omega)]
theorem wy_drop {ns : List Nat} {j n1 : Nat} (h : j + 3 ≤ ns.length) (h1 : ns[j + 1]? = some n1) : wy (ns.drop j) = wy (ns.drop (j + 1)) + (if n1 = 1 then wy (ns.drop (j + 2)) else 0) := by
  have e0 : ns.drop j = ns[j] :: ns.drop (j + 1) := List.drop_eq_getElem_cons (by omega)
  have e1 : ns.drop (j + 1) = n1 :: ns.drop (j + 2) := by
    rw [List.drop_eq_getElem_cons (show j + 1 < ns.length by omega)]
    congr 1
    exact (List.getElem?_eq_some_iff.mp h1).2
  have e2 : ns.drop (j + 2) = ns[j + 2] :: ns.drop (j + 3) := List.drop_eq_getElem_cons (by omega)
  rw [e0, e1, e2, wy_three, ← e2]
theorem ns_at {R : List (Nat × Nat)} {i : Nat} {r : Nat × Nat} (h : R[i]? = some r) : (ns_ R)[i]? = some r.2 := by
  unfold ns_
  rw [List.getElem?_map, h]
  rfl
theorem ixN_nat {n k : Nat} (h : k < n) : ixN n (k : Int) = some k := by
  unfold ixN
  rw [if_pos (by omega), if_pos (by omega)]
  rfl
end
section
variable {P : Program} {w : World} {K : PySem.W.Frag} {mg : Str → Option Value} {base : Heap} {f : Addr} {fd : FuncData}
theorem ok_ways_on (F : Fun K "ways_on" "ways_on" s_ways_on f fd) (y_range : mg "range" = none) (y_len : mg "len" = none)  : FnOk P w K mg base CX0 1 f fd ["all_runs"] spWaysOn := by
  refine F.ok sc_ways_on (fun vs H Q E h => ?_) (fun cdv A outer s H vs Q E hr h => ?_)
  · obtain ⟨a, R, rfl, hR, r1, rz, q⟩ := h
    rfl
  obtain ⟨a, R, rfl, hR, r1, rz, q⟩ := h
  refine ⟨_, (pss_cons (ps_setLc (i := 1) (own := [("_", 3)]) (g := (gName 3)) (tt := tYes) (by rfl) sc_ways_on.nd rfl rfl (sw_true rfl rfl rfl (by decide +kernel)) (pi_list (pv 0)) (blkOk_by (own := [("_", 3)]) (N := ["all_runs", "ways", "at", "_"]) (sc := defScope s_ways_on) (by decide +kernel)) (fun _ _ _ _ _ => pg_name (i := 3) sc_ways_on.nd rfl (Or.inl rfl)) (fun _ _ _ _ _ => pts_nil) (fun _ _ _ _ _ => pe_int))
    (pss_cons (ps_for PassesOwn.never rfl (pi_range3 rfl y_range (pa_cons (pe_op op_sub (pe_callB call_len_seq rfl y_len PySem.boot_len (pa_cons (pv 0) pa_nil)) pe_int) (pa_cons (pe_un un_neg pe_int) (pa_cons (pe_un un_neg pe_int) pa_nil)))) (pg_name (i := 2) sc_ways_on.nd rfl (.inl rfl))
    (pss_cons (ps_asg (pe_ix ix_list (pv 1) (pe_op op_add (pv 2) pe_int) (fun _ _ => rfl)) (pg_sub (pv 1) (pv 2) set_list))
    (pss_one (ps_if (pt_cmpR op_eq (pe_ix ix_tup (pe_ix ix_list (pv 0) (pe_op op_add (pv 2) pe_int) (fun _ _ => rfl)) pe_int (fun _ _ => rfl)) pe_int (nomark _)) (pss_one (ps_augS (pv 1) (pv 2) pget_at (pe_ix ix_list (pv 1) (pe_op op_add (pv 2) pe_int) (fun _ _ => rfl)) ip_add set_list)) pss_nil))))
    (pss_one (ps_ret (pv 1))))), ?_⟩
  obtain ⟨ts, ha, tl, tv⟩ := hR
  have nl := ns_len R
  refine ⟨_, rfl, a, rfl, ⟨_, SqL.of ha⟩, fun D hD => lc_list (K := K) (a := a) (xs := ts.map V.ref) (fun i G => Same H G ∧ G D = some (.lst (nint (List.replicate i 1)))) ⟨same_new hD _, upd_same⟩ ?_ ?_ ?_⟩
  · rintro i G _ ⟨sG, _⟩
    exact SqL.of (sG _ _ ha)
  · rintro i x G hx ⟨sG, hG⟩
    have hi : i < ts.length := by
      have := (List.getElem?_eq_some_iff.mp hx).1
      rw [List.length_map] at this
      exact this
    refine ⟨rfl, _, hG, Nat.lt_of_lt_of_le (show (nint (List.replicate i 1)).length < 16777216 by rw [nint_len, List.length_replicate]; omega) sizeLine_big, same_upd sG hD, ?_⟩
    rw [upd_same, List.replicate_succ']
    unfold nint
    rw [List.map_append]
    rfl
  · rintro G ⟨sG, hG⟩
    rw [List.length_map, tl, ← nl, ← wyk_zero] at hG
    have ha' := sG _ _ ha
    have step := RgC.neg (i := ((R.length : Nat) : Int) - 3) (j := -1) (by omega) (by omega) (by omega) (by omega)
    rw [show (((R.length : Nat) : Int) - 3 - -1).toNat = R.length - 2 by omega] at step
    have el : ((ts.map V.ref).length : Int) = ((R.length : Nat) : Int) := by rw [List.length_map, tl]
    refine ⟨_, rfl, a, _, rfl, .inl (SqL.of ha'), ?_⟩
    rw [el]
    refine ⟨_, _, rfl, rfl, _, rfl, _, rfl, _, _, _, R.length - 2, rfl, step, for_rangeC (fun i σ F => ∃ (x2 : Option V), σ = [some (.ref a), some (.ref D), x2, none] ∧ Same H F ∧ F D = some (.lst (nint (wyk (ns_ R) i)))) ?_ ?_ ?_⟩
    · exact ⟨_, rfl, sG, hG⟩
    · rintro i σ F hi ⟨x2, rfl, sF, hF⟩
      obtain ⟨j, hj⟩ : ∃ j : Nat, j = R.length - 3 - i := ⟨_, rfl⟩
      have ek : (((R.length : Nat) : Int) - 3 + (i : Int) * -1) = (j : Int) := by omega
      rw [ek]
      have j3 : j + 3 ≤ (ns_ R).length := by omega
      have wl := wyk_len (ns_ R) i
      have ag := wyk_at (ns := ns_ R) (k := i) (i := j + 1) (by omega)
      rw [if_pos (by omega)] at ag
      obtain ⟨r', hr1⟩ : ∃ r', R[j + 1]? = some r' := ⟨_, List.getElem?_eq_getElem (by omega)⟩
      obtain ⟨u, hu1⟩ : ∃ u, ts[j + 1]? = some u := ⟨_, List.getElem?_eq_getElem (by omega)⟩
      have T := sF _ _ (tv (j + 1) u r' hu1 hr1)
      have wd_ := wy_drop (ns := ns_ R) (j := j) j3 (ns_at hr1)
      have ws := wyk_set (ns := ns_ R) (k := i) (by omega)
      rw [show (ns_ R).length - 3 - i = j by omega] at ws
      have ha2 := sF _ _ ha
      have e1 : ((j : Int) + 1) = ((j + 1 : Nat) : Int) := rfl
      refine ⟨_, rfl, _, rfl, _, _, rfl, rfl, D, _, _, _, rfl, rfl, SqL.of hF, at_of (j := j + 1) e1 (nint_at ag), _, rfl, _, rfl, D, _, _, j, rfl, rfl, hF, ixN_nat (by rw [nint_len, wl]; omega), ?_⟩
      have nF := nint_at (ns := (wyk (ns_ R) i)) (i := j) (n := wy ((ns_ R).drop (j + 1)))
      have ns1 : (nint (wyk (ns_ R) i)).set j (V.int ((wy ((ns_ R).drop (j + 1)) : Nat) : Int)) = nint ((wyk (ns_ R) i).set j (wy ((ns_ R).drop (j + 1)))) := by
        unfold nint
        rw [List.map_set]
      rw [ns1]
      have s1 := same_upd (o := .lst (nint ((wyk (ns_ R) i).set j (wy ((ns_ R).drop (j + 1)))))) sF hD
      have h1 : (upd F D (.lst (nint ((wyk (ns_ R) i).set j (wy ((ns_ R).drop (j + 1))))))) D = some (.lst (nint ((wyk (ns_ R) i).set j (wy ((ns_ R).drop (j + 1)))))) := upd_same
      have ha3 : (upd F D (.lst (nint ((wyk (ns_ R) i).set j (wy ((ns_ R).drop (j + 1))))))) a = some (.lst (ts.map V.ref)) := s1 _ _ ha
      have T3 := s1 _ _ (tv (j + 1) u r' hu1 hr1)
      generalize upd F D (.lst (nint ((wyk (ns_ R) i).set j (wy ((ns_ R).drop (j + 1)))))) = F1 at *
      refine ⟨_, rfl, _, rfl, _, _, rfl, rfl, a, _, _, _, rfl, rfl, SqL.of ha3, at_of (j := j + 1) e1 (by rw [List.getElem?_map, hu1]; rfl), u, _, _, _, rfl, rfl, SqT.of T3, rfl, rfl, _, rfl, ite2 (fun c => ?_) (fun c => ?_)⟩
      · have c1 : r'.2 = 1 := by
          have : ((r'.2 : Nat) : Int) = 1 := V.int.inj (of_decide_eq_true c)
          omega
        rw [if_pos c1] at wd_
        have ag2 : ((wyk (ns_ R) i).set j (wy ((ns_ R).drop (j + 1))))[j + 2]? = some (wy ((ns_ R).drop (j + 2))) := by
          rw [List.getElem?_set, if_neg (by omega), wyk_at (by omega), if_pos (by omega)]
        have ag0 : ((wyk (ns_ R) i).set j (wy ((ns_ R).drop (j + 1))))[j]? = some (wy ((ns_ R).drop (j + 1))) := by
          rw [List.getElem?_set, if_pos rfl, if_pos (by rw [wl]; omega)]
        refine ⟨_, rfl, _, rfl, D, _, j, _, rfl, rfl, SqL.of h1, nint_at ag0, _, rfl, _, rfl, _, _, rfl, rfl, D, _, _, _, rfl, rfl, SqL.of h1, at_of (j := j + 2) rfl (nint_at ag2), _, _, rfl, rfl, D, _, _, j, rfl, rfl, h1, ixN_nat (by rw [nint_len, List.length_set, wl]; omega), ?_⟩
        refine ⟨_, rfl, same_upd s1 hD, ?_⟩
        rw [upd_same, ← ws, wd_]
        unfold nint
        rw [List.map_set, List.set_set, List.map_set]
        rfl
      · have c1 : r'.2 ≠ 1 := fun z => c (decide_eq_true (by rw [z]; rfl))
        rw [if_neg c1] at wd_
        refine ⟨_, rfl, s1, ?_⟩
        rw [h1, ← ws, wd_]
        rfl
    · rintro σ F ⟨x2, rfl, sF, hF⟩
      rw [wyk_end _ (by omega)] at hF
      exact ⟨_, rfl, q D F sF hD hF⟩
end
section
variable {P : Program} {w : World} {K : PySem.W.Frag} {mg : Str → Option Value} {base : Heap} {f : Addr} {fd : FuncData}
theorem ok_L__init__ {C : Addr} (F : Fun K "__init__" "LeastDances.__init__" s_L__init__ f fd) (T : TxL K mg C) (D_runs : Dfn P w K mg base "runs" 2 ["fraction"] spRuns) (D_ways_on : Dfn P w K mg base "ways_on" 2 ["all_runs"] spWaysOn)  : FnOk P w K mg base CX0 3 f fd ["self", "fraction"] (spInitL C) := by
  refine F.ok sc_L__init__ (fun vs H Q E h => ?_) (fun cdv A outer s H vs Q E hr h => ?_)
  · obtain ⟨H0, p, t, dx, v, rfl, s0, p0, hp, hT, ntp, g, zs, q⟩ := h
    rfl
  obtain ⟨H0, p, t, dx, v, rfl, s0, p0, hp, hT, ntp, g, zs, q⟩ := h
  refine ⟨_, (pss_cons (ps_fld (pv 0) (pv 1) rfl)
    (pss_cons (ps_fld (pv 0) (pe_do D_runs hr (pa_cons (pv 1) pa_nil)) rfl)
    (pss_one (ps_fld (pv 0) (pe_do D_ways_on hr (pa_cons (pe_fld (pv 0) rfl) pa_nil)) rfl)))), ?_⟩
  have b8 := stp8 g (by omega)
  have rf := rl_fit g
  refine ⟨_, rfl, _, rfl, p, C, dx, [], rfl, hp, T.cl, T.nF, (by show 0 < 1000; decide), ?_⟩
  have s1 : Same H0 (upd H p (.ins C dx (putF "fraction" (.ref t) []))) := same_upd s0 p0
  have h1 : (upd H p (.ins C dx (putF "fraction" (.ref t) []))) p = some (.ins C dx (putF "fraction" (.ref t) [])) := upd_same
  have T1 : Tup2 (upd H p (.ins C dx (putF "fraction" (.ref t) []))) t v := by unfold Tup2; rw [upd_ne ntp]; exact hT
  generalize upd H p (.ins C dx (putF "fraction" (.ref t) [])) = H1 at *
  refine ⟨_, rfl, t, v, rfl, T1, g, b8.1, b8.2, fun r H2 s2 nr hr => ?_⟩
  have hr' : Rn H2 r (rl v) := hr
  have h2 := s2 _ _ h1
  have npr : p ≠ r := fun z => by rw [← z, h1] at nr; cases nr
  refine ⟨_, rfl, p, C, dx, _, rfl, h2, T.cl, T.nR, (by show 1 < 1000; decide), ?_⟩
  have keep2 : ∀ (H' : Hp) (o : HO) (b : Addr) (u : HO), b ≠ p → H' b = some u → (upd H' p o) b = some u := fun H' o b u n h => by rw [upd_ne n]; exact h
  have tupp : ∀ (H' : Hp) (a : Addr) (xs : List V) (fs : List (Str × V)), H' p = some (.ins C dx fs) → H' a = some (.tup xs) → a ≠ p := fun H' a xs fs e1 e2 z => by rw [z, e1] at e2; cases e2
  have R3 : Rn (upd H2 p (.ins C dx (putF "runs" (.ref r) (putF "fraction" (.ref t) [])))) r (rl v) := by
    obtain ⟨ts, e1, e2, e3⟩ := hr'
    exact ⟨ts, keep2 _ _ _ _ npr.symm e1, e2, fun i u x h1' h2' => keep2 _ _ _ _ (tupp _ _ _ _ h2 (e3 i u x h1' h2')) (e3 i u x h1' h2')⟩
  have T3 : Tup2 (upd H2 p (.ins C dx (putF "runs" (.ref r) (putF "fraction" (.ref t) [])))) t v := keep2 _ _ _ _ ntp (T1.same s2)
  have s3 : Same H0 (upd H2 p (.ins C dx (putF "runs" (.ref r) (putF "fraction" (.ref t) [])))) := same_upd (s1.trans s2) p0
  have h3 : (upd H2 p (.ins C dx (putF "runs" (.ref r) (putF "fraction" (.ref t) [])))) p = some (.ins C dx (putF "runs" (.ref r) (putF "fraction" (.ref t) []))) := upd_same
  generalize upd H2 p (.ins C dx (putF "runs" (.ref r) (putF "fraction" (.ref t) []))) = H3 at *
  have lr : (putF "runs" (.ref r) (putF "fraction" (.ref t) [])).lookup ("runs" : Str) = some (V.ref r) := by rw [lookup_putF, if_pos rfl]
  refine ⟨_, rfl, p, C, dx, _, _, rfl, h3, T.cl, T.nR, lr, r, rl v, rfl, R3, rf.1, by omega, fun w' H4 s4 nw hw => ?_⟩
  have h4 := s4 _ _ h3
  have npw : p ≠ w' := fun z => by rw [← z, h3] at nw; cases nw
  refine ⟨_, rfl, p, C, dx, _, rfl, h4, T.cl, T.nW, (by show 2 < 1000; decide), ?_⟩
  have R4 := R3.same s4
  refine q _ (same_upd (s3.trans s4) p0) ⟨dx, t, r, w', upd_same, keep2 _ _ _ _ ntp (T3.same s4), ?_, keep2 _ _ _ _ npw.symm hw⟩
  obtain ⟨ts, e1, e2, e3⟩ := R4
  exact ⟨ts, keep2 _ _ _ _ npr.symm e1, e2, fun i u x h1' h2' => keep2 _ _ _ _ (tupp _ _ _ _ h4 (e3 i u x h1' h2')) (e3 i u x h1' h2')⟩
end
section
variable {P : Program} {w : World} {K : PySem.W.Frag} {mg : Str → Option Value} {base : Heap} {f : Addr} {fd : FuncData}
theorem ok_Ldance_count {C : Addr} (F : Fun K "dance_count" "LeastDances.dance_count" s_Ldance_count f fd) (T : TxL K mg C)   : FnOk P w K mg base CX0 1 f fd ["self"] (spCountL C) := by
  refine F.ok sc_Ldance_count (fun vs H Q E h => ?_) (fun cdv A outer s H vs Q E hr h => ?_)
  · obtain ⟨p, v, rfl, ob, g, q⟩ := h
    rfl
  obtain ⟨p, v, rfl, ob, g, q⟩ := h
  refine ⟨_, (pss_one (ps_ret (pe_ix ix_list (pe_fld (pv 0) rfl) pe_int (fun _ _ => rfl)))), ?_⟩
  obtain ⟨dx, t, r, w', hp, hT, hR, hw⟩ := ob
  have rf := rl_fit g
  have e0 : (nint (wys (ns_ (rl v))))[0]? = some (V.int ((wy (ns_ (rl v)) : Nat) : Int)) := nint_at (by rw [wys_at (by rw [ns_len]; omega)]; rfl)
  exact ⟨_, rfl, p, C, dx, _, _, rfl, hp, T.cl, T.nW, lf_ways _ _ _, w', _, _, _, rfl, rfl, SqL.of hw, at_of (j := 0) rfl e0, q⟩
end
section
variable {P : Program} {w : World} {K : PySem.W.Frag} {mg : Str → Option Value} {base : Heap} {f : Addr} {fd : FuncData}
theorem ok_Ldance {C : Addr} (F : Fun K "dance" "LeastDances.dance" s_Ldance f fd) (T : TxL K mg C) (y_len : mg "len" = none) {pr gg : Addr} {fdC : FuncData} (PR : PropOf K C "dance_count" pr gg) (GC : FnOk P w K mg base CX0 1 gg fdC ["self"] (spCountL C)) (bC : Binds K fdC ["self"] []) : FnOk P w K mg base CX0 3 f fd ["self", "rank"] (spDanceL C) := by
  refine F.ok sc_Ldance (fun vs H Q E h => ?_) (fun cdv A outer s H vs Q E hr h => ?_)
  · obtain ⟨p, v, k, rfl, ob, g, zs, hk, q⟩ := h
    rfl
  obtain ⟨p, v, k, rfl, ob, g, zs, hk, q⟩ := h
  refine ⟨_, (pss_cons (ps_if (PW.pt (pw_or (pt_cmpR op_lt (pv 1) pe_int (nomark _)) (pw_or1 (pt_cmpR op_ge (pv 1) (pe_prop (pv 0) T.cl PR GC (hr.mono (by decide)) bC .nil pass0 rfl) (nomark _))))) (pss_one ps_never) pss_nil)
    (pss_cons (ps_asg (pe_ix ix_list (pe_fld (pv 0) rfl) pe_int (fun _ _ => rfl)) (pg_tup (by rfl) (pgs_cons (pg_name (i := 2) sc_Ldance.nd rfl (.inl rfl)) (pgs_cons (pg_name (i := 3) sc_Ldance.nd rfl (.inl rfl)) pgs_nil))))
    (pss_cons (ps_set (i := 4) sc_Ldance.nd rfl (.inl rfl) (pe_lst (pa_cons (pe_op op_mul_str (pv 2) (pv 3)) pa_nil)))
    (pss_cons (ps_set (i := 5) sc_Ldance.nd rfl (.inl rfl) pe_int)
    (pss_cons (ps_while PassesOwn.never (pt_cmpR op_lt (pe_op op_add (pv 5) pe_int) (pe_callB call_len_seq rfl y_len PySem.boot_len (pa_cons (pe_fld (pv 0) rfl) pa_nil)) (nomark _)) (pss_cons (ps_if (pt_cmpR op_lt (pv 1) (pe_ix ix_list (pe_fld (pv 0) rfl) (pe_op op_add (pv 5) pe_int) (fun _ _ => rfl)) (nomark _)) (pss_cons (ps_aug (i := 5) sc_Ldance.nd rfl (.inl rfl) pe_int ip_add)
    (pss_one (ps_expr (pe_bm PySem.F.plainAttrs_list PySem.F.slot_list_append PySem.F.type_list_append mt_append (pv 4) (pa_cons pe_str pa_nil))))) (pss_cons (ps_aug (i := 1) sc_Ldance.nd rfl (.inl rfl) (pe_ix ix_list (pe_fld (pv 0) rfl) (pe_op op_add (pv 5) pe_int) (fun _ _ => rfl)) ip_sub)
    (pss_cons (ps_aug (i := 5) sc_Ldance.nd rfl (.inl rfl) pe_int ip_add)
    (pss_one (ps_expr (pe_bm PySem.F.plainAttrs_list PySem.F.slot_list_append PySem.F.type_list_append mt_append (pv 4) (pa_cons (pe_op op_add_str (pe_op op_add_str (pv 2) pe_str) (pv 2)) pa_nil)))))))
    (pss_cons (ps_asg (pe_ix ix_list (pe_fld (pv 0) rfl) (pv 5) (fun _ _ => rfl)) (pg_tup (by rfl) (pgs_cons (pg_name (i := 2) sc_Ldance.nd rfl (.inl rfl)) (pgs_cons (pg_name (i := 3) sc_Ldance.nd rfl (.inl rfl)) pgs_nil))))
    (pss_one (ps_expr (pe_bm PySem.F.plainAttrs_list PySem.F.slot_list_append PySem.F.type_list_append mt_append (pv 4) (pa_cons (pe_op op_mul_str (pv 2) (pv 3)) pa_nil)))))))
    (pss_one (ps_ret (pe_join pe_str (pv 4))))))))), ?_⟩
  obtain ⟨dx, t, r, w', hp, hT, hR, hw⟩ := id ob
  obtain ⟨ts, hr, tl, tv⟩ := id hR
  have rf := rl_fit g
  have one : 1 ≤ sizeLine := fits (by decide)
  have big : ∀ x ∈ rl v, x.2 ≤ 2000 := fun x hx => by
    have m : x.2 ∈ ns_ (rl v) := List.mem_map.mpr ⟨x, hx, rfl⟩
    have := le_sum m
    omega
  have alt := alt_rl v
  have ld0 := ld_rl_len g hk
  have wl := wys_len (ns_ (rl v))
  have nl := ns_len (rl v)
  generalize hRR : rl v = R at *
  refine ⟨_, rfl, _, _, rfl, rfl, _, rfl, ite2 (fun c => absurd (of_decide_eq_true c) (by omega)) (fun _ => ?_)⟩
  refine ⟨_, rfl, _, rfl, p, dx, _, rfl, hp, p, v, rfl, ob, g, _, _, rfl, rfl, _, rfl, ?_⟩
  rw [hRR]
  refine ite2 (fun c => absurd (of_decide_eq_true c) (by omega)) (fun _ => ?_)
  obtain ⟨x0, R', rfl⟩ : ∃ x0 R', R = x0 :: R' := by
    cases R with
    | nil => exact absurd rf.1 (by decide)
    | cons x R' => exact ⟨x, R', rfl⟩
  obtain ⟨u0, hu0⟩ : ∃ u0, ts[0]? = some u0 := ⟨_, List.getElem?_eq_getElem (by omega)⟩
  have T0 := tv 0 u0 x0 hu0 rfl
  refine ⟨_, rfl, p, C, dx, _, _, rfl, hp, T.cl, T.nR, lf_runs _ _ _, r, _, _, _, rfl, rfl, SqL.of hr, at_of (j := 0) rfl (by rw [List.getElem?_map, hu0]; rfl), ?_⟩
  refine ⟨u0, _, rfl, SqT.of T0, rfl, _, _, rfl, _, _, rfl, rfl, ?_⟩
  have b0 := big x0 List.mem_cons_self
  refine ⟨_, rfl, _, rfl, [x0.1], (x0.2 : Int), rfl, rfl, by omega, by omega, by rw [Int.toNat_natCast]; show 1 * x0.2 ≤ _; omega, ?_⟩
  rw [Int.toNat_natCast, flat_one]
  refine ⟨one, fun wp hwp => ?_⟩
  have s1 := same_new hwp (.lst [V.str (S (List.replicate x0.2 x0.1))])
  refine while_by (fun σ G => ∃ (at_ k' : Nat) (x : Nat × Nat) (R'' : List (Nat × Nat)) (Ws : List (List Nat)), σ = [some (.ref p), some (.int (k' : Int)), some (.str (S [x.1])), some (.int (x.2 : Int)), some (.ref wp), some (.int (at_ : Int))] ∧ Same H G ∧ G wp = some (.lst ((Ws.map S).map V.str)) ∧ (x0 :: R').drop at_ = x :: R'' ∧ k' < wy (ns_ (x :: R'')) ∧ Ws.flatten ++ ldt (x :: R'') k' = ld (x0 :: R') k ∧ Ws.length ≤ 2 * at_ + 1) (fun σ _ => match σ with | [_, _, _, _, _, some (.int a)] => (5000 - a).toNat | _ => 0) ⟨0, k, x0, R', [wd x0], rfl, s1, upd_same, rfl, hk, by rw [ld_ldt]; simp, Nat.le_refl _⟩ ?_ ?_
  · rintro σ G ⟨a, k', x, R'', Ws, rfl, sG, hG, ed, hk', ew, zw⟩
    have hp' := sG _ _ hp
    have hr' := sG _ _ hr
    have hw' := sG _ _ hw
    have ela : a + (x :: R'').length = (x0 :: R').length := by
      have := congrArg List.length ed
      rw [List.length_drop] at this
      have h2 : (x :: R'').length = R''.length + 1 := rfl
      omega
    have e1 : ((a : Int) + 1) = ((a + 1 : Nat) : Int) := rfl
    refine ⟨_, rfl, _, _, rfl, rfl, _, rfl, p, C, dx, _, _, rfl, hp', T.cl, T.nR, lf_runs _ _ _, r, _, rfl, .inl (SqL.of hr'), _, _, rfl, rfl, _, rfl, ite2 (fun c => ?_) (fun c => ?_)⟩
    · have c' : a + 1 < (x0 :: R').length := by
        have : (a : Int) + 1 < ((ts.map V.ref).length : Int) := of_decide_eq_true c
        rw [List.length_map, tl] at this
        omega
      obtain ⟨y, R3, rfl⟩ : ∃ y R3, R'' = y :: R3 := by
        cases R'' with
        | nil =>
          have : ([x] : List (Nat × Nat)).length = 1 := rfl
          omega
        | cons y R3 => exact ⟨y, R3, rfl⟩
      have ed1 : (x0 :: R').drop (a + 1) = y :: R3 := by
        have := congrArg (List.drop 1) ed
        rw [List.drop_drop] at this
        exact this
      have ew1 : (nint (wys (ns_ (x0 :: R'))))[a + 1]? = some (V.int ((wy (ns_ (y :: R3)) : Nat) : Int)) := nint_at (by rw [wys_at (by omega), ← ns_drop, ed1])
      have ldte : ldt (x :: y :: R3) k' = if k' < wy (ns_ (y :: R3)) then 82 :: ld (y :: R3) k' else x.1 :: 82 :: x.1 :: ld R3 (k' - wy (ns_ (y :: R3))) := rfl
      refine ⟨_, rfl, _, rfl, p, C, dx, _, _, rfl, hp', T.cl, T.nW, lf_ways _ _ _, _, rfl, _, _, rfl, rfl, w', _, _, _, rfl, rfl, SqL.of hw', at_of (j := a + 1) e1 ew1, _, _, rfl, rfl, _, rfl, ite2 (fun c2 => ?A) (fun c2 => ?B)⟩
      case' A =>
        have c2' : k' < wy (ns_ (y :: R3)) := by
          have : (k' : Int) < ((wy (ns_ (y :: R3)) : Nat) : Int) := of_decide_eq_true c2
          omega
        rw [if_pos c2'] at ldte
        refine ⟨_, rfl, _, _, rfl, rfl, _, rfl, .inl ⟨rfl, _, SqL.of hG⟩, wp, _, _, rfl, rfl, hG, Nat.lt_of_lt_of_le (show ((Ws.map S).map V.str).length < 16777216 by rw [List.length_map, List.length_map]; omega) sizeLine_big, ?_⟩
        rw [e_R]
        have s2 := same_upd (o := .lst ((Ws.map S).map V.str ++ [V.str (S [82])])) sG hwp
        have hG2 : (upd G wp (.lst ((Ws.map S).map V.str ++ [V.str (S [82])]))) wp = some (.lst (((Ws ++ [[82]]).map S).map V.str)) := by rw [upd_same, List.map_append, List.map_append]; rfl
        have ew2 : (Ws ++ [[82]]).flatten ++ ld (y :: R3) k' = ld (x0 :: R') k := by
          rw [← ew, ldte, List.flatten_append, List.append_assoc]
          rfl
        have kk : k' < wy (ns_ (y :: R3)) := c2'
        have edn := ed1
        have zw2 : (Ws ++ [[82]]).length ≤ 2 * a + 2 := by rw [List.length_append]; show Ws.length + 1 ≤ _; omega
        have al : a + 1 < ts.length := by omega
        generalize upd G wp (.lst ((Ws.map S).map V.str ++ [V.str (S [82])])) = G2 at *
        generalize Ws ++ [[82]] = W2 at hG2 ew2 zw2
        obtain ⟨an, han⟩ : ∃ an : Nat, an = a + 1 := ⟨_, rfl⟩
        have e2 : ((a : Int) + 1) = (an : Int) := by omega
        have zw3 : W2.length ≤ 2 * an := by omega
        have lan : a < an := by omega
        rw [← han] at edn al
        dsimp only
        rw [e2]
        generalize k' = kn at kk ew2 ⊢
        generalize y = yn at kk ew2 edn
        generalize R3 = Rn3 at kk ew2 edn
      case' B =>
        have c2' : ¬ k' < wy (ns_ (y :: R3)) := fun z => c2 (decide_eq_true (by omega))
        rw [if_neg c2'] at ldte
        obtain ⟨n2, r', f1, f2, f3⟩ := wy_else (n0 := x.2) (n1 := y.2) (r := ns_ R3) (k := k') hk' c2'
        obtain ⟨z, R4, rfl⟩ : ∃ z R4, R3 = z :: R4 := by
          cases R3 with
          | nil => cases f1
          | cons z R4 => exact ⟨z, R4, rfl⟩
        have kk : k' - wy (ns_ (y :: z :: R4)) < wy (ns_ (z :: R4)) := by rw [← f1] at f3; exact f3
        have edn : (x0 :: R').drop (a + 2) = z :: R4 := by
          have := congrArg (List.drop 1) ed1
          rw [List.drop_drop] at this
          exact this
        refine ⟨_, rfl, _, rfl, p, C, dx, _, _, rfl, hp', T.cl, T.nW, lf_ways _ _ _, _, rfl, _, _, rfl, rfl, w', _, _, _, rfl, rfl, SqL.of hw', at_of (j := a + 1) e1 ew1, _, _, rfl, rfl, ?_⟩
        refine ⟨_, rfl, _, _, rfl, rfl, _, rfl, .inl ⟨rfl, _, SqL.of hG⟩, _, rfl, _, _, rfl, rfl, by rw [e_R, S_len, S_len]; exact fits (by show 1 + 1 ≤ 16777216; decide), ?_⟩
        rw [e_R, S_app]
        refine ⟨_, rfl, _, _, rfl, rfl, by rw [S_len, S_len]; exact fits (by show 2 + 1 ≤ 16777216; decide), ?_⟩
        rw [S_app]
        refine ⟨wp, _, _, rfl, rfl, hG, Nat.lt_of_lt_of_le (show ((Ws.map S).map V.str).length < 16777216 by rw [List.length_map, List.length_map]; omega) sizeLine_big, ?_⟩
        have s2 := same_upd (o := .lst ((Ws.map S).map V.str ++ [V.str (S ([x.1] ++ [82] ++ [x.1]))])) sG hwp
        have hG2 : (upd G wp (.lst ((Ws.map S).map V.str ++ [V.str (S ([x.1] ++ [82] ++ [x.1]))]))) wp = some (.lst (((Ws ++ [[x.1] ++ [82] ++ [x.1]]).map S).map V.str)) := by rw [upd_same, List.map_append, List.map_append]; rfl
        have ew2 : (Ws ++ [[x.1] ++ [82] ++ [x.1]]).flatten ++ ld (z :: R4) (k' - wy (ns_ (y :: z :: R4))) = ld (x0 :: R') k := by
          rw [← ew, ldte, List.flatten_append, List.append_assoc]
          rfl
        have zw2 : (Ws ++ [[x.1] ++ [82] ++ [x.1]]).length ≤ 2 * a + 2 := by rw [List.length_append]; show Ws.length + 1 ≤ _; omega
        have al : a + 2 < ts.length := by
          have h2 : (x :: y :: z :: R4).length = R4.length + 3 := rfl
          omega
        generalize upd G wp (.lst ((Ws.map S).map V.str ++ [V.str (S ([x.1] ++ [82] ++ [x.1]))])) = G2 at *
        generalize Ws ++ [[x.1] ++ [82] ++ [x.1]] = W2 at hG2 ew2 zw2
        obtain ⟨an, han⟩ : ∃ an : Nat, an = a + 2 := ⟨_, rfl⟩
        have e2 : ((a : Int) + 2) = (an : Int) := by omega
        have zw3 : W2.length ≤ 2 * an := by omega
        have lan : a < an := by omega
        rw [← han] at edn al
        have ek : (k' : Int) - ((wy (ns_ (y :: z :: R4)) : Nat) : Int) = ((k' - wy (ns_ (y :: z :: R4)) : Nat) : Int) := by omega
        dsimp only
        rw [e2, ek]
        generalize k' - wy (ns_ (y :: z :: R4)) = kn at kk ew2 ⊢
        generalize z = yn at kk ew2 edn
        generalize R4 = Rn3 at kk ew2 edn
      all_goals
        obtain ⟨u, hu⟩ : ∃ u, ts[an]? = some u := ⟨_, List.getElem?_eq_getElem al⟩
        have hxn : (x0 :: R')[an]? = some yn := by
          have := congrArg (fun l => l[0]?) edn
          simpa using this
        have Tu := s2 _ _ (tv an u yn hu hxn)
        have bn := big yn (List.mem_of_getElem? hxn)
        refine ⟨_, rfl, p, C, dx, _, _, rfl, s2 _ _ hp, T.cl, T.nR, lf_runs _ _ _, _, rfl, r, _, _, _, rfl, rfl, SqL.of (s2 _ _ hr), at_of (j := an) rfl (by rw [List.getElem?_map, hu]; rfl), ?_⟩
        refine ⟨u, _, rfl, SqT.of Tu, rfl, _, _, rfl, _, _, rfl, rfl, ?_⟩
        refine ⟨_, rfl, .inl ⟨rfl, _, SqL.of hG2⟩, _, rfl, _, rfl, [yn.1], (yn.2 : Int), rfl, rfl, by omega, by omega, by rw [Int.toNat_natCast]; show 1 * yn.2 ≤ _; omega, ?_⟩
        rw [Int.toNat_natCast, flat_one]
        refine ⟨wp, _, _, rfl, rfl, hG2, Nat.lt_of_lt_of_le (show ((W2.map S).map V.str).length < 16777216 by rw [List.length_map, List.length_map]; omega) sizeLine_big, ?_⟩
        refine ⟨⟨an, kn, yn, Rn3, W2 ++ [wd yn], rfl, same_upd s2 hwp, by rw [upd_same, List.map_append, List.map_append]; rfl, edn, kk, by rw [← ew2, ld_ldt, List.flatten_append, List.append_assoc]; simp, by rw [List.length_append]; show W2.length + 1 ≤ _; omega⟩, ?_⟩
        show (5000 - (an : Int)).toNat < (5000 - (a : Int)).toNat
        omega
    · have c' : ¬ a + 1 < (x0 :: R').length := fun z => c (decide_eq_true (by rw [List.length_map, tl]; omega))
      have r0 : R'' = [] := by
        cases R'' with
        | nil => rfl
        | cons y R3 =>
          have h2 : (x :: y :: R3).length = R3.length + 2 := rfl
          omega
      subst r0
      have ew' : Ws.flatten = ld (x0 :: R') k := by
        rw [← ew]
        exact (List.append_nil _).symm
      have fl : (Ws.map List.length).sum = (ld (x0 :: R') k).length := by rw [← ew', List.length_flatten]
      refine ⟨⟨_, rfl⟩, _, rfl, S [], wp, Ws.map S, e_empty ▸ rfl, rfl, .inl (SqL.of hG), ?_, ?_⟩
      · rw [List.map_map, S_len, List.length_map]
        have e3 : (List.map (Str.length ∘ S) Ws).sum = (Ws.map List.length).sum := by
          congr 1
        rw [e3, fl]
        show _ + _ * 0 ≤ 16777216
        omega
      · rw [join_E, ew']
        exact q G sG
  · rintro σ H' Q1 Q2 hm ⟨v0, f0, i1, j1, f1, f1', v2, f2, a1, a2, a3, a4, a5, a6, a7, a8, a9, a10, b1, b2, b3, b4, i3, j3, f3, f3', b, e3, qq⟩
    exact ⟨v0, f0, i1, j1, f1, f1', v2, f2, a1, a2, a3, a4, a5, a6, a7, a8, a9, a10, b1, b2, b3, b4, i3, j3, f3, f3', b, e3, hm _ _ qq⟩
end
section
variable {P : Program} {w : World} {K : PySem.W.Frag} {mg : Str → Option Value} {base : Heap} {f : Addr} {fd : FuncData}
theorem ok_Lrank_of {C : Addr} (F : Fun K "rank_of" "LeastDances.rank_of" s_Lrank_of f fd) (T : TxL K mg C) (D_num : Dfn P w K mg base "number" 3 ["dance"] spNum) (D_steps : Dfn P w K mg base "steps" 3 ["fraction"] spSteps) (y_len : mg "len" = none)  : FnOk P w K mg base CX0 4 f fd ["self", "dance"] (spRankL C) := by
  refine F.ok sc_Lrank_of (fun vs H Q E h => ?_) (fun cdv A outer s H vs Q E hr h => ?_)
  · obtain ⟨p, v, k, rfl, ob, g, zs, hk, q⟩ := h
    rfl
  obtain ⟨p, v, k, rfl, ob, g, zs, hk, q⟩ := h
  refine ⟨_, (pss_cons (ps_if (PW.pt (pw_or (pt_cmpR op_ne (pe_callB call_len_str rfl y_len PySem.boot_len (pa_cons (pv 1) pa_nil)) (pe_do D_steps hr (pa_cons (pe_fld (pv 0) rfl) pa_nil)) (nomark _)) (pw_or1 (pt_cmpR (op_neD hr.units) (pe_do D_num hr (pa_cons (pv 1) pa_nil)) (pe_fld (pv 0) rfl) (nomark _))))) (pss_one ps_never) pss_nil)
    (pss_cons (ps_set (i := 2) sc_Lrank_of.nd rfl (.inl rfl) pe_int)
    (pss_cons (ps_set (i := 3) sc_Lrank_of.nd rfl (.inl rfl) pe_int)
    (pss_cons (ps_set (i := 4) sc_Lrank_of.nd rfl (.inl rfl) (pe_ix ix_tup (pe_ix ix_list (pe_fld (pv 0) rfl) pe_int (fun _ _ => rfl)) pe_int (fun _ _ => rfl)))
    (pss_cons (ps_while PassesOwn.never (pt_cmpR op_lt (pe_op op_add (pv 3) pe_int) (pe_callB call_len_seq rfl y_len PySem.boot_len (pa_cons (pe_fld (pv 0) rfl) pa_nil)) (nomark _)) (pss_cons (ps_if (pt_cmpR op_eq (pe_ix ix_str (pv 1) (pv 4) (fun _ _ => rfl)) pe_str (nomark _)) (pss_cons (ps_aug (i := 3) sc_Lrank_of.nd rfl (.inl rfl) pe_int ip_add)
    (pss_one (ps_aug (i := 4) sc_Lrank_of.nd rfl (.inl rfl) pe_int ip_add))) (pss_cons (ps_aug (i := 2) sc_Lrank_of.nd rfl (.inl rfl) (pe_ix ix_list (pe_fld (pv 0) rfl) (pe_op op_add (pv 3) pe_int) (fun _ _ => rfl)) ip_add)
    (pss_cons (ps_aug (i := 3) sc_Lrank_of.nd rfl (.inl rfl) pe_int ip_add)
    (pss_one (ps_aug (i := 4) sc_Lrank_of.nd rfl (.inl rfl) pe_int ip_add)))))
    (pss_one (ps_aug (i := 4) sc_Lrank_of.nd rfl (.inl rfl) (pe_ix ix_tup (pe_ix ix_list (pe_fld (pv 0) rfl) (pv 3) (fun _ _ => rfl)) pe_int (fun _ _ => rfl)) ip_add))))
    (pss_one (ps_ret (pv 2)))))))), ?_⟩
  obtain ⟨dx, t, r, w', hp0, hT0, hR0, hw0⟩ := id ob
  have b8 := stp8 g (by omega)
  have rf := rl_fit g
  have alt := alt_rl v
  have ld0 := ld_rl_len g hk
  have run0 := ld_rl_run g hk
  have wl := wys_len (ns_ (rl v))
  have nl := ns_len (rl v)
  have al_ := fun x (hx : x ∈ rl v) => al_or (quo v) (fl v) (fl_or v) x (List.mem_reverse.mp hx)
  generalize hd : ld (rl v) k = d at *
  have dz : (S d).length ≤ sizeLine := by rw [S_len]; exact fits (by omega)
  refine ⟨_, rfl, _, rfl, dz, _, rfl, p, C, dx, _, _, rfl, hp0, T.cl, T.nF, lf_frac _ _ _, t, v, rfl, hT0, g, b8.1, b8.2, fun H1 s1 => ⟨rfl, _, rfl, ?_⟩⟩
  rw [S_len, ld0, decide_eq_true rfl]
  refine iteF ?_
  refine ⟨_, rfl, d, rfl, fun t1 H2 s2 T1 => ⟨_, rfl, p, C, dx, _, _, rfl, s2 _ _ (s1 _ _ hp0), T.cl, T.nF, lf_frac _ _ _, _, _, dp_tup2 T1, dp_tup2 ((hT0.same s1).same s2), sh2 _ _, sh2 _ _, ?_⟩⟩
  rw [eqv2, decide_eq_true run0]
  refine ⟨_, rfl, iteF ?_⟩
  have S2 := s1.trans s2
  have hp := S2 _ _ hp0
  have hw := S2 _ _ hw0
  obtain ⟨ts, hr, tl, tv⟩ := hR0.same S2
  generalize hRR : rl v = R at *
  obtain ⟨x0, R', rfl⟩ : ∃ x0 R', R = x0 :: R' := by
    cases R with
    | nil => exact absurd rf.1 (by decide)
    | cons x R' => exact ⟨x, R', rfl⟩
  obtain ⟨u0, hu0⟩ : ∃ u0, ts[0]? = some u0 := ⟨_, List.getElem?_eq_getElem (by omega)⟩
  have T0 := tv 0 u0 x0 hu0 rfl
  refine ⟨_, rfl, p, C, dx, _, _, rfl, hp, T.cl, T.nR, lf_runs _ _ _, r, _, _, _, rfl, rfl, SqL.of hr, at_of (j := 0) rfl (by rw [List.getElem?_map, hu0]; rfl), u0, _, _, _, rfl, rfl, SqT.of T0, rfl, ?_⟩
  refine while_by (fun σ G => G = H2 ∧ ∃ (a k' rk b : Nat) (x : Nat × Nat) (R'' : List (Nat × Nat)), σ = [some (.ref p), some (.str (S d)), some (.int (rk : Int)), some (.int (a : Int)), some (.int (b : Int))] ∧ rk + k' = k ∧ (x0 :: R').drop a = x :: R'' ∧ k' < wy (ns_ (x :: R'')) ∧ d.drop b = ldt (x :: R'') k') (fun σ _ => match σ with | [_, _, _, some (.int a), _] => (5000 - a).toNat | _ => 0) ⟨rfl, 0, k, 0, x0.2, x0, R', rfl, by omega, rfl, hk, ?_⟩ ?_ ?_
  · rw [← hd, ld_ldt, List.drop_append_of_le_length (by rw [wd_len]; exact Nat.le_refl _), List.drop_eq_nil_of_le (by rw [wd_len]; exact Nat.le_refl _), List.nil_append]
  · rintro σ _ ⟨rfl, a, k', rk, b, x, R'', rfl, ek, ed, hk', edr⟩
    have ela : a + (x :: R'').length = (x0 :: R').length := by
      have := congrArg List.length ed
      rw [List.length_drop] at this
      have h2 : (x :: R'').length = R''.length + 1 := rfl
      omega
    have e1 : ((a : Int) + 1) = ((a + 1 : Nat) : Int) := rfl
    have hx0 : (x0 :: R')[a]? = some x := by
      have := congrArg (fun l => l[0]?) ed
      simpa using this
    have xl := al_ x (List.mem_of_getElem? hx0)
    refine ⟨_, rfl, _, _, rfl, rfl, _, rfl, p, C, dx, _, _, rfl, hp, T.cl, T.nR, lf_runs _ _ _, r, _, rfl, .inl (SqL.of hr), _, _, rfl, rfl, _, rfl, ite2 (fun c => ?_) (fun c => ?_)⟩
    · have c' : a + 1 < (x0 :: R').length := by
        have : (a : Int) + 1 < ((ts.map V.ref).length : Int) := of_decide_eq_true c
        rw [List.length_map, tl] at this
        omega
      obtain ⟨y, R3, rfl⟩ : ∃ y R3, R'' = y :: R3 := by
        cases R'' with
        | nil =>
          have : ([x] : List (Nat × Nat)).length = 1 := rfl
          omega
        | cons y R3 => exact ⟨y, R3, rfl⟩
      have ed1 : (x0 :: R').drop (a + 1) = y :: R3 := by
        have := congrArg (List.drop 1) ed
        rw [List.drop_drop] at this
        exact this
      have ew1 : (nint (wys (ns_ (x0 :: R'))))[a + 1]? = some (V.int ((wy (ns_ (y :: R3)) : Nat) : Int)) := nint_at (by rw [wys_at (by omega), ← ns_drop, ed1])
      have ldte : ldt (x :: y :: R3) k' = if k' < wy (ns_ (y :: R3)) then 82 :: ld (y :: R3) k' else x.1 :: 82 :: x.1 :: ld R3 (k' - wy (ns_ (y :: R3))) := rfl
      rw [ldte] at edr
      by_cases c2 : k' < wy (ns_ (y :: R3))
      · rw [if_pos c2] at edr
        have hc : d[b]? = some 82 := by
          have := congrArg (fun l => l[0]?) edr
          simpa using this
        have hcs : (S d).cps.toList[b]? = some 82 := by rw [S_list]; exact hc
        have edn : d.drop (b + 1 + y.2) = ldt (y :: R3) k' := by
          have := congrArg (List.drop (1 + y.2)) edr
          rw [List.drop_drop] at this
          rw [show b + 1 + y.2 = b + (1 + y.2) by omega, this, show 1 + y.2 = y.2 + 1 by omega, List.drop_succ_cons, ld_ldt, List.drop_append_of_le_length (by rw [wd_len]; exact Nat.le_refl _), List.drop_eq_nil_of_le (by rw [wd_len]; exact Nat.le_refl _), List.nil_append]
        have al : a + 1 < ts.length := by omega
        obtain ⟨u, hu⟩ : ∃ u, ts[a + 1]? = some u := ⟨_, List.getElem?_eq_getElem al⟩
        have hxn : (x0 :: R')[a + 1]? = some y := by
          have := congrArg (fun l => l[0]?) ed1
          simpa using this
        have Tu := tv (a + 1) u y hu hxn
        refine ⟨_, rfl, _, rfl, _, _, 82, rfl, rfl, dz, atI_nat hcs, rfl, _, rfl, ?_⟩
        rw [show decide (V.str ⟨#[82]⟩ = V.str "R") = true from decide_eq_true ((sign_eq e_R).mpr rfl)]
        refine iteT ⟨_, rfl, _, _, rfl, rfl, _, rfl, _, _, rfl, rfl, ?_⟩
        refine ⟨_, rfl, _, rfl, p, C, dx, _, _, rfl, hp, T.cl, T.nR, lf_runs _ _ _, _, rfl, r, _, _, _, rfl, rfl, SqL.of hr, at_of (j := a + 1) e1 (by rw [List.getElem?_map, hu]; rfl), u, _, _, _, rfl, rfl, SqT.of Tu, rfl, _, _, rfl, rfl, ⟨rfl, a + 1, k', rk, b + 1 + y.2, y, R3, rfl, ek, ed1, c2, edn⟩, ?_⟩
        show (5000 - ((a : Int) + 1)).toNat < (5000 - (a : Int)).toNat
        omega
      · rw [if_neg c2] at edr
        obtain ⟨n2, r', f1, f2, f3⟩ := wy_else (n0 := x.2) (n1 := y.2) (r := ns_ R3) (k := k') hk' c2
        obtain ⟨z, R4, rfl⟩ : ∃ z R4, R3 = z :: R4 := by
          cases R3 with
          | nil => cases f1
          | cons z R4 => exact ⟨z, R4, rfl⟩
        have kk : k' - wy (ns_ (y :: z :: R4)) < wy (ns_ (z :: R4)) := by rw [← f1] at f3; exact f3
        have ed2 : (x0 :: R').drop (a + 2) = z :: R4 := by
          have := congrArg (List.drop 1) ed1
          rw [List.drop_drop] at this
          exact this
        have hc : d[b]? = some x.1 := by
          have := congrArg (fun l => l[0]?) edr
          simpa using this
        have hcs : (S d).cps.toList[b]? = some x.1 := by rw [S_list]; exact hc
        have edn : d.drop (b + 3 + z.2) = ldt (z :: R4) (k' - wy (ns_ (y :: z :: R4))) := by
          have := congrArg (List.drop (3 + z.2)) edr
          rw [List.drop_drop] at this
          rw [show b + 3 + z.2 = b + (3 + z.2) by omega, this, show 3 + z.2 = z.2 + 1 + 1 + 1 by omega, List.drop_succ_cons, List.drop_succ_cons, List.drop_succ_cons, ld_ldt, List.drop_append_of_le_length (by rw [wd_len]; exact Nat.le_refl _), List.drop_eq_nil_of_le (by rw [wd_len]; exact Nat.le_refl _), List.nil_append]
        have al : a + 2 < ts.length := by
          have h2 : (x :: y :: z :: R4).length = R4.length + 3 := rfl
          omega
        obtain ⟨u, hu⟩ : ∃ u, ts[a + 2]? = some u := ⟨_, List.getElem?_eq_getElem al⟩
        have hxn : (x0 :: R')[a + 2]? = some z := by
          have := congrArg (fun l => l[0]?) ed2
          simpa using this
        have Tu := tv (a + 2) u z hu hxn
        refine ⟨_, rfl, _, rfl, _, _, x.1, rfl, rfl, dz, atI_nat hcs, rfl, _, rfl, ?_⟩
        rw [show decide (V.str ⟨#[x.1]⟩ = V.str "R") = false from decide_eq_false (fun zz => by have := (sign_eq e_R).mp zz; omega)]
        refine iteF ⟨_, rfl, _, rfl, p, C, dx, _, _, rfl, hp, T.cl, T.nW, lf_ways _ _ _, _, rfl, _, _, rfl, rfl, w', _, _, _, rfl, rfl, SqL.of hw, at_of (j := a + 1) e1 ew1, _, _, rfl, rfl, ?_⟩
        refine ⟨_, rfl, _, _, rfl, rfl, _, rfl, _, _, rfl, rfl, ?_⟩
        refine ⟨_, rfl, _, rfl, p, C, dx, _, _, rfl, hp, T.cl, T.nR, lf_runs _ _ _, _, rfl, r, _, _, _, rfl, rfl, SqL.of hr, at_of (j := a + 2) rfl (by rw [List.getElem?_map, hu]; rfl), u, _, _, _, rfl, rfl, SqT.of Tu, rfl, _, _, rfl, rfl, ⟨rfl, a + 2, k' - wy (ns_ (y :: z :: R4)), rk + wy (ns_ (y :: z :: R4)), b + 3 + z.2, z, R4, rfl, by omega, ed2, kk, edn⟩, ?_⟩
        show (5000 - ((a : Int) + 2)).toNat < (5000 - (a : Int)).toNat
        omega
    · have c' : ¬ a + 1 < (x0 :: R').length := fun z => c (decide_eq_true (by rw [List.length_map, tl]; omega))
      have r0 : R'' = [] := by
        cases R'' with
        | nil => rfl
        | cons y R3 =>
          have h2 : (x :: y :: R3).length = R3.length + 2 := rfl
          omega
      subst r0
      have w1 : wy (ns_ [x]) = 1 := rfl
      have : rk = k := by omega
      subst this
      exact ⟨_, rfl, q _ S2⟩
  · rintro σ H' Q1 Q2 hm ⟨v0, f0, i1, j1, f1, f1', v2, f2, a1, a2, a3, a4, a5, a6, a7, a8, a9, a10, b1, b2, b3, b4, i3, j3, f3, f3', b, e3, qq⟩
    exact ⟨v0, f0, i1, j1, f1, f1', v2, f2, a1, a2, a3, a4, a5, a6, a7, a8, a9, a10, b1, b2, b3, b4, i3, j3, f3, f3', b, e3, hm _ _ qq⟩
end
section
/-! ### what the head tells: the table of opposites, the law's promise -/
theorem key_is {e : DictEntry} {x : Str} {k : Int} (h : He.keyOf e = some (x, k)) : ∃ t, e.key = .str x t := by
  unfold He.keyOf at h
  split at h
  · rename_i y t q
    obtain ⟨h1, _⟩ := Prod.mk.inj (Option.some.inj h)
    exact ⟨t, by rw [q, h1]⟩
  · cases h
theorem opp_of {K : PySem.W.Frag} {w : World} {a : Addr} (hd : He.dicW K a = some (He.keysIn w.params ["T", "U", "R"])) (hv : He.valsB K a [("T", .str "U"), ("U", .str "T"), ("R", .str "R")] = true) : Opp K w a := by
  obtain ⟨es, n, D⟩ := He.dicW_ok hd
  have v1 := He.valsB_ok hv (q := ("T", .str "U")) (List.mem_cons_self ..)
  have v2 := He.valsB_ok hv (q := ("U", .str "T")) (List.mem_cons_of_mem _ (List.mem_cons_self ..))
  have v3 := He.valsB_ok hv (q := ("R", .str "R")) (List.mem_cons_of_mem _ (List.mem_cons_of_mem _ (List.mem_cons_self ..)))
  refine ⟨⟨es, n, D⟩, fun c hc => ?_, fun c hc => ?_⟩
  · rcases letter_iff.mp hc with rfl | rfl | rfl
    · rw [← e_T, show opp 84 = 85 from rfl, ← e_U]; exact v1
    · rw [← e_U, show opp 85 = 84 from rfl, ← e_T]; exact v2
    · rw [← e_R, show opp 82 = 82 from rfl, ← e_R]; exact v3
  · have lk := D.at_
    unfold He.dicW at hd
    rw [lk] at hd
    have keys : es.toList.map He.keyOf = He.keysIn w.params ["T", "U", "R"] := by
      simp only at hd
      split at hd
      · exact Option.some.inj hd
      · cases hd
    obtain ⟨e1, r1, q1, k1, m1⟩ := List.map_eq_cons_iff.mp keys
    obtain ⟨e2, r2, q2, k2, m2⟩ := List.map_eq_cons_iff.mp m1
    obtain ⟨e3, r3, q3, k3, m3⟩ := List.map_eq_cons_iff.mp m2
    have q4 : r3 = [] := List.map_eq_nil_iff.mp m3
    subst q4
    obtain ⟨t1, k1⟩ := key_is k1
    obtain ⟨t2, k2⟩ := key_is k2
    obtain ⟨t3, k3⟩ := key_is k3
    have no : ∀ {b : Nat} {z : Str}, z = S [b] → letter b = true → ¬ z = S [c] := fun {b z} e hb q => by
      rw [e] at q
      have := S_inj q
      simp at this
      rw [this, hc] at hb
      cases hb
    have n1 := no e_T (by decide)
    have n2 := no e_U (by decide)
    have n3 := no e_R (by decide)
    unfold PySem.W.nsIn
    rw [lk]
    simp only
    rw [q1, q2, q3]
    simp [k1, k2, k3, Value.isStr, DictEntry.refKey, n1, n2, n3]
end
section
theorem kind_alike (a : Bool) : decide (V.str (kindS a) = V.str "alike") = a := by cases a <;> decide +kernel
theorem mir_len (l : List Nat) : (mir l).length = l.length := by unfold mir; rw [List.length_map]
theorem lets_rev {l : List Nat} (h : Lets l) : Lets l.reverse := fun c hc => h c (List.mem_reverse.mp hc)
theorem mir_twice {l : List Nat} (h : Lets l) : mir (mir l) = l := by
  unfold mir
  rw [List.map_map]
  have : l.map (opp ∘ opp) = l.map id := by
    apply List.map_congr_left
    intro c hc
    rcases h c hc with rfl | rfl | rfl <;> rfl
  rw [this, List.map_id]
theorem undo_back {l : List Nat} (h : Lets l) : mir (mir l.reverse).reverse = l := by
  have e : (mir l.reverse).reverse = mir l := by
    unfold mir
    rw [← List.map_reverse, List.reverse_reverse]
  rw [e, mir_twice h]
theorem stp_back : ∀ (l : List Nat) {v : Int × Int}, Good v → stp v ≤ stp (run v l) + l.length
  | [], _, _ => Nat.le_refl _
  | c :: l, v, g => by
    have a := stp_back l (g.called c)
    have b := (stp_near g c).2
    show stp v ≤ stp (run (called v c) l) + (l.length + 1)
    omega
def spAlike (Pt : Addr) : Sp := fun vs H Q _ => ∃ (l m : List Nat), vs = [.str (S l), .str (S m)] ∧ Lets l ∧ Lets m ∧ l.length ≤ 125 ∧ m.length ≤ 125 ∧ run (0, 1) l = run (0, 1) m ∧ GxR.TabG H Pt ∧ ∀ H', Bt Pt H H' → Q (.bl true) H'
def spLaw (K : PySem.W.Frag) (Pt : Addr) : Sp := fun vs H Q _ => ∃ (a : Addr) (ns : List Int), vs = [.ref a] ∧ SqL K H a (ns.map V.int) ∧ ns.length ≤ 63 ∧ GxR.TabG H Pt ∧ ∀ H', Q (.bl true) H'
def spLawK (K : PySem.W.Frag) : Sp := spLaw K (He.cT K ("is_colouring", none)).2
end
section
variable {P : Program} {w : World} {K : PySem.W.Frag} {mg : Str → Option Value} {base : Heap} {f : Addr} {fd : FuncData}
theorem ok_law_alike (F : Fun K "_law_alike" "_law_alike" s_law_alike f fd) (D_judge : Dfn P w K mg base "judge" 7 ["one", "other"] spJudge) (D_accepts : Dfn P w K mg base "accepts" 7 ["one", "other", "paper"] (spAcc Pt))  : FnOk P w K mg base CX0 8 f fd ["one", "other"] (spAlike Pt) := by
  refine F.ok sc_law_alike (fun vs H Q E h => ?_) (fun cdv A outer s H vs Q E hr h => ?_)
  · obtain ⟨l, m, rfl, hl, hm, zl, zm, e, tg, q⟩ := h
    rfl
  obtain ⟨l, m, rfl, hl, hm, zl, zm, e, tg, q⟩ := h
  refine ⟨_, (pss_cons (ps_set (i := 2) sc_law_alike.nd rfl (.inl rfl) (pe_do D_judge hr (pa_cons (pv 0) (pa_cons (pv 1) pa_nil))))
    (pss_one (ps_ret (pe_and (pe_cmpR op_eq (pe_ix ix_tup (pv 2) pe_int (fun _ _ => rfl)) pe_str (nomark _)) (pe_one (pe_cmpR op_is_bl (pe_do D_accepts hr (pa_cons (pv 0) (pa_cons (pv 1) (pa_cons (pv 2) pa_nil)))) pe_bl (nomark _))))))), ?_⟩
  refine ⟨_, rfl, _, rfl, l, m, rfl, hl, hm, by omega, by omega, fun t H1 s1 pa => ?_⟩
  have tg1 := TabG.same tg s1
  obtain ⟨xs, ht⟩ := pa.kind
  rw [decide_eq_true e] at ht
  refine ⟨_, rfl, t, _, _, _, rfl, rfl, SqT.of ht, (atI_nat (j := 0) rfl : atI (V.str _ :: xs) ((0 : Nat) : Int) = _), rfl, ?_⟩
  rw [kind_alike]
  exact ⟨_, rfl, iteT ⟨_, rfl, _, rfl, _, rfl, l, m, t, rfl, hl, hm, zl, zm, pa, tg1, fun H2 b2 => ⟨_, _, rfl, rfl, q H2 (((Bt.refl tg).same s1).trans b2)⟩⟩⟩
end
section
variable {P : Program} {w : World} {K : PySem.W.Frag} {mg : Str → Option Value} {base : Heap} {f : Addr} {fd : FuncData}
theorem ok_law (F : Fun K "law" "law" s_law f fd) (D_tape : Dfn P w K mg base "_law_tape" 8 ["script", "k"] (spTape K)) (D_dance : Dfn P w K mg base "_law_dance" 8 ["tape", "most"] spDance) (D_undo : Dfn P w K mg base "undo" 8 ["dance"] spUndo) (D_number : Dfn P w K mg base "_law_number" 8 ["dance"] (spNumber K)) (D_num : Dfn P w K mg base "number" 8 ["dance"] spNum) (D_law_alike : Dfn P w K mg base "_law_alike" 8 ["one", "other"] (spAlike Pt)) (D_backward : Dfn P w K mg base "backward" 8 ["dance"] spBack) (D_steps : Dfn P w K mg base "steps" 8 ["fraction"] spSteps) (y_range : mg "range" = none) (y_len : mg "len" = none) (y_max : mg "max" = none) {CL fI : Addr} {fdI : FuncData} (TLd : TxL K mg CL) (ML : Mk K CL fI) (GI : FnOk P w K mg base CX0 3 fI fdI ["self", "fraction"] (spInitL CL)) (bI : Binds K fdI ["self", "fraction"] []) (DM_dance : MDfnL P w K mg base CL "dance" 3 ["self", "rank"] (spDanceL CL)) (DM_rank_of : MDfnL P w K mg base CL "rank_of" 4 ["self", "dance"] (spRankL CL)) : FnOk P w K mg base CX0 9 f fd ["script"] (spLaw K Pt) := by
  refine F.ok sc_law (fun vs H Q E h => ?_) (fun cdv A outer s H vs Q E hr h => ?_)
  · obtain ⟨sa, ns, rfl, hS, h63, tg, q⟩ := h
    rfl
  obtain ⟨sa, ns, rfl, hS, h63, tg, q⟩ := h
  obtain ⟨g_dance, fd_dance, G_dance, B_dance, M_dance⟩ := DM_dance.ex
  obtain ⟨g_rank_of, fd_rank_of, G_rank_of, B_rank_of, M_rank_of⟩ := DM_rank_of.ex
  refine ⟨_, (pss_cons (ps_for PassesOwn.never rfl (pi_range1 rfl y_range (pa_cons pe_int pa_nil)) (pg_name (i := 1) sc_law.nd rfl (.inl rfl))
    (pss_cons (ps_set (i := 2) sc_law.nd rfl (.inl rfl) (pe_do D_tape hr (pa_cons (pv 0) (pa_cons (pv 1) pa_nil))))
    (pss_cons (ps_set (i := 3) sc_law.nd rfl (.inl rfl) (pe_do D_dance hr (pa_cons (pv 2) (pa_cons pe_int pa_nil))))
    (pss_cons (ps_set (i := 4) sc_law.nd rfl (.inl rfl) (pe_do D_undo hr (pa_cons (pv 3) pa_nil)))
    (pss_cons (ps_if (PW.pt (pw_or (pt_cmpR (op_neD hr.units) (pe_do D_num hr (pa_cons (pe_op op_add_str (pv 3) (pv 4)) pa_nil)) (pe_tup (pa_cons pe_int (pa_cons pe_int pa_nil))) (nomark _)) (pw_or1 (pt_cmpR (op_neD hr.units) (pe_do D_number hr (pa_cons (pe_op op_add_str (pv 3) (pv 4)) pa_nil)) (pe_tup (pa_cons pe_int (pa_cons pe_int pa_nil))) (nomark _))))) (pss_one (ps_ret pe_bl)) pss_nil)
    (pss_cons (ps_if (PW.pt (pw_or (pt_not (pt_val (pe_do D_law_alike hr (pa_cons (pe_op op_add_str (pv 3) (pv 4)) (pa_cons pe_str pa_nil))))) (pw_or1 (pt_not (pt_val (pe_do D_law_alike hr (pa_cons (pe_do D_backward hr (pa_cons (pv 4) pa_nil)) (pa_cons (pv 3) pa_nil)))))))) (pss_one (ps_ret pe_bl)) pss_nil)
    (pss_cons (ps_if (PW.pt (pw_or (pt_cmpR op_ne (pe_callB call_len_str rfl y_len PySem.boot_len (pa_cons (pv 4) pa_nil)) (pe_do D_steps hr (pa_cons (pe_do D_num hr (pa_cons (pv 3) pa_nil)) pa_nil)) (nomark _)) (pw_or1 (pt_cmpR op_ne (pe_callB call_len_str rfl y_len PySem.boot_len (pa_cons (pe_do D_undo hr (pa_cons (pe_do D_backward hr (pa_cons (pv 4) pa_nil)) pa_nil)) pa_nil)) (pe_callB call_len_str rfl y_len PySem.boot_len (pa_cons (pv 4) pa_nil)) (nomark _))))) (pss_one (ps_ret pe_bl)) pss_nil)
    (pss_cons (ps_set (i := 5) sc_law.nd rfl (.inl rfl) (pe_make ML GI (hr.mono (by decide)) rfl TLd.mgC bI .nil pass0 (pa_cons (pe_do D_num hr (pa_cons (pv 3) pa_nil)) pa_nil)))
    (pss_cons (ps_if (pt_cmpR op_ne (pe_meth (pv 5) TLd.cl M_dance G_dance (hr.mono (by decide)) B_dance .nil pass0 (pa_cons (pe_meth (pv 5) TLd.cl M_rank_of G_rank_of (hr.mono (by decide)) B_rank_of .nil pass0 (pa_cons (pe_do D_backward hr (pa_cons (pv 4) pa_nil)) pa_nil)) pa_nil)) (pe_do D_backward hr (pa_cons (pv 4) pa_nil)) (nomark _)) (pss_one (ps_ret pe_bl)) pss_nil)
    (pss_cons (ps_if (pt_cmpR op_gt (pe_callB call_len_str rfl y_len PySem.boot_len (pa_cons (pv 4) pa_nil)) (pe_callB call_len_str rfl y_len PySem.boot_len (pa_cons (pv 3) pa_nil)) (nomark _)) (pss_one (ps_ret pe_bl)) pss_nil)
    (pss_one (ps_for PassesOwn.never rfl (pi_range1 rfl y_range (pa_cons pe_int pa_nil)) (pg_name (i := 6) sc_law.nd rfl (.inl rfl))
    (pss_cons (ps_set (i := 7) sc_law.nd rfl (.inl rfl) (pe_do D_dance hr (pa_cons (pv 2) (pa_cons (pe_callB (call_max2 rfl) rfl y_max (by decide +kernel) (pa_cons pe_int (pa_cons (pe_callB call_len_str rfl y_len PySem.boot_len (pa_cons (pv 4) pa_nil)) pa_nil))) pa_nil))))
    (pss_one (ps_if (PW.pt (pw_and (pt_cmpR (op_eqD hr.units) (pe_do D_number hr (pa_cons (pe_op op_add_str (pv 3) (pv 7)) pa_nil)) (pe_tup (pa_cons pe_int (pa_cons pe_int pa_nil))) (nomark _)) (pw_and1 (pt_cmpR op_lt (pe_callB call_len_str rfl y_len PySem.boot_len (pa_cons (pv 7) pa_nil)) (pe_callB call_len_str rfl y_len PySem.boot_len (pa_cons (pv 4) pa_nil)) (nomark _))))) (pss_one (ps_ret pe_bl)) pss_nil)))))))))))))))
    (pss_one (ps_ret pe_bl))), ?_⟩
  have two : 2 ≤ sizeLine := fits (by decide)
  have szc : ∀ a b : List Nat, a.length ≤ 200 → b.length ≤ 200 → (S a).length + (S b).length ≤ sizeLine := fun a b h1 h2 => by rw [S_len, S_len]; exact fits (by omega)
  refine ⟨6, rfl, by decide, by decide, for_range (lo := 0) (n := 6) (fun i σ F => ∃ (x1 x2 x3 x4 x5 x6 x7 : Option V), σ = [some (.ref sa), x1, x2, x3, x4, x5, x6, x7] ∧ Bt Pt H F) ?_ ?_ ?_⟩
  · exact ⟨_, _, _, _, _, _, _, rfl, Bt.refl tg⟩
  · rintro i σ H0 hi ⟨x1, x2, x3, x4, x5, x6, x7, rfl, bt⟩
    refine ⟨_, rfl, _, rfl, sa, ns, 0 + (i : Int), rfl, bt.seq tg hS, by omega, fun tp H1 s1 ntp t1 => ?_⟩
    have B1 := (Bt.refl bt.2).same s1
    refine ⟨_, rfl, tp, 50, rfl, t1, by decide, by decide, fun l H2 hl zl b2 t2 => ?_⟩
    have B2 := B1.but b2 t1 ntp
    have zl' : l.length ≤ 50 := by omega
    have g := good_run l Good.zero
    have ss := stp_run l Good.zero
    rw [stp_zero] at ss
    have ld := len_dl g
    have rz := run_small (l := l) (by omega)
    have lD := lets_dl (run (0, 1) l)
    have lu := lets_mir (lets_rev lD)
    have ub := undo_back lD
    have bz := back_dl hl
    have ul : (mir (dl (run (0, 1) l)).reverse).length = stp (run (0, 1) l) := by rw [mir_len, List.length_reverse, ld]
    refine ⟨_, rfl, l, rfl, hl, by omega, fun H3 s3 => ?_⟩
    generalize hu : mir (dl (run (0, 1) l)).reverse = u at *
    refine ⟨_, rfl, _, rfl, _, _, rfl, rfl, szc _ _ (by omega) (by omega), ?_⟩
    rw [S_app]
    refine ⟨l ++ u, rfl, fun t4 H4 s4 T4 => ⟨two, fun t5 ht5 => ?_⟩⟩
    have s5 := same_new ht5 (.tup [V.int 0, .int 1])
    refine ⟨_, _, dp_tup2 (T4.same s5), dp_tup2 (v := (0, 1)) upd_same, sh2 _ _, sh2 _ _, ?_⟩
    rw [eqv2, decide_eq_true bz]
    refine ⟨_, rfl, iteF ?_⟩
    refine ⟨_, rfl, _, rfl, _, _, rfl, rfl, szc _ _ (by omega) (by omega), ?_⟩
    rw [S_app]
    refine ⟨l ++ u, rfl, fun t6 H6 s6 T6 => ⟨two, fun t7 ht7 => ?_⟩⟩
    have s7 := same_new ht7 (.tup [V.int 0, .int 1])
    refine ⟨_, _, dp_tup2 (T6.same s7), dp_tup2 (v := (0, 1)) upd_same, sh2 _ _, sh2 _ _, ?_⟩
    rw [eqv2, decide_eq_true bz]
    refine ⟨_, rfl, iteF ?_⟩
    have B7 := B2.same (s3.trans (s4.trans (s5.trans (s6.trans s7))))
    have t7' := t2.same (s3.trans (s4.trans (s5.trans (s6.trans s7))))
    generalize upd H6 t7 (.tup [V.int 0, .int 1]) = H7 at *
    refine ⟨_, rfl, _, rfl, _, _, rfl, rfl, szc _ _ (by omega) (by omega), ?_⟩
    rw [S_app, e_empty]
    refine ⟨l ++ u, [], rfl, lets_app hl lu, (fun c hc => by cases hc), by rw [List.length_append]; omega, by decide, bz, B7.2, fun H8 b8 => ⟨_, rfl, iteF ?_⟩⟩
    have B8 := B7.trans b8
    refine ⟨_, rfl, u, rfl, lu, by omega, fun H9 s9 => ⟨_, rfl, ?_⟩⟩
    rw [ub]
    have B9 := B8.same s9
    refine ⟨dl (run (0, 1) l), l, rfl, lD, hl, by omega, by omega, run_dl g, B9.2, fun H10 b10 => ⟨_, rfl, iteF ?_⟩⟩
    have B10 := B9.trans b10
    have t10 := b10.tape B9.2 ((b8.tape B7.2 t7').same s9)
    refine ⟨_, rfl, _, rfl, by rw [S_len, ul]; exact fits (by omega), _, rfl, l, rfl, fun t11 H11 s11 T11 => ⟨t11, _, rfl, T11, g, rz.1, rz.2, fun H12 s12 => ⟨rfl, _, rfl, ?_⟩⟩⟩
    rw [S_len, ul, decide_eq_true rfl]
    refine iteF ?_
    refine ⟨_, rfl, u, rfl, lu, by omega, fun H13 s13 => ?_⟩
    rw [ub]
    refine ⟨dl (run (0, 1) l), rfl, lD, by omega, fun H14 s14 => ?_⟩
    rw [run_dl g, hu]
    refine ⟨_, rfl, by rw [S_len, ul]; exact fits (by omega), _, rfl, _, rfl, by rw [S_len, ul]; exact fits (by omega), rfl, _, rfl, ?_⟩
    rw [decide_eq_true rfl]
    refine iteF ?_
    refine ⟨_, rfl, l, rfl, fun t15 H15 s15 T15 => ?_⟩
    have S15 := (s11.trans s12).trans ((s13.trans s14).trans s15)
    have B15 := B10.same S15
    have t15' := t10.same S15
    intro p dx np ndx ndp
    have SP : Same H15 (upd (upd H15 dx (.own p)) p (.ins CL dx [])) := fun b o e => by
      rw [upd_ne (ne_of_none e np), upd_ne (ne_of_none e ndx)]
      exact e
    refine ⟨H15, p, t15, dx, _, rfl, SP, np, upd_same, T15.same SP, ne_of_none T15 np, g, by omega, fun H16 s16 ob => ⟨rfl, ?_⟩⟩
    have w0 := wy_pos (ns_ (rl (run (0, 1) l)))
    have z0 := ld_rl_zero (run (0, 1) l)
    obtain ⟨dx1, ft, fr, fw', hp1, _⟩ := id ob
    refine ⟨_, rfl, p, dx1, _, rfl, hp1, lf_no _ _ _ (by decide +kernel) (by decide +kernel) (by decide +kernel), ?_⟩
    refine ⟨_, rfl, p, dx1, _, rfl, hp1, lf_no _ _ _ (by decide +kernel) (by decide +kernel) (by decide +kernel), ?_⟩
    refine ⟨_, rfl, u, rfl, lu, by omega, fun H17 s17 => ?_⟩
    rw [ub, ← z0]
    refine ⟨p, _, 0, rfl, ob.same s17, g, by omega, by omega, fun H18 s18 => ?_⟩
    refine ⟨p, _, 0, rfl, (ob.same s17).same s18, g, by omega, by omega, fun H19 s19 => ?_⟩
    refine ⟨_, rfl, u, rfl, lu, by omega, fun H20 s20 => ⟨rfl, _, rfl, ?_⟩⟩
    rw [ub, ← z0, decide_eq_true rfl]
    refine iteF ?_
    have S20 := s16.trans ((s17.trans s18).trans (s19.trans s20))
    have B20 := B15.same S20
    have t20 := t15'.same S20
    refine ⟨_, rfl, _, rfl, by rw [S_len, ul]; exact fits (by omega), _, rfl, _, rfl, by rw [S_len]; exact fits (by omega), _, _, rfl, rfl, _, rfl, ?_⟩
    rw [S_len, S_len, ul, decide_eq_false (show ¬ ((l.length : Nat) : Int) < ((stp (run (0, 1) l) : Nat) : Int) by omega)]
    refine iteF ?_
    refine ⟨6, rfl, by decide, by decide, for_range (lo := 0) (n := 6) (fun j σ G => ∃ (x6 x7 : Option V), σ = [some (.ref sa), some (.int (0 + (i : Int))), some (.ref tp), some (.str (S l)), some (.str (S u)), some (.ref p), x6, x7] ∧ Bt Pt H0 G ∧ Tape G tp) ?_ ?_ ?_⟩
    · exact ⟨_, _, rfl, B20, t20⟩
    · rintro j σ G hj ⟨x6, x7, rfl, bG, tG⟩
      refine ⟨_, rfl, _, rfl, _, rfl, by rw [S_len, ul]; exact fits (by omega), ?_⟩
      rw [S_len, ul]
      refine ⟨_, _, rfl, ?_⟩
      have em : (if ((stp (run (0, 1) l) : Nat) : Int) > 0 then ((stp (run (0, 1) l) : Nat) : Int) else 0) = ((stp (run (0, 1) l) : Nat) : Int) := by split <;> omega
      rw [em]
      refine ⟨tp, _, rfl, tG, by omega, by omega, fun o G1 ho zo b1 tG1 => ?_⟩
      have bG1 := bG.but b1 tG ntp
      refine ⟨_, rfl, _, rfl, _, _, rfl, rfl, szc _ _ (by omega) (by omega), ?_⟩
      rw [S_app]
      refine ⟨l ++ o, rfl, fun t2' G2 u2 T2 => ⟨two, fun t3 ht3 => ?_⟩⟩
      have u3 := same_new ht3 (.tup [V.int 0, .int 1])
      refine ⟨_, _, dp_tup2 (T2.same u3), dp_tup2 (v := (0, 1)) upd_same, sh2 _ _, sh2 _ _, ?_⟩
      rw [eqv2]
      have bG3 := (bG1.same u2).same u3
      have tG3 := (tG1.same u2).same u3
      refine ⟨_, rfl, ite2 (fun c => ?_) (fun c => ⟨_, _, rfl, bG3, tG3⟩)⟩
      have e0 : run (0, 1) (l ++ o) = (0, 1) := of_decide_eq_true c
      rw [run_app] at e0
      have sb := stp_back o g
      rw [e0, stp_zero] at sb
      refine ⟨_, rfl, _, rfl, by rw [S_len]; exact fits (by omega), _, rfl, _, rfl, by rw [S_len, ul]; exact fits (by omega), _, _, rfl, rfl, _, rfl, ?_⟩
      rw [S_len, S_len, ul, decide_eq_false (show ¬ ((o.length : Nat) : Int) < ((stp (run (0, 1) l) : Nat) : Int) by omega)]
      exact iteF ⟨_, _, rfl, bG3, tG3⟩
    · rintro σ G ⟨x6, x7, rfl, bG, _⟩
      exact ⟨_, _, _, _, _, _, _, rfl, bt.trans bG⟩
  · rintro σ F ⟨x1, x2, x3, x4, x5, x6, x7, rfl, bt⟩
    exact q F
end
def d_fraction : He.DefD := ⟨("fraction", none), "fraction", "fraction", defArgs s_fraction, defBody s_fraction, defScope s_fraction, [], []⟩
def d_after : He.DefD := ⟨("after", none), "after", "after", defArgs s_after, defBody s_after, defScope s_after, [], []⟩
def d_turned : He.DefD := ⟨("turned", none), "turned", "turned", defArgs s_turned, defBody s_turned, defScope s_turned, [], []⟩
def d_quotients : He.DefD := ⟨("quotients", none), "quotients", "quotients", defArgs s_quotients, defBody s_quotients, defScope s_quotients, [], []⟩
def d_number : He.DefD := ⟨("number", none), "number", "number", defArgs s_number, defBody s_number, defScope s_number, [], []⟩
def d_backward : He.DefD := ⟨("backward", none), "backward", "backward", defArgs s_backward, defBody s_backward, defScope s_backward, [], []⟩
def d_mirrored : He.DefD := ⟨("mirrored", none), "mirrored", "mirrored", defArgs s_mirrored, defBody s_mirrored, defScope s_mirrored, [], []⟩
def d_steps : He.DefD := ⟨("steps", none), "steps", "steps", defArgs s_steps, defBody s_steps, defScope s_steps, [], []⟩
def d_runs : He.DefD := ⟨("runs", none), "runs", "runs", defArgs s_runs, defBody s_runs, defScope s_runs, [], []⟩
def d_undo : He.DefD := ⟨("undo", none), "undo", "undo", defArgs s_undo, defBody s_undo, defScope s_undo, [], []⟩
def d_ways_on : He.DefD := ⟨("ways_on", none), "ways_on", "ways_on", defArgs s_ways_on, defBody s_ways_on, defScope s_ways_on, [], []⟩
def d_diagram : He.DefD := ⟨("diagram", none), "diagram", "diagram", defArgs s_diagram, defBody s_diagram, defScope s_diagram, [], []⟩
def d_is_colouring : He.DefD := ⟨("is_colouring", none), "is_colouring", "is_colouring", defArgs s_is_colouring, defBody s_is_colouring, defScope s_is_colouring, [], []⟩
def d_is_plain : He.DefD := ⟨("is_plain", none), "is_plain", "is_plain", defArgs s_is_plain, defBody s_is_plain, defScope s_is_plain, [], []⟩
def d_colouring : He.DefD := ⟨("colouring", none), "colouring", "colouring", defArgs s_colouring, defBody s_colouring, defScope s_colouring, [], []⟩
def d_reading : He.DefD := ⟨("reading", none), "reading", "reading", defArgs s_reading, defBody s_reading, defScope s_reading, [], []⟩
def d_is_move : He.DefD := ⟨("is_move", none), "is_move", "is_move", defArgs s_is_move, defBody s_is_move, defScope s_is_move, [], []⟩
def d_made : He.DefD := ⟨("made", none), "made", "made", defArgs s_made, defBody s_made, defScope s_made, [], []⟩
def d_leads : He.DefD := ⟨("leads", none), "leads", "leads", defArgs s_leads, defBody s_leads, defScope s_leads, [], []⟩
def d_to_standard : He.DefD := ⟨("to_standard", none), "to_standard", "to_standard", defArgs s_to_standard, defBody s_to_standard, defScope s_to_standard, [], []⟩
def d_judge : He.DefD := ⟨("judge", none), "judge", "judge", defArgs s_judge, defBody s_judge, defScope s_judge, [], []⟩
def d_taken_back : He.DefD := ⟨("taken_back", none), "taken_back", "taken_back", defArgs s_taken_back, defBody s_taken_back, defScope s_taken_back, [], []⟩
def d_accepts : He.DefD := ⟨("accepts", none), "accepts", "accepts", defArgs s_accepts, defBody s_accepts, defScope s_accepts, [], []⟩
def d__law_tape : He.DefD := ⟨("_law_tape", none), "_law_tape", "_law_tape", defArgs s_law_tape, defBody s_law_tape, defScope s_law_tape, [], []⟩
def d__law_take : He.DefD := ⟨("_law_take", none), "_law_take", "_law_take", defArgs s_law_take, defBody s_law_take, defScope s_law_take, [], []⟩
def d__law_dance : He.DefD := ⟨("_law_dance", none), "_law_dance", "_law_dance", defArgs s_law_dance, defBody s_law_dance, defScope s_law_dance, [], []⟩
def d__law_called : He.DefD := ⟨("_law_called", none), "_law_called", "_law_called", defArgs s_law_called, defBody s_law_called, defScope s_law_called, [], []⟩
def d__law_number : He.DefD := ⟨("_law_number", none), "_law_number", "_law_number", defArgs s_law_number, defBody s_law_number, defScope s_law_number, [], []⟩
def d__law_alike : He.DefD := ⟨("_law_alike", none), "_law_alike", "_law_alike", defArgs s_law_alike, defBody s_law_alike, defScope s_law_alike, [], []⟩
def d_law : He.DefD := ⟨("law", none), "law", "law", defArgs s_law, defBody s_law, defScope s_law, [], []⟩
def d_Front__init__ : He.DefD := ⟨("Front", some "__init__"), "__init__", "Front.__init__", defArgs s_F__init__, defBody s_F__init__, defScope s_F__init__, [], []⟩
def d_Fronttake : He.DefD := ⟨("Front", some "take"), "take", "Front.take", defArgs s_Ftake, defBody s_Ftake, defScope s_Ftake, [], []⟩
def d_Fronttake_twist : He.DefD := ⟨("Front", some "take_twist"), "take_twist", "Front.take_twist", defArgs s_Ftake_twist, defBody s_Ftake_twist, defScope s_Ftake_twist, [], []⟩
def d_Fronttake_untwist : He.DefD := ⟨("Front", some "take_untwist"), "take_untwist", "Front.take_untwist", defArgs s_Ftake_untwist, defBody s_Ftake_untwist, defScope s_Ftake_untwist, [], []⟩
def d_Fronttake_turn : He.DefD := ⟨("Front", some "take_turn"), "take_turn", "Front.take_turn", defArgs s_Ftake_turn, defBody s_Ftake_turn, defScope s_Ftake_turn, [], []⟩
def d_Frontspread_untwist : He.DefD := ⟨("Front", some "spread_untwist"), "spread_untwist", "Front.spread_untwist", defArgs s_Fspread_untwist, defBody s_Fspread_untwist, defScope s_Fspread_untwist, [], []⟩
def d_Frontfinish : He.DefD := ⟨("Front", some "finish"), "finish", "Front.finish", defArgs s_Ffinish, defBody s_Ffinish, defScope s_Ffinish, [], []⟩
def d_Frontleave_untwists : He.DefD := ⟨("Front", some "leave_untwists"), "leave_untwists", "Front.leave_untwists", defArgs s_Fleave_untwists, defBody s_Fleave_untwists, defScope s_Fleave_untwists, [], []⟩
def d_Frontmake : He.DefD := ⟨("Front", some "make"), "make", "Front.make", defArgs s_Fmake, defBody s_Fmake, defScope s_Fmake, [], []⟩
def d_Frontends_with : He.DefD := ⟨("Front", some "ends_with"), "ends_with", "Front.ends_with", defArgs s_Fends_with, defBody s_Fends_with, defScope s_Fends_with, [], []⟩
def d_Frontis_now : He.DefD := ⟨("Front", some "is_now"), "is_now", "Front.is_now", defArgs s_Fis_now, defBody s_Fis_now, defScope s_Fis_now, [], []⟩
def d_LeastDances__init__ : He.DefD := ⟨("LeastDances", some "__init__"), "__init__", "LeastDances.__init__", defArgs s_L__init__, defBody s_L__init__, defScope s_L__init__, [], []⟩
def d_LeastDancesdance : He.DefD := ⟨("LeastDances", some "dance"), "dance", "LeastDances.dance", defArgs s_Ldance, defBody s_Ldance, defScope s_Ldance, [], []⟩
def d_LeastDancesrank_of : He.DefD := ⟨("LeastDances", some "rank_of"), "rank_of", "LeastDances.rank_of", defArgs s_Lrank_of, defBody s_Lrank_of, defScope s_Lrank_of, [], []⟩
def gAd (K : PySem.W.Frag) : Addr := match PySem.W.recIn K (He.ma K (He.ga K "LeastDances") "dance_count") "property" with
  | some (.ref g :: _) => g
  | _ => 0
def fnG (K : PySem.W.Frag) : He.FnW := match K.lookup (gAd K) with
  | some ⟨_, _, .func fd, _⟩ => some (fd.name, fd.qualname, fd.params, fd.body, fd.scope, fd.globals, fd.closure, fd.builtins)
  | _ => none
def recB (K : PySem.W.Frag) : Bool := match PySem.W.recIn K (He.ma K (He.ga K "LeastDances") "dance_count") "property" with
  | some (.ref _ :: _) => true
  | _ => false
def fnB (K : PySem.W.Frag) : Bool := PySem.W.keepIn K (.ref (gAd K)) && (match K.lookup (gAd K) with
  | some ⟨_, _, .func fd, _⟩ => PySem.W.codeIn K fd.code "LeastDances.dance_count" && (He.dflB K fd.defaults [] && He.kwdB K fd.kwdefaults [])
  | _ => false)
def prB (K : PySem.W.Frag) : Bool := He.eqO (PySem.W.findIn K (.ref (He.ga K "LeastDances")) "dance_count") (some (some (.ref (He.ma K (He.ga K "LeastDances") "dance_count")))) && (He.eqO (PySem.W.specialIn K (.ref (He.ma K (He.ga K "LeastDances") "dance_count")) "__get__") (some (some (.builtin "property.__get__"))) && (decide (PySem.W.takesIn K (.ref (He.ma K (He.ga K "LeastDances") "dance_count")) = some true) && (recB K && fnB K)))
def d_count : He.DefD := ⟨("LeastDances", some "dance_count"), "dance_count", "LeastDances.dance_count", defArgs s_Ldance_count, defBody s_Ldance_count, defScope s_Ldance_count, [], []⟩
theorem getFunD {K : PySem.W.Frag} (e : fnG K = d_count.val) (c : fnB K = true) : ∃ fd, FunD K d_count.name d_count.qual d_count.params d_count.body d_count.scope (d_count.dvs K) (d_count.kws K) (gAd K) fd := by
  obtain ⟨kp, c2⟩ := He.ba c
  unfold fnG at e
  cases q : K.lookup (gAd K) with
  | none =>
    rw [q] at c2
    cases c2
  | some o =>
    obtain ⟨oc, od, dt, osl⟩ := o
    rw [q] at c2 e
    cases dt with
    | func fd =>
      obtain ⟨n1, n2, n3, n4, n5, n6, n7, n8, n9, n10, n11, n12, n13, n14, n15⟩ := fd
      have e2 : (some (n1, n2, n3, n4, n5, n6, n7, n15) : He.FnW) = some (d_count.name, d_count.qual, d_count.params, .stmts d_count.body, d_count.scope, mainGlobals, [], builtinsNs) := e
      simp only [Option.some.injEq, Prod.mk.injEq] at e2
      obtain ⟨h1, h2, h3, h4, h5, h6, h7, h8⟩ := e2
      subst h1 h2 h3 h4 h5 h6 h7 h8
      have c3 : (PySem.W.codeIn K n13 d_count.qual && (He.dflB K n8 (d_count.dvs K) && He.kwdB K n9 (d_count.kws K))) = true := c2
      obtain ⟨k1, k2⟩ := He.ba c3
      obtain ⟨k3, k4⟩ := He.ba k2
      exact ⟨_, ⟨oc, od, n8, n9, n10, n11, n12, n13, n14, osl, rfl, q, k1, He.dflB_ok k3, He.kwdB_ok k4⟩, kp⟩
    | _ => cases c2
theorem prop_ok {K : PySem.W.Frag} (c : prB K = true) : PropOf K (He.ga K "LeastDances") "dance_count" (He.ma K (He.ga K "LeastDances") "dance_count") (gAd K) := by
  obtain ⟨c1, c⟩ := He.ba c
  obtain ⟨c2, c⟩ := He.ba c
  obtain ⟨c3, c⟩ := He.ba c
  obtain ⟨c4, _⟩ := He.ba c
  refine ⟨He.eqO_ok c1, He.eqO_ok c2, of_decide_eq_true c3, ?_⟩
  unfold recB at c4
  unfold gAd
  cases q : PySem.W.recIn K (He.ma K (He.ga K "LeastDances") "dance_count") "property" with
  | none => rw [q] at c4; cases c4
  | some l =>
    rw [q] at c4
    cases l with
    | nil => cases c4
    | cons v r =>
      cases v with
      | ref g => exact ⟨r, rfl⟩
      | _ => cases c4
def hookY (n : Nat) (fa : List He.Fa) (fn : List He.DefD) (ts : List He.Tab) (tf : List He.Defn) (ex : PySem.W.Frag → Bool) : PySem.W.Hook where
  α := He.AlX × He.FnW
  obs := fun s => (He.obsX n fa fn ts tf ex s.heap.get?, fnG (He.frT s.heap.get? (He.asD s.heap.get? n)))
  val := fun w => (He.valX fn ts w, d_count.val)
  says := fun w h => ∃ K : PySem.W.Frag, K.In h ∧ He.SaysX fa fn ts tf ex w h K ∧ fnG K = d_count.val
  of := fun _ _ e => ⟨_, He.frT_in, He.saysX_of (congrArg (fun z : He.AlX × He.FnW => z.1) e), congrArg (fun z : He.AlX × He.FnW => z.2) e⟩
  keeps := fun _ _ _ ⟨K, hK, c, d⟩ k => ⟨K, PySem.W.Frag.In.keeps hK k, ⟨c.t, c.more, c.hd, c.out, fun p hp => k _ _ (c.empty p hp)⟩, d⟩
theorem obsY_eq {n : Nat} {fa : List He.Fa} {fn : List He.DefD} {ts : List He.Tab} {tf : List He.Defn} {ex : PySem.W.Frag → Bool} {g : Addr → Option Obj} {s : Shared} (h : ∀ a, g a = s.heap.get? a) : ((He.obsX n fa fn ts tf ex g, fnG (He.frT g (He.asD g n))) : He.AlX × He.FnW) = (hookY n fa fn ts tf ex).obs s := by
  have e : g = s.heap.get? := funext h
  rw [e] <;> rfl
def dfs : List He.DefD := [d_fraction, d_after, d_turned, d_quotients, d_number, d_backward, d_mirrored, d_steps, d_runs, d_undo, d_ways_on, d_diagram, d_is_colouring, d_is_plain, d_colouring, d_reading, d_is_move, d_made, d_leads, d_to_standard, d_judge, d_taken_back, d_accepts, d__law_tape, d__law_take, d__law_dance, d__law_called, d__law_number, d__law_alike, d_law, d_Front__init__, d_Fronttake, d_Fronttake_twist, d_Fronttake_untwist, d_Fronttake_turn, d_Frontspread_untwist, d_Frontfinish, d_Frontleave_untwists, d_Frontmake, d_Frontends_with, d_Frontis_now, d_LeastDances__init__, d_LeastDancesdance, d_LeastDancesrank_of]
def fas : List He.Fa := [.glo "fraction", .glo "after", .glo "turned", .glo "quotients", .glo "number", .glo "backward", .glo "mirrored", .glo "steps", .glo "runs", .glo "undo", .glo "ways_on", .glo "diagram", .glo "is_colouring", .glo "is_plain", .glo "colouring", .glo "reading", .glo "is_move", .glo "made", .glo "leads", .glo "to_standard", .glo "judge", .glo "taken_back", .glo "accepts", .glo "_law_tape", .glo "_law_take", .glo "_law_dance", .glo "_law_called", .glo "_law_number", .glo "_law_alike", .glo "law", .glo "OPPOSITES", .free "len", .free "abs", .free "int", .free "range", .free "isinstance", .free "tuple", .free "list", .free "str", .free "bool", .free "all", .free "enumerate", .free "sum", .free "max", .cls "Front", .noat "Front" "letters", .noat "Front" "moves", .glo "Front", .mkr "Front", .meth "Front" "__init__", .meth "Front" "take", .meth "Front" "take_twist", .meth "Front" "take_untwist", .meth "Front" "take_turn", .meth "Front" "spread_untwist", .meth "Front" "finish", .meth "Front" "leave_untwists", .meth "Front" "make", .meth "Front" "ends_with", .meth "Front" "is_now", .exc "BadMove", .exm "BadMove" "BadMove" true, .glo "BadMove", .str "WORD_IN_FRONT" "RTR", .glo "WORDS", .cls "LeastDances", .noat "LeastDances" "fraction", .noat "LeastDances" "runs", .noat "LeastDances" "ways", .glo "LeastDances", .mkr "LeastDances", .meth "LeastDances" "dance", .meth "LeastDances" "rank_of"]
def tbs : List He.Tab := [(fun K => He.ga K "OPPOSITES", ["T", "U", "R"])]
def tfs : List He.Defn := [("is_colouring", none)]
def exs (K : PySem.W.Frag) : Bool := (He.valsB K (He.ga K "OPPOSITES") [("T", .str "U"), ("U", .str "T"), ("R", .str "R")]) && (prB K && (He.eqO (PySem.W.nsIn K mainGlobals "gcd") (some (some (.builtin "math.gcd"))) && (PySem.W.hasDictIn K (He.ga K "BadMove") && (He.eqO (PySem.W.findIn K (.ref (He.ga K "BadMove")) "__getattribute__") (some (some (.builtin "BaseException.__getattribute__"))) && (He.eqO (PySem.W.findIn K (.ref (He.ga K "BadMove")) "__getattr__") (some none) && (He.eqO (PySem.W.findIn K (.ref (He.ga K "BadMove")) "__class__") (some (some (.builtin "object.__class__"))) && (decide (PySem.W.mroIn K (He.ga K "BadMove") (.type "object") = some true) && wordsB K)))))))
abbrev Rw : PySem.W.OpenRow := PySem.W.OpenLaw.row PySem.Challenge.rw_ropedance_k23_whole_undone
abbrev hk : PySem.W.Hook := hookY 6 fas dfs tbs tfs exs
def ob (s : PySem.W.SharedT) : He.AlX × He.FnW := (He.obsX 6 fas dfs tbs tfs exs (HandSHeadRun.getT s), fnG (He.frT (HandSHeadRun.getT s) (He.asD (HandSHeadRun.getT s) 6)))
theorem ob_eq (s : PySem.W.SharedT) : ob s = hk.obs s.abs := obsY_eq (HandSHeadRun.getT_eq s)
theorem head_run_false (w : World) : HandSHeadRun.RunEqI Rw (PySem.W.view Rw.prog [0, 49]) hk ob 12000 ((["fraction", "after", "turned", "quotients", "number", "backward", "mirrored", "steps", "runs", "undo", "ways_on", "diagram", "is_colouring", "is_plain", "colouring", "reading", "is_move", "made", "leads", "to_standard", "judge", "taken_back", "accepts", "_law_tape", "_law_take", "_law_dance", "_law_called", "_law_number", "_law_alike", "OPPOSITES"] : List PySem.Str) ++ (["RopeError", "NoFraction", "BadMove", "NoDance", "Front", "LeastDances", "WORDS", "WORD_IN_FRONT", "_law_same"] : List PySem.Str)) (w.withFollow "special-get-raises" false) := by
  unfold HandSHeadRun.RunEqI
  kernel_rfl
theorem head_run_true (w : World) : HandSHeadRun.RunEqI Rw (PySem.W.view Rw.prog [0, 49]) hk ob 12000 ((["fraction", "after", "turned", "quotients", "number", "backward", "mirrored", "steps", "runs", "undo", "ways_on", "diagram", "is_colouring", "is_plain", "colouring", "reading", "is_move", "made", "leads", "to_standard", "judge", "taken_back", "accepts", "_law_tape", "_law_take", "_law_dance", "_law_called", "_law_number", "_law_alike", "OPPOSITES"] : List PySem.Str) ++ (["RopeError", "NoFraction", "BadMove", "NoDance", "Front", "LeastDances", "WORDS", "WORD_IN_FRONT", "_law_same"] : List PySem.Str)) (w.withFollow "special-get-raises" true) := by
  unfold HandSHeadRun.RunEqI
  kernel_rfl
theorem head_run (w : World) : HandSHeadRun.RunEqI Rw (PySem.W.view Rw.prog [0, 49]) hk ob 12000 ((["fraction", "after", "turned", "quotients", "number", "backward", "mirrored", "steps", "runs", "undo", "ways_on", "diagram", "is_colouring", "is_plain", "colouring", "reading", "is_move", "made", "leads", "to_standard", "judge", "taken_back", "accepts", "_law_tape", "_law_take", "_law_dance", "_law_called", "_law_number", "_law_alike", "OPPOSITES"] : List PySem.Str) ++ (["RopeError", "NoFraction", "BadMove", "NoDance", "Front", "LeastDances", "WORDS", "WORD_IN_FRONT", "_law_same"] : List PySem.Str)) w := PySem.W.byRow2 "special-get-raises" (P := fun w => HandSHeadRun.RunEqI Rw (PySem.W.view Rw.prog [0, 49]) hk ob 12000 ((["fraction", "after", "turned", "quotients", "number", "backward", "mirrored", "steps", "runs", "undo", "ways_on", "diagram", "is_colouring", "is_plain", "colouring", "reading", "is_move", "made", "leads", "to_standard", "judge", "taken_back", "accepts", "_law_tape", "_law_take", "_law_dance", "_law_called", "_law_number", "_law_alike", "OPPOSITES"] : List PySem.Str) ++ (["RopeError", "NoFraction", "BadMove", "NoDance", "Front", "LeastDances", "WORDS", "WORD_IN_FRONT", "_law_same"] : List PySem.Str)) w) head_run_false head_run_true w
theorem fun_of {K : PySem.W.Frag} {d : He.DefD} {f : Addr} {fd : FuncData} {st : Stmt} (h : FunD K d.name d.qual d.params d.body d.scope (d.dvs K) (d.kws K) f fd) (ha : d.params = defArgs st) (hb : d.body = defBody st) (hs : d.scope = defScope st) (h0 : d.dfl = []) (h1 : d.kwd = []) : Fun K d.name d.qual st f fd := by
  obtain ⟨oc, od, dV, kV, doc, pm, an, cdv, ct, osl, e, lk, cd, dfl, kw⟩ := h.ex
  have e0 : d.dvs K = [] := by unfold He.DefD.dvs; rw [h0]; rfl
  rw [e0] at dfl
  have ed : dV = .none := by
    rcases dfl with ⟨_, q⟩ | ⟨q, _⟩
    · exact q
    · exact absurd rfl q
  subst ed
  rw [ha, hb, hs] at e
  exact ⟨⟨oc, od, kV, doc, pm, an, cdv, ct, osl, e, lk, cd⟩, h.kp⟩
theorem spLaw_from (K : PySem.W.Frag) : ∀ (H : Hp) (a : Addr) (ns : List Int), ns.length ≤ 63 → (∀ z ∈ ns, Builtin.Int.intBits z ≤ 1048576) → (∀ p ∈ tfs.map (He.cT K), H p.2 = some (.tbl #[])) → SqL K H a (ns.map V.int) → spLawK K [.ref a] H (fun v _ => v = .bl true) fun _ _ _ => False :=
  fun H a ns hl _ hT hS => ⟨a, ns, rfl, hS, hl, ⟨#[], hT _ (List.mem_map.mpr ⟨("is_colouring", none), List.mem_cons_self .., rfl⟩), trivial⟩, fun _ => rfl⟩
theorem all_facts {P : Program} {w : World} {K : PySem.W.Frag} {h : Heap} {mg : Str → Option Value} {fa : Addr} (X : K.In h) (G : h.Ns mainGlobals mg) (hfa : mg ("law" : Str) = some (.ref fa)) (c : He.SaysX fas dfs tbs tfs exs w h K) (cg : fnG K = d_count.val) :
    ∃ fd : FuncData, (∀ (s : Shared) (v : Value), BindsTo s fd ⟨[v], []⟩ [("script", v)]) ∧ ∀ base : Heap, K.In base → base.Ns mainGlobals mg → (∀ p ∈ tfs.map (He.cT K), LamX.TabB base mg p.1 p.2) → FnOk P w K mg base CX0 9 fa fd ["script"] (spLawK K) := by
  have cd := c.t.d
  obtain ⟨fd0, G0⟩ := cd.def_ 0 (d := d_fraction) rfl
  have F_fraction : Fun K "fraction" "fraction" s_fraction _ fd0 := fun_of G0 rfl rfl rfl rfl rfl
  have m_fraction := He.glo_ok X G (cd.fact 0 (f := .glo "fraction") rfl)
  have b_fraction := F_fraction.binds (ps := ["p", "q"]) fun _ _ _ _ _ _ us hl => match us, hl with | [_, _], _ => rfl
  obtain ⟨fd1, G1⟩ := cd.def_ 1 (d := d_after) rfl
  have F_after : Fun K "after" "after" s_after _ fd1 := fun_of G1 rfl rfl rfl rfl rfl
  have m_after := He.glo_ok X G (cd.fact 1 (f := .glo "after") rfl)
  have b_after := F_after.binds (ps := ["fraction", "dance"]) fun _ _ _ _ _ _ us hl => match us, hl with | [_, _], _ => rfl
  obtain ⟨fd2, G2⟩ := cd.def_ 2 (d := d_turned) rfl
  have F_turned : Fun K "turned" "turned" s_turned _ fd2 := fun_of G2 rfl rfl rfl rfl rfl
  have m_turned := He.glo_ok X G (cd.fact 2 (f := .glo "turned") rfl)
  have b_turned := F_turned.binds (ps := ["p", "q"]) fun _ _ _ _ _ _ us hl => match us, hl with | [_, _], _ => rfl
  obtain ⟨fd3, G3⟩ := cd.def_ 3 (d := d_quotients) rfl
  have F_quotients : Fun K "quotients" "quotients" s_quotients _ fd3 := fun_of G3 rfl rfl rfl rfl rfl
  have m_quotients := He.glo_ok X G (cd.fact 3 (f := .glo "quotients") rfl)
  have b_quotients := F_quotients.binds (ps := ["fraction"]) fun _ _ _ _ _ _ us hl => match us, hl with | [_], _ => rfl
  obtain ⟨fd4, G4⟩ := cd.def_ 4 (d := d_number) rfl
  have F_number : Fun K "number" "number" s_number _ fd4 := fun_of G4 rfl rfl rfl rfl rfl
  have m_number := He.glo_ok X G (cd.fact 4 (f := .glo "number") rfl)
  have b_number := F_number.binds (ps := ["dance"]) fun _ _ _ _ _ _ us hl => match us, hl with | [_], _ => rfl
  obtain ⟨fd5, G5⟩ := cd.def_ 5 (d := d_backward) rfl
  have F_backward : Fun K "backward" "backward" s_backward _ fd5 := fun_of G5 rfl rfl rfl rfl rfl
  have m_backward := He.glo_ok X G (cd.fact 5 (f := .glo "backward") rfl)
  have b_backward := F_backward.binds (ps := ["dance"]) fun _ _ _ _ _ _ us hl => match us, hl with | [_], _ => rfl
  obtain ⟨fd6, G6⟩ := cd.def_ 6 (d := d_mirrored) rfl
  have F_mirrored : Fun K "mirrored" "mirrored" s_mirrored _ fd6 := fun_of G6 rfl rfl rfl rfl rfl
  have m_mirrored := He.glo_ok X G (cd.fact 6 (f := .glo "mirrored") rfl)
  have b_mirrored := F_mirrored.binds (ps := ["dance"]) fun _ _ _ _ _ _ us hl => match us, hl with | [_], _ => rfl
  obtain ⟨fd7, G7⟩ := cd.def_ 7 (d := d_steps) rfl
  have F_steps : Fun K "steps" "steps" s_steps _ fd7 := fun_of G7 rfl rfl rfl rfl rfl
  have m_steps := He.glo_ok X G (cd.fact 7 (f := .glo "steps") rfl)
  have b_steps := F_steps.binds (ps := ["fraction"]) fun _ _ _ _ _ _ us hl => match us, hl with | [_], _ => rfl
  obtain ⟨fd8, G8⟩ := cd.def_ 8 (d := d_runs) rfl
  have F_runs : Fun K "runs" "runs" s_runs _ fd8 := fun_of G8 rfl rfl rfl rfl rfl
  have m_runs := He.glo_ok X G (cd.fact 8 (f := .glo "runs") rfl)
  have b_runs := F_runs.binds (ps := ["fraction"]) fun _ _ _ _ _ _ us hl => match us, hl with | [_], _ => rfl
  obtain ⟨fd9, G9⟩ := cd.def_ 9 (d := d_undo) rfl
  have F_undo : Fun K "undo" "undo" s_undo _ fd9 := fun_of G9 rfl rfl rfl rfl rfl
  have m_undo := He.glo_ok X G (cd.fact 9 (f := .glo "undo") rfl)
  have b_undo := F_undo.binds (ps := ["dance"]) fun _ _ _ _ _ _ us hl => match us, hl with | [_], _ => rfl
  obtain ⟨fd10, G10⟩ := cd.def_ 10 (d := d_ways_on) rfl
  have F_ways_on : Fun K "ways_on" "ways_on" s_ways_on _ fd10 := fun_of G10 rfl rfl rfl rfl rfl
  have m_ways_on := He.glo_ok X G (cd.fact 10 (f := .glo "ways_on") rfl)
  have b_ways_on := F_ways_on.binds (ps := ["all_runs"]) fun _ _ _ _ _ _ us hl => match us, hl with | [_], _ => rfl
  obtain ⟨fd11, G11⟩ := cd.def_ 11 (d := d_diagram) rfl
  have F_diagram : Fun K "diagram" "diagram" s_diagram _ fd11 := fun_of G11 rfl rfl rfl rfl rfl
  have m_diagram := He.glo_ok X G (cd.fact 11 (f := .glo "diagram") rfl)
  have b_diagram := F_diagram.binds (ps := ["dance"]) fun _ _ _ _ _ _ us hl => match us, hl with | [_], _ => rfl
  obtain ⟨fd12, G12⟩ := cd.def_ 12 (d := d_is_colouring) rfl
  have F_is_colouring : Fun K "is_colouring" "is_colouring" s_is_colouring _ fd12 := fun_of G12 rfl rfl rfl rfl rfl
  have m_is_colouring := He.glo_ok X G (cd.fact 12 (f := .glo "is_colouring") rfl)
  have b_is_colouring := F_is_colouring.binds (ps := ["dance", "colours"]) fun _ _ _ _ _ _ us hl => match us, hl with | [_, _], _ => rfl
  obtain ⟨fd13, G13⟩ := cd.def_ 13 (d := d_is_plain) rfl
  have F_is_plain : Fun K "is_plain" "is_plain" s_is_plain _ fd13 := fun_of G13 rfl rfl rfl rfl rfl
  have m_is_plain := He.glo_ok X G (cd.fact 13 (f := .glo "is_plain") rfl)
  have b_is_plain := F_is_plain.binds (ps := ["colours"]) fun _ _ _ _ _ _ us hl => match us, hl with | [_], _ => rfl
  obtain ⟨fd14, G14⟩ := cd.def_ 14 (d := d_colouring) rfl
  have F_colouring : Fun K "colouring" "colouring" s_colouring _ fd14 := fun_of G14 rfl rfl rfl rfl rfl
  have m_colouring := He.glo_ok X G (cd.fact 14 (f := .glo "colouring") rfl)
  have b_colouring := F_colouring.binds (ps := ["dance", "first", "second"]) fun _ _ _ _ _ _ us hl => match us, hl with | [_, _, _], _ => rfl
  obtain ⟨fd15, G15⟩ := cd.def_ 15 (d := d_reading) rfl
  have F_reading : Fun K "reading" "reading" s_reading _ fd15 := fun_of G15 rfl rfl rfl rfl rfl
  have m_reading := He.glo_ok X G (cd.fact 15 (f := .glo "reading") rfl)
  have b_reading := F_reading.binds (ps := ["dance", "colours"]) fun _ _ _ _ _ _ us hl => match us, hl with | [_, _], _ => rfl
  obtain ⟨fd16, G16⟩ := cd.def_ 16 (d := d_is_move) rfl
  have F_is_move : Fun K "is_move" "is_move" s_is_move _ fd16 := fun_of G16 rfl rfl rfl rfl rfl
  have m_is_move := He.glo_ok X G (cd.fact 16 (f := .glo "is_move") rfl)
  have b_is_move := F_is_move.binds (ps := ["move"]) fun _ _ _ _ _ _ us hl => match us, hl with | [_], _ => rfl
  obtain ⟨fd17, G17⟩ := cd.def_ 17 (d := d_made) rfl
  have F_made : Fun K "made" "made" s_made _ fd17 := fun_of G17 rfl rfl rfl rfl rfl
  have m_made := He.glo_ok X G (cd.fact 17 (f := .glo "made") rfl)
  have b_made := F_made.binds (ps := ["dance", "move"]) fun _ _ _ _ _ _ us hl => match us, hl with | [_, _], _ => rfl
  obtain ⟨fd18, G18⟩ := cd.def_ 18 (d := d_leads) rfl
  have F_leads : Fun K "leads" "leads" s_leads _ fd18 := fun_of G18 rfl rfl rfl rfl rfl
  have m_leads := He.glo_ok X G (cd.fact 18 (f := .glo "leads") rfl)
  have b_leads := F_leads.binds (ps := ["one", "moves", "other"]) fun _ _ _ _ _ _ us hl => match us, hl with | [_, _, _], _ => rfl
  obtain ⟨fd19, G19⟩ := cd.def_ 19 (d := d_to_standard) rfl
  have F_to_standard : Fun K "to_standard" "to_standard" s_to_standard _ fd19 := fun_of G19 rfl rfl rfl rfl rfl
  have m_to_standard := He.glo_ok X G (cd.fact 19 (f := .glo "to_standard") rfl)
  have b_to_standard := F_to_standard.binds (ps := ["dance"]) fun _ _ _ _ _ _ us hl => match us, hl with | [_], _ => rfl
  obtain ⟨fd20, G20⟩ := cd.def_ 20 (d := d_judge) rfl
  have F_judge : Fun K "judge" "judge" s_judge _ fd20 := fun_of G20 rfl rfl rfl rfl rfl
  have m_judge := He.glo_ok X G (cd.fact 20 (f := .glo "judge") rfl)
  have b_judge := F_judge.binds (ps := ["one", "other"]) fun _ _ _ _ _ _ us hl => match us, hl with | [_, _], _ => rfl
  obtain ⟨fd21, G21⟩ := cd.def_ 21 (d := d_taken_back) rfl
  have F_taken_back : Fun K "taken_back" "taken_back" s_taken_back _ fd21 := fun_of G21 rfl rfl rfl rfl rfl
  have m_taken_back := He.glo_ok X G (cd.fact 21 (f := .glo "taken_back") rfl)
  have b_taken_back := F_taken_back.binds (ps := ["moves"]) fun _ _ _ _ _ _ us hl => match us, hl with | [_], _ => rfl
  obtain ⟨fd22, G22⟩ := cd.def_ 22 (d := d_accepts) rfl
  have F_accepts : Fun K "accepts" "accepts" s_accepts _ fd22 := fun_of G22 rfl rfl rfl rfl rfl
  have m_accepts := He.glo_ok X G (cd.fact 22 (f := .glo "accepts") rfl)
  have b_accepts := F_accepts.binds (ps := ["one", "other", "paper"]) fun _ _ _ _ _ _ us hl => match us, hl with | [_, _, _], _ => rfl
  obtain ⟨fd23, G23⟩ := cd.def_ 23 (d := d__law_tape) rfl
  have F__law_tape : Fun K "_law_tape" "_law_tape" s_law_tape _ fd23 := fun_of G23 rfl rfl rfl rfl rfl
  have m__law_tape := He.glo_ok X G (cd.fact 23 (f := .glo "_law_tape") rfl)
  have b__law_tape := F__law_tape.binds (ps := ["script", "k"]) fun _ _ _ _ _ _ us hl => match us, hl with | [_, _], _ => rfl
  obtain ⟨fd24, G24⟩ := cd.def_ 24 (d := d__law_take) rfl
  have F__law_take : Fun K "_law_take" "_law_take" s_law_take _ fd24 := fun_of G24 rfl rfl rfl rfl rfl
  have m__law_take := He.glo_ok X G (cd.fact 24 (f := .glo "_law_take") rfl)
  have b__law_take := F__law_take.binds (ps := ["tape", "many"]) fun _ _ _ _ _ _ us hl => match us, hl with | [_, _], _ => rfl
  obtain ⟨fd25, G25⟩ := cd.def_ 25 (d := d__law_dance) rfl
  have F__law_dance : Fun K "_law_dance" "_law_dance" s_law_dance _ fd25 := fun_of G25 rfl rfl rfl rfl rfl
  have m__law_dance := He.glo_ok X G (cd.fact 25 (f := .glo "_law_dance") rfl)
  have b__law_dance := F__law_dance.binds (ps := ["tape", "most"]) fun _ _ _ _ _ _ us hl => match us, hl with | [_, _], _ => rfl
  obtain ⟨fd26, G26⟩ := cd.def_ 26 (d := d__law_called) rfl
  have F__law_called : Fun K "_law_called" "_law_called" s_law_called _ fd26 := fun_of G26 rfl rfl rfl rfl rfl
  have m__law_called := He.glo_ok X G (cd.fact 26 (f := .glo "_law_called") rfl)
  have b__law_called := F__law_called.binds (ps := ["value", "letter"]) fun _ _ _ _ _ _ us hl => match us, hl with | [_, _], _ => rfl
  obtain ⟨fd27, G27⟩ := cd.def_ 27 (d := d__law_number) rfl
  have F__law_number : Fun K "_law_number" "_law_number" s_law_number _ fd27 := fun_of G27 rfl rfl rfl rfl rfl
  have m__law_number := He.glo_ok X G (cd.fact 27 (f := .glo "_law_number") rfl)
  have b__law_number := F__law_number.binds (ps := ["dance"]) fun _ _ _ _ _ _ us hl => match us, hl with | [_], _ => rfl
  obtain ⟨fd28, G28⟩ := cd.def_ 28 (d := d__law_alike) rfl
  have F__law_alike : Fun K "_law_alike" "_law_alike" s_law_alike _ fd28 := fun_of G28 rfl rfl rfl rfl rfl
  have m__law_alike := He.glo_ok X G (cd.fact 28 (f := .glo "_law_alike") rfl)
  have b__law_alike := F__law_alike.binds (ps := ["one", "other"]) fun _ _ _ _ _ _ us hl => match us, hl with | [_, _], _ => rfl
  obtain ⟨fd29, G29⟩ := cd.def_ 29 (d := d_law) rfl
  have F_law : Fun K "law" "law" s_law _ fd29 := fun_of G29 rfl rfl rfl rfl rfl
  have m_law := He.glo_ok X G (cd.fact 29 (f := .glo "law") rfl)
  have b_law := F_law.binds (ps := ["script"]) fun _ _ _ _ _ _ us hl => match us, hl with | [_], _ => rfl
  obtain ⟨fdM0, GM0⟩ := cd.def_ 30 (d := d_Front__init__) rfl
  have F_F__init__ : Fun K "__init__" "Front.__init__" s_F__init__ _ fdM0 := fun_of GM0 rfl rfl rfl rfl rfl
  have b_F__init__ := F_F__init__.binds (ps := ["self"]) fun _ _ _ _ _ _ us hl => match us, hl with | [_], _ => rfl
  obtain ⟨fdM1, GM1⟩ := cd.def_ 31 (d := d_Fronttake) rfl
  have F_Ftake : Fun K "take" "Front.take" s_Ftake _ fdM1 := fun_of GM1 rfl rfl rfl rfl rfl
  have b_Ftake := F_Ftake.binds (ps := ["self", "letter"]) fun _ _ _ _ _ _ us hl => match us, hl with | [_, _], _ => rfl
  obtain ⟨fdM2, GM2⟩ := cd.def_ 32 (d := d_Fronttake_twist) rfl
  have F_Ftake_twist : Fun K "take_twist" "Front.take_twist" s_Ftake_twist _ fdM2 := fun_of GM2 rfl rfl rfl rfl rfl
  have b_Ftake_twist := F_Ftake_twist.binds (ps := ["self"]) fun _ _ _ _ _ _ us hl => match us, hl with | [_], _ => rfl
  obtain ⟨fdM3, GM3⟩ := cd.def_ 33 (d := d_Fronttake_untwist) rfl
  have F_Ftake_untwist : Fun K "take_untwist" "Front.take_untwist" s_Ftake_untwist _ fdM3 := fun_of GM3 rfl rfl rfl rfl rfl
  have b_Ftake_untwist := F_Ftake_untwist.binds (ps := ["self"]) fun _ _ _ _ _ _ us hl => match us, hl with | [_], _ => rfl
  obtain ⟨fdM4, GM4⟩ := cd.def_ 34 (d := d_Fronttake_turn) rfl
  have F_Ftake_turn : Fun K "take_turn" "Front.take_turn" s_Ftake_turn _ fdM4 := fun_of GM4 rfl rfl rfl rfl rfl
  have b_Ftake_turn := F_Ftake_turn.binds (ps := ["self"]) fun _ _ _ _ _ _ us hl => match us, hl with | [_], _ => rfl
  obtain ⟨fdM5, GM5⟩ := cd.def_ 35 (d := d_Frontspread_untwist) rfl
  have F_Fspread_untwist : Fun K "spread_untwist" "Front.spread_untwist" s_Fspread_untwist _ fdM5 := fun_of GM5 rfl rfl rfl rfl rfl
  have b_Fspread_untwist := F_Fspread_untwist.binds (ps := ["self"]) fun _ _ _ _ _ _ us hl => match us, hl with | [_], _ => rfl
  obtain ⟨fdM6, GM6⟩ := cd.def_ 36 (d := d_Frontfinish) rfl
  have F_Ffinish : Fun K "finish" "Front.finish" s_Ffinish _ fdM6 := fun_of GM6 rfl rfl rfl rfl rfl
  have b_Ffinish := F_Ffinish.binds (ps := ["self"]) fun _ _ _ _ _ _ us hl => match us, hl with | [_], _ => rfl
  obtain ⟨fdM7, GM7⟩ := cd.def_ 37 (d := d_Frontleave_untwists) rfl
  have F_Fleave_untwists : Fun K "leave_untwists" "Front.leave_untwists" s_Fleave_untwists _ fdM7 := fun_of GM7 rfl rfl rfl rfl rfl
  have b_Fleave_untwists := F_Fleave_untwists.binds (ps := ["self"]) fun _ _ _ _ _ _ us hl => match us, hl with | [_], _ => rfl
  obtain ⟨fdM8, GM8⟩ := cd.def_ 38 (d := d_Frontmake) rfl
  have F_Fmake : Fun K "make" "Front.make" s_Fmake _ fdM8 := fun_of GM8 rfl rfl rfl rfl rfl
  have b_Fmake := F_Fmake.binds (ps := ["self", "back", "old", "new"]) fun _ _ _ _ _ _ us hl => match us, hl with | [_, _, _, _], _ => rfl
  obtain ⟨fdM9, GM9⟩ := cd.def_ 39 (d := d_Frontends_with) rfl
  have F_Fends_with : Fun K "ends_with" "Front.ends_with" s_Fends_with _ fdM9 := fun_of GM9 rfl rfl rfl rfl rfl
  have b_Fends_with := F_Fends_with.binds (ps := ["self", "text"]) fun _ _ _ _ _ _ us hl => match us, hl with | [_, _], _ => rfl
  obtain ⟨fdM10, GM10⟩ := cd.def_ 40 (d := d_Frontis_now) rfl
  have F_Fis_now : Fun K "is_now" "Front.is_now" s_Fis_now _ fdM10 := fun_of GM10 rfl rfl rfl rfl rfl
  have b_Fis_now := F_Fis_now.binds (ps := ["self", "text"]) fun _ _ _ _ _ _ us hl => match us, hl with | [_, _], _ => rfl
  obtain ⟨fdM11, GM11⟩ := cd.def_ 41 (d := d_LeastDances__init__) rfl
  have F_L__init__ : Fun K "__init__" "LeastDances.__init__" s_L__init__ _ fdM11 := fun_of GM11 rfl rfl rfl rfl rfl
  have b_L__init__ := F_L__init__.binds (ps := ["self", "fraction"]) fun _ _ _ _ _ _ us hl => match us, hl with | [_, _], _ => rfl
  obtain ⟨fdM12, GM12⟩ := cd.def_ 42 (d := d_LeastDancesdance) rfl
  have F_Ldance : Fun K "dance" "LeastDances.dance" s_Ldance _ fdM12 := fun_of GM12 rfl rfl rfl rfl rfl
  have b_Ldance := F_Ldance.binds (ps := ["self", "rank"]) fun _ _ _ _ _ _ us hl => match us, hl with | [_, _], _ => rfl
  obtain ⟨fdM13, GM13⟩ := cd.def_ 43 (d := d_LeastDancesrank_of) rfl
  have F_Lrank_of : Fun K "rank_of" "LeastDances.rank_of" s_Lrank_of _ fdM13 := fun_of GM13 rfl rfl rfl rfl rfl
  have b_Lrank_of := F_Lrank_of.binds (ps := ["self", "dance"]) fun _ _ _ _ _ _ us hl => match us, hl with | [_, _], _ => rfl
  have t_OPPOSITES := He.glo_ok X G (cd.fact 30 (f := .glo "OPPOSITES") rfl)
  have y_len := He.free_ok X G (cd.fact 31 (f := .free "len") rfl)
  have y_abs := He.free_ok X G (cd.fact 32 (f := .free "abs") rfl)
  have y_int := He.free_ok X G (cd.fact 33 (f := .free "int") rfl)
  have y_range := He.free_ok X G (cd.fact 34 (f := .free "range") rfl)
  have y_isinstance := He.free_ok X G (cd.fact 35 (f := .free "isinstance") rfl)
  have y_tuple := He.free_ok X G (cd.fact 36 (f := .free "tuple") rfl)
  have y_list := He.free_ok X G (cd.fact 37 (f := .free "list") rfl)
  have y_str := He.free_ok X G (cd.fact 38 (f := .free "str") rfl)
  have y_bool := He.free_ok X G (cd.fact 39 (f := .free "bool") rfl)
  have y_all := He.free_ok X G (cd.fact 40 (f := .free "all") rfl)
  have y_enumerate := He.free_ok X G (cd.fact 41 (f := .free "enumerate") rfl)
  have y_sum := He.free_ok X G (cd.fact 42 (f := .free "sum") rfl)
  have y_max := He.free_ok X G (cd.fact 43 (f := .free "max") rfl)
  have fa0 := cd.fact 44 (f := .cls "Front") rfl
  have fa1 := cd.fact 45 (f := .noat "Front" "letters") rfl
  have fa2 := cd.fact 46 (f := .noat "Front" "moves") rfl
  have fa3 := cd.fact 47 (f := .glo "Front") rfl
  have fa4 := cd.fact 48 (f := .mkr "Front") rfl
  have fa5 := cd.fact 49 (f := .meth "Front" "__init__") rfl
  have fa6 := cd.fact 50 (f := .meth "Front" "take") rfl
  have fa7 := cd.fact 51 (f := .meth "Front" "take_twist") rfl
  have fa8 := cd.fact 52 (f := .meth "Front" "take_untwist") rfl
  have fa9 := cd.fact 53 (f := .meth "Front" "take_turn") rfl
  have fa10 := cd.fact 54 (f := .meth "Front" "spread_untwist") rfl
  have fa11 := cd.fact 55 (f := .meth "Front" "finish") rfl
  have fa12 := cd.fact 56 (f := .meth "Front" "leave_untwists") rfl
  have fa13 := cd.fact 57 (f := .meth "Front" "make") rfl
  have fa14 := cd.fact 58 (f := .meth "Front" "ends_with") rfl
  have fa15 := cd.fact 59 (f := .meth "Front" "is_now") rfl
  have fa16 := cd.fact 60 (f := .exc "BadMove") rfl
  have fa17 := cd.fact 61 (f := .exm "BadMove" "BadMove" true) rfl
  have fa18 := cd.fact 62 (f := .glo "BadMove") rfl
  have fa19 := cd.fact 63 (f := .str "WORD_IN_FRONT" "RTR") rfl
  have fa20 := cd.fact 64 (f := .glo "WORDS") rfl
  have fa21 := cd.fact 65 (f := .cls "LeastDances") rfl
  have fa22 := cd.fact 66 (f := .noat "LeastDances" "fraction") rfl
  have fa23 := cd.fact 67 (f := .noat "LeastDances" "runs") rfl
  have fa24 := cd.fact 68 (f := .noat "LeastDances" "ways") rfl
  have fa25 := cd.fact 69 (f := .glo "LeastDances") rfl
  have fa26 := cd.fact 70 (f := .mkr "LeastDances") rfl
  have fa27 := cd.fact 71 (f := .meth "LeastDances" "dance") rfl
  have fa28 := cd.fact 72 (f := .meth "LeastDances" "rank_of") rfl
  have e := hfa.symm.trans m_law
  cases e
  refine ⟨fd29, fun s v => ?_, fun base KB GB TB => ?_⟩
  · obtain ⟨oc, od, kV, doc, pm, an, cdv, ct, osl, e, _⟩ := F_law.ex
    rw [e]
    exact .of_eq rfl
  have mo := c.more
  unfold exs at mo
  obtain ⟨moO, mo⟩ := He.ba mo
  obtain ⟨moP, mo⟩ := He.ba mo
  have O : Opp K w (He.ga K "OPPOSITES") := by
    have e : He.obsT fas dfs tbs K = He.valT dfs tbs w := c.t
    have e2 := congrArg (fun z : He.AlT => z.2) e
    have e3 : [He.dicW K (He.ga K "OPPOSITES")] = [some (He.keysIn w.params ["T", "U", "R"])] := e2
    exact opp_of (List.cons.inj e3).1 moO
  obtain ⟨mo1, mo⟩ := He.ba mo
  obtain ⟨mo2, mo⟩ := He.ba mo
  obtain ⟨mo3, mo⟩ := He.ba mo
  obtain ⟨mo4, mo⟩ := He.ba mo
  obtain ⟨mo5, mo⟩ := He.ba mo
  obtain ⟨mo6, mo7⟩ := He.ba mo
  have g_gcd := PySem.W.mg_of X G (He.eqO_ok mo1)
  have ex := He.exc_ok fa16
  have EC : Err K mg "BadMove" (He.ga K "BadMove") := ⟨He.glo_ok X G fa18, ex.1, ex.2.1, ex.2.2.1, ex.2.2.2, mo2, He.eqO_ok mo3, He.eqO_ok mo4, He.eqO_ok mo5, of_decide_eq_true mo6⟩
  have XC := He.exm_ok fa17
  obtain ⟨tF, gF⟩ := He.str_ok X G fa19
  have gW := He.glo_ok X G fa20
  have hW := words_ok mo7
  have D_tape : Dfn P w K mg base "_law_tape" 1 _ (spTape K) := ⟨_, _, ok_tape F__law_tape y_len y_abs y_int, m__law_tape, F__law_tape.kp, b__law_tape⟩
  have D_take : Dfn P w K mg base "_law_take" 1 _ spTake := ⟨_, _, ok_take F__law_take y_int, m__law_take, F__law_take.kp, b__law_take⟩
  have D_dance : Dfn P w K mg base "_law_dance" 2 _ spDance := ⟨_, _, ok_dance F__law_dance D_take y_range, m__law_dance, F__law_dance.kp, b__law_dance⟩
  have D_called : Dfn P w K mg base "_law_called" 1 _ (spCalled K) := ⟨_, _, ok_called F__law_called, m__law_called, F__law_called.kp, b__law_called⟩
  have D_number : Dfn P w K mg base "_law_number" 2 _ (spNumber K) := ⟨_, _, ok_number F__law_number D_called, m__law_number, F__law_number.kp, b__law_number⟩
  have D_turned : Dfn P w K mg base "turned" 1 _ spTurned := ⟨_, _, ok_turned F_turned, m_turned, F_turned.kp, b_turned⟩
  have D_after : Dfn P w K mg base "after" 2 _ spAfter := ⟨_, _, ok_after F_after D_turned, m_after, F_after.kp, b_after⟩
  have D_num : Dfn P w K mg base "number" 3 _ spNum := ⟨_, _, ok_num F_number D_after , m_number, F_number.kp, b_number⟩
  have D_diagram : Dfn P w K mg base "diagram" 1 _ spDiag := ⟨_, _, ok_diagram F_diagram  , m_diagram, F_diagram.kp, b_diagram⟩
  have D_fraction : Dfn P w K mg base "fraction" 1 _ spFrac := ⟨_, _, ok_frac F_fraction g_gcd, m_fraction, F_fraction.kp, b_fraction⟩
  have D_colouring : Dfn P w K mg base "colouring" 2 _ spCol := ⟨_, _, ok_colouring F_colouring D_diagram , m_colouring, F_colouring.kp, b_colouring⟩
  have D_is_plain : Dfn P w K mg base "is_plain" 1 _ spPlain := ⟨_, _, ok_is_plain F_is_plain y_len , m_is_plain, F_is_plain.kp, b_is_plain⟩
  have TBG : GxR.TabB base mg (He.cT K ("is_colouring", none)).1 (He.cT K ("is_colouring", none)).2 := by
    have t := TB (He.cT K ("is_colouring", none)) (List.mem_map.mpr ⟨("is_colouring", none), List.mem_cons_self .., rfl⟩)
    exact ⟨t.code, t.bm, t.gP⟩
  have codeIs : fd12.code = .ref (He.cT K ("is_colouring", none)).1 := by
    obtain ⟨oc, od, kV, doc, pm, an, cdv, ct, osl, e, lk, cdn⟩ := F_is_colouring.ex
    obtain ⟨x, hx⟩ := He.codeIn_ref cdn
    have hc : fd12.code = .ref x := by rw [e]; exact hx
    rw [hc]
    exact congrArg Value.ref (He.codeOf_eq (p := ("is_colouring", none)) lk hc).symm
  have D_is_colouring : Dfn P w K mg base "is_colouring" 2 _ (spIsCol (He.cT K ("is_colouring", none)).2) := ⟨_, _, ok_is_colouring F_is_colouring codeIs TBG D_diagram y_all y_len, m_is_colouring, F_is_colouring.kp, b_is_colouring⟩
  have D_reading : Dfn P w K mg base "reading" 3 _ (spReading (He.cT K ("is_colouring", none)).2) := ⟨_, _, ok_reading F_reading (D_is_plain.mono (by decide)) D_is_colouring (D_diagram.mono (by decide)) (D_fraction.mono (by decide)) , m_reading, F_reading.kp, b_reading⟩
  have D_is_move : Dfn P w K mg base "is_move" 1 _ spIsMove := ⟨_, _, ok_is_move F_is_move  gW hW gF, m_is_move, F_is_move.kp, b_is_move⟩
  have D_leads : Dfn P w K mg base "leads" 3 _ spLeadsG := ⟨_, _, ok_leads F_leads  (ok_madeX F_made D_is_move y_len EC) m_made F_made.kp b_made EC.g XC, m_leads, F_leads.kp, b_leads⟩
  have D_taken_back : Dfn P w K mg base "taken_back" 1 _ spBackM := ⟨_, _, ok_taken_back F_taken_back  , m_taken_back, F_taken_back.kp, b_taken_back⟩
  have TF : TxF K mg (He.ga K "Front") := ⟨He.cls_ok fa0, He.noat_ok fa1, He.noat_ok fa2, He.glo_ok X G fa3⟩
  have DM_is_now : MDfn P w K mg base (He.ga K "Front") "is_now" 1 ["self", "text"] (spNow (He.ga K "Front")) := ⟨_, _, ok_Fis_now F_Fis_now TF y_list, b_Fis_now, He.meth_ok fa15⟩
  have DM_ends_with : MDfn P w K mg base (He.ga K "Front") "ends_with" 1 ["self", "text"] (spEnds (He.ga K "Front")) := ⟨_, _, ok_Fends_with F_Fends_with TF y_list y_len, b_Fends_with, He.meth_ok fa14⟩
  have DM_make : MDfn P w K mg base (He.ga K "Front") "make" 1 ["self", "back", "old", "new"] (spMake (He.ga K "Front")) := ⟨_, _, ok_Fmake F_Fmake TF y_list y_len, b_Fmake, He.meth_ok fa13⟩
  have DM_leave_untwists : MDfn P w K mg base (He.ga K "Front") "leave_untwists" 2 ["self"] (spLeave (He.ga K "Front")) := ⟨_, _, ok_Fleave_untwists F_Fleave_untwists TF DM_ends_with, b_Fleave_untwists, He.meth_ok fa12⟩
  have DM_spread_untwist : MDfn P w K mg base (He.ga K "Front") "spread_untwist" 2 ["self"] (spSpread (He.ga K "Front")) := ⟨_, _, ok_Fspread_untwist F_Fspread_untwist TF DM_make DM_is_now, b_Fspread_untwist, He.meth_ok fa10⟩
  have DM_take_untwist : MDfn P w K mg base (He.ga K "Front") "take_untwist" 2 ["self"] (spStep (He.ga K "Front") 85) := ⟨_, _, ok_Ftake_untwist F_Ftake_untwist TF DM_make DM_is_now DM_ends_with, b_Ftake_untwist, He.meth_ok fa8⟩
  have DM_take_twist : MDfn P w K mg base (He.ga K "Front") "take_twist" 2 ["self"] (spStep (He.ga K "Front") 84) := ⟨_, _, ok_Ftake_twist F_Ftake_twist TF DM_make DM_is_now DM_ends_with, b_Ftake_twist, He.meth_ok fa7⟩
  have DM_take_turn : MDfn P w K mg base (He.ga K "Front") "take_turn" 3 ["self"] (spStepR (He.ga K "Front")) := ⟨_, _, ok_Ftake_turn F_Ftake_turn TF DM_leave_untwists DM_spread_untwist DM_make DM_ends_with y_range, b_Ftake_turn, He.meth_ok fa9⟩
  have DM_take : MDfn P w K mg base (He.ga K "Front") "take" 4 ["self", "letter"] (spTakeF (He.ga K "Front")) := ⟨_, _, ok_Ftake F_Ftake TF DM_take_twist DM_take_untwist DM_take_turn, b_Ftake, He.meth_ok fa6⟩
  have DM_finish : MDfn P w K mg base (He.ga K "Front") "finish" 3 ["self"] (spFinish (He.ga K "Front")) := ⟨_, _, ok_Ffinish F_Ffinish TF DM_leave_untwists DM_is_now DM_make DM_ends_with, b_Ffinish, He.meth_ok fa11⟩
  have D_to_standard : Dfn P w K mg base "to_standard" 6 _ spToStd := ⟨_, _, ok_to_standard F_to_standard TF (He.mkr_ok fa4) (ok_F__init__ F_F__init__ TF) b_F__init__ DM_take DM_finish, m_to_standard, F_to_standard.kp, b_to_standard⟩
  have D_judge : Dfn P w K mg base "judge" 7 _ spJudge := ⟨_, _, ok_judge F_judge (D_num.mono (by decide)) (D_colouring.mono (by decide)) D_to_standard (D_taken_back.mono (by decide)) , m_judge, F_judge.kp, b_judge⟩
  have D_accepts : Dfn P w K mg base "accepts" 5 _ (spAcc (He.cT K ("is_colouring", none)).2) := ⟨_, _, ok_accepts F_accepts (D_leads.mono (by decide)) (D_reading.mono (by decide)) , m_accepts, F_accepts.kp, b_accepts⟩
  have D_quotients : Dfn P w K mg base "quotients" 1 _ (spQuo K) := ⟨_, _, ok_quotients F_quotients y_abs , m_quotients, F_quotients.kp, b_quotients⟩
  have D_steps : Dfn P w K mg base "steps" 2 _ spSteps := ⟨_, _, ok_steps F_steps D_quotients y_sum y_len , m_steps, F_steps.kp, b_steps⟩
  have D_runs : Dfn P w K mg base "runs" 2 _ spRuns := ⟨_, _, ok_runs F_runs D_quotients y_enumerate , m_runs, F_runs.kp, b_runs⟩
  have D_mirrored : Dfn P w K mg base "mirrored" 1 _ spMir := ⟨_, _, ok_mirrored F_mirrored O t_OPPOSITES, m_mirrored, F_mirrored.kp, b_mirrored⟩
  have D_backward : Dfn P w K mg base "backward" 2 _ spBack := ⟨_, _, ok_backward F_backward D_mirrored, m_backward, F_backward.kp, b_backward⟩
  have D_undo : Dfn P w K mg base "undo" 5 _ spUndo := ⟨_, _, ok_undo F_undo (D_backward.mono (by decide)) (D_runs.mono (by decide)) (D_num.mono (by decide)) , m_undo, F_undo.kp, b_undo⟩
  have D_ways_on : Dfn P w K mg base "ways_on" 1 _ spWaysOn := ⟨_, _, ok_ways_on F_ways_on y_range y_len , m_ways_on, F_ways_on.kp, b_ways_on⟩
  have D_law_alike : Dfn P w K mg base "_law_alike" 8 _ (spAlike (He.cT K ("is_colouring", none)).2) := ⟨_, _, ok_law_alike F__law_alike D_judge (D_accepts.mono (by decide)) , m__law_alike, F__law_alike.kp, b__law_alike⟩
  have TLd : TxL K mg (He.ga K "LeastDances") := ⟨He.cls_ok fa21, He.noat_ok fa22, He.noat_ok fa23, He.noat_ok fa24, He.glo_ok X G fa25⟩
  have PR := prop_ok moP
  have moF : fnB K = true := by
    obtain ⟨_, h⟩ := He.ba moP
    obtain ⟨_, h⟩ := He.ba h
    obtain ⟨_, h⟩ := He.ba h
    exact (He.ba h).2
  obtain ⟨fdC, GCD⟩ := getFunD cg moF
  have F_Ldance_count : Fun K "dance_count" "LeastDances.dance_count" s_Ldance_count _ fdC := fun_of GCD rfl rfl rfl rfl rfl
  have b_Ldance_count := F_Ldance_count.binds (ps := ["self"]) fun _ _ _ _ _ _ us hl => match us, hl with | [_], _ => rfl
  have GC := ok_Ldance_count (P := P) (w := w) (mg := mg) (base := base) F_Ldance_count TLd 
  have GI := ok_L__init__ (P := P) (w := w) (base := base) F_L__init__ TLd D_runs (D_ways_on.mono (by decide))
  have ML := He.mkr_ok fa26
  have DM_dance : MDfnL P w K mg base (He.ga K "LeastDances") "dance" 3 ["self", "rank"] (spDanceL (He.ga K "LeastDances")) := ⟨_, _, ok_Ldance F_Ldance TLd y_len PR GC b_Ldance_count, b_Ldance, He.meth_ok fa27⟩
  have DM_rank_of : MDfnL P w K mg base (He.ga K "LeastDances") "rank_of" 4 ["self", "dance"] (spRankL (He.ga K "LeastDances")) := ⟨_, _, ok_Lrank_of F_Lrank_of TLd D_num (D_steps.mono (by decide)) y_len, b_Lrank_of, He.meth_ok fa28⟩
  exact ok_law F_law (D_tape.mono (by decide)) (D_dance.mono (by decide)) (D_undo.mono (by decide)) (D_number.mono (by decide)) (D_num.mono (by decide)) D_law_alike (D_backward.mono (by decide)) (D_steps.mono (by decide)) y_range y_len y_max TLd ML GI b_L__init__ DM_dance DM_rank_of
end Rope
open PySem PySem.W PySem.Calls PyProof.Rows
set_option maxRecDepth 100000 in
set_option maxHeartbeats 0 in
theorem PySem.Challenge.cw_ropedance_k23_whole_undone_holds : PySem.Challenge.rw_ropedance_k23_whole_undone.Holds := by
  w_on; o_law
  refine HandSHeadRun.head_imp (r := OpenLaw.row PySem.Challenge.rw_ropedance_k23_whole_undone) (q := view (OpenLaw.row PySem.Challenge.rw_ropedance_k23_whole_undone).prog [0, 49]) (H := Rope.hk) (ob := Rope.ob) (M := 12000) (loose := ((["fraction", "after", "turned", "quotients", "number", "backward", "mirrored", "steps", "runs", "undo", "ways_on", "diagram", "is_colouring", "is_plain", "colouring", "reading", "is_move", "made", "leads", "to_standard", "judge", "taken_back", "accepts", "_law_tape", "_law_take", "_law_dance", "_law_called", "_law_number", "_law_alike", "OPPOSITES"] : List PySem.Str) ++ (["RopeError", "NoFraction", "BadMove", "NoDance", "Front", "LeastDances", "WORDS", "WORD_IN_FRONT", "_law_same"] : List PySem.Str))) (d := HandSHeadRun.topDef (OpenLaw.row PySem.Challenge.rw_ropedance_k23_whole_undone).prog 49) (kwd := []) Rope.ob_eq
    Rope.head_run (by kernel_rfl) (by kernel_rfl) (by kernel_rfl) (by rfl) (by first | assumption | decide +kernel) (by decide +kernel) ⟨rfl, rfl, rfl, rfl, rfl, by decide +kernel⟩ ?hw ?hc
  case hw => w_witness2
  case hc =>
    refine LamX.walk_ofTsE (l := PySem.Challenge.rw_ropedance_k23_whole_undone) (n := 63) (k := 9) (x := "script") (CX := fun _ => L2.CX0) rfl (by decide) (by kernel_rfl) ⟨rfl, by decide, by decide⟩ ?F (fun _ _ _ _ _ z => z)
    intro w mg fa h Y G hmg0
    obtain ⟨K, KX, c, cg⟩ := Y
    have hmg : mg ("law" : PySem.Str) = some (.ref fa) := by
      have e : (HandSHeadRun.topDef (OpenLaw.row PySem.Challenge.rw_ropedance_k23_whole_undone).prog 49).name = ("law" : PySem.Str) := by kernel_rfl
      rw [← e]
      exact hmg0
    obtain ⟨fd, hb, hF⟩ := Rope.all_facts (P := (PySem.Challenge.rw_ropedance_k23_whole_undone).prog) (w := w) KX G hmg c cg
    refine ⟨K, KX, fd, Rope.tfs.map (He.cT K), Rope.spLawK K, fun p hp => ?_, fun p hp => ?_, fun p hp => ?_, hb, Rope.spLaw_from K, hF⟩
    · obtain ⟨x, hx, rfl⟩ := List.mem_map.mp hp
      exact c.empty x hx
    · obtain ⟨x, hx, rfl⟩ := List.mem_map.mp hp
      exact c.out x hx
    · obtain ⟨x, hx, rfl⟩ := List.mem_map.mp hp
      exact PySem.W.codeHd_of_K KX (c.hd x hx)
