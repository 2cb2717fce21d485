import PyProof.Rows.All
import Wide.All
import OpenK.AllK
import Wide.FinOn
import PyProof.StrBlock2
import HandS.ForMost
import HandS.Wide
import HandS.IsInst
import HandS.Exc
import HandS.ExcOwn
import HandS.ExcCtx
import HandS.ExcIs
import HandS.Hot
import HandS.WordsExc
import HandS.Gcd
import HandS.AnyAll
import HandS.Style
import HandS.More
import HandS.List
import HandS.Dict
import HandS.Conv
import HandS.TupLe
import HandS.Deep
import HandS.Strs
import HandS.Codes
import HandS.Text
import HandS.Flow
import HandS.Comp
import HandS.TryOnly
import HandS.Replace
import HandS.ReplaceLit
import HandS.ReplaceList
import HandS.HeadHook4
import HandS.HeadEnd
import HandS.HeadWalk
import HandS.Head0
import HandS.Head1
import HandS.Head2
import HandS.Head3
import PySem.Challenge.RW_ropedance_k27_texts_of_dances
set_option Elab.async false
set_option linter.all false
set_option maxRecDepth 100000
set_option maxHeartbeats 4000000
namespace Rope
open PySem L2


/-! ### texts as lists of codes -/
def S (l : List Nat) : Str := ⟨l.toArray⟩
theorem S_len (l : List Nat) : (S l).length = l.length := by simp [S, Str.length]
theorem S_list (l : List Nat) : (S l).cps.toList = l := by simp [S]
theorem S_size (l : List Nat) : (S l).cps.size = l.length := by simp [S]
theorem S_get (l : List Nat) (i : Nat) : (S l).cps[i]? = l[i]? := by simp [S]
theorem S_inj {l m : List Nat} (h : S l = S m) : l = m := by
  have := congrArg (fun z : Str => z.cps.toList) h
  simpa [S] using this
theorem S_app (l m : List Nat) : S l ++ S m = S (l ++ m) := by
  show Str.append (S l) (S m) = S (l ++ m)
  simp [Str.append, S]
theorem S_mul (l : List Nat) (n : Int) : Txt.mul (S l) n = S (List.replicate n.toNat l).flatten := by
  unfold Txt.mul
  by_cases h1 : n < 1
  · rw [if_pos h1]
    have : n.toNat = 0 := by omega
    rw [this]
    rfl
  · rw [if_neg h1]
    by_cases h2 : (n == 1 || (S l).length == 0) = true
    · rw [if_pos h2]
      simp only [Bool.or_eq_true, beq_iff_eq] at h2
      rcases h2 with h2 | h2
      · subst h2
        show S l = S (List.replicate 1 l).flatten
        simp
      · rw [S_len] at h2
        have : l = [] := List.eq_nil_of_length_eq_zero h2
        subst this
        simp
    · rw [if_neg h2]
      have aux : ∀ (k : Nat) (a : Array Nat), ((List.replicate k (S l).cps).foldl (· ++ ·) a).toList = a.toList ++ (List.replicate k l).flatten := by
        intro k
        induction k with
        | zero => intro a; simp
        | succ k ih =>
          intro a
          rw [List.replicate_succ, List.foldl_cons, ih, List.replicate_succ, List.flatten_cons, Array.toList_append, List.append_assoc, S_list]
      have := aux n.toNat #[]
      unfold S
      congr 1
      apply Array.toList_inj.mp
      rw [show S l = (⟨l.toArray⟩ : Str) from rfl] at this
      rw [this]
      simp
theorem S_cut (l : List Nat) (lo hi : Option Int) : cutS (S l) lo hi = S ((l.drop (HT.sIx l.length 0 lo)).take (HT.sIx l.length l.length hi - HT.sIx l.length 0 lo)) := by
  unfold cutS
  rw [S_len, S_list]
  rfl
theorem S_take (l : List Nat) {m : Int} (h : 0 ≤ m) : cutS (S l) none (some m) = S (l.take m.toNat) := by
  obtain ⟨k, rfl⟩ := Int.eq_ofNat_of_zero_le h
  rw [S_cut, HT.sIx_none, HT.sIx_nat, List.drop_zero, Nat.sub_zero, Int.toNat_natCast]
  congr 1
  by_cases h2 : k ≤ l.length
  · rw [Nat.min_eq_left h2]
  · rw [Nat.min_eq_right (by omega), List.take_of_length_le (Nat.le_refl _), List.take_of_length_le (by omega)]
theorem S_drop (l : List Nat) {m : Int} (h : 0 ≤ m) : cutS (S l) (some m) none = S (l.drop m.toNat) := by
  obtain ⟨k, rfl⟩ := Int.eq_ofNat_of_zero_le h
  rw [S_cut, HT.sIx_none, HT.sIx_nat, Int.toNat_natCast]
  congr 1
  rw [List.take_of_length_le (by simp)]
  by_cases h2 : k ≤ l.length
  · rw [Nat.min_eq_left h2]
  · rw [Nat.min_eq_right (by omega), List.drop_length, List.drop_eq_nil_of_le (by omega)]
/-- a text times an int -/
theorem op_mul_str {X : Cx} : OpR X (binaryOp .Mult) (fun x y H Q => ∃ (l : List Nat) (n : Int), x = .str (S l) ∧ y = .int n ∧ 0 ≤ n ∧ n < 2 ^ 62 ∧ l.length * n.toNat ≤ 16777215 ∧ Q (.str (S (List.replicate n.toNat l).flatten)) H) := by
  intro pins s σ H x y v u Q I rx ry h
  obtain ⟨l, n, rfl, rfl, h0, h1, h2, q⟩ := h
  obtain ⟨t, rfl⟩ := rx
  obtain ⟨t', rfl⟩ := ry
  have e1 : decide (n < -(2 ^ 63 : Int)) = false := decide_eq_false (by omega)
  have e2 : decide (n ≥ 2 ^ 63) = false := decide_eq_false (by omega)
  refine SB.mul ⟨by rw [e1, e2]; rfl, fun z1 z2 => ?_, fun z1 z2 => ?_⟩ fun t' k => ⟨.str _, H, I.tok _, ⟨_, rfl⟩, by rw [S_mul]; exact q⟩
  · rw [S_len]
    have h3 : (l.length : Int) * n ≤ 16777215 := by
      have : ((l.length * n.toNat : Nat) : Int) ≤ 16777215 := Int.ofNat_le.mpr h2
      rw [Int.natCast_mul, Int.toNat_of_nonneg h0] at this
      exact this
    have hn : 0 < n := by omega
    intro hc
    have hc' : (2 ^ 63 - 1) / n < (l.length : Int) := hc
    have := (Int.ediv_lt_iff_lt_mul hn).mp hc'
    omega
  · rw [S_len]
    unfold Builtin.Str.tooLong
    rw [sizeLine_eq]
    exact decide_eq_false (by omega)
/-! ### the calls: a fraction by a letter -/
def called (v : Int × Int) (c : Nat) : Int × Int :=
  if c = 84 then (v.1 + v.2, v.2) else if c = 85 then (v.1 - v.2, v.2) else if 0 < v.1 then (0 - v.2, v.1) else if v.1 < 0 then (v.2, 0 - v.1) else (1, 0)
def run (v : Int × Int) (l : List Nat) : Int × Int := l.foldl called v
theorem run_nil (v : Int × Int) : run v [] = v := rfl
theorem run_app (v : Int × Int) (l m : List Nat) : run v (l ++ m) = run (run v l) m := List.foldl_append
theorem run_take {l : List Nat} {i c : Nat} (v : Int × Int) (h : l[i]? = some c) : run v (l.take (i + 1)) = called (run v (l.take i)) c := by
  rw [List.take_add_one, h, run_app]
  rfl
/-- what a fraction of the laws keeps: q positive or infinite, no common divisor -/
def Good (v : Int × Int) : Prop := (0 < v.2 ∨ v = (1, 0)) ∧ Int.gcd v.1 v.2 = 1
theorem Good.zero : Good (0, 1) := ⟨.inl (by decide), by decide⟩
theorem gcd_add' (p q : Int) : Int.gcd (p + q) q = Int.gcd p q := by
  have := Int.gcd_add_mul_right_left p q 1
  simpa using this
theorem Good.called {v : Int × Int} (h : Good v) (c : Nat) : Good (called v c) := by
  obtain ⟨p, q⟩ := v
  obtain ⟨h1, h2⟩ := h
  simp only at h1 h2
  unfold Rope.called
  by_cases c1 : c = 84
  · rw [if_pos c1]
    refine ⟨?_, ?_⟩
    · rcases h1 with h1 | h1
      · exact .inl h1
      · cases h1; exact .inr rfl
    · show Int.gcd (p + q) q = 1
      rw [gcd_add']; exact h2
  rw [if_neg c1]
  by_cases c2 : c = 85
  · rw [if_pos c2]
    refine ⟨?_, ?_⟩
    · rcases h1 with h1 | h1
      · exact .inl h1
      · cases h1; exact .inr rfl
    · show Int.gcd (p - q) q = 1
      have := gcd_add' (p - q) q
      rw [Int.sub_add_cancel] at this
      rw [← this]; exact h2
  rw [if_neg c2]
  by_cases c3 : 0 < p
  · rw [if_pos (show 0 < (p, q).1 from c3)]
    refine ⟨.inl c3, ?_⟩
    show Int.gcd (0 - q) p = 1
    rw [Int.zero_sub, Int.neg_gcd, Int.gcd_comm]; exact h2
  rw [if_neg (show ¬ 0 < (p, q).1 from c3)]
  by_cases c4 : p < 0
  · rw [if_pos (show (p, q).1 < 0 from c4)]
    refine ⟨.inl (by show 0 < 0 - p; omega), ?_⟩
    show Int.gcd q (0 - p) = 1
    rw [Int.zero_sub, Int.gcd_neg, Int.gcd_comm]; exact h2
  rw [if_neg (show ¬ (p, q).1 < 0 from c4)]
  exact ⟨.inr rfl, by decide⟩
theorem good_run : ∀ (l : List Nat) {v : Int × Int}, Good v → Good (run v l)
  | [], _, h => h
  | c :: r, _, h => good_run r (h.called c)
/-- its size grows by a bit a letter -/
theorem called_size {v : Int × Int} {n : Nat} (h1 : v.1.natAbs ≤ n) (h2 : v.2.natAbs ≤ n) (h0 : 1 ≤ n) (c : Nat) : (called v c).1.natAbs ≤ 2 * n ∧ (called v c).2.natAbs ≤ 2 * n := by
  unfold called
  repeat' split
  all_goals simp only
  all_goals omega
theorem run_size : ∀ (l : List Nat) {v : Int × Int} {n : Nat}, v.1.natAbs ≤ n → v.2.natAbs ≤ n → 1 ≤ n → (run v l).1.natAbs ≤ 2 ^ l.length * n ∧ (run v l).2.natAbs ≤ 2 ^ l.length * n
  | [], v, n, h1, h2, _ => by simpa [run] using ⟨h1, h2⟩
  | c :: r, v, n, h1, h2, h0 => by
    have q := called_size h1 h2 h0 c
    have ih := run_size r q.1 q.2 (by omega)
    have e : 2 ^ (c :: r).length * n = 2 ^ r.length * (2 * n) := by
      rw [List.length_cons, Nat.pow_succ, Nat.mul_assoc]
    rw [e]
    exact ih
/-! ### the divisor -/
theorem gcd_step (x y : Int) : Nat.gcd y.natAbs (x.fmod y).natAbs = Nat.gcd x.natAbs y.natAbs := by
  show Int.gcd y (x.fmod y) = Int.gcd x y
  have e : x.fmod y = x + y * (-(x.fdiv y)) := by
    have := Int.fmod_def x y
    rw [this, Int.mul_neg]
    rfl
  rw [e, Int.gcd_add_mul_left_right, Int.gcd_comm]
theorem fmod_less {x y : Int} (h : y ≠ 0) : (x.fmod y).natAbs < y.natAbs := by
  by_cases h0 : 0 < y
  · rw [Int.fmod_eq_emod_of_nonneg x (by omega)]
    have h1 := Int.emod_nonneg x h
    have h2 := Int.emod_lt_of_pos x h0
    omega
  · have e : x.fmod y = -((-x).fmod (-y)) := by
      have := Int.neg_fmod_neg (a := x) (b := y)
      omega
    rw [e, Int.fmod_eq_emod_of_nonneg _ (by omega)]
    have h1 := Int.emod_nonneg (-x) (b := -y) (by omega)
    have h2 := Int.emod_lt_of_pos (-x) (b := -y) (by omega)
    omega
/-- for letter in text -/
theorem for_str {l : List Nat} {g : TG} {tb : TS} {D : Ends} {σ : L2.St} {H : Hp} (Pv : Nat → L2.St → Hp → Prop) (h0 : Pv 0 σ H)
    (hs : ∀ i c σ H, l[i]? = some c → Pv i σ H → g (.str (S [c])) σ H fun σ2 H2 => tb { D with nx := Pv (i + 1), ct := Pv (i + 1), bk := D.nx } σ2 H2) (hd : ∀ σ H, Pv l.length σ H → D.nx σ H) :
    ∃ W : Nat → Nat → L2.St → Hp → Prop, (∃ m, W 0 m σ H) ∧ ∀ i m σ H, W i m σ H →
      ((Its (S l)).stop i H ∧ D.nx σ H) ∨ ((Its (S l)).go i H ∧ ∃ N : L2.St → Hp → Prop, (∀ σ' H', N σ' H' → ∃ m', m' < m ∧ W (i + 1) m' σ' H') ∧ ∀ x H', (Its (S l)).yld i H x H' → g x σ H' fun σ2 H2 => tb { D with nx := N, ct := N, bk := D.nx } σ2 H2) := by
  refine ⟨fun i m σ H => m = l.length - i ∧ i ≤ l.length ∧ Pv i σ H, ⟨l.length, by simp, Nat.zero_le _, h0⟩, ?_⟩
  rintro i m σ H ⟨rfl, hi, p⟩
  by_cases hlt : i < l.length
  · refine .inr ⟨by show i < (S l).cps.size; rw [S_size]; exact hlt, Pv (i + 1), fun σ' H' p' => ⟨l.length - (i + 1), by omega, rfl, hlt, p'⟩, fun x H' y => ?_⟩
    obtain ⟨e, c, hc, rfl⟩ := y
    subst e
    rw [S_get] at hc
    exact hs i c σ _ hc p
  · have e : i = l.length := by omega
    subst e
    exact .inl ⟨by show (S l).cps.size ≤ l.length; rw [S_size]; exact Nat.le_refl _, hd σ H p⟩

section
open PySem.F HotX
variable {prog : Program} {w : World} {A : Around} {E : Value → Shared → Prop} {s : Shared}
/-- the end of a list's walk while an exception is handled -/
theorem list_end_hot {it l x1 : Addr} {i : Nat} {items : Array Value} {Q : Option Value → Shared → Prop} (hot : HotAt A x1 s.heap) (hne : x1 ≠ it)
    (hit : s.heap.IsListIter it l i) (hl : s.heap.IsList l items) (hx : items[i]? = none)
    (hQ : ∀ h', Heap.ExtBut it s.heap h' → Q none { s with heap := h' }) : wpAny (model prog w) A (pyNext (.ref it)) Q E s := by
  obtain ⟨io, iAt, _, iDat⟩ := id hit
  obtain ⟨lo, lAt, _, ln, lDat⟩ := hl
  obtain ⟨he, xo, xv, xAt, xDat, xCtx⟩ := hot
  have typ := hit.typeIs
  unfold pyNext
  refine wpAny_bind (wpAny_attempt (wpAny_callSpecial?_slot (name := Str.ofString "__next__") typ slot_listiter_next (wpAny_call_entry slot_listiter_next typ entry_listiter_next ?body (args_listiter_next _))))
  -- the list, the place, the items: nothing is left
  show wpAny _ _ (field (.ref it) 0 >>= _) _ _ s; refine wpAny_bind (wpAny_field iAt iDat (x := .ref l) rfl ?_)
  show wpAny _ _ (if (Value.ref l == Value.none) = true then _ else _) _ _ s; rw [if_neg (show ¬ ((Value.ref l == Value.none) = true) from Bool.false_ne_true)]
  show wpAny _ _ (field (.ref it) 1 >>= _) _ _ s; refine wpAny_bind (wpAny_field iAt iDat (x := .int i 0) rfl ?_)
  show wpAny _ _ (seqItems? (.ref l) >>= _) _ _ s; refine wpAny_bind (wpAny_seqItems lAt lDat ?_); simp only [Int.toNat_natCast, hx]
  refine wpAny_bind (wpAny_rule (wpAny_bind (wpAny_setField iAt iDat (by simp) ?stop)))
  -- StopIteration is made and raised on top of the one that is handled
  show wpAny _ _ (newExc (.type "StopIteration") [] >>= _) _ _ _; refine wpAny_bind ?_; simp only [newExc, newTuple]
  refine wpAny_bind (wpAny_newObj_type (wpAny_bind (m := firstArgMember _ _) (wpAny_of_eq (a := Value.none) (by first | rfl | (simp only [firstArgMember]; rfl)) (wpAny_newObj_type ?_ (by size_fits)))) (by size_fits))
  have kept := (Heap.get?_update_other s.heap (Obj.mapFields (·.setIfInBounds 0 .none)) hne.symm).trans xAt
  have far := Heap.lt_size (Heap.get?_push_of_some { cls := .type "tuple", data := .seq #[] } kept)
  refine raiseNew_hot ⟨he, xo, xv, Heap.get?_push_of_some _ (Heap.get?_push_of_some _ kept), xDat, xCtx⟩ (Nat.ne_of_lt far) (Heap.get?_push_size _ rfl) rfl (by first | (simp; done) | (simp; omega) | (simp only [Array.size_append]; simp; omega)) ?_
  refine wpAny_bind (wpAny_isInstance (T := "StopIteration") (b := true) ⟨_, Heap.get?_update_self _ (Heap.get?_push_size _ rfl) rfl, rfl⟩ isSubtype_stop (wpAny_pure (hQ _ fun c u hc e => ?_)))
  have e2 := (Heap.SameBut.update s.heap it (Obj.mapFields (·.setIfInBounds 0 .none))).extBut c u hc e
  have e3 := Heap.get?_push_of_some { cls := .type "tuple", data := .seq #[] } e2
  exact (Heap.get?_update_other _ _ (Nat.ne_of_gt (Heap.lt_size e3))).trans (Heap.get?_push_of_some _ e3)
end
/-- a list walked while an exception is handled -/
theorem walks_list_hot {prog : Program} {w : World} {A : Around} {x1 : Addr} {o1 : Obj} {vs1 : Array Value} (hh : A.handled = some (.ref x1)) (d1 : o1.data = .fields vs1) (c1 : vs1[2]? = some .none) (I ax : Addr) (hne : ax ≠ I) (h1I : x1 ≠ I) (items : Array Value) :
    Walks prog w A I [I, ax, x1] [I] items.size (fun i v => items[i]? = some v) (fun i h => h.IsListIter I ax i ∧ h.IsList ax items ∧ h.get? x1 = some o1) where
  sub := fun b hb => by simp at hb; simp [hb]
  frame := fun _ _ _ st hk => ⟨st.1.at fun o e => hk I (by simp) o e, st.2.1.at fun o e => hk ax (by simp) o e, hk x1 (by simp) _ st.2.2⟩
  item := fun i s Q E hi st hQ => by
    exact wpAny_pyNext_list_item st.1 st.2.1 (x := items[i]) (by simp [hi]) fun h' hit' hs' => hQ _ h' s.toks (by simp [hi]) ⟨hit', st.2.1.extBut hs'.extBut hne, hs'.extBut x1 _ h1I st.2.2⟩ fun b o hb e => hs'.extBut b o (fun h => hb (by simp [h])) e
  done := fun s Q E st hQ => list_end_hot ⟨hh, o1, vs1, st.2.2, d1, c1⟩ h1I st.1 st.2.1 (by simp) fun h' he' => hQ h' s.toks fun b o hb e => he' b o (fun h => hb (by simp [h])) e
  self := fun _ _ _ _ st hQ => wpAny_pyIter_listiter st.1 hQ
section
variable {X : Cx} {a : Addr} {oe : Obj} {cls : Value} {d : Option Addr} {pn : List (Addr × Obj)}
/-- any(list of bools) within an except suite -/
theorem any_hot (hz : L2N.Zn cls d oe) (hf : ∃ vs, oe.data = .fields vs) : CallR (X.suite a ((a, oe) :: pn)) (.builtin "any") (rAny X.K) := fun pins s σ H vs us Q I r ⟨b, bs, ev, hs, q⟩ => by
  subst ev
  obtain ⟨its, rv, hl, _⟩ := Inv.list I hs
  obtain ⟨fv, hd⟩ := hf
  have here := (I.pin (a, oe) (List.mem_append_left _ List.mem_cons_self)).1
  have lt := Heap.lt_size here
  rw [Vals.ref1 r]
  have items := rv.bls
  refine call_any_walk (iter_any hl.isList fun z ez st ne => ?_); subst ez
  refine ⟨_, _, _, _, _, _, _, rfl, walks_list_hot (A := (X.suite a ((a, oe) :: pn)).A.in1) (x1 := a) (o1 := oe) rfl hd (hz.2.2 fv hd) _ b ne (Nat.ne_of_lt lt) its.toArray, ⟨st.1, st.2, Heap.get?_push_of_some _ here⟩, truth_bools items, fun h' tk hk => ?_⟩
  have all : ∀ c u, s.heap.get? c = some u → h'.get? c = some u := fun c u e => hk c u (fun m => by
    rw [List.mem_singleton.mp m] at e
    exact Nat.lt_irrefl _ (Heap.lt_size e)) (Heap.get?_push_of_some _ e)
  refine ⟨.bl (bs.any id), H, I.kept all, ?_, q⟩
  show Value.bool ((List.range its.toArray.size).any fun i => bs.getD i false) = .bool (bs.any id)
  rw [← any_range, items, List.size_toArray, List.length_map]
/-- isinstance(e, c) of the error that the suite holds -/
def rIsF (K : PySem.W.Frag) (D a : Addr) (cls : Value) (d : Option Addr) : List V → Hp → VK → Prop := fun xs H Q => cls = .ref D ∧ d = none ∧ rIsE K D a xs H Q
theorem call_isF {D : Addr} (C : ExcC X.K D) (hz : L2N.Zn cls d oe) (hf : ∃ vs, oe.data = .fields vs) : CallR (X.suite a ((a, oe) :: pn)) (.builtin "isinstance") (rIsF X.K D a cls d) := by
  intro pins s σ H xs us Q I r h
  obtain ⟨rfl, rfl, h⟩ := h
  exact call_isE C hz.zc hf pins s σ H xs us Q I r h
end
theorem takes0N {X : Cx} : L2N.Takes X (fun _ _ _ _ => False) := fun _ _ ⟨_, _, _, _, _, _, _, _, _, _, _, _, _, _, _, _, no⟩ => False.elim no
theorem okX {P : Program} {w : World} {K : PySem.W.Frag} {mg : Str → Option Value} {base : Heap} {x qual : Str} {st : Stmt} {f : Addr} {fd : FuncData} {N ps : List Str} {k : Nat} {sp : Sp} (F : Fun K x qual st f fd) (S : FnScope N ps (defScope st)) (len : ∀ vs H Q E, sp vs H Q E → vs.length = ps.length)
    (hbody : ∀ (cdv : Value) (A : Around) (outer : List Env) (s : Shared) (H : Hp) (vs : List V) (Q : VK) (E : XK), Room k (A.deeper (PyProof.Rows.envOfC qual (defScope st) s.heap.objs.size f cdv)) → sp vs H Q E →
      ∃ t, PSs (cxOf (L2N.CX P w) P w K mg base N qual (defScope st) f cdv A outer s H E) (defBody st) t ∧ t { nx := fun _ H' => Q .non H', rt := Q } (start N vs) H) : FnOk P w K mg base (L2N.CX P w) (k + 1) f fd ps sp := by
  obtain ⟨_, _, _, _, _, _, cdv, _, _, rfl, lk, hcd⟩ := F.ex
  exact fn_of lk hcd S len (hbody cdv)
/-! ### an error class of the program -/
structure Err (K : PySem.W.Frag) (mg : Str → Option Value) (x : Str) (C : Addr) : Prop where
  g : mg x = some (.ref C)
  x : PySem.W.excIn K C [.type "ValueError", .type "Exception", .type "BaseException", .type "object"] "ValueError.__new__" = true
  k : PySem.W.keepIn K (.ref C) = true
  b : PySem.W.subIn K (.ref C) (.type "BaseException") = some true
  t : PySem.W.typeIn K (.ref C) = some (.type "type")
  hd : PySem.W.hasDictIn K C = true
  hg : PySem.W.findIn K (.ref C) "__getattribute__" = some (some (.builtin "BaseException.__getattribute__"))
  hk : PySem.W.findIn K (.ref C) "__getattr__" = some none
  ha : PySem.W.findIn K (.ref C) "__class__" = some (some (.builtin "object.__class__"))
  hm : PySem.W.mroIn K C (.type "object") = some true
theorem Err.c {K : PySem.W.Frag} {mg : Str → Option Value} {x : Str} {C : Addr} (e : Err K mg x C) (hn : PySem.W.specialIn K (.builtin "object.__class__") "__get__" = some (some (.builtin "getset_descriptor.__get__"))) (ht : PySem.W.takesIn K (.builtin "object.__class__") = some true) : ExcC K C :=
  ⟨e.hg, e.hk, e.b, e.hd, e.ha, hn, ht, e.hm⟩
/-- // of great ints, of any sign -/
theorem op_fdivWN {X : Cx} : OpR X (binaryOp .FloorDiv) (rI (fun _ j => j ≠ 0 ∧ j.natAbs.log2 < 9000) fun i j => .int (i.fdiv j)) := opI fun i j _ _ _ _ _ hc q =>
  PyProof.Rows.floordiv_int hc.1 q (.inl (PyProof.noPylong_of_log2 hc.2))

/-! ### text[::-1] -/
theorem rev_pick (l : List Nat) (t : Tok) (a : Tok) : sliceMade (S l) t none none (some (-1, a)) = Made.str (S l.reverse) := by
  have hs : slicePicked (S l) none none (some (-1, a)) = (List.range l.length).reverse := by
    show sliceRange (((S l).length : Int) - 1) (-1) (-1) = _
    rw [S_len, PySem.W.krv_sliceRange, PySem.W.krv_range]
  have hf : ((List.range l.length).reverse.filterMap ((S l).cps[·]?)) = l.reverse := by
    rw [List.filterMap_reverse]
    congr 1
    have : ∀ m : List Nat, (List.range m.length).filterMap (fun i => m[i]?) = m := fun m => by
      induction m with
      | nil => rfl
      | cons c r ih =>
        rw [List.length_cons, List.range_succ_eq_map, List.filterMap_cons, List.filterMap_map]
        show c :: (List.range r.length).filterMap (fun i => r[i]?) = c :: r
        rw [ih]
    have h2 : (fun i => (S l).cps[i]?) = fun i => l[i]? := funext fun i => S_get l i
    rw [h2]
    exact this l
  unfold sliceMade
  rw [hs, hf]
  rfl
def tRevS (te : TE) : TE := fun σ H Q => te σ H fun x H1 => ∃ l : List Nat, x = .str (S l) ∧ l.length ≤ 16777216 ∧ Q (.str (S l.reverse)) H1
theorem pe_revS {X : Cx} {e : Expr} {te : TE} {k : Nat} {p1 p2 p3 pos : Pos} (he : PE X e te) : PE X (.Subscript e (.Slice none none (some (.UnaryOp .USub (.Constant (.int 1) k p1) p2)) p3) pos) (tRevS te) := by
  constructor
  intro pins s σ H Q I hyp
  apply PyProof.Rows.Subscript_
  refine thn (he.run pins s σ H _ I hyp) fun v s1 ⟨x, H1, I1, r1, l, ex, hl, q⟩ => ?_
  subst ex
  obtain ⟨tk, rfl⟩ := r1
  have minus : PO X (some (.UnaryOp .USub (.Constant (.int 1) k p1) p2)) (tPart (tUn (rU fun i => .int (-i)) (tC (.int 1)))) := po_some (pe_un un_neg pe_int)
  apply wpAny_Slice
  refine thn (po_none.run pins s1 σ H1 (fun o G => o = none ∧ G = H1) I1 ⟨rfl, rfl⟩) fun v1 s2 ⟨o1, G1, J1, a1, b1, c1⟩ => ?_
  subst b1; subst c1
  refine thn (po_none.run pins s2 σ G1 (fun o G => o = none ∧ G = G1) J1 ⟨rfl, rfl⟩) fun v2 s3 ⟨o2, G2, J2, a2, b2, c2⟩ => ?_
  subst b2; subst c2
  refine thn (minus.run pins s3 σ G2 (fun o G => o = some (-1) ∧ G = G2) J2 ⟨1, rfl, -1, rfl, rfl, rfl⟩) fun v3 s4 ⟨o3, G3, J3, a3, b3, c3⟩ => ?_
  subst b3; subst c3
  obtain ⟨y1, rfl, g1⟩ := IsPart.raw a1
  obtain ⟨y2, rfl, g2⟩ := IsPart.raw a2
  obtain ⟨y3, rfl, g3⟩ := IsPart.raw a3
  cases y1 with
  | some z => cases g1
  | none =>
  cases y2 with
  | some z => cases g2
  | none =>
  cases y3 with
  | none => cases g3
  | some z =>
  obtain ⟨z1, z2⟩ := z
  have ez : z1 = -1 := Option.some.inj g3
  subst ez
  show wpAny (model X.prog X.w) X.A (PyProof.Rows.subscriptTail e (.Slice none none (some (.UnaryOp .USub (.Constant (.int 1) k p1) p2)) p3) (.str (S l) tk) (.ref s4.heap.objs.size)) (EP X pins σ Q) X.xe { s4 with heap := s4.heap.push { cls := .type "slice", data := .fields #[partValue none, partValue none, partValue (some (-1, z2))] } }
  refine PyProof.Rows.tail_any (ops := [.str (S l) tk, .ref s4.heap.objs.size]) (typeIs_str _ _ _) PySem.F.slot_str_getitem.lookup ?_ (by with_unfolding_all rfl)
  refine wpAny_getItem_str_slice (l := none) (u := none) (st := some (-1, z2)) ⟨_, Heap.get?_push_size _ rfl, rfl, rfl⟩ (by rfl) ?_
  rw [rev_pick]
  exact ⟨by rw [S_len, List.length_reverse, sizeLine_eq]; exact hl, .str _, _, J3.kept (t' := s4.toks + 1) fun b ob w => Heap.get?_push_of_some _ w, ⟨_, rfl⟩, q⟩
/-! ### all(test for x in text), where the test may read what the top has written -/
section
open GxR
variable {X : Cx} {pins : List (Addr × Obj)} {σ : L2.St} {H : Hp} {s : Shared}
def EltG (X : Cx) (scope : Scope) (x : Str) (elt : Expr) (pb : Nat → Bool) : Prop :=
  ∀ (cenv : Env) (A' : Around) (E' : Value → Shared → Prop) (c : Nat) (t : Tok) (z : Shared) (m : Str → Option Value), X.Ok → cenv.scope = scope → cenv.globals = X.env.globals → (∀ b o, X.base.get? b = some o → z.heap.get? b = some o) →
    z.heap.Ns cenv.locals m → m x = some (.str ⟨#[c]⟩ t) → wpAny (model X.prog X.w) A' (eval elt cenv) (fun y z' => y = .bool (pb c) ∧ Keeps z z') E' z
theorem tbl_not {H : Hp} {P : Addr} {ps : Array Value} (hP : H P = some (.tbl ps)) {b : Addr} (h : H b = none) : b ≠ P := fun z => by rw [z, hP] at h; cases h
theorem gen_go {c P : Addr} {elt : Expr} {x : Str} {scope : Scope} {pb : Nat → Bool} {k : Nat} {Q' : Value → Shared → Prop} {a : Str} {o : Obj} {St : Nat → Heap → Prop} {ps : Array Value}
    (hr : Room k X.A) (TB : TabB X.base X.mg c P) (sc : GenS X.env scope x) (hel : EltG X scope x elt pb) (J : L2.Inv X pins σ H s) (hP : H P = some (.tbl ps)) (atP : s.heap.get? P = some { cls := .none, data := .fields ps }) (ltP : P < s.heap.objs.size)
    (W : ∀ A' : Around, A'.handled = none → Walks X.prog X.w A' s.heap.objs.size [s.heap.objs.size] [s.heap.objs.size] a.cps.size (SignAt a) St) (st0 : St 0 (s.heap.push o)) (code : Value) (h3 : Heap) (tk : Nat) (ps' more : Array Value) (em : ps' = ps ++ more)
    (hx : Heap.ExtBut P (s.heap.push o) h3) (hsz : (s.heap.push o).objs.size ≤ h3.objs.size) (h3P : h3.get? P = some { cls := .none, data := .fields ps' }) (ok' : TriplesOk ps'.toList) (lim : (s.heap.push o).NoLimit) (hQ : ∀ g z, Ready X pins σ H P a pb g z → Q' (.ref g) z) :
    wpAny (model X.prog X.w) X.A (builtinsFor X.env.globals X.env.builtins) (fun bi s₄ =>
      ∃ Ia fp wr n₀ Pf St₀ pz F, Value.ref s.heap.objs.size = .ref Ia ∧ (∀ A' : Around, A'.handled = none → Walks X.prog X.w A' Ia fp wr n₀ Pf St₀) ∧ St₀ 0 s₄.heap ∧ (∀ b ∈ fp, b < s₄.heap.objs.size) ∧ s₄.heap.NoLimit ∧ cStatics ∉ wr ∧
        (∀ href : Heap, (∀ b u, s₄.heap.get? b = some u → href.get? b = some u) → QuietGen X.prog X.w (genEnv scope (cloFrom X.env.cells scope.names []) s₄.heap.objs.size code bi X.env) x [] elt (List.range s₄.heap.objs.size) wr Pf pz F href) ∧
        (∀ g h₅ tk gs, gs.bare = true → s₄.heap.objs.size < g → h₅.objs.size = g + 1 → (∀ b u, s₄.heap.get? b = some u → h₅.get? b = some u) →
          WalksS X.prog X.w X.A.in4 g (g :: s₄.heap.objs.size :: List.range s₄.heap.objs.size) (s₄.heap.objs.size :: wr) (GenOnlyQ s₄.gens.size) (passing pz n₀ 0).length (fun j y => ∃ i, (passing pz n₀ 0)[j]? = some i ∧ F i y) (GenAt X.prog X.w X.A.in4 g s₄.gens.size s₄.heap.objs.size (List.range s₄.heap.objs.size) wr pz n₀ F) →
          GenAt X.prog X.w X.A.in4 g s₄.gens.size s₄.heap.objs.size (List.range s₄.heap.objs.size) wr pz n₀ F 0 { s₄ with gens := s₄.gens.push gs, toks := tk, heap := h₅ } → Q' (.ref g) { s₄ with gens := s₄.gens.push gs, toks := tk, heap := h₅ })) X.xe { s with heap := h3, toks := tk } := by
  obtain ⟨bm, ob, q1, q2, q3, q4, q5, q6, q7, q8⟩ := TB.bm
  obtain ⟨cm, cns, cnn⟩ := J.nolimit
  have cP : cStatics ≠ P := fun z => by
    obtain ⟨o2, es, ep, g1, g2, _⟩ := cns
    rw [z, atP] at g1
    cases g1
    cases g2
  have cL : cStatics < s.heap.objs.size := cns.lt
  have big : (s.heap.push o).objs.size = s.heap.objs.size + 1 := Heap.size_push ..
  have kept : ∀ b u, b ≠ P → s.heap.get? b = some u → h3.get? b = some u := fun b u n e => hx b u n (Heap.get?_push_of_some _ e)
  have bases : ∀ b u, X.base.get? b = some u → h3.get? b = some u := fun b u e => kept b u (tbl_not hP (J.bs b u e).2) (J.bk b u e)
  refine wpAny_builtinsFor (m := X.mg) (by rw [J.ok.glob]; exact J.mod.glob.keeps bases) q1 q2 (bases _ _ q5) q6 q7 q8 ?_
  refine ⟨s.heap.objs.size, [s.heap.objs.size], [s.heap.objs.size], a.cps.size, SignAt a, St, fun _ => true, fun i y => ∃ cc, a.cps[i]? = some cc ∧ y = .bool (pb cc), rfl, W, ?_, ?_, lim.extBut hx cP, ?_, ?_, ?_⟩
  · refine (W X.A hr.hd).frame _ _ _ st0 fun b hb u e => hx b u ?_ e
    rw [List.mem_singleton.mp hb]
    exact Nat.ne_of_gt ltP
  · intro b hb
    rw [List.mem_singleton.mp hb]
    exact Nat.lt_of_lt_of_le (by rw [big]; exact Nat.lt_succ_self _) hsz
  · rw [List.mem_singleton]
    exact Nat.ne_of_lt cL
  · intro href hh
    refine ⟨fun A' E' i v s₂ m₂ _ _ _ _ _ => ?_, fun A' E' i v s₂ m₂ _ hv _ hn hm hk => ?_⟩
    · rw [List.forIn_nil]
      exact wpAny_pure ⟨rfl, keeps_refl s₂⟩
    · obtain ⟨cc, u, hcc, rfl⟩ := hv
      refine wpAny_mono (hel _ A' E' cc u s₂ m₂ J.ok rfl rfl (fun b w e => ?_) hn hm) (fun y z r => ⟨⟨cc, hcc, r.1⟩, r.2⟩) fun _ _ e => e
      have lb := Heap.lt_size (J.bk b w e)
      exact hk b (List.mem_range.mpr (Nat.lt_of_lt_of_le (Nat.lt_of_lt_of_le lb (by rw [big]; exact Nat.le_succ _)) hsz)) (by rw [List.mem_singleton]; exact Nat.ne_of_lt lb) w (hh b w (bases b w e))
  · intro g h5 tk5 gs bare _ _ _ W5 at5
    have W6 := W5
    simp only [GxR.passing_true, List.length_range] at W6
    refine hQ g _ ⟨_, _, _, _, _, W6.in4_1, at5, fun j y sj Qj Ej hy hq => ?_, fun z mv => ?_⟩
    · obtain ⟨i, hi, cc, hcc, rfl⟩ := hy
      obtain ⟨_, ei⟩ := List.getElem?_eq_some_iff.mp hi
      rw [List.getElem_range] at ei
      subst ei
      have hq' : Qj (trF pb a.cps.toList j) sj := hq
      rw [trF_some (show a.cps.toList[j]? = some cc by rw [Array.getElem?_toList]; exact hcc)] at hq'
      exact wpAny_truthy_bool hq'
    · have off : ∀ b u, s.heap.get? b = some u → b ∉ h3.objs.size :: [s.heap.objs.size] := fun b u e hb => by
        have l1 := Heap.lt_size e
        have l2 : s.heap.objs.size < h3.objs.size := Nat.lt_of_lt_of_le (by rw [big]; exact Nat.lt_succ_self _) hsz
        rcases List.mem_cons.mp hb with r | r
        · rw [r] at l1; exact absurd (Nat.lt_trans l1 l2) (Nat.lt_irrefl _)
        · rw [List.mem_singleton.mp r] at l1; exact absurd l1 (Nat.lt_irrefl _)
      have five : ∀ b u, h3.get? b = some u → h5.get? b = some u := by assumption
      have L := inv_tab (more := more) (h' := z.heap) (g' := z.gens) (d' := z.drawn) (t' := z.toks) J hP (fun b u n e => mv.heap b u (off b u e) (five b u (kept b u n e))) (by rw [← em]; exact mv.heap P _ (off P _ atP) (five P _ h3P)) (PyProof.Rows.AllBare.movedS (J.bare.push bare) mv)
      rw [sh_eta s z mv.os] at L
      exact ⟨upd H P (.tbl (ps ++ more)), ⟨⟨ps ++ more, upd_same, by rw [← em]; exact ok'⟩, fun b n => upd_ne n⟩, L⟩
theorem gen_signs {c P : Addr} {elt iter : Expr} {x : Str} {px gpos : Pos} {scope : Scope} {pb : Nat → Bool} {te : TE} {k : Nat} {Q' : Value → Shared → Prop} {R : Str → Hp → Prop}
    (hr : Room k X.A) (TB : TabB X.base X.mg c P) (hcode : X.env.code = .ref c) (sc : GenS X.env scope x) (hi : PE X iter te) (hel : EltG X scope x elt pb) (hs : ∀ v, genFold iter X.env v = pure v)
    (I : L2.Inv X pins σ H s) (h : te σ H fun v G => ∃ a : Str, v = .str a ∧ TabG G P ∧ R a G) (hQ : ∀ a G g z, R a G → Ready X pins σ G P a pb g z → Q' (.ref g) z) :
    wpAny (model X.prog X.w) X.A (eval (.GeneratorExp elt [⟨.Name x px, iter, [], 0⟩] scope gpos) X.env) Q' X.xe s := by
  have room : X.A.depth < recursionLimit := by have := hr.dp; omega
  refine wpAny_GeneratorExp_walksQ hr.hd sc.co (closure_ok sc.free) sc.cell sc.dot sc.loc sc.kind room (thn (hi.run pins s σ H _ I h) fun u s1 ⟨v, G, J, rv, a, ev, ⟨ps, hP, ok⟩, hR⟩ => ?_) hs
  subst ev
  obtain ⟨t, rfl⟩ := id rv
  refine wpAny_pyIter_str fun o St W st0 => ?_
  -- the table, the sizes, what is kept
  have atP : s1.heap.get? P = some { cls := .none, data := .fields ps } := J.hok P _ hP
  have ltP : P < s1.heap.objs.size := Heap.lt_size atP
  have atP' : (s1.heap.push o).get? P = some { cls := .none, data := .fields ps } := Heap.get?_push_of_some _ atP
  have cd : PySem.W.CodeHd (s1.heap.push o) c P := TB.code.keeps fun b w e => Heap.get?_push_of_some _ (J.bk b w e)
  have lim : (s1.heap.push o).NoLimit := J.nolimit.push o
  have next : ∀ (code : Value) (h3 : Heap) (tk : Nat) (ps' more : Array Value), ps' = ps ++ more → Heap.ExtBut P (s1.heap.push o) h3 → (s1.heap.push o).objs.size ≤ h3.objs.size → h3.get? P = some { cls := .none, data := .fields ps' } → TriplesOk ps'.toList → _ :=
    fun code h3 tk ps' more em hx hsz h3P ok' => gen_go (elt := elt) hr TB sc hel J hP atP ltP W st0 code h3 tk ps' more em hx hsz h3P ok' lim fun g z rd => hQ a G g z hR rd
  refine ⟨lim, ?_⟩
  cases hf : codeAmong gpos ps.toList with
  | some cv => exact wpAny_genexprCode_hit hcode (cd.code atP' ok) hf (next cv (s1.heap.push o) s1.toks ps #[] (by simp) (Heap.ExtBut.refl _ _) (Nat.le_refl _) atP' ok)
  | none =>
    refine wpAny_genexprCodeX hcode (cd.code atP' ok) (cd.tab atP') hf fun c' h' tk hx hge hlt hco' _ htab' _ => ?_
    obtain ⟨o1, vs, f1, tf, fl, tg, inF, tx, tt, op, _, _, _, _, _, _, _, _, _, htr, _⟩ := hco'
    exact next _ h' tk _ _ rfl hx (Nat.le_trans hge (Nat.le_of_lt hlt)) htab'.2 htr
theorem pe_allG {c P : Addr} {elt iter : Expr} {x : Str} {px p pos gpos : Pos} {scope : Scope} {pb : Nat → Bool} {te : TE} {k : Nat} (hr : Room k X.A) (hg : Gl X "all") (hm : X.mg "all" = none) (TB : TabB X.base X.mg c P) (hcode : X.env.code = .ref c)
    (sc : GenS X.env scope x) (hi : PE X iter te) (hel : EltG X scope x elt pb) (hs : ∀ v, genFold iter X.env v = pure v)
    (he : starEach [.GeneratorExp elt [⟨.Name x px, iter, [], 0⟩] scope gpos] X.env = (false, eval (.GeneratorExp elt [⟨.Name x px, iter, [], 0⟩] scope gpos) X.env) :: starEach [] X.env := by rfl) :
    PE X (.Call (.Name "all" p) [.GeneratorExp elt [⟨.Name x px, iter, [], 0⟩] scope gpos] [] pos) (tAllS P pb te) := by
  constructor
  intro pins s σ H Q I hyp
  have hb : bootBuiltins "all" = some (.builtin "all") := by decide +kernel
  refine wpAny_Call_Name_kw (ld_blt I hg hm hb (PyProof.Rows.callWith_builtin1 ?_ he (by rfl)))
  rw [he]
  show wpAny _ _ (spliced ((false, eval (.GeneratorExp elt [⟨.Name x px, iter, [], 0⟩] scope gpos) X.env) :: backTo pos (starEach [] X.env))) _ _ s
  refine Calls.spliced_cons (gen_signs (R := fun a G => ∀ G', Tabbed P G G' → Q (.bl (a.cps.toList.all pb)) G') hr TB hcode sc hi hel hs I hyp fun a G g z hR rd => Calls.spliced_nil ?_)
  obtain ⟨fp, wr, Gs, F, St, W, st, tr, done⟩ := rd
  refine call_all_walkS (W.self 0 _ _ _ st ⟨g, fp, wr, Gs, _, F, St, _, rfl, W, st, tr, fun z' mv => ?_⟩)
  obtain ⟨G', tb, L⟩ := done z' mv
  refine ⟨.bl _, G', L, rfl, ?_⟩
  rw [all_signs a pb]
  exact hR G' tb
/-- x in D, D a dict that the top has written -/
theorem elt_in {scope : Scope} {x y : Str} {pb : Nat → Bool} {d : Addr} {es : Array DictEntry} {n : Nat} {p1 p2 p3 : Pos} (D : KDict X.K X.w d es n) (gy : X.mg y = some (.ref d)) (hp : ∀ c, ∃ r, PySem.W.nsIn X.K d (S [c]) = some r ∧ r.isSome = pb c)
    (hk : scope.kind = .function) (hl : scope.names.lookup x = some .local) (hy : scope.names.lookup y = some .globalImplicit) (hd : (x == ("__debug__" : Str)) = false := by decide) (hd2 : (y == ("__debug__" : Str)) = false := by decide) :
    EltG X scope x (.Compare (.Name x p1) [.In] [.Name y p2] p3) pb := by
  intro cenv A' E' c t z m ok hs hg hb hn hm
  have kind : cenv.scope.kind = .function := by rw [hs]; exact hk
  refine wpAny_Compare1 (wpAny_Name (wpAny_loadName_local kind (show cenv.scope.names.lookup x = some .local by rw [hs]; exact hl) hn hm ?_) hd)
  refine Calls.Name_function_global kind (show cenv.scope.names.lookup y = some .globalImplicit by rw [hs]; exact hy) (Calls.loadGlobal_global (by rw [hg, ok.glob]; exact ok.mod.glob.keeps hb) gy ?_) hd2
  obtain ⟨r, e1, e2⟩ := hp c
  refine wpAny_in_of (PySem.strKind_is X.prog X.w (S [c]) t) D.low (PySem.W.mapOf_K (prog := X.prog) (ok.mod.kin.keeps hb) D.at_ D.lit) ?_
  rw [PySem.W.find_K D.at_ e1, e2]
  exact ⟨rfl, keeps_tok _ _⟩
end
/-! ### ''.join of texts, comprehensions over a text -/
theorem join_empty (ys : List (List Nat)) : Txt.join (S []) (ys.map S) = S ys.flatten := by
  have go : ∀ (zs : List (List Nat)) (a : Array Nat), ((zs.map S).foldl (fun acc p => acc ++ (S []).cps ++ p.cps) a).toList = a.toList ++ zs.flatten := by
    intro zs
    induction zs with
    | nil => intro a; simp
    | cons z r ih =>
      intro a
      rw [List.map_cons, List.foldl_cons, ih]
      simp [S]
  show Builtin.Str.glued (S []) (ys.map S) = _
  unfold Builtin.Str.glued
  cases ys with
  | nil => rfl
  | cons y r =>
    have := go r (S y).cps
    show (⟨(r.map S).foldl (fun acc p => acc ++ (S []).cps ++ p.cps) (S y).cps⟩ : Str) = _
    unfold S at this ⊢
    congr 1
    apply Array.toList_inj.mp
    rw [this]
    simp
theorem join_signs (l : List Nat) : Txt.join (S []) (l.map fun c => S [c]) = S l := by
  have := join_empty (l.map fun c => [c])
  rw [List.map_map] at this
  rw [show (l.map fun c => S [c]) = l.map (S ∘ fun c => [c]) from rfl, this]
  congr 1
  induction l with
  | nil => rfl
  | cons c r ih => rw [List.map_cons, List.flatten_cons, ih (join_empty _ |>.trans rfl |> fun h => by rw [List.map_map] at h; exact h)]; rfl
theorem sum_ones (l : List Nat) : ((l.map fun c => S [c]).map (·.length)).sum = l.length := by
  induction l with
  | nil => rfl
  | cons c r ih =>
    rw [List.map_cons, List.map_cons, List.sum_cons, ih, S_len, List.length_cons]
    show 1 + r.length = r.length + 1
    omega
theorem lc_str {l : List Nat} {g : TG} {tt : TT} {te : TE} {vs : List Nat} {σ : L2.St} {H1 : Hp} {D : Addr} {Qd : Hp → Prop} (Pv : Nat → Hp → Prop) (h0 : Pv 0 (upd H1 D (.lst [])))
    (hs : ∀ i c H, l[i]? = some c → Pv i H → g (.str (S [c])) (wipe σ vs) H fun σ2 H2 => wipe σ2 vs = wipe σ vs ∧ tt σ2 H2 fun b H3 =>
      if b = true then te σ2 H3 fun y H4 => ∃ acc, H4 D = some (.lst acc) ∧ acc.length < sizeLine ∧ Pv (i + 1) (upd H4 D (.lst (acc ++ [y]))) else Pv (i + 1) H3) (hd : ∀ H, Pv l.length H → Qd H) :
    ∃ W : Nat → Nat → Hp → Prop, (∃ m, W 0 m (upd H1 D (.lst []))) ∧ ∀ i m H, W i m H →
      ((Its (S l)).stop i H ∧ Qd H) ∨ ((Its (S l)).go i H ∧ ∃ Nx : Hp → Prop, (∀ H', Nx H' → ∃ m', m' < m ∧ W (i + 1) m' H') ∧ ∀ x H', (Its (S l)).yld i H x H' → g x (wipe σ vs) H' fun σ2 H2 => wipe σ2 vs = wipe σ vs ∧ tt σ2 H2 fun b H3 =>
        if b = true then te σ2 H3 fun y H4 => ∃ acc, H4 D = some (.lst acc) ∧ acc.length < sizeLine ∧ Nx (upd H4 D (.lst (acc ++ [y]))) else Nx H3) := by
  refine ⟨fun i m H => m = l.length - i ∧ i ≤ l.length ∧ Pv i H, ⟨l.length, by simp, Nat.zero_le _, h0⟩, ?_⟩
  rintro i m H ⟨rfl, hi, p⟩
  by_cases hlt : i < l.length
  · refine .inr ⟨by show i < (S l).cps.size; rw [S_size]; exact hlt, Pv (i + 1), fun H' p' => ⟨l.length - (i + 1), by omega, rfl, hlt, p'⟩, fun x H' y => ?_⟩
    obtain ⟨e, c, hc, rfl⟩ := y
    subst e
    rw [S_get] at hc
    exact hs i c _ hc p
  · have e : i = l.length := by omega
    subst e
    exact .inl ⟨by show (S l).cps.size ≤ l.length; rw [S_size]; exact Nat.le_refl _, hd H p⟩
/-- a def whose code object is told -/
theorem okC {P : Program} {w : World} {K : PySem.W.Frag} {mg : Str → Option Value} {base : Heap} {x qual : Str} {st : Stmt} {f c : Addr} {fd : FuncData} {N ps : List Str} {k : Nat} {sp : Sp} (F : Fun K x qual st f fd) (hc : fd.code = .ref c) (S : FnScope N ps (defScope st)) (len : ∀ vs H Q E, sp vs H Q E → vs.length = ps.length)
    (body : ∀ (A : Around) (outer : List Env) (s : Shared) (H : Hp) (vs : List V) (Q : VK) (E : XK), Room k (A.deeper (PyProof.Rows.envOfC qual (defScope st) s.heap.objs.size f (.ref c))) → sp vs H Q E →
      ∃ t, PSs (cxOf CX0 P w K mg base N qual (defScope st) f (.ref c) A outer s H E).nox (defBody st) t ∧ t { nx := fun _ H' => Q .non H', rt := Q } (start N vs) H) : FnOk P w K mg base CX0 (k + 1) f fd ps sp := by
  obtain ⟨_, _, _, _, _, _, cdv, _, _, rfl, lk, hcd⟩ := F.ex
  have e : cdv = .ref c := hc
  subst e
  refine fn_of lk hcd S len fun A outer s H vs Q E hr h => ?_
  obtain ⟨t, a, b⟩ := body A outer s H vs Q E hr h
  exact ⟨t, a.nox, b⟩
def top (i : Nat) : Stmt := PySem.Challenge.pw_ropedance_k27_texts_of_dances.main.body.getD i (.Pass ⟨0, 0, 0, 0⟩)
abbrev s_write_dance : Stmt := top 10
theorem sc_write_dance : FnScope ["dance", "spaced", "letter", "other", "run"] ["dance"] (defScope s_write_dance) := ⟨rfl, rfl, rfl, by decide +kernel, rfl, by decide +kernel, by decide +kernel⟩
abbrev s_written : Stmt := top 11
theorem sc_written : FnScope ["run"] ["run"] (defScope s_written) := ⟨rfl, rfl, rfl, by decide +kernel, rfl, by decide +kernel, by decide +kernel⟩
abbrev s_read_dance : Stmt := top 12
theorem sc_read_dance : FnScope ["text", "words", "word"] ["text"] (defScope s_read_dance) := ⟨rfl, rfl, rfl, by decide +kernel, rfl, by decide +kernel, by decide +kernel⟩
abbrev s_is_word : Stmt := top 13
theorem sc_is_word : FnScope ["word"] ["word"] (defScope s_is_word) := ⟨rfl, rfl, rfl, by decide +kernel, rfl, by decide +kernel, by decide +kernel⟩
abbrev s_is_count : Stmt := top 14
theorem sc_is_count : FnScope ["digits"] ["digits"] (defScope s_is_count) := ⟨rfl, rfl, rfl, by decide +kernel, rfl, by decide +kernel, by decide +kernel⟩
abbrev s_run_of : Stmt := top 15
theorem sc_run_of : FnScope ["word"] ["word"] (defScope s_run_of) := ⟨rfl, rfl, rfl, by decide +kernel, rfl, by decide +kernel, by decide +kernel⟩
abbrev s_law_tape : Stmt := top 17
theorem sc_law_tape : FnScope ["script", "k", "cell"] ["script", "k"] (defScope s_law_tape) := ⟨rfl, rfl, rfl, by decide +kernel, rfl, by decide +kernel, by decide +kernel⟩
abbrev s_law_take : Stmt := top 18
theorem sc_law_take : FnScope ["tape", "many", "got", "mixed"] ["tape", "many"] (defScope s_law_take) := ⟨rfl, rfl, rfl, by decide +kernel, rfl, by decide +kernel, by decide +kernel⟩
abbrev s_law_dance : Stmt := top 19
theorem sc_law_dance : FnScope ["tape", "most", "dance", "size", "k"] ["tape", "most"] (defScope s_law_dance) := ⟨rfl, rfl, rfl, by decide +kernel, rfl, by decide +kernel, by decide +kernel⟩
abbrev s_law_same : Stmt := top 20
theorem sc_law_same : FnScope ["told", "due", "k"] ["told", "due"] (defScope s_law_same) := ⟨rfl, rfl, rfl, by decide +kernel, rfl, by decide +kernel, by decide +kernel⟩
abbrev s_law_runs : Stmt := top 21
theorem sc_law_runs : FnScope ["dance", "runs", "letter"] ["dance"] (defScope s_law_runs) := ⟨rfl, rfl, rfl, by decide +kernel, rfl, by decide +kernel, by decide +kernel⟩
abbrev s_law_text : Stmt := top 22
theorem sc_law_text : FnScope ["runs", "words", "letter", "count"] ["runs"] (defScope s_law_text) := ⟨rfl, rfl, rfl, by decide +kernel, rfl, by decide +kernel, by decide +kernel⟩
abbrev s_law_split : Stmt := top 23
theorem sc_law_split : FnScope ["tape", "runs", "words", "letter", "count", "first"] ["tape", "runs"] (defScope s_law_split) := ⟨rfl, rfl, rfl, by decide +kernel, rfl, by decide +kernel, by decide +kernel⟩
abbrev s_law_word : Stmt := top 24
theorem sc_law_word : FnScope ["word", "digits", "char"] ["word"] (defScope s_law_word) := ⟨rfl, rfl, rfl, by decide +kernel, rfl, by decide +kernel, by decide +kernel⟩
abbrev s_law_read : Stmt := top 25
theorem sc_law_read : FnScope ["text", "parts", "word"] ["text"] (defScope s_law_read) := ⟨rfl, rfl, rfl, by decide +kernel, rfl, by decide +kernel, by decide +kernel⟩
abbrev s_law_spoilt : Stmt := top 26
theorem sc_law_spoilt : FnScope ["tape", "text", "k", "char", "spot", "choice"] ["tape", "text"] (defScope s_law_spoilt) := ⟨rfl, rfl, rfl, by decide +kernel, rfl, by decide +kernel, by decide +kernel⟩
abbrev s_law_odd : Stmt := top 27
theorem sc_law_odd : FnScope ["tape", "rows"] ["tape"] (defScope s_law_odd) := ⟨rfl, rfl, rfl, by decide +kernel, rfl, by decide +kernel, by decide +kernel⟩
abbrev s_law_refused : Stmt := top 28
theorem sc_law_refused : FnScope ["text", "e", "others"] ["text"] (defScope s_law_refused) := ⟨rfl, rfl, rfl, by decide +kernel, rfl, by decide +kernel, by decide +kernel⟩
abbrev s_law_holds : Stmt := top 29
theorem sc_law_holds : FnScope ["text", "due"] ["text"] (defScope s_law_holds) := ⟨rfl, rfl, rfl, by decide +kernel, rfl, by decide +kernel, by decide +kernel⟩
abbrev s_law_great : Stmt := top 30
theorem sc_law_great : FnScope ["tape", "count", "letter", "runs", "dance", "one", "many"] ["tape"] (defScope s_law_great) := ⟨rfl, rfl, rfl, by decide +kernel, rfl, by decide +kernel, by decide +kernel⟩
abbrev s_law : Stmt := top 31
theorem sc_law : FnScope ["script", "k", "tape", "dance", "runs", "text", "other", "one"] ["script"] (defScope s_law) := ⟨rfl, rfl, rfl, by decide +kernel, rfl, by decide +kernel, by decide +kernel⟩
/-! ### heaps, tapes, pairs -/
/-- all that was tracked is as it was, but what stands at a -/
def But (a : Addr) (H H' : Hp) : Prop := ∀ b o, b ≠ a → H b = some o → H' b = some o
theorem But.refl (a : Addr) (H : Hp) : But a H H := fun _ _ _ h => h
theorem But.trans {a : Addr} {H H1 H2 : Hp} (x : But a H H1) (y : But a H1 H2) : But a H H2 := fun b o n h => y b o n (x b o n h)
theorem But.of {a : Addr} {H H' : Hp} (x : Same H H') : But a H H' := fun b o _ h => x b o h
theorem But.upd {a : Addr} {H : Hp} {o : HO} : But a H (upd H a o) := fun b u n h => by rw [upd_ne n]; exact h
theorem But.same {a : Addr} {H0 H H' : Hp} (x : But a H H') (s : Same H0 H) (n : H0 a = none) : Same H0 H' := fun b o h => x b o (ne_of_none h n) (s b o h)
theorem same_new {H : Hp} {p : Addr} (h : H p = none) (o : HO) : Same H (L2.upd H p o) := fun b u q => by rw [upd_ne (ne_of_none q h)]; exact q
theorem Same.tup {K : PySem.W.Frag} {H H' : Hp} {a : Addr} {xs : List V} (e : Same H H') (h : SqT K H a xs) : SqT K H' a xs := by
  rcases h with (h | ⟨o, h⟩) | h
  · exact .inl (.inl (e _ _ h))
  · exact .inl (.inr ⟨o, e _ _ h⟩)
  · exact .inr h
def Tape (H : Hp) (a : Addr) : Prop := ∃ (t c s : Int) (b : Bool), H a = some (.lst [.int t, .bl b, .int c, .int s])
theorem Tape.same {H H' : Hp} {a : Addr} (t : Tape H a) (s : Same H H') : Tape H' a := by
  obtain ⟨x, c, y, b, h⟩ := t
  exact ⟨x, c, y, b, s _ _ h⟩
theorem Tape.ne {H : Hp} {a p : Addr} (t : Tape H a) (h : H p = none) : p ≠ a := by
  obtain ⟨x, c, y, b, e⟩ := t
  exact fun z => by rw [z, e] at h; cases h
theorem But.tup {K : PySem.W.Frag} {a : Addr} {H H' : Hp} {p : Addr} {xs : List V} (x : But a H H') (t : Tape H a) (h : SqT K H p xs) : SqT K H' p xs := by
  obtain ⟨y, c, z, b, e⟩ := t
  rcases h with (h | ⟨o, h⟩) | h
  · exact .inl (.inl (x _ _ (ne_of h e (by intro q; cases q)) h))
  · exact .inl (.inr ⟨o, x _ _ (ne_of h e (by intro q; cases q)) h⟩)
  · exact .inr h
/-- a dance: the letters T, U, R -/
def Lets (l : List Nat) : Prop := ∀ c ∈ l, c = 84 ∨ c = 85 ∨ c = 82
theorem atI_mk {α : Type} {xs : List α} {k : Int} (h0 : 0 ≤ k) (h1 : k < (xs.length : Int)) : ∃ v, atI xs k = some v ∧ v ∈ xs := by
  obtain ⟨n, rfl⟩ := Int.eq_ofNat_of_zero_le h0
  have h : n < xs.length := by omega
  exact ⟨xs[n], atI_nat (List.getElem?_eq_getElem h), List.getElem_mem h⟩
theorem atI_ints {ns : List Int} {k : Int} (h0 : 0 ≤ k) (h1 : k < (ns.length : Int)) : ∃ v : Int, atI (ns.map V.int) k = some (.int v) := by
  obtain ⟨v, e, m⟩ := atI_mk (xs := ns.map V.int) h0 (by rw [List.length_map]; exact h1)
  obtain ⟨i, _, rfl⟩ := List.mem_map.mp m
  exact ⟨i, e⟩
/-! ### a def of the text with its promise, ready to be called -/
structure Dfn (P : Program) (w : World) (K : PySem.W.Frag) (mg : Str → Option Value) (base : Heap) (x : Str) (k : Nat) (ps : List Str) (sp : Sp) : Prop where
  ex : ∃ (f : Addr) (fd : FuncData), FnOk P w K mg base CX0 k f fd ps sp ∧ mg x = some (.ref f) ∧ PySem.W.keepIn K (.ref f) = true ∧ Binds K fd ps []
theorem pe_do {X : Cx} {x : Str} {j : Nat} {ps : List Str} {sp : Sp} {e : Expr} {es : List Expr} {t : TA} {p pos : Pos} (D : Dfn X.prog X.w X.K X.mg X.base x j ps sp) (hr : Room j X.A)
    (ha : PA X (e :: es) t) (hg : Gl X x := by rfl) (hdb : (x == ("__debug__" : Str)) = false := by decide) (he : starEach (e :: es) X.env = (false, eval e X.env) :: starEach es X.env := by rfl) (hpl : (backTo pos (starEach es X.env)).any (·.1) = false := by rfl) :
    PE X (.Call (.Name x p) (e :: es) [] pos) (tCall sp [] E0 t) := by
  obtain ⟨f, fd, ok, mg, kp, bd⟩ := D.ex
  exact pe_call ok hr hg mg kp bd .nil pass0 ha hdb he hpl
theorem Dfn.mono {P : Program} {w : World} {K : PySem.W.Frag} {mg : Str → Option Value} {base : Heap} {x : Str} {j k : Nat} {ps : List Str} {sp : Sp} (D : Dfn P w K mg base x j ps sp) (h : j ≤ k) : Dfn P w K mg base x k ps sp := by
  obtain ⟨f, fd, ok, mg, kp, bd⟩ := D.ex
  exact ⟨f, fd, ok.mono h, mg, kp, bd⟩
section
variable {P : Program} {w : World} {K : PySem.W.Frag} {mg : Str → Option Value} {base : Heap} {f : Addr} {fd : FuncData}
/-! ### the tape of a law -/
def spTape (K : PySem.W.Frag) : Sp := fun vs H Q _ => ∃ (a : Addr) (ns : List Int) (k : Int), vs = [.ref a, .int k] ∧ SqL K H a (ns.map V.int) ∧ 0 ≤ k ∧ ∀ p H', Same H H' → H p = none → Tape H' p → Q (.ref p) H'
theorem ok_tape (F : Fun K "_law_tape" "_law_tape" s_law_tape f fd) (ml : mg "len" = none) (ma : mg "abs" = none) (mi : mg "int" = none) : FnOk P w K mg base CX0 1 f fd ["script", "k"] (spTape K) := by
  refine F.ok sc_law_tape (fun vs H Q E h => ?_) (fun cdv A outer s H vs Q E hr h => ?_)
  · obtain ⟨a, ns, k, rfl, _⟩ := h
    rfl
  obtain ⟨a, ns, k, rfl, hS, hk, q⟩ := h
  refine ⟨_, pss_cons (ps_set (i := 2) sc_law_tape.nd rfl (.inl rfl) pe_int)
    (pss_cons (ps_if (pt_cmpR op_lt (pv 1) (pe_callB call_len_seq rfl ml PySem.boot_len (pa_cons (pv 0) pa_nil)) (nomark _))
        (pss_one (ps_set (i := 2) sc_law_tape.nd rfl (.inl rfl) (pe_callB call_abs rfl ma (by decide +kernel) (pa_cons (pe_ix ix_list (pv 0) (pv 1) (fun _ _ => rfl)) pa_nil)))) pss_nil)
    (pss_one (ps_ret (pe_lst (pa_cons (pv 2) (pa_cons (pe_cmpR op_ge (pv 2) (pe_op op_pow pe_int pe_int) (nomark _)) (pa_cons pe_int
      (pa_cons (pe_op op_modN (pe_callTy call_int1 rfl mi (by decide +kernel) (pa_cons (pe_op op_add (pe_op op_mul (pv 2) pe_int) (pv 1)) pa_nil)) pe_int) pa_nil)))))))), ?_⟩
  refine ⟨_, rfl, _, rfl, a, _, rfl, .inl hS, _, _, rfl, rfl, _, rfl, ?_⟩
  refine ite2 (fun c => ?_) (fun c => ?_)
  · have c' : k < (((ns.map V.int).length : Nat) : Int) := of_decide_eq_true c
    rw [List.length_map] at c'
    obtain ⟨v, hv⟩ := atI_ints hk c'
    refine ⟨_, rfl, _, rfl, a, _, _, _, rfl, rfl, hS, hv, _, rfl, ?_⟩
    refine ⟨_, rfl, _, rfl, _, _, rfl, rfl, ⟨by decide, by decide, by decide⟩, _, _, rfl, rfl, _, rfl, _, _, rfl, rfl, .inr ⟨by decide, by decide⟩, _, rfl, _, _, rfl, rfl, .inl ⟨_, rfl, _, _, rfl, rfl, (show (2147483647 : Int) ≠ 0 by decide), ?_⟩⟩
    exact ⟨(by show 4 ≤ sizeLine; decide), fun p hp => q p _ (same_new hp _) hp ⟨_, _, _, _, upd_same⟩⟩
  · refine ⟨_, rfl, _, rfl, _, _, rfl, rfl, ⟨by decide, by decide, by decide⟩, _, _, rfl, rfl, _, rfl, _, _, rfl, rfl, .inr ⟨by decide, by decide⟩, _, rfl, _, _, rfl, rfl, .inl ⟨_, rfl, _, _, rfl, rfl, (show (2147483647 : Int) ≠ 0 by decide), ?_⟩⟩
    exact ⟨(by show 4 ≤ sizeLine; decide), fun p hp => q p _ (same_new hp _) hp ⟨_, _, _, _, upd_same⟩⟩
def spTake : Sp := fun vs H Q _ => ∃ (a : Addr) (m : Int), vs = [.ref a, .int m] ∧ Tape H a ∧ 0 < m ∧ m < 1073741824 ∧ ∀ r H', 0 ≤ r → r < m → But a H H' → Tape H' a → Q (.int r) H'
theorem ok_take (F : Fun K "_law_take" "_law_take" s_law_take f fd) (mi : mg "int" = none) : FnOk P w K mg base CX0 1 f fd ["tape", "many"] spTake := by
  refine F.ok sc_law_take (fun vs H Q E h => ?_) (fun cdv A outer s H vs Q E hr h => ?_)
  · obtain ⟨a, m, rfl, _⟩ := h
    rfl
  obtain ⟨a, m, rfl, ⟨t, c, sd, b, hT⟩, h0, h1, q⟩ := h
  refine ⟨_, pss_cons (ps_if (PW.pt (pw_and (pt_val (pe_ix ix_list (pv 0) pe_int (fun _ _ => rfl))) (pw_and1 (pt_cmpR op_gt (pe_ix ix_list (pv 0) pe_int (fun _ _ => rfl)) pe_int (nomark _)))))
      (pss_cons (ps_set (i := 2) sc_law_take.nd rfl (.inl rfl) (pe_op op_modN (pe_callTy call_int1 rfl mi (by decide +kernel) (pa_cons (pe_ix ix_list (pv 0) pe_int (fun _ _ => rfl)) pa_nil)) (pv 1)))
      (pss_cons (ps_asg (pe_op op_fdivN (pe_ix ix_list (pv 0) pe_int (fun _ _ => rfl)) (pv 1)) (pg_sub (pv 0) pe_int set_list))
      (pss_one (ps_ret (pv 2))))) pss_nil)
    (pss_cons (ps_asg (pe_op op_add (pe_ix ix_list (pv 0) pe_int (fun _ _ => rfl)) pe_int) (pg_sub (pv 0) pe_int set_list))
    (pss_cons (ps_set (i := 3) sc_law_take.nd rfl (.inl rfl) (pe_op op_modN (pe_callTy call_int1 rfl mi (by decide +kernel) (pa_cons (pe_op op_add (pe_op op_add (pe_op op_mul (pe_ix ix_list (pv 0) pe_int (fun _ _ => rfl)) pe_int) (pe_op op_mul (pe_ix ix_list (pv 0) pe_int (fun _ _ => rfl)) pe_int)) pe_int) pa_nil)) pe_int))
    (pss_cons (ps_set (i := 3) sc_law_take.nd rfl (.inl rfl) (pe_op op_modN (pe_callTy call_int1 rfl mi (by decide +kernel) (pa_cons (pe_op op_add (pe_op op_add (pe_op op_mul (pv 3) pe_int) (pe_op op_mul (pe_op op_fdivN (pv 3) pe_int) pe_int)) (pe_ix ix_list (pv 0) pe_int (fun _ _ => rfl))) pa_nil)) pe_int))
    (pss_one (ps_ret (pe_op op_modN (pe_callTy call_int1 rfl mi (by decide +kernel) (pa_cons (pe_op op_fdivN (pv 3) pe_int) pa_nil)) (pv 1))))))), ?_⟩
  have rest : ∀ x : Int, 0 ≤ x.fmod m ∧ x.fmod m < m := fun x => by
    rw [Int.fmod_eq_emod_of_nonneg x (Int.le_of_lt h0)]
    exact ⟨Int.emod_nonneg x (by omega), Int.emod_lt_of_pos x h0⟩
  refine ⟨_, rfl, a, _, _, _, rfl, rfl, SqL.of hT, rfl, b, rfl, ?_⟩
  refine ite2 (fun hb => ?_) (fun hb => ?_)
  · refine ⟨_, rfl, a, _, _, _, rfl, rfl, SqL.of hT, rfl, _, _, rfl, rfl, _, rfl, ?_⟩
    refine ite2 (fun hc => ?_) (fun hc => ?_)
    · refine ⟨_, rfl, a, _, _, _, rfl, rfl, SqL.of hT, rfl, .inl ⟨_, rfl, _, rfl, _, _, rfl, rfl, (show m ≠ 0 by omega), ?_⟩⟩
      refine ⟨_, rfl, a, _, _, _, rfl, rfl, SqL.of hT, rfl, _, rfl, _, _, rfl, rfl, (show m ≠ 0 ∧ m.natAbs < 1073741824 by omega), _, rfl, a, _, _, _, rfl, rfl, hT, rfl, ?_⟩
      exact ⟨_, rfl, q _ _ (rest _).1 (rest _).2 But.upd ⟨_, _, _, _, upd_same⟩⟩
    · refine ⟨_, rfl, a, _, _, _, rfl, rfl, SqL.of hT, rfl, _, _, rfl, rfl, _, rfl, a, _, _, _, rfl, rfl, hT, rfl, ?_⟩
      refine ⟨_, rfl, a, _, _, _, rfl, rfl, SqL.of upd_same, rfl, _, _, rfl, rfl, .inr ⟨by decide, by decide⟩, _, rfl, a, _, _, _, rfl, rfl, SqL.of upd_same, rfl, _, _, rfl, rfl, .inr ⟨by decide, by decide⟩, _, _, rfl, rfl, _, _, rfl, rfl, .inl ⟨_, rfl, _, _, rfl, rfl, (show (2147483647 : Int) ≠ 0 by decide), ?_⟩⟩
      refine ⟨_, rfl, _, _, rfl, rfl, .inr ⟨by decide, by decide⟩, _, rfl, _, _, rfl, rfl, ⟨by decide, by decide⟩, _, _, rfl, rfl, .inr ⟨by decide, by decide⟩, _, _, rfl, rfl, _, rfl, a, _, _, _, rfl, rfl, SqL.of upd_same, rfl, _, _, rfl, rfl, .inl ⟨_, rfl, _, _, rfl, rfl, (show (2147483399 : Int) ≠ 0 by decide), ?_⟩⟩
      exact ⟨_, rfl, _, _, rfl, rfl, ⟨by decide, by decide⟩, .inl ⟨_, rfl, _, rfl, _, _, rfl, rfl, (show m ≠ 0 by omega), q _ _ (rest _).1 (rest _).2 But.upd ⟨_, _, _, _, upd_same⟩⟩⟩
  · refine ⟨_, rfl, a, _, _, _, rfl, rfl, SqL.of hT, rfl, _, _, rfl, rfl, _, rfl, a, _, _, _, rfl, rfl, hT, rfl, ?_⟩
    refine ⟨_, rfl, a, _, _, _, rfl, rfl, SqL.of upd_same, rfl, _, _, rfl, rfl, .inr ⟨by decide, by decide⟩, _, rfl, a, _, _, _, rfl, rfl, SqL.of upd_same, rfl, _, _, rfl, rfl, .inr ⟨by decide, by decide⟩, _, _, rfl, rfl, _, _, rfl, rfl, .inl ⟨_, rfl, _, _, rfl, rfl, (show (2147483647 : Int) ≠ 0 by decide), ?_⟩⟩
    refine ⟨_, rfl, _, _, rfl, rfl, .inr ⟨by decide, by decide⟩, _, rfl, _, _, rfl, rfl, ⟨by decide, by decide⟩, _, _, rfl, rfl, .inr ⟨by decide, by decide⟩, _, _, rfl, rfl, _, rfl, a, _, _, _, rfl, rfl, SqL.of upd_same, rfl, _, _, rfl, rfl, .inl ⟨_, rfl, _, _, rfl, rfl, (show (2147483399 : Int) ≠ 0 by decide), ?_⟩⟩
    exact ⟨_, rfl, _, _, rfl, rfl, ⟨by decide, by decide⟩, .inl ⟨_, rfl, _, rfl, _, _, rfl, rfl, (show m ≠ 0 by omega), q _ _ (rest _).1 (rest _).2 But.upd ⟨_, _, _, _, upd_same⟩⟩⟩
/-! ### dances, fractions -/
theorem six_letters {r : Int} (h0 : 0 ≤ r) (h1 : r < 6) : ∃ c, atI (("TTUURR" : Str)).cps.toList r = some c ∧ (c = 84 ∨ c = 85 ∨ c = 82) := by
  have e : (("TTUURR" : Str)).cps.toList = [84, 84, 85, 85, 82, 82] := by decide +kernel
  rw [e]
  obtain ⟨c, hc, m⟩ := atI_mk (xs := [84, 84, 85, 85, 82, 82]) h0 h1
  refine ⟨c, hc, ?_⟩
  simp at m
  omega
theorem four_sizes {r : Int} (h0 : 0 ≤ r) (h1 : r < 4) : ∃ z : Int, atI [V.int 1, .int 1, .int 3, .int 9] r = some (.int z) ∧ 1 ≤ z ∧ z ≤ 9 := by
  obtain ⟨c, hc, m⟩ := atI_mk (xs := [V.int 1, .int 1, .int 3, .int 9]) h0 h1
  simp at m
  rcases m with rfl | rfl | rfl
  · exact ⟨1, hc, by decide, by decide⟩
  · exact ⟨3, hc, by decide, by decide⟩
  · exact ⟨9, hc, by decide, by decide⟩
theorem e_empty : (("" : Str)) = S [] := by decide +kernel
theorem sizeLine_big : 16777216 ≤ sizeLine := by rw [sizeLine_eq]; decide
theorem fits {n : Nat} (h : n ≤ 16777216) : n ≤ sizeLine := Nat.le_trans h sizeLine_big
def spDance : Sp := fun vs H Q _ => ∃ (a : Addr) (m : Int), vs = [.ref a, .int m] ∧ Tape H a ∧ 0 ≤ m ∧ m ≤ 1000 ∧ ∀ l H', Lets l → (l.length : Int) ≤ m → But a H H' → Tape H' a → Q (.str (S l)) H'
theorem ok_dance (F : Fun K "_law_dance" "_law_dance" s_law_dance f fd) (DT : Dfn P w K mg base "_law_take" 1 ["tape", "many"] spTake) (mr : mg "range" = none) : FnOk P w K mg base CX0 2 f fd ["tape", "most"] spDance := by
  refine F.ok sc_law_dance (fun vs H Q E h => ?_) (fun cdv A outer s H vs Q E hr h => ?_)
  · obtain ⟨a, m, rfl, _⟩ := h
    rfl
  obtain ⟨a, m, rfl, hT, h0, h1, q⟩ := h
  refine ⟨_, pss_cons (ps_set (i := 2) sc_law_dance.nd rfl (.inl rfl) pe_str)
    (pss_cons (ps_set (i := 3) sc_law_dance.nd rfl (.inl rfl) (pe_ix ix_list (pe_lst (pa_cons pe_int (pa_cons pe_int (pa_cons pe_int (pa_cons pe_int pa_nil))))) (pe_do DT hr (pa_cons (pv 0) (pa_cons pe_int pa_nil))) (fun _ _ => rfl)))
    (pss_cons (ps_for PassesOwn.never rfl (pi_range1 rfl mr (pa_cons (pe_do DT hr (pa_cons (pv 0) (pa_cons (pe_op op_add (pv 1) pe_int) pa_nil))) pa_nil)) (pg_name (i := 4) sc_law_dance.nd rfl (.inl rfl))
      (pss_one (ps_set (i := 2) sc_law_dance.nd rfl (.inl rfl) (pe_op op_add_str (pv 2) (pe_op op_mul_str (pe_ix ix_str pe_str (pe_do DT hr (pa_cons (pv 0) (pa_cons pe_int pa_nil))) (fun _ _ => rfl))
        (pe_op op_add pe_int (pe_do DT hr (pa_cons (pv 0) (pa_cons (pv 3) pa_nil)))))))))
    (pss_one (ps_ret (pe_slice sl_str (pv 2) po_none (po_some (pv 1))))))), ?_⟩
  refine ⟨(by show 4 ≤ sizeLine; exact fits (by decide)), fun p hp => ?_⟩
  have np := hT.ne hp
  refine ⟨_, rfl, a, 4, rfl, hT.same (same_new hp _), by decide, by decide, fun r H1 r0 r1 b1 t1 => ?_⟩
  obtain ⟨z, hz, z1, z9⟩ := four_sizes r0 r1
  refine ⟨p, _, _, _, rfl, rfl, SqL.of (b1 _ _ np upd_same), hz, ?_⟩
  have B1 : But a H H1 := (But.of (same_new hp _)).trans b1
  refine ⟨_, rfl, _, rfl, _, _, rfl, rfl, a, _, rfl, t1, (show 0 < m + 1 by omega), (show m + 1 < 1073741824 by omega), fun r2 H2 r20 r21 b2 t2 => ?_⟩
  refine ⟨r2, rfl, by omega, by omega, for_range (lo := 0) (n := r2.toNat) (fun i σ H' => ∃ (l : List Nat) (v : Option V), σ = [some (.ref a), some (.int m), some (.str (S l)), some (.int z), v] ∧ Lets l ∧ l.length ≤ 9 * i ∧ But a H H' ∧ Tape H' a) ?_ ?_ ?_⟩
  · exact ⟨[], none, by rw [← e_empty]; rfl, fun _ h => (by cases h), Nat.zero_le _, B1.trans b2, t2⟩
  · rintro i σ H' hi ⟨l, v, rfl, hl, hz2, bt, tp⟩
    refine ⟨_, rfl, _, rfl, a, 6, rfl, tp, by decide, by decide, fun r3 H3 r30 r31 b3 t3 => ?_⟩
    obtain ⟨c, hc, hcl⟩ := six_letters r30 r31
    refine ⟨_, _, c, rfl, rfl, (fits (by decide +kernel)), hc, _, rfl, _, rfl, a, z, rfl, t3, by omega, by omega, fun r4 H4 r40 r41 b4 t4 => ?_⟩
    have hn : (1 + r4).toNat ≤ 9 := by omega
    refine ⟨_, _, rfl, rfl, [c], 1 + r4, rfl, rfl, by omega, by omega, by simp only [List.length_singleton]; omega, _, _, rfl, rfl, ?_, ?_⟩
    · rw [S_len, S_len]
      refine fits ?_
      rw [List.length_flatten, List.map_replicate, List.sum_replicate_nat]
      simp only [List.length_singleton]
      omega
    · refine ⟨l ++ (List.replicate (1 + r4).toNat [c]).flatten, _, by rw [S_app]; rfl, fun x hx => ?_, ?_, (bt.trans b3).trans b4, t4⟩
      · rcases List.mem_append.mp hx with hx | hx
        · exact hl x hx
        · obtain ⟨y, hy, hxy⟩ := List.mem_flatten.mp hx
          rw [(List.mem_replicate.mp hy).2] at hxy
          rw [List.mem_singleton.mp hxy]
          exact hcl
      · rw [List.length_append, List.length_flatten, List.map_replicate, List.sum_replicate_nat]
        simp only [List.length_singleton]
        omega
  · rintro σ H' ⟨l, v, rfl, hl, hz2, bt, tp⟩
    refine ⟨_, rfl, _, rfl, _, rfl, _, rfl, (by rw [S_len]; exact fits (by omega)), ?_⟩
    rw [S_take l h0]
    refine q _ _ (fun x hx => hl x (List.mem_of_mem_take hx)) ?_ bt tp
    rw [List.length_take]
    omega
end
section
variable {P : Program} {w : World} {K : PySem.W.Frag} {mg : Str → Option Value} {base : Heap} {f : Addr} {fd : FuncData}
/-! ### the same data -/
inductive Dt where
  | int (i : Int) | str (z : Str) | non | tup (xs : List Dt) | lst (xs : List Dt)
/-- v stands for d, in at most n levels -/
def Is (H : Hp) : Nat → V → Dt → Prop
  | _, v, .int i => v = .int i
  | _, v, .str z => v = .str z
  | _, v, .non => v = .non
  | 0, _, .tup _ => False
  | 0, _, .lst _ => False
  | n + 1, v, .tup ds => ∃ (a : Addr) (xs : List V), v = .ref a ∧ H a = some (.tup xs) ∧ xs.length = ds.length ∧ ds.length ≤ 1000000 ∧ ∀ (i : Nat) (x : V) (d : Dt), xs[i]? = some x → ds[i]? = some d → Is H n x d
  | n + 1, v, .lst ds => ∃ (a : Addr) (xs : List V), v = .ref a ∧ H a = some (.lst xs) ∧ xs.length = ds.length ∧ ds.length ≤ 1000000 ∧ ∀ (i : Nat) (x : V) (d : Dt), xs[i]? = some x → ds[i]? = some d → Is H n x d
def spSame : Nat → Sp
  | 0 => fun _ _ _ _ => False
  | n + 1 => fun vs H Q _ => ∃ (x y : V) (d : Dt), vs = [x, y] ∧ Is H n x d ∧ Is H n y d ∧ Q (.bl true) H
theorem ok_same {n : Nat} (F : Fun K "_law_same" "_law_same" s_law_same f fd) (DS : Dfn P w K mg base "_law_same" n ["told", "due"] (spSame n)) (mI : mg "isinstance" = none) (mT : mg "tuple" = none) (mL : mg "list" = none) (ml : mg "len" = none) (mr : mg "range" = none)
    (ms : mg "str" = none) (mi : mg "int" = none) (mb : mg "bool" = none) : FnOk P w K mg base CX0 (n + 1) f fd ["told", "due"] (spSame (n + 1)) := by
  refine F.ok sc_law_same (fun vs H Q E h => ?_) (fun cdv A outer s H vs Q E hr h => ?_)
  · obtain ⟨x, y, d, rfl, _⟩ := h
    rfl
  obtain ⟨x, y, d, rfl, hx, hy, q⟩ := h
  have bT : bootBuiltins "tuple" = some (.type "tuple") := by decide +kernel
  have bL : bootBuiltins "list" = some (.type "list") := by decide +kernel
  have bS : bootBuiltins "str" = some (.type "str") := by decide +kernel
  have bI : bootBuiltins "int" = some (.type "int") := by decide +kernel
  have bB : bootBuiltins "bool" = some (.type "bool") := by decide +kernel
  have bi : bootBuiltins "isinstance" = some (.builtin "isinstance") := by decide +kernel
  refine ⟨_, pss_cons (ps_if (PW.pt (pw_or (pt_val (pe_callB call_isi rfl mI bi (pa_cons (pv 1) (pa_cons (pe_bltn (v := .ty "tuple") rfl mT bT rfl) pa_nil)))) (pw_or1 (pt_val (pe_callB call_isi rfl mI bi (pa_cons (pv 1) (pa_cons (pe_bltn (v := .ty "list") rfl mL bL rfl) pa_nil)))))))
      (pss_cons (ps_if (PW.pt (pw_or (pt_cmpR op_ne (pe_callB call_isi rfl mI bi (pa_cons (pv 1) (pa_cons (pe_bltn (v := .ty "tuple") rfl mT bT rfl) pa_nil))) (pe_callB call_isi rfl mI bi (pa_cons (pv 0) (pa_cons (pe_bltn (v := .ty "tuple") rfl mT bT rfl) pa_nil))) (nomark _))
          (pw_or1 (pt_cmpR op_ne (pe_callB call_isi rfl mI bi (pa_cons (pv 1) (pa_cons (pe_bltn (v := .ty "list") rfl mL bL rfl) pa_nil))) (pe_callB call_isi rfl mI bi (pa_cons (pv 0) (pa_cons (pe_bltn (v := .ty "list") rfl mL bL rfl) pa_nil))) (nomark _)))))
        (pss_one (ps_ret pe_bl)) pss_nil)
      (pss_cons (ps_if (pt_cmpR op_ne (pe_callB call_len_seq rfl ml PySem.boot_len (pa_cons (pv 0) pa_nil)) (pe_callB call_len_seq rfl ml PySem.boot_len (pa_cons (pv 1) pa_nil)) (nomark _)) (pss_one (ps_ret pe_bl)) pss_nil)
      (pss_cons (ps_for PassesOwn.never rfl (pi_range1 rfl mr (pa_cons (pe_callB call_len_seq rfl ml PySem.boot_len (pa_cons (pv 1) pa_nil)) pa_nil)) (pg_name (i := 2) sc_law_same.nd rfl (.inl rfl))
        (pss_one (ps_if (pt_not (pt_val (pe_do DS hr (pa_cons (pe_ix ix_seq (pv 0) (pv 2) (fun _ _ => rfl)) (pa_cons (pe_ix ix_seq (pv 1) (pv 2) (fun _ _ => rfl)) pa_nil))))) (pss_one (ps_ret pe_bl)) pss_nil)))
      (pss_one (ps_ret pe_bl))))) pss_nil)
    (pss_cons (ps_if (pt_cmpR op_isN (pv 1) pe_non (nomark _)) (pss_one (ps_ret (pe_cmpR op_isN (pv 0) pe_non (nomark _)))) pss_nil)
    (pss_cons (ps_if (pt_val (pe_callB call_isi rfl mI bi (pa_cons (pv 1) (pa_cons (pe_bltn (v := .ty "str") rfl ms bS rfl) pa_nil))))
      (pss_one (ps_ret (pe_and (pe_callB call_isi rfl mI bi (pa_cons (pv 0) (pa_cons (pe_bltn (v := .ty "str") rfl ms bS rfl) pa_nil))) (pe_one (pe_cmpR op_eq (pv 0) (pv 1) (nomark _)))))) pss_nil)
    (pss_one (ps_ret (pe_and (pe_callB call_isi rfl mI bi (pa_cons (pv 0) (pa_cons (pe_bltn (v := .ty "int") rfl mi bI rfl) pa_nil)))
      (pe_and (pe_not (pe_callB call_isi rfl mI bi (pa_cons (pv 0) (pa_cons (pe_bltn (v := .ty "bool") rfl mb bB rfl) pa_nil)))) (pe_one (pe_cmpR op_eq (pv 0) (pv 1) (nomark _))))))))), ?_⟩
  have isn : ∀ (a b : String) (r : Bool), kitB a b = some r → PySem.W.kitOne K (.type a) (.type b) = some r := fun a b r h => kit_ty h
  cases d with
  | int i =>
    cases (show x = .int i by cases n <;> exact hx)
    cases (show y = .int i by cases n <;> exact hy)
    refine ⟨_, rfl, _, _, _, _, false, rfl, .ty _, .base (.int _), kit_ty (by decide +kernel), _, rfl, iteF ?_⟩
    refine ⟨_, rfl, _, _, _, _, false, rfl, .ty _, .base (.int _), kit_ty (by decide +kernel), _, rfl, iteF ?_⟩
    refine ⟨_, rfl, rfl, _, rfl, iteF ?_⟩
    refine ⟨_, rfl, _, _, _, _, false, rfl, .ty _, .base (.int _), kit_ty (by decide +kernel), _, rfl, iteF ?_⟩
    refine ⟨_, rfl, _, _, _, _, true, rfl, .ty _, .base (.int _), kit_ty (by decide +kernel), _, rfl, iteT ?_⟩
    refine ⟨_, rfl, _, _, _, _, false, rfl, .ty _, .base (.int _), kit_ty (by decide +kernel), _, rfl, _, rfl, iteT ?_⟩
    refine ⟨_, rfl, _, rfl, rfl, ?_⟩
    rw [decide_eq_true rfl]
    exact q
  | str z =>
    cases (show x = .str z by cases n <;> exact hx)
    cases (show y = .str z by cases n <;> exact hy)
    refine ⟨_, rfl, _, _, _, _, false, rfl, .ty _, .base (.str _), kit_ty (by decide +kernel), _, rfl, iteF ?_⟩
    refine ⟨_, rfl, _, _, _, _, false, rfl, .ty _, .base (.str _), kit_ty (by decide +kernel), _, rfl, iteF ?_⟩
    refine ⟨_, rfl, rfl, _, rfl, iteF ?_⟩
    refine ⟨_, rfl, _, _, _, _, true, rfl, .ty _, .base (.str _), kit_ty (by decide +kernel), _, rfl, iteT ?_⟩
    refine ⟨_, rfl, _, _, _, _, true, rfl, .ty _, .base (.str _), kit_ty (by decide +kernel), _, rfl, iteT ?_⟩
    refine ⟨_, rfl, _, rfl, rfl, ?_⟩
    rw [decide_eq_true rfl]
    exact q
  | non =>
    cases (show x = .non by cases n <;> exact hx)
    cases (show y = .non by cases n <;> exact hy)
    refine ⟨_, rfl, _, _, _, _, false, rfl, .ty _, .base .non, kit_ty (by decide +kernel), _, rfl, iteF ?_⟩
    refine ⟨_, rfl, _, _, _, _, false, rfl, .ty _, .base .non, kit_ty (by decide +kernel), _, rfl, iteF ?_⟩
    exact ⟨_, rfl, rfl, _, rfl, iteT ⟨_, rfl, rfl, q⟩⟩
  | tup ds =>
    cases n with
    | zero => exact hx.elim
    | succ n =>
      obtain ⟨a, xs, rfl, ha, la, ln, ka⟩ := hx
      obtain ⟨b, ys, rfl, hb, lb, _, kb⟩ := hy
      refine ⟨_, rfl, _, _, _, _, true, rfl, .ty _, .base (.tup hb), kit_ty (by decide +kernel), _, rfl, iteT ?_⟩
      refine ⟨_, rfl, _, _, _, _, true, rfl, .ty _, .base (.tup hb), kit_ty (by decide +kernel), _, rfl, _, _, _, _, true, rfl, .ty _, .base (.tup ha), kit_ty (by decide +kernel), rfl, _, rfl, iteF ?_⟩
      refine ⟨_, rfl, _, _, _, _, false, rfl, .ty _, .base (.tup hb), kit_ty (by decide +kernel), _, rfl, _, _, _, _, false, rfl, .ty _, .base (.tup ha), kit_ty (by decide +kernel), rfl, _, rfl, iteF ?_⟩
      refine ⟨_, rfl, a, xs, rfl, .inr (SqT.of ha), _, rfl, b, ys, rfl, .inr (SqT.of hb), rfl, _, rfl, ?_⟩
      rw [show (decide (V.int (xs.length : Int) = V.int (ys.length : Int))) = true from decide_eq_true (by rw [la, lb])]
      refine iteF ?_
      refine ⟨_, rfl, b, ys, rfl, .inr (SqT.of hb), (ys.length : Int), rfl, by omega, by omega, for_range (lo := 0) (n := (ys.length : Int).toNat) (fun i σ H' => H' = H ∧ ∃ v, σ = [some (.ref a), some (.ref b), v]) ⟨rfl, none, rfl⟩ ?_ ?_⟩
      · rintro i σ _ hi ⟨rfl, v, rfl⟩
        have hi1 : i < ys.length := by omega
        have hi2 : i < xs.length := by omega
        have hi3 : i < ds.length := by omega
        refine ⟨_, rfl, _, rfl, .inr (.inl ⟨a, xs, _, _, rfl, rfl, SqT.of ha, at_of (j := i) (by omega) (List.getElem?_eq_getElem hi2), ?_⟩)⟩
        refine ⟨_, rfl, _, rfl, .inr (.inl ⟨b, ys, _, _, rfl, rfl, SqT.of hb, at_of (j := i) (by omega) (List.getElem?_eq_getElem hi1), ?_⟩)⟩
        refine ⟨_, _, ds[i], rfl, ka i _ _ (List.getElem?_eq_getElem hi2) (List.getElem?_eq_getElem hi3), kb i _ _ (List.getElem?_eq_getElem hi1) (List.getElem?_eq_getElem hi3), _, rfl, iteF ⟨rfl, _, rfl⟩⟩
      · rintro σ _ ⟨rfl, v, rfl⟩
        exact q
  | lst ds =>
    cases n with
    | zero => exact hx.elim
    | succ n =>
      obtain ⟨a, xs, rfl, ha, la, ln, ka⟩ := hx
      obtain ⟨b, ys, rfl, hb, lb, _, kb⟩ := hy
      refine ⟨_, rfl, _, _, _, _, false, rfl, .ty _, .base (.lst hb), kit_ty (by decide +kernel), _, rfl, iteF ?_⟩
      refine ⟨_, rfl, _, _, _, _, true, rfl, .ty _, .base (.lst hb), kit_ty (by decide +kernel), _, rfl, iteT ?_⟩
      refine ⟨_, rfl, _, _, _, _, false, rfl, .ty _, .base (.lst hb), kit_ty (by decide +kernel), _, rfl, _, _, _, _, false, rfl, .ty _, .base (.lst ha), kit_ty (by decide +kernel), rfl, _, rfl, iteF ?_⟩
      refine ⟨_, rfl, _, _, _, _, true, rfl, .ty _, .base (.lst hb), kit_ty (by decide +kernel), _, rfl, _, _, _, _, true, rfl, .ty _, .base (.lst ha), kit_ty (by decide +kernel), rfl, _, rfl, iteF ?_⟩
      refine ⟨_, rfl, a, xs, rfl, .inl (SqL.of ha), _, rfl, b, ys, rfl, .inl (SqL.of hb), rfl, _, rfl, ?_⟩
      rw [show (decide (V.int (xs.length : Int) = V.int (ys.length : Int))) = true from decide_eq_true (by rw [la, lb])]
      refine iteF ?_
      refine ⟨_, rfl, b, ys, rfl, .inl (SqL.of hb), (ys.length : Int), rfl, by omega, by omega, for_range (lo := 0) (n := (ys.length : Int).toNat) (fun i σ H' => H' = H ∧ ∃ v, σ = [some (.ref a), some (.ref b), v]) ⟨rfl, none, rfl⟩ ?_ ?_⟩
      · rintro i σ _ hi ⟨rfl, v, rfl⟩
        have hi1 : i < ys.length := by omega
        have hi2 : i < xs.length := by omega
        have hi3 : i < ds.length := by omega
        refine ⟨_, rfl, _, rfl, .inl ⟨a, xs, _, _, rfl, rfl, SqL.of ha, at_of (j := i) (by omega) (List.getElem?_eq_getElem hi2), ?_⟩⟩
        refine ⟨_, rfl, _, rfl, .inl ⟨b, ys, _, _, rfl, rfl, SqL.of hb, at_of (j := i) (by omega) (List.getElem?_eq_getElem hi1), ?_⟩⟩
        refine ⟨_, _, ds[i], rfl, ka i _ _ (List.getElem?_eq_getElem hi2) (List.getElem?_eq_getElem hi3), kb i _ _ (List.getElem?_eq_getElem hi1) (List.getElem?_eq_getElem hi3), _, rfl, iteF ⟨rfl, _, rfl⟩⟩
      · rintro σ _ ⟨rfl, v, rfl⟩
        exact q
theorem none_same : FnOk P w K mg base CX0 0 f fd ["told", "due"] (spSame 0) := by
  have no : ∀ vs H Q E, ¬ spSame 0 vs H Q E := fun vs H Q E h => h
  exact ⟨fun vs H Q E h => absurd h (no vs H Q E), fun A outer s H args us vs Q E _ _ _ _ h => absurd h (no vs H Q E)⟩
end
theorem sign_eq {c n : Nat} {z : Str} (e : z = S [n]) : (V.str (S [c]) = V.str z) ↔ c = n := by
  subst e
  constructor
  · intro h
    have := S_inj (V.str.inj h)
    simpa using this
  · rintro rfl; rfl
theorem e_T : (("T" : Str)) = S [84] := by decide +kernel
theorem e_U : (("U" : Str)) = S [85] := by decide +kernel
theorem e_R : (("R" : Str)) = S [82] := by decide +kernel
theorem S_eta (z : Str) : S z.cps.toList = z := by
  cases z
  simp [S]
def tx (l : List Nat) : V := .str (S l)
theorem tx_inj {a b : List Nat} (h : tx a = tx b) : a = b := S_inj (V.str.inj h)
theorem tx_iff {a b : List Nat} : V.str (S a) = V.str (S b) ↔ a = b := ⟨fun h => tx_inj h, fun h => by rw [h]⟩
section
theorem int_is {H : Hp} {n : Nat} {i : Int} : Is H n (.int i) (.int i) := by cases n <;> rfl
theorem str_is {H : Hp} {n : Nat} {z : Str} : Is H n (.str z) (.str z) := by cases n <;> rfl
theorem is_tup {H : Hp} {n : Nat} {a : Addr} {xs : List V} {ds : List Dt} (h : H a = some (.tup xs)) (z : xs.length = ds.length) (m : ds.length ≤ 1000000) (k : ∀ (i : Nat) (x : V) (d : Dt), xs[i]? = some x → ds[i]? = some d → Is H n x d) : Is H (n + 1) (.ref a) (.tup ds) := ⟨a, xs, rfl, h, z, m, k⟩
theorem is_lst {H : Hp} {n : Nat} {a : Addr} {xs : List V} {ds : List Dt} (h : H a = some (.lst xs)) (z : xs.length = ds.length) (m : ds.length ≤ 1000000) (k : ∀ (i : Nat) (x : V) (d : Dt), xs[i]? = some x → ds[i]? = some d → Is H n x d) : Is H (n + 1) (.ref a) (.lst ds) := ⟨a, xs, rfl, h, z, m, k⟩
end
def letter (c : Nat) : Bool := c == 84 || c == 85 || c == 82
theorem letter_iff {c : Nat} : letter c = true ↔ (c = 84 ∨ c = 85 ∨ c = 82) := by
  unfold letter
  simp [or_assoc]
section
/-! ### lines of moves: the mathematics -/
/-- all but the code tables is kept; a table stays one -/
def Sm (H H' : Hp) : Prop := (∀ b o, H b = some o → (∀ ps, o ≠ HO.tbl ps) → H' b = some o) ∧ (∀ P, GxR.TabG H P → GxR.TabG H' P) ∧ ∀ b, H' b = none → H b = none
theorem Sm.refl (H : Hp) : Sm H H := ⟨fun _ _ h _ => h, fun _ h => h, fun _ h => h⟩
theorem Sm.trans {H H1 H2 : Hp} (x : Sm H H1) (y : Sm H1 H2) : Sm H H2 := ⟨fun b o h n => y.1 b o (x.1 b o h n) n, fun P h => y.2.1 P (x.2.1 P h), fun b h => x.2.2 b (y.2.2 b h)⟩
theorem Sm.of {H H' : Hp} (x : Same H H') : Sm H H' := ⟨fun b o h _ => x b o h, fun P ⟨ps, h, k⟩ => ⟨ps, x _ _ h, k⟩, fun b h => by
  cases e : H b with
  | none => rfl
  | some o => rw [x b o e] at h; cases h⟩
theorem Sm.tab {P : Addr} {H H' : Hp} (t : GxR.TabG H P) (x : GxR.Tabbed P H H') : Sm H H' := by
  obtain ⟨qs, hq, _⟩ := t
  refine ⟨fun b o h n => ?_, fun P' t' => ?_, fun b h => ?_⟩
  · have e : b ≠ P := fun z => by rw [z, hq] at h; cases h; exact n _ rfl
    rw [x.2 b e]; exact h
  · by_cases e : P' = P
    · rw [e]; exact x.1
    · obtain ⟨ps, h, k⟩ := t'
      exact ⟨ps, by rw [x.2 P' e]; exact h, k⟩
  · have e : b ≠ P := fun z => by
      obtain ⟨ps, h2, _⟩ := x.1
      rw [z, h2] at h; cases h
    rw [← x.2 b e]; exact h
theorem Sm.lst {H H' : Hp} {b : Addr} {xs : List V} (x : Sm H H') (h : H b = some (.lst xs)) : H' b = some (.lst xs) := x.1 b _ h fun _ z => by cases z
theorem Sm.tup {H H' : Hp} {b : Addr} {xs : List V} (x : Sm H H') (h : H b = some (.tup xs)) : H' b = some (.tup xs) := x.1 b _ h fun _ z => by cases z
theorem tab_but {a P : Addr} {H H' : Hp} {xs : List V} (x : But a H H') (h : H a = some (.lst xs)) (t : GxR.TabG H P) : GxR.TabG H' P := by
  obtain ⟨ps, e, k⟩ := t
  exact ⟨ps, x P _ (fun z => by rw [z, h] at e; cases e) e, k⟩
/-! texts and their signs -/
abbrev lc (z : Str) : List Nat := z.cps.toList
theorem S_lc (z : Str) : S (lc z) = z := by
  cases z
  simp [S, lc]
theorem lc_S (l : List Nat) : lc (S l) = l := S_list l
theorem lc_len (z : Str) : (lc z).length = z.length := by rw [← S_len, S_lc]
def ws (z : Str) : List Str := Txt.split z (S [32])
theorem ws_weight (z : Str) : ((ws z).map (·.length)).sum + (ws z).length ≤ z.length + 1 := PyProof.Rows.split_weight z (S [32]) (by decide)
theorem cnt_nn (c : Nat) : ∀ l : List Nat, 0 ≤ PyProof.Rows.cnt c l
  | [] => by rw [PyProof.Rows.cnt_nil]; exact Int.le_refl _
  | n :: r => by
    have := cnt_nn c r
    rw [PyProof.Rows.cnt_cons]
    split <;> omega
theorem ws_pos (z : Str) : 0 < (ws z).length := by
  have e : ((ws z).length : Int) = 1 + PyProof.Rows.cnt 32 z.cps.toList := PyProof.Rows.split_len z 32
  have := cnt_nn 32 z.cps.toList
  omega
theorem sum_mem {l : List Nat} {k : Nat} (h : k ∈ l) : k ≤ l.sum := by
  induction l with
  | nil => cases h
  | cons a r ih =>
    rw [List.sum_cons]
    rcases List.mem_cons.mp h with e | e
    · omega
    · have := ih e; omega
theorem ws_len {z w : Str} (h : w ∈ ws z) : w.length ≤ z.length := by
  have h1 := ws_weight z
  have h2 := sum_mem (List.mem_map.mpr ⟨w, h, rfl⟩ : w.length ∈ (ws z).map (·.length))
  have h3 : 0 < (ws z).length := List.length_pos_of_mem h
  omega
def dig (c : Nat) : Bool := decide (48 ≤ c) && decide (c ≤ 57)
theorem dig_in (c : Nat) : decide (c ∈ lc "0123456789") = dig c := by
  have e : lc "0123456789" = [48, 49, 50, 51, 52, 53, 54, 55, 56, 57] := by decide +kernel
  rw [e]
  unfold dig
  rw [← Bool.decide_and]
  refine decide_eq_decide.mpr ⟨fun h => ?_, fun h => ?_⟩
  · simp only [List.mem_cons, List.not_mem_nil, or_false] at h
    omega
  · simp only [List.mem_cons, List.not_mem_nil, or_false]
    omega
theorem tur_in (c : Nat) : decide (c ∈ lc "TUR") = letter c := by
  have e : lc "TUR" = [84, 85, 82] := by decide +kernel
  rw [e]
  unfold letter
  rw [Bool.eq_iff_iff]
  simp [or_assoc]
def cnt (l : List Nat) : Bool := !(decide (l = []) || decide (9 < l.length) || decide (l.head? = some 48)) && l.all dig
def okP (l : List Nat) : Bool := decide (l = [48]) || cnt l
def okW (l : List Nat) : Bool := decide (l = [45]) || (!decide (l = []) && l.all letter)
def wd (l : List Nat) : List Nat := if l = [45] then [] else l
abbrev Mt := Int × List Nat × List Nat
def nv (z : Str) : Int := (intText? z).getD 0
/-- what a line stands for -/
def rd (z : Str) : Option Mt := match ws z with
  | [a, b, c] => if okP (lc a) && okW (lc b) && okW (lc c) then some (nv a, wd (lc b), wd (lc c)) else none
  | _ => none
theorem rd_three {z a b c : Str} (h : ws z = [a, b, c]) : rd z = if okP (lc a) && okW (lc b) && okW (lc c) then some (nv a, wd (lc b), wd (lc c)) else none := by
  unfold rd; rw [h]
theorem rd_not {z : Str} (h : (ws z).length ≠ 3) : rd z = none := by
  unfold rd
  split
  · rename_i e
    rw [e] at h
    exact absurd rfl h
  · rfl
theorem rd_empty {z : Str} {a b c : List Nat} (h : ws z = [S a, S b, S c]) (m : [] ∈ [a, b, c]) : rd z = none := by
  rw [rd_three h, lc_S, lc_S, lc_S]
  have p0 : okP [] = false := by decide
  have w0 : okW [] = false := by decide
  simp only [List.mem_cons, List.not_mem_nil, or_false] at m
  rcases m with e | e | e
  · rw [← e, p0]; rfl
  · rw [← e, w0, Bool.and_false]; rfl
  · rw [← e, w0, Bool.and_false]; rfl
theorem rd_all {z : Str} {a b c : List Nat} (h : ws z = [S a, S b, S c]) : rd z = if okP a && okW b && okW c then some (nv (S a), wd b, wd c) else none := by
  rw [rd_three h, lc_S, lc_S, lc_S]
theorem okP_long {a : List Nat} (h : 9 < a.length) : okP a = false := by
  unfold okP cnt
  rw [decide_eq_true h, decide_eq_false (fun e => by rw [e] at h; exact absurd h (by decide) : ¬ a = [48])]
  simp
theorem okP_dig {a : List Nat} (h : a.all dig = false) : okP a = false := by
  unfold okP cnt
  rw [h, Bool.and_false, Bool.or_false, decide_eq_false_iff_not]
  intro e
  rw [e] at h
  exact absurd h (by decide)
theorem okP_zero {a : List Nat} (h : a.head? = some 48) (l : 1 < a.length) : okP a = false := by
  unfold okP cnt
  rw [decide_eq_true h, decide_eq_false (fun e => by rw [e] at l; exact absurd l (by decide) : ¬ a = [48])]
  simp
theorem okP_yes {a : List Nat} (ne : a ≠ []) (l : ¬ 9 < a.length) (d : a.all dig = true) (h : ¬ (a.head? = some 48 ∧ 1 < a.length)) : okP a = true := by
  unfold okP cnt
  rw [decide_eq_false l, decide_eq_false ne, d]
  by_cases e : a.head? = some 48
  · have l1 : ¬ 1 < a.length := fun z => h ⟨e, z⟩
    match a, ne, e, l1 with
    | [x], _, e, _ => cases e; rfl
    | x :: y :: r, _, _, l1 => exact absurd (by simp) l1
  · rw [decide_eq_false e]; simp
theorem okP_int {z : Str} (h : okP (lc z) = true) : intText? z = some (nv z) ∧ z.length ≤ 9 := by
  have key : (lc z).all dig = true ∧ lc z ≠ [] ∧ (lc z).length ≤ 9 := by
    unfold okP at h
    rw [Bool.or_eq_true, decide_eq_true_eq] at h
    rcases h with e | e
    · rw [e]; exact ⟨by decide, by simp, by decide⟩
    · unfold cnt at e
      simp only [Bool.and_eq_true, Bool.not_eq_true', Bool.or_eq_false_iff, decide_eq_false_iff_not] at e
      exact ⟨e.2, e.1.1.1, by omega⟩
  have e : intText? (S (lc z)) = _ := SX.int_S (a := lc z) key.1 key.2.1 (by omega)
  rw [S_lc] at e
  refine ⟨?_, by rw [← lc_len]; exact key.2.2⟩
  unfold nv
  rw [e]; rfl
theorem wd_letters {l : List Nat} (h : okW l = true) : Lets (wd l) := by
  unfold okW at h
  unfold wd
  rw [Bool.or_eq_true, decide_eq_true_eq] at h
  by_cases e : l = [45]
  · rw [if_pos e]; exact fun _ z => by cases z
  · rw [if_neg e]
    rcases h with h | h
    · exact absurd h e
    · rw [Bool.and_eq_true] at h
      exact fun c hc => letter_iff.mp (List.all_eq_true.mp h.2 c hc)
theorem rd_letters {z : Str} {m : Mt} (h : rd z = some m) : Lets m.2.1 ∧ Lets m.2.2 := by
  unfold rd at h
  split at h
  · split at h
    · rename_i e
      cases h
      simp only [Bool.and_eq_true] at e
      exact ⟨wd_letters e.1.2, wd_letters e.2⟩
    · cases h
  · cases h
/-! what stands in the heap -/
def vM (m : Mt) : List V := [.int m.1, .str (S m.2.1), .str (S m.2.2)]
def dM (m : Mt) : Dt := .tup [.int m.1, .str (S m.2.1), .str (S m.2.2)]
def OM (H : Hp) (v : V) : Option Mt → Prop
  | none => v = .non
  | some m => ∃ p, v = .ref p ∧ H p = some (.tup (vM m))
def MsAt (H : Hp) (p : Addr) (ms : List Mt) : Prop := ∃ xs : List Addr, H p = some (.lst (xs.map V.ref)) ∧ xs.length = ms.length ∧ ∀ (i : Nat) (x : Addr) (m : Mt), xs[i]? = some x → ms[i]? = some m → H x = some (.tup (vM m))
theorem MsAt.sm {H H' : Hp} {p : Addr} {ms : List Mt} (h : MsAt H p ms) (x : Sm H H') : MsAt H' p ms := by
  obtain ⟨xs, h1, h2, h3⟩ := h
  exact ⟨xs, x.lst h1, h2, fun i y m a b => x.tup (h3 i y m a b)⟩
theorem is_m {H : Hp} {p : Addr} {m : Mt} (h : H p = some (.tup (vM m))) : Is H 1 (.ref p) (dM m) := by
  refine ⟨p, _, rfl, h, rfl, by show 3 ≤ 1000000; decide, fun i x d a b => ?_⟩
  match i, a, b with
  | 0, a, b => cases a; cases b; exact int_is
  | 1, a, b => cases a; cases b; exact str_is
  | 2, a, b => cases a; cases b; exact str_is
theorem is_ms {H : Hp} {p : Addr} {ms : List Mt} (h : MsAt H p ms) (l : ms.length ≤ 1000000) : Is H 2 (.ref p) (.lst (ms.map dM)) := by
  obtain ⟨xs, h1, h2, h3⟩ := h
  refine ⟨p, _, rfl, h1, by rw [List.length_map, List.length_map]; exact h2, by rw [List.length_map]; exact l, fun i x d a b => ?_⟩
  rw [List.getElem?_map] at a b
  obtain ⟨y, hy, rfl⟩ := Option.map_eq_some_iff.mp a
  obtain ⟨m, hm, rfl⟩ := Option.map_eq_some_iff.mp b
  exact is_m (h3 i y m hy hm)
/-! lines that are written -/
def sg (l : List Nat) : List Nat := if l = [] then [45] else l
def lineOf (m : Mt) : Str := Txt.join (S [32]) [toString m.1, S (sg m.2.1), S (sg m.2.2)]
structure FitM (m : Mt) : Prop where
  lo : 0 ≤ m.1
  hi : m.1 < 1000000000
  o : m.2.1.length ≤ 6
  n : m.2.2.length ≤ 6
/-! signs -/
def okS (z : Str) : Prop := ∀ c ∈ lc z, c < 128
theorem okS_S {l : List Nat} (h : ∀ c ∈ l, c < 128) : okS (S l) := by unfold okS; rw [lc_S]; exact h
theorem lc_app (a b : Str) : lc (a ++ b) = lc a ++ lc b := by
  rw [← S_lc a, ← S_lc b, S_app, lc_S, lc_S, lc_S]
theorem join_signs2 (y : Str) : ∀ (ps : List Str) (c : Nat), c ∈ lc (Str.join y ps) → (∃ p ∈ ps, c ∈ lc p) ∨ c ∈ lc y
  | [], c, h => by
    have e : lc (Str.join y []) = [] := by rfl
    rw [e] at h; cases h
  | [a], c, h => by
    have e : Str.join y [a] = a := by simp [Str.join]
    rw [e] at h; exact .inl ⟨a, List.mem_cons_self, h⟩
  | a :: b :: r, c, h => by
    have e : Str.join y (a :: b :: r) = a ++ y ++ Str.join y (b :: r) := by simp [Str.join]
    rw [e, lc_app, lc_app, List.mem_append, List.mem_append] at h
    rcases h with (h | h) | h
    · exact .inl ⟨a, List.mem_cons_self, h⟩
    · exact .inr h
    · rcases join_signs2 y (b :: r) c h with ⟨p, h1, h2⟩ | h
      · exact .inl ⟨p, List.mem_cons_of_mem _ h1, h2⟩
      · exact .inr h
theorem join_holds (y : Str) : ∀ (ps : List Str) (p : Str) (c : Nat), p ∈ ps → c ∈ lc p → c ∈ lc (Str.join y ps)
  | [a], p, c, h, hc => by
    have e : Str.join y [a] = a := by simp [Str.join]
    rw [List.mem_singleton] at h
    rw [e, ← h]; exact hc
  | a :: b :: r, p, c, h, hc => by
    have e : Str.join y (a :: b :: r) = a ++ y ++ Str.join y (b :: r) := by simp [Str.join]
    rw [e, lc_app, lc_app, List.mem_append, List.mem_append]
    rcases List.mem_cons.mp h with h | h
    · rw [h] at hc; exact .inl (.inl hc)
    · exact .inr (join_holds y (b :: r) p c h hc)
theorem ws_ok {z w : Str} (h : okS z) (m : w ∈ ws z) : okS w := fun c hc => by
  have e := StrLaws.join_split z (S [32])
  refine h c ?_
  rw [← e]
  exact join_holds _ _ w c m hc
theorem join_ok {ps : List Str} (h : ∀ p ∈ ps, okS p) : okS (Txt.join (S [32]) ps) := fun c hc => by
  have e : Txt.join (S [32]) ps = Str.join (S [32]) ps := StrLaws.glued_eq_join _ ps
  rw [e] at hc
  rcases join_signs2 _ ps c hc with ⟨p, h1, h2⟩ | h1
  · exact h p h1 c h2
  · rw [lc_S, List.mem_singleton] at h1
    omega
theorem strOk_of {z : Str} (h : okS z) : PyData.strOk z = true := by
  unfold PyData.strOk
  rw [← Array.all_toList]
  exact List.all_eq_true.mpr fun c hc => decide_eq_true (Nat.lt_of_lt_of_le (h c hc) (by decide))
end
/-! ### ad list comprehension out of which an exception of ad call leaves -/
section
open PySem.Spec PyProof.Rows
variable {Mo : Model} {Ar : Around} {E : Value → Shared → Prop} {s : Shared} {ev : Env}
/-- compPost, with the frame told where an error leaves -/
def postF (Mo : Model) (Ar : Around) (E : Value → Shared → Prop) (fr : Option Addr) (use : Option (Value → Sem Unit)) (R : Value → Shared → Prop) (ac : Value) (Cc : Addr) (rr : Result) (z' : Shared) : Prop :=
  match rr with
  | .ok _ => compPost Mo Ar E use R ac Cc rr z'
  | .error xv => ∃ mp, z'.heap.Ns Cc mp ∧ ∀ k', Heap.SameBut Cc z'.heap k' → ∀ cev : Env, cev.locals = Cc → cev.frame = fr → wpAny Mo Ar (passOn "comprehension.variables-let-go" xv cev : Sem Value) (fun _ _ => False) E { z' with heap := k' }
theorem comprehension_F {ee : Expr} {scp : Scope} {ps : Pos} {mkAcc fst : Sem Value} {gq : Comprehension} {gqs : List Comprehension} {clo_ : List (Str × Addr)} {use : Option (Value → Sem Unit)}
    {R : Value → Shared → Prop} {fr : Option Addr}
    (cla : clausesOf ee = gq :: gqs) (fold : ∀ xv, foldedSetIterable gq.iter ev xv = pure xv) (clo : closureFor scp ev = pure clo_)
    (kin : scp.kind = .function) (nam : ∀ xv ∈ scp.names, xv.2 = .local → scp.names.lookup xv.1 = some .local)
    (hq : wpAny Mo Ar fst (fun xv za => wpAny Mo Ar (pyIter xv) (fun itr zb => wpAny Mo Ar mkAcc (fun ac zc =>
      wpAny Mo Ar (newFunctionEnv scp ev.globals clo_ [] ev.qual none .none (some ev)) (fun cev zd => cev.frame = fr ∧
        codeAny Mo Ar (.compStart ee 0 itr ac { cev with scope := relabel scp ev }) (postF Mo Ar E fr use R ac cev.locals) zd) E zc) E zb) E za) E s) :
    wpAny Mo Ar (comprehension ee scp ev ps mkAcc false fst use) R E s := by
  unfold comprehension
  rw [clo, cla]
  refine wpAny_bind (wpAny_mono hq (fun xv za ka => wpAny_bind (wpAny_standAt (wpAny_bind (wpAny_of_eq (fold xv) (wpAny_bind (wpAny_holding (wpAny_mono ka (fun itr zb kb =>
    wpAny_standIf (wpAny_bind (wpAny_mono kb (fun ac zc kc => wpAny_bind (wpAny_pure (wpAny_bind (wpAny_mono kc (fun cev zd kd => ?_) fun _ _ k' => k')))) fun _ _ k' => k')))
      fun _ _ k' => k'))))))) fun _ _ k' => k')
  dsimp only
  obtain ⟨frm, kd⟩ := kd
  have hva : ∀ xv ∈ (scp.names.filter fun xv => (xv.2 == .local || xv.2 == .cell) && xv.1 != (".0" : Str)).reverse, xv.2 = .local →
      Env.kindOf { cev with scope := relabel scp ev } xv.1 = some .local := fun xv hxx len2 => lookup_relabel_local (nam xv (List.mem_filter.mp (List.mem_reverse.mp hxx)).1 len2)
  have hvb : ∀ xv ∈ (scp.names.filter fun xv => (xv.2 == .local || xv.2 == .cell) && xv.1 != (".0" : Str)).reverse.drop 1 ++ (scp.names.filter fun xv => (xv.2 == .local || xv.2 == .cell) && xv.1 != (".0" : Str)).reverse.take 1,
      xv.2 = .local → Env.kindOf { cev with scope := relabel scp ev } xv.1 = some .local := fun xv hxx len2 => by
    rcases List.mem_append.mp hxx with hwb | hwb
    · exact hva xv (List.mem_of_mem_drop hwb) len2
    · exact hva xv (List.mem_of_mem_take hwb) len2
  refine wpAny_holding (wpAny_bind (wpAny_attempt (wpAny_holding (wpAny_run (codeAny_mono kd fun rr z' hres => ?_)))))
  cases rr with
  | ok fo =>
    cases use with
    | none =>
      obtain ⟨mp, hns, hres⟩ := hres
      exact wpAny_bind (wpAny_holding (wpAny_comp_letGo (cenv := { cev with scope := relabel scp ev }) kin _ z' mp hva hns fun k' mp' _ hsb => wpAny_pure (hres k' hsb)))
    | some ux =>
      refine wpAny_bind (wpAny_rule (wpAny_bind (wpAny_holding (wpAny_mono hres (fun _ z'' hres2 => ?_) fun _ _ k' => k'))))
      obtain ⟨mp, hns, hres2⟩ := hres2
      exact wpAny_bind (wpAny_comp_letGo (cenv := { cev with scope := relabel scp ev }) kin _ z'' mp hvb hns fun k' mp' _ hsb => wpAny_pure (hres2 k' hsb))
  | error xv =>
    obtain ⟨mp, hns, hres⟩ := hres
    exact wpAny_bind (wpAny_holding (wpAny_comp_letGo (cenv := { cev with scope := relabel scp ev }) kin _ z' mp hva hns fun k' mp' _ hsb => wpAny_mono (hres k' hsb _ rfl frm) (fun _ _ fo => fo.elim) fun _ _ y => y))
end

section
open PySem.Spec PyProof.Rows
variable {X : Cx}
/-- ad call's exception in ad block -/
def xeB (X : Cx) (s : Shared) (H : Hp) (scp : Scope) (cev : Env) (fpp : List Addr) (E : XK) : Value → Shared → Prop := fun ee z' =>
  ∃ pns σ K' za, Inv (X.blk s H scp cev fpp) pns σ K' za ∧ L2N.CX X.prog X.w X.stack K' za E ee z'
abbrev blkE (X : Cx) (E : XK) (s : Shared) (H : Hp) (scp : Scope) (cev : Env) (fpp : List Addr) : Cx := { X.blk s H scp cev fpp with xe := xeB X s H scp cev fpp E }
theorem inv_xe {X : Cx} {pns : List (Addr × Obj)} {σ : L2.St} {H : Hp} {s : Shared} (ee : Value → Shared → Prop) (I : Inv X pns σ H s) : Inv { X with xe := ee } pns σ H s :=
  ⟨⟨I.ok.mod, I.ok.kind, I.ok.glob, I.ok.blt, I.ok.above, I.ok.inj, I.ok.has, I.ok.cab, I.ok.hd, I.ok.frames, I.ok.stk, I.ok.exf, I.ok.bs, I.ok.bsz, I.ok.noex, I.ok.exfs, I.ok.funs, I.ok.frf⟩, I.os, I.bare, I.base, I.loc, I.cell, I.free, I.freeC, I.pin, I.hok, I.len⟩
theorem passesB {s : Shared} {H : Hp} {scp : Scope} {cev : Env} {fpp : List Addr} {E : XK} : Passes (L2N.CX X.prog X.w) (blkE X E s H scp cev fpp) E :=
  fun pns σ K' za _ _ I cc => ⟨pns, σ, K', za, inv_xe (X := blkE X E s H scp cev fpp) (fun _ _ => False) I, cc⟩
end
section
open PySem.Spec PyProof.Rows
variable {X : Cx}
theorem note_frame {ev env' : Env} {ee : Value} (hq : ev.frame = env'.frame) : noteFrame ee ev = noteFrame ee env' := by
  unfold noteFrame PySem.frameOf
  rw [hq]
/-- ad call's exception, with the ground beneath -/
theorem fly_call {X : Cx} {pns : List (Addr × Obj)} {σ : L2.St} {H : Hp} {s z' : Shared} {E : XK} (I : Inv X pns σ H s) {ux : Value} (cc : L2N.CX X.prog X.w X.stack H s E ux z') :
    ∃ (ad : Addr) (B : Heap) (sI : Shared) (K' : Hp) (cls : Value) (dk : Option Addr), ux = .ref ad ∧ Inv X pns σ K' sI ∧ (∀ bb oo, sI.heap.get? bb = some oo → bb ∉ frs X.stack → B.get? bb = some oo) ∧
      (∀ bb oo, sI.heap.get? bb = some oo → z'.heap.get? bb = some oo) ∧ HandSPX.FlyingZ B X.stack ad (L2N.Zn cls dk) z'.heap ∧ K' ad = none ∧ z'.os = sI.os ∧ AllBare z'.gens ∧ E cls dk K' := by
  obtain ⟨ad, B, K', cls, dk, rfl, fly, hko, un, noa, os, bare2, hee⟩ := cc
  obtain ⟨G, in1, in2⟩ := restrict z'.heap fun bb => (B.get? bb).isSome || decide (bb ∈ frs X.stack)
  have stays : B.StaysIn z'.heap := fly.1
  have fromB : ∀ bb oo, B.get? bb = some oo → G.get? bb = some oo := fun bb oo ee => by
    rw [in1 bb (by simp [ee])]
    exact stays bb oo ee
  have fromF : ∀ bb, bb ∈ frs X.stack → G.get? bb = z'.heap.get? bb := fun bb hbb => in1 bb (by simp [hbb])
  have outG : ∀ bb oo, G.get? bb = some oo → z'.heap.get? bb = some oo ∧ ((B.get? bb).isSome = true ∨ bb ∈ frs X.stack) := fun bb oo ee => by
    cases q : ((B.get? bb).isSome || decide (bb ∈ frs X.stack)) with
    | false => rw [in2 bb q] at ee; cases ee
    | true =>
      rw [in1 bb q] at ee
      exact ⟨ee, by simpa [Bool.or_eq_true] using q⟩
  refine ⟨ad, B, { s with heap := G, gens := z'.gens, drawn := z'.drawn, toks := z'.toks }, K', cls, dk, rfl, ?_, fun bb oo ee hbb => ?_, fun bb oo ee => (outG bb oo ee).1, fly, noa, os, bare2, hee⟩
  · refine I.call (ch := []) ⟨fun bb oo ee nn hbb _ => fromB bb oo (un.keep bb oo ee nn hbb), fun bb oo ee nn hbb _ => ?_, fun bb oo ee nn _ => un.free bb oo ee nn, fun bb oo ee _ => ?_, un.tups, un.frzs, un.tbls⟩ (hko.kept fromB) bare2 (fun _ zz => nomatch zz)
    · obtain ⟨sl, q⟩ := un.slot bb oo ee hbb
      exact ⟨sl, by rw [fromF bb hbb]; exact q⟩
    · by_cases hbb : bb ∈ frs X.stack
      · obtain ⟨sl, q⟩ := un.slot bb oo ee hbb
        exact ⟨_, by rw [fromF bb hbb]; exact q⟩
      · obtain ⟨o', q⟩ := un.there bb oo ee hbb
        exact ⟨o', fromB bb o' q⟩
  · obtain ⟨e', hq⟩ := outG bb oo ee
    rcases hq with hq | hq
    · obtain ⟨o', q⟩ := Option.isSome_iff_exists.mp hq
      have zz := stays bb o' q
      rw [e'] at zz; cases zz
      exact q
    · exact absurd hq hbb
theorem funFrames_but {hq k' B B' : Heap} {Cc : Addr} (sbut : Heap.SameBut Cc hq k') (nB : ∀ bb, B.get? bb = none → B'.get? bb = none) : ∀ {l : List Env}, hq.FunFrames B l → Cc ∉ frs l → k'.FunFrames B' l
  | [], _, _ => trivial
  | ev :: rr, ⟨hk, ⟨L, oo, hf, hns, ho, hd⟩, hres⟩, hC => by
    have ee : frs (ev :: rr) = L :: frs rr := by show List.filterMap _ _ = _; rw [List.filterMap_cons, hf]; rfl
    rw [ee] at hC
    exact ⟨hk, ⟨L, oo, hf, nB _ hns, (sbut.2 L fun zz => hC (zz ▸ List.mem_cons_self)).trans ho, hd⟩, funFrames_but sbut nB hres fun zz => hC (List.mem_cons_of_mem _ zz)⟩
/-- out of the block -/
theorem xeB_out {pns : List (Addr × Obj)} {σ : L2.St} {zd z' : Shared} {Kd : Hp} {scp : Scope} {ce : Env} {fpp : List Addr} {E : XK} {Wm : WX} {use : Option (Value → Sem Unit)} {Rf : Value → Shared → Prop} {ac : Value} {ee : Value}
    (Vd : Inv X pns σ Kd zd) (hst : X.stack = X.env :: X.outer) (hfm : X.env.frame = some X.env.locals) (ece : ce.locals = zd.heap.objs.size) (hcf : ce.frame = X.env.frame)
    (wd : ∀ bb ∈ fpp, FpOk X pns Kd bb ∧ bb < zd.heap.objs.size) (tk : L2N.Takes X Wm) (hW : ∀ cls dk H, E cls dk H → Wm cls dk σ H) (xv : xeB X zd Kd scp ce fpp E ee z') :
    notedBy (model X.prog X.w) X.A ce (fun ee z' => postF (model X.prog X.w) X.A X.xe X.env.frame use Rf ac zd.heap.objs.size (.error ee) z') ee z' := by
  obtain ⟨pins', σ', K', za, I, cc⟩ := xv
  obtain ⟨ad, B, sI, Kg, cls, dk, rfl, Vg, nb, up, fly, noa, os, bare2, hee⟩ := fly_call (X := X.blk zd Kd scp ce fpp) I cc
  have Vh : Inv X pns σ Kg sI := Vd.call' (ch := fpp) Vg.os Vg.base Vg.hok Vg.bare fun bb hbb => ⟨(wd bb hbb).1.2.2.2.1, (wd bb hbb).1.2.1, (wd bb hbb).1.2.2.2.2.1, (wd bb hbb).1.2.2.2.2.2⟩
  have noC : Kg zd.heap.objs.size = none := by
    have zz : Kg ce.locals = none := Vg.free
    rw [ece] at zz
    exact zz
  have fC := Vd.fpOk (Nat.le_refl _) noC
  have frm : X.A.frames = some (X.env :: X.outer) := by rw [Vd.ok.frames, hst]
  have nF : zd.heap.objs.size ∉ frs X.stack := fun hbb => by
    rcases List.mem_cons.mp (Vd.stkSub _ hbb) with zz | zz
    · exact fC.2.1 zz
    · exact fC.2.2.1 zz
  have aC : ad ≠ zd.heap.objs.size := fun zz => by
    obtain ⟨mp, hns, _⟩ := Vg.loc
    have hns : sI.heap.Ns ce.locals mp := hns
    rw [ece] at hns
    obtain ⟨oo, _, _, ho, _⟩ := hns
    have z2 := nb _ oo ho nF
    rw [← zz, fly.2.1] at z2; cases z2
  show wpAny _ X.A (noteFrame (.ref ad) ce) _ _ z'
  rw [note_frame (env' := X.env) hcf]
  have fl' : HandSPX.FlyingZ B (X.env :: X.outer) ad (L2N.Zn cls dk) z'.heap := by rw [← hst]; exact fly
  refine PXN.looks_onZ L2N.Zn.steady frm hfm fl' fun hwh hh up7 => ?_
  obtain ⟨mp, hns, _⟩ := Vg.loc
  have hns : sI.heap.Ns ce.locals mp := hns
  rw [ece] at hns
  refine ⟨mp, up7.ns ((Heap.UpToSlots.of_keeps up).ns hns), fun hwi sbut cev len2 hcf8 => ?_⟩
  obtain ⟨ylb, ylc, yld, yle⟩ := hh
  have sB : (PySem.W.hideAll B [zd.heap.objs.size]).StaysIn hwi := fun bb oo ee => by
    have hbb : bb ≠ zd.heap.objs.size := fun zz => by
      rw [zz, PySem.W.hideAll_none _ (by simp)] at ee; cases ee
    rw [sbut.2 bb hbb]
    exact ylb bb oo (PySem.W.of_hideAll _ ee)
  have nB : ∀ bb, B.get? bb = none → (PySem.W.hideAll B [zd.heap.objs.size]).get? bb = none := fun bb zz => by
    cases q : (PySem.W.hideAll B [zd.heap.objs.size]).get? bb with
    | none => rfl
    | some oo => rw [PySem.W.of_hideAll _ q] at zz; cases zz
  obtain ⟨oC, esC, epC, hoC, hdC, _⟩ := (up7.ns ((Heap.UpToSlots.of_keeps up).ns hns))
  obtain ⟨oe, vs, Tu, oT, ts, ge, hz, hd, hwb, hnT, hTe, hT, hdT, hts⟩ := yle
  have nTC : Tu ≠ zd.heap.objs.size := fun zz => by rw [zz, hoC] at hT; cases hT; rw [hdC] at hdT; cases hdT
  have hh8 : HandSPX.HeldZ (PySem.W.hideAll B [zd.heap.objs.size]) (X.env :: X.outer) ad (L2N.Zn cls dk) X.env.locals hwi :=
    ⟨sB, nB _ ylc, funFrames_but sbut nB yld (by rw [← hst]; exact nF), oe, vs, Tu, oT, ts, (sbut.2 ad aC).trans ge, hz, hd, hwb, nB _ hnT, hTe, (sbut.2 Tu nTC).trans hT, hdT, hts⟩
  unfold PySem.passOn
  refine wpAny_bind (wpAny_field ((sbut.2 ad aC).trans ge) hd hwb ?_)
  rw [if_neg (show ¬ ((Value.ref Tu == Value.none) = true) from by simp)]
  rw [hcf8, hfm]
  refine wpAny_bind (HandSPX.setFlight_onZ hh8 fun hwj hh9 up9 => wpAny_throw (tk _ _ ?_))
  have Vi : Inv X pns σ Kg { sI with heap := PySem.W.hideAll sI.heap [zd.heap.objs.size] } :=
    Vh.turned (t' := sI.toks) (it := zd.heap.objs.size) (fun bb oo hbb ee => PySem.W.hideAll_get _ ee (by simpa using hbb)) fC.1 fC.2.1 fC.2.2.2.1 fC.2.2.2.2.1 fC.2.2.2.2.2
  refine ⟨ad, PySem.W.hideAll B [zd.heap.objs.size], _, pns, σ, Kg, cls, dk, rfl, Vi, fun bb oo ee hbb => ?_, fun bb oo ee hnf => ?_, .inr (.inr (by rw [hst]; exact hh9)), noa, os, bare2, hW _ _ _ hee⟩
  · have hbC : bb ≠ zd.heap.objs.size := fun zz => by rw [zz, PySem.W.hideAll_none _ (by simp)] at ee; cases ee
    exact PySem.W.hideAll_get _ (nb bb oo (PySem.W.of_hideAll _ ee) hbb) (by simpa using hbC)
  · have hbC : bb ≠ zd.heap.objs.size := fun zz => by rw [zz, PySem.W.hideAll_none _ (by simp)] at ee; cases ee
    obtain ⟨sl, q⟩ := up7 bb oo (up bb oo (PySem.W.of_hideAll _ ee)) hnf
    obtain ⟨sl2, quc⟩ := up9 bb _ ((sbut.2 bb hbC).trans q) hnf
    exact ⟨sl2, quc⟩
end
section
open PySem.Spec PyProof.Rows
variable {X : Cx}
theorem lc_coreE {W0 : WX} {E : XK} {pns : List (Addr × Obj)} {s : Shared} {σ : L2.St} {H : Hp} {R : VK} {el tgt itx : Expr} {cond : List Expr} {scp : Scope} {mine : List (Str × Nat)} {ps ps' : Pos} {wii : TI} {gq : TG} {tst : TT} {tel : TE} {Rf : Value → Shared → Prop}
    (hst : X.stack = X.env :: X.outer) (hfm : X.env.frame = some X.env.locals) (tk : L2N.Takes X W0) (hW : ∀ cls dk H, E cls dk H → W0 cls dk σ H)
    (cm : X.calm = true) (nd : X.N.Nodup) (I : Inv X pns σ H s) (pit : PI X tgt itx wii) (bok : BlkOk X.N X.env.scope scp mine)
    (gg : ∀ (s : Shared) (H : Hp) (Cc : Addr) (clo_ : List (Str × Addr)) (fpp : List Addr), PG (blkE X E s H scp (compEnvC scp clo_ Cc X.env) fpp) tgt gq) (gt : ∀ (s : Shared) (H : Hp) (Cc : Addr) (clo_ : List (Str × Addr)) (fpp : List Addr), PTs (blkE X E s H scp (compEnvC scp clo_ Cc X.env) fpp) cond tst)
    (ge : ∀ (s : Shared) (H : Hp) (Cc : Addr) (clo_ : List (Str × Addr)) (fpp : List Addr), PE (blkE X E s H scp (compEnvC scp clo_ Cc X.env) fpp) el tel) (fold : ∀ xv, foldedSetIterable itx X.env xv = pure xv)
    (hq : tLc wii gq tst tel (mine.map (·.2)) σ H R)
    (fin2 : ∀ Dd Cc z' mp K', Inv X pns σ K' z' → R (.ref Dd) K' → z'.heap.Ns Cc mp → FpOk X pns K' Cc → postF (model X.prog X.w) X.A X.xe X.env.frame none Rf (.ref Dd) Cc (.ok .next) z') :
    wpAny (model X.prog X.w) X.A (comprehension (.ListComp el [⟨tgt, itx, cond, 0⟩] scp ps) scp X.env ps' (newList []) false (eval itx X.env) none) Rf X.xe s := by
  have fre : ∀ y ∈ scp.names, y.2 = .free → ∃ cc, X.env.cells.lookup y.1 = some cc := fun y hy ee => by
    rcases bok.free y hy ee with kk | kk
    · exact I.ok.has _ (.inl kk)
    · exact I.ok.has _ (.inr kk)
  refine comprehension_F (use := none) (fr := X.env.frame) rfl fold (closure_ok fre) bok.kind (fun y hy ee => by rw [bok.uniq y hy, ee])
    (thn (pit.run pns s σ H _ I hq) fun xw zb hxx => thn hxx fun itv zc hwc => ?_)
  obtain ⟨itr, fpp, tn, Jt, Kc, ee, Vc, Tu, tuc, wc, q⟩ := hwc
  subst ee
  refine wpAny_newObj_type (newEnv_comp ?_) (by show (0 : Nat) ≤ sizeLine; decide)
  generalize eD : zc.heap.objs.size = Dd
  have nD : Kc Dd = none := Vc.hok.fresh (Nat.le_of_eq eD)
  obtain ⟨Wm, ⟨mma, wma⟩, tur⟩ := q Dd nD
  -- the new list
  generalize ez : ({ zc with heap := zc.heap.push { cls := .type "list", data := .seq ([] : List Value).toArray } } : Shared) = zd
  have Vd : Inv X pns σ (upd Kc Dd (.lst [])) zd := by
    rw [← ez]
    refine Vc.laid (t' := zc.toks) (fun bb oo ee => Heap.get?_push_of_some _ ee) (Nat.le_of_eq eD) ⟨Nat.zero_le _, [], 0, .nil, ?_⟩
    rw [← eD]
    exact (Heap.get?_push_size _ rfl)
  have hwd : zd.heap = zc.heap.push { cls := .type "list", data := .seq ([] : List Value).toArray } := by rw [← ez]
  have below : ∀ bb ∈ fpp, bb < zc.heap.objs.size := fun bb hbb => by
    obtain ⟨oo, ee, _⟩ := Tu.obj _ _ tuc bb hbb
    exact Heap.lt_size ee
  have wd : ∀ bb ∈ fpp, FpOk X pns (upd Kc Dd (.lst [])) bb ∧ bb < zd.heap.objs.size := fun bb hbb => by
    have lt_ := below bb hbb
    refine ⟨⟨?_, (wc bb hbb).2⟩, by rw [hwd, Heap.size_push]; exact Nat.lt_succ_of_lt lt_⟩
    rw [upd_ne (by rw [← eD]; exact Nat.ne_of_lt lt_)]
    exact (wc bb hbb).1
  have tud : tn 0 zd.heap := Tu.keep _ _ _ tuc fun bb _ oo ee => by rw [hwd]; exact Heap.get?_push_of_some _ ee
  have Ve := block_start Vd bok nd wd
  have Ve := inv_xe (xeB X zd (upd Kc Dd (.lst [])) scp (compEnvC scp (cellsFrom (zd.heap.objs.size + 1) scp.names (cloFrom X.env.cells scp.names [])) zd.heap.objs.size X.env) fpp E) Ve
  have pgt := gg zd (upd Kc Dd (.lst [])) zd.heap.objs.size (cellsFrom (zd.heap.objs.size + 1) scp.names (cloFrom X.env.cells scp.names [])) fpp
  have ptt := gt zd (upd Kc Dd (.lst [])) zd.heap.objs.size (cellsFrom (zd.heap.objs.size + 1) scp.names (cloFrom X.env.cells scp.names [])) fpp
  have pel := ge zd (upd Kc Dd (.lst [])) zd.heap.objs.size (cellsFrom (zd.heap.objs.size + 1) scp.names (cloFrom X.env.cells scp.names [])) fpp
  refine ⟨rfl, ?_⟩
  show codeAny _ _ (.compStart (.ListComp el [⟨tgt, itx, cond, 0⟩] scp ps) 0 (.ref itr) (.ref Dd) (compEnvC scp (cellsFrom (zd.heap.objs.size + 1) scp.names (cloFrom X.env.cells scp.names [])) zd.heap.objs.size X.env)) (postF (model X.prog X.w) X.A X.xe X.env.frame none Rf (.ref Dd) zd.heap.objs.size) { zd with heap := pushCells (zd.heap.push { cls := .type "dict", data := .dict #[] }) scp.names }
  have nof : ∀ bb ∈ fpp, (upd Kc Dd (.lst [])) bb = none := fun bb hbb => (wd bb hbb).1.1
  generalize ece : compEnvC scp (cellsFrom (zd.heap.objs.size + 1) scp.names (cloFrom X.env.cells scp.names [])) zd.heap.objs.size X.env = ce at Ve pgt ptt pel ⊢
  have lce : ce.locals = zd.heap.objs.size := by subst ece; rfl
  have fce : ce.frame = X.env.frame := by subst ece; rfl
  generalize eK : upd Kc Dd (.lst []) = Kd at Vd Ve pgt ptt pel wma nof wd
  generalize eu : ({ zd with heap := pushCells (zd.heap.push { cls := .type "dict", data := .dict #[] }) scp.names } : Shared) = ze at Ve ⊢
  have tue : tn 0 ze.heap := Tu.keep _ _ _ tud fun bb _ oo ee => by rw [← eu]; exact pushCells_keeps _ _ _ _ (Heap.get?_push_of_some _ ee)
  have stay : ∀ {σ' : L2.St} {K' : Hp} {z' : Shared}, Inv (blkE X E zd Kd scp ce fpp) [] σ' K' z' → (∀ bb ∈ fpp, K' bb = none) → ∀ bb ∈ fpp, FpOk (blkE X E zd Kd scp ce fpp) [] K' bb := fun {σ' K' z'} V' hns bb hbb =>
    ⟨hns bb hbb, (V'.ok.exf bb hbb).1, V'.ok.exfs bb hbb, .inl hbb, fun xv cc ee => (V'.ok.exf bb hbb).2 xv cc ee, fun pp hpp => absurd (show pp ∈ ([] : List (Addr × Obj)) ++ [] from hpp) (by simp)⟩
  have lp : codeAny (model X.prog X.w) X.A (.compLoop (.ListComp el [⟨tgt, itx, cond, 0⟩] scp ps) 0 (.ref itr) (.ref Dd) ce) (postF (model X.prog X.w) X.A X.xe X.env.frame none Rf (.ref Dd) zd.heap.objs.size) ze := by
    refine compLoop_any (fun nn z' => ∃ ii K', Inv (blkE X E zd Kd scp ce fpp) [] (wipe σ (mine.map (·.2))) K' z' ∧ tn ii z'.heap ∧ (∀ bb ∈ fpp, K' bb = none) ∧ Wm ii nn K') ?_ mma ⟨0, Kd, Ve, tue, nof, wma⟩
    rintro nn zf ⟨ii, Kf, Vf, tuf, nnf, wmf⟩
    rcases tur ii nn Kf wmf with ⟨stops, qend⟩ | ⟨goes, Nex, hNex, stp_⟩
    · have dn := Tu.done (blkE X E zd Kd scp ce fpp) rfl rfl rfl cm ii [] zf _ Kf (fun _ _ => False) Vf (stay Vf nnf) tuf stops
      refine thnF dn fun rr zg ⟨hres, Vg⟩ => ?_
      subst hres
      -- back in the def's context
      have Vh : Inv X pns σ Kf zg := Vd.call' (ch := fpp) Vg.os Vg.base Vg.hok Vg.bare fun bb hbb => ⟨(wd bb hbb).1.2.2.2.1, (wd bb hbb).1.2.1, (wd bb hbb).1.2.2.2.2.1, (wd bb hbb).1.2.2.2.2.2⟩
      have noC : Kf zd.heap.objs.size = none := by
        have zz : Kf ce.locals = none := Vg.free
        rw [lce] at zz
        exact zz
      obtain ⟨mp, hns, _⟩ := Vg.loc
      have hns : zg.heap.Ns ce.locals mp := hns
      rw [lce] at hns
      exact fin2 Dd zd.heap.objs.size zg mp Kf Vh qend hns (Vd.fpOk (Nat.le_refl _) noC)
    · have itm := Tu.item (blkE X E zd Kd scp ce fpp) rfl rfl rfl cm ii [] zf _ Kf (fun _ _ => False) Vf (stay Vf nnf) tuf goes
      refine thnF itm fun rr zg ⟨ux, hres, hwg⟩ => ?_
      subst hres
      refine thnF hwg fun _ zh ⟨xv, Kh, Vh, rlh, ylh, tuh, nnh⟩ => ?_
      have Vh' := Vh.pinned (stay Vh nnh) (Tu.obj _ _ tuh)
      refine wpAny_mono (pgt.run _ zh _ Kh xv ux _ Vh' rlh (stp_ xv Kh ylh)) (fun _ zi ⟨τi, Ki, Vi, hwh, qui⟩ => ?_) fun _ _ q => xeB_out Vd hst hfm lce fce wd tk hW q
      refine wpAny_mono (ptt.run _ zi τi Ki _ Vi qui) (fun bb zj ⟨Kj, Vj, quj⟩ => ?_) fun _ _ q => xeB_out Vd hst hfm lce fce wd tk hW q
      -- the turn's end
      have done_ : ∀ {z' : Shared} {K' : Hp}, Inv (blkE X E zd Kd scp ce fpp) ([] ++ pinsAt fpp zh.heap) τi K' z' → Nex K' → ∃ mp, mp < nn ∧ ∃ ii K', Inv (blkE X E zd Kd scp ce fpp) [] (wipe σ (mine.map (·.2))) K' z' ∧ tn ii z'.heap ∧ (∀ bb ∈ fpp, K' bb = none) ∧ Wm ii mp K' := fun {z' K'} V' nex => by
        obtain ⟨mp', hmm, wmm⟩ := hNex K' nex
        have pn2 : ∀ bb ∈ fpp, ∀ oo, zh.heap.get? bb = some oo → z'.heap.get? bb = some oo ∧ K' bb = none := fun bb hbb oo ee =>
          let zz := V'.pin (bb, oo) (List.mem_append_right _ (List.mem_append_right _ (mem_pinsAt hbb ee)))
          ⟨zz.1, zz.2.1⟩
        have len2 : (wipe σ (mine.map (·.2))).length = τi.length := by rw [← hwh, wipe_length]
        refine ⟨mp', hmm, ii + 1, K', (V'.unpinned (pins := [])).weak len2 (fun jx vx ee => ?_), Tu.keep _ _ _ tuh fun bb hbb oo ee => (pn2 bb hbb oo ee).1, fun bb hbb => ?_, wmm⟩
        · rw [← hwh] at ee
          exact (wipe_some ee).1
        · obtain ⟨oo, ee, _⟩ := Tu.obj _ _ tuh bb hbb
          exact (pn2 bb hbb oo ee).2
      cases bb with
      | false =>
        simp only [Bool.false_eq_true, if_false] at quj ⊢
        exact done_ Vj quj
      | true =>
        simp only [if_true] at quj ⊢
        refine wpAny_mono (pel.run _ zj τi Kj _ Vj quj) (fun zz zk ⟨yv, Kk, Vk, rlk, ac, hD10, hz10, nex⟩ => ?_) fun _ _ q => xeB_out Vd hst hfm lce fce wd tk hW q
        exact app_ok (X := blkE X E zd Kd scp ce fpp) Vk hD10 hz10 rlk fun zl Vl => done_ Vl nex
  exact codeAny_compStart_list lp (Tu.self X.A 0 _ _ _ tue lp)
theorem pe_lcE {W0 : WX} {E : XK} {el tgt itx : Expr} {cond : List Expr} {scp : Scope} {own : List (Str × Nat)} {ps : Pos} {wii : TI} {g : TG} {tt : TT} {tel : TE} (hst : X.stack = X.env :: X.outer) (hfm : X.env.frame = some X.env.locals) (tk : L2N.Takes X W0) (hW : ∀ cls dk σ H, E cls dk H → W0 cls dk σ H) (cm : X.calm = true) (nd : X.N.Nodup) (pit : PI X tgt itx wii) (bok : BlkOk X.N X.env.scope scp own)
    (gg : ∀ (s : Shared) (H : Hp) (Cc : Addr) (clo_ : List (Str × Addr)) (fpp : List Addr), PG (blkE X E s H scp (compEnvC scp clo_ Cc X.env) fpp) tgt g) (gt : ∀ (s : Shared) (H : Hp) (Cc : Addr) (clo_ : List (Str × Addr)) (fpp : List Addr), PTs (blkE X E s H scp (compEnvC scp clo_ Cc X.env) fpp) cond tt)
    (ge : ∀ (s : Shared) (H : Hp) (Cc : Addr) (clo_ : List (Str × Addr)) (fpp : List Addr), PE (blkE X E s H scp (compEnvC scp clo_ Cc X.env) fpp) el tel) (fold : ∀ xv, foldedSetIterable itx X.env xv = pure xv := by intro _; rfl) :
    PE X (.ListComp el [⟨tgt, itx, cond, 0⟩] scp ps) (tLc wii g tt tel (own.map (·.2))) := by
  refine ⟨fun pns s σ H R I hq => ?_⟩
  rw [eval_ListComp]
  refine lc_coreE hst hfm tk (fun cc dk H => hW cc dk σ H) cm nd I pit bok gg gt ge fold hq fun Dd Cc z' mp K' V' q hns fo => ⟨mp, hns, fun k'' sbut => ?_⟩
  obtain ⟨wa, wb, wc, wd, we, wf⟩ := fo
  exact ⟨.ref Dd, K', V'.turned (t' := z'.toks) (fun bb oo hbb ee => (sbut.2 bb hbb).trans ee) wa wb wd we wf, rfl, q⟩
end
section
open GxR
variable {X : Cx}
/-- x in D, D a text that the top has written -/
theorem elt_inS {scope : Scope} {x y : Str} {pb : Nat → Bool} {Z : Str} {tz : Tok} {p1 p2 p3 : Pos} (gy : X.mg y = some (.str Z tz)) (hp : ∀ c, decide (c ∈ lc Z) = pb c)
    (hk : scope.kind = .function) (hl : scope.names.lookup x = some .local) (hy : scope.names.lookup y = some .globalImplicit) (hd : (x == ("__debug__" : Str)) = false := by decide) (hd2 : (y == ("__debug__" : Str)) = false := by decide) :
    EltG X scope x (.Compare (.Name x p1) [.In] [.Name y p2] p3) pb := by
  intro cenv A' E' c t z m ok hs hg hb hn hm
  have kd : cenv.scope.kind = .function := by rw [hs]; exact hk
  refine wpAny_Compare1 (wpAny_Name (wpAny_loadName_local kd (show cenv.scope.names.lookup x = some .local by rw [hs]; exact hl) hn hm ?_) hd)
  refine Calls.Name_function_global kd (show cenv.scope.names.lookup y = some .globalImplicit by rw [hs]; exact hy) (Calls.loadGlobal_global (by rw [hg, ok.glob]; exact ok.mod.glob.keeps hb) gy ?_) hd2
  refine PyProof.Rows.in_str ?_
  refine ⟨?_, keeps_refl z⟩
  rw [← hp c]
  exact congrArg Value.bool (PySem.StrLaws.found_one Z c)
end
section
variable {X : Cx} {K : PySem.W.Frag} {a b o e : Expr} {rest : List Expr} {ta tb to te : TE} {pos : Pos}
theorem pe_orTK (hK : X.K = K) (ha : PE X a ta) (hb : PE X (.BoolOp .Or (b :: rest) pos) tb) : PE X (.BoolOp .Or (a :: b :: rest) pos) (tOrT K ta tb) := by
  subst hK
  exact pe_orT ha hb
def rJoin (K : PySem.W.Frag) : V → List V → Hp → VK → Prop := fun x xs H Q => ∃ (s : Str) (l : Addr) (ps : List Str), x = .str s ∧ xs = [.ref l] ∧ SqL K H l (ps.map V.str) ∧ (ps.map (·.length)).sum + ps.length * s.length ≤ 16777216 ∧ Q (.str (Txt.join s ps)) H
theorem pe_joinK {apos pos : Pos} (hK : X.K = K) (ho : PE X o to) (he : PE X e te) (hs : starEach [e] X.env = [(false, eval e X.env)] := by rfl) (hbase : attributeBase o "join" X.env (eval o X.env) = eval o X.env := by rfl) (hline : (apos.endLine == pos.line) = true := by rfl) :
    PE X (.Call (.Attribute o "join" apos) [e] [] pos) (tM1 (rJoin K) to te) := by
  subst hK
  refine pe_m1 F.slot_str_join F.type_str_join (fun pins s σ H x xs v us Q I rx rs h => ?_) ho he hs hbase hline
  obtain ⟨z, l, ps, e1, e2, h3, h4, h5⟩ := h
  exact mt_join pins s σ H x xs v us Q I rx rs ⟨z, l, ps, e1, e2, .inl h3, h4, h5⟩
end
theorem none_back {a p : Addr} {H H' : Hp} (x : But a H H') (ne : p ≠ a) (h : H' p = none) : H p = none := by
  cases e : H p with
  | none => rfl
  | some o => rw [x p o ne e] at h; cases h
theorem small_log {i : Int} (h0 : 0 ≤ i) (h : i < 1000000000) : i.natAbs.log2 < 1920 := by
  by_cases e : i.natAbs = 0
  · rw [e]; decide
  · have := (Nat.log2_lt e (k := 30)).mpr (by have : (2 : Nat) ^ 30 = 1073741824 := rfl; omega)
    omega
theorem e_sp : ((" " : Str)) = S [32] := by decide +kernel
theorem e_min : (("-" : Str)) = S [45] := by decide +kernel
def dashS (z : Str) : Str := if lc z = [] then S [45] else z
theorem num_lc {i : Int} (h : 0 ≤ i) : Str.ofString (toString i) = S (TL.numL i.toNat) := by
  obtain ⟨n, rfl⟩ := Int.eq_ofNat_of_zero_le h
  exact SX.num_S n
theorem num_len {i : Int} (h : 0 ≤ i) (h2 : i < 1000000000) : (Str.ofString (toString i)).length ≤ 9 := by
  rw [num_lc h, S_len]
  exact TL.numL_len (by decide) (by have : (10 : Nat) ^ 9 = 1000000000 := rfl; omega)
theorem dash_S (l : List Nat) : dashS (S l) = S (sg l) := by
  unfold dashS sg
  rw [lc_S]
  split <;> rfl
theorem dash_num {i : Int} (h : 0 ≤ i) : dashS (Str.ofString (toString i)) = Str.ofString (toString i) := by
  rw [num_lc h]
  unfold dashS
  rw [lc_S, if_neg (TL.numL_ne _)]
theorem sg_len (l : List Nat) : (sg l).length ≤ l.length + 1 := by
  unfold sg
  split
  · rename_i e; rw [e]; decide
  · omega
def lineW (m : Mt) : List Str := [Str.ofString (toString m.1), S m.2.1, S m.2.2]
theorem lineW_dash {m : Mt} (h : FitM m) : Txt.join (S [32]) ((lineW m).map dashS) = lineOf m := by
  unfold lineW lineOf
  rw [List.map_cons, List.map_cons, List.map_cons, List.map_nil, dash_num h.lo, dash_S, dash_S]
theorem line_sum {m : Mt} (h : FitM m) : ([Str.ofString (toString m.1), S (sg m.2.1), S (sg m.2.2)].map (·.length)).sum ≤ 23 := by
  have a := num_len h.lo h.hi
  have b := sg_len m.2.1
  have c := sg_len m.2.2
  have d := h.o
  have e := h.n
  simp only [List.map_cons, List.map_nil, List.sum_cons, List.sum_nil, S_len]
  omega
theorem line_len {m : Mt} (h : FitM m) : (lineOf m).length ≤ 108 := by
  have := PyProof.Rows.len_join_le (sep := S [32]) (ys := [Str.ofString (toString m.1), S (sg m.2.1), S (sg m.2.2)]) (n := 26) (by have := line_sum h; show _ + 3 ≤ 27; omega) (by decide)
  exact this
theorem or_if (l : List Nat) {A B : Prop} (h1 : l ≠ [] → A) (h2 : l = [] → B) : if (((S l).length : Int) != 0) = true then A else B := by
  rw [S_len]
  refine ite2 (fun c => h1 fun z => ?_) (fun c => h2 ?_)
  · rw [z] at c; exact absurd c (by decide)
  · cases l with
    | nil => rfl
    | cons a r => exact absurd (by simp; omega) c
theorem eqV_str (a b : List Nat) : eqV (.str (S a)) (.str (S b)) = decide (a = b) := by
  show (S a == S b) = _
  by_cases h : a = b
  · subst h
    rw [decide_eq_true rfl]
    exact beq_self_eq_true _
  · rw [decide_eq_false h]
    exact beq_eq_false_iff_ne.mpr fun z => h (S_inj z)
theorem inV_strs (w : List Nat) (ws : List (List Nat)) : inV (.str (S w)) (ws.map tx) = decide (w ∈ ws) := by
  unfold inV
  induction ws with
  | nil => simp
  | cons a r ih =>
    rw [List.map_cons, List.any_cons, ih]
    show (eqV (.str (S a)) (.str (S w)) || _) = _
    rw [eqV_str, Bool.eq_iff_iff]
    simp only [Bool.or_eq_true, decide_eq_true_eq, List.mem_cons]
    constructor
    · rintro (h | h)
      · exact .inl h.symm
      · exact .inr h
    · rintro (h | h)
      · exact .inl h.symm
      · exact .inr h
theorem flat_strs (ws : List (List Nat)) : (ws.map tx).all flatV = true := by
  rw [List.all_eq_true]
  intro x hx
  obtain ⟨w, _, rfl⟩ := List.mem_map.mp hx
  rfl
theorem Sm.updNew {H G : Hp} {D : Addr} {o : HO} (s : Sm H G) (n : H D = none) : Sm H (upd G D o) := by
  refine ⟨fun b u h k => ?_, fun P t => ?_, fun b h => ?_⟩
  · rw [upd_ne (ne_of_none h n)]; exact s.1 b u h k
  · obtain ⟨ps, e, _⟩ := id t
    obtain ⟨qs, e2, k2⟩ := s.2.1 P t
    exact ⟨qs, by rw [upd_ne (ne_of_none e n)]; exact e2, k2⟩
  · by_cases e : b = D
    · rw [e]; exact n
    · rw [upd_ne e] at h; exact s.2.2 b h
theorem lineW_map {m : Mt} (h : FitM m) : (lineW m).map dashS = [Str.ofString (toString m.1), S (sg m.2.1), S (sg m.2.2)] := by
  unfold lineW
  rw [List.map_cons, List.map_cons, List.map_cons, List.map_nil, dash_num h.lo, dash_S, dash_S]
theorem three_S {w : List Str} (h : w.length = 3) : ∃ a b c : List Nat, w = [S a, S b, S c] := by
  match w, h with
  | [a, b, c], _ => exact ⟨lc a, lc b, lc c, by rw [S_lc, S_lc, S_lc]⟩
theorem e_zero : Str.ofString "0" = S [48] := by decide +kernel
theorem eq_tx (l m : List Nat) : decide (V.str (S l) = V.str (S m)) = decide (l = m) := decide_eq_decide.mpr tx_iff
theorem at_dash (z : Str) : atI [V.str z, V.str (Str.ofString "-")] (if decide (V.str z = V.str (Str.ofString "")) = true then 1 else 0) = some (V.str (dashS z)) := by
  have e : (V.str z = V.str (Str.ofString "")) ↔ lc z = [] := by
    rw [show Str.ofString "" = S [] from e_empty]
    constructor
    · intro h
      have := V.str.inj h
      rw [this, lc_S]
    · intro h
      rw [← S_lc z, h]
  unfold dashS
  by_cases c : lc z = []
  · rw [if_pos (decide_eq_true (e.mpr c)), if_pos c]
    exact at_of (j := 1) rfl rfl
  · rw [if_neg (by rw [decide_eq_true_eq]; exact fun h => c (e.mp h)), if_neg c]
    exact at_of (j := 0) rfl rfl
theorem pick_sign {l : List Nat} {r : Int} (h : ∀ c ∈ l, c < 128) (r0 : 0 ≤ r) (r1 : r < (l.length : Int)) : ∃ c, atI l r = some c ∧ c < 128 := by
  obtain ⟨n, rfl⟩ := Int.eq_ofNat_of_zero_le r0
  have hn : n < l.length := by omega
  exact ⟨l[n], atI_nat (List.getElem?_eq_getElem hn), h _ (List.getElem_mem hn)⟩
theorem three_of {α : Type} {l : List α} (h : l.length = 3) : ∃ a b c, l = [a, b, c] := by
  match l, h with
  | [a, b, c], _ => exact ⟨a, b, c, rfl⟩
theorem wmap_tx (w : List Str) : w.map V.str = (w.map lc).map tx := by
  rw [List.map_map]
  refine List.map_congr_left fun z _ => ?_
  show V.str z = V.str (S (lc z))
  rw [S_lc]
theorem cut_take {xs : List V} {k : Int} (h : 0 ≤ k) (h2 : k.toNat ≤ xs.length) : cutV xs none (some k) = xs.take k.toNat := by
  obtain ⟨n, rfl⟩ := Int.eq_ofNat_of_zero_le h
  unfold cutV
  have e1 : HT.sIx xs.length 0 none = 0 := rfl
  rw [e1, HT.sIx_nat, Int.toNat_natCast, Nat.min_eq_left (by simpa using h2)]
  simp
theorem cut_drop {xs : List V} {k : Int} (h : 0 ≤ k) (h2 : k.toNat ≤ xs.length) : cutV xs (some k) none = xs.drop k.toNat := by
  obtain ⟨n, rfl⟩ := Int.eq_ofNat_of_zero_le h
  unfold cutV
  have e1 : HT.sIx xs.length xs.length none = xs.length := rfl
  rw [e1, HT.sIx_nat, Int.toNat_natCast, Nat.min_eq_left (by simpa using h2), List.take_of_length_le]
  rw [List.length_drop]
  exact Nat.le_refl _
theorem cut_two {a b c : V} : cutV [a, b, c] (some 1) none = [b, c] := by
  rw [cut_drop (by decide) (by show 1 ≤ 3; decide)]
  rfl
def wsum (ys : List Str) : Nat := (ys.map (·.length)).sum + ys.length
theorem wsum_app (a b : List Str) : wsum (a ++ b) = wsum a + wsum b := by
  unfold wsum
  rw [List.map_append, List.sum_append, List.length_append]
  omega
theorem wsum_one (a : Str) : wsum [a] = a.length + 1 := by simp [wsum]
theorem wsum_cut (W : List Str) (n : Nat) : wsum W = wsum (W.take n) + wsum (W.drop n) := by rw [← wsum_app, List.take_append_drop]
theorem wsum_next {W : List Str} {n : Nat} (h : n < W.length) : wsum (W.drop n) = W[n].length + 1 + wsum (W.drop (n + 1)) := by
  rw [List.drop_eq_getElem_cons h, show W[n] :: W.drop (n + 1) = [W[n]] ++ W.drop (n + 1) from rfl, wsum_app, wsum_one]
theorem join_of {ys : List Str} {n : Nat} (h : wsum ys ≤ n + 1) : (Txt.join (S [32]) ys).length ≤ 4 * (n + 1) := PyProof.Rows.len_join_le (sep := S [32]) h (by decide)
theorem join_fits {ys : List Str} {n : Nat} (h : wsum ys ≤ n) (k : n ≤ 16777216) : (ys.map (·.length)).sum + ys.length * (Str.ofString " ").length ≤ 16777216 := by
  rw [show (Str.ofString " ").length = 1 by decide +kernel, Nat.mul_one]
  exact Nat.le_trans h k
def okV : V → Bool
  | .str z => decide (z.length ≤ 20) && (lc z).all fun c => decide (c < 128)
  | _ => false
theorem pick_str {xs : List V} {r : Int} (h : xs.all okV = true) (r0 : 0 ≤ r) (r1 : r < (xs.length : Int)) : ∃ z, atI xs r = some (.str z) ∧ z.length ≤ 20 ∧ okS z := by
  obtain ⟨n, rfl⟩ := Int.eq_ofNat_of_zero_le r0
  have hn : n < xs.length := by omega
  have k := List.all_eq_true.mp h _ (List.getElem_mem hn)
  have e := atI_nat (xs := xs) (List.getElem?_eq_getElem hn)
  generalize xs[n] = v at k e
  cases v with
  | str z =>
    have k2 : (decide (z.length ≤ 20) && (lc z).all fun c => decide (c < 128)) = true := k
    rw [Bool.and_eq_true, decide_eq_true_eq] at k2
    exact ⟨z, e, k2.1, fun c hc => of_decide_eq_true (List.all_eq_true.mp k2.2 c hc)⟩
  | _ => exact absurd (show false = true from k) (by decide)
section
open PySem PySem.Spec PyProof.Rows
/-! ### where a token has been given out -/
/-- behind a run the count of tokens is no less -/
theorem tkn {α : Type} {t : Sem α} {Q : α → Shared → Prop} {M : Model} {A : Around} {E : Value → Shared → Prop} {s : Shared} {n : Nat} (hn : n ≤ s.toks) (h : wpAny M A t (fun a s' => n ≤ s'.toks → Q a s') E s) : wpAny M A t Q E s :=
  PySem.wpAny_with_toks hn (wpAny_mono h (fun _ _ q => q) fun _ _ q _ => q)
/-- a def whose call wants a token out -/
structure FnT (P : Program) (w : World) (K : PySem.W.Frag) (mg : Str → Option Value) (base : Heap) (k : Nat) (f : Addr) (fd : FuncData) (ps : List Str) (sp : Sp) : Prop where
  size : ∀ vs H Q E, sp vs H Q E → vs.length = ps.length
  goes : ∀ (A : Around) (outer : List Env) (s : Shared) (H : Hp) (args : Args) (us : List Value) (vs : List V) (Q : VK) (E : XK), 1 ≤ s.toks → Room k A → Env0 P w K mg base A outer s H → BindsTo s fd args (ps.zip us) → Vals vs us → sp vs H Q E →
    codeAny (model P w) A (.call (.ref f) args) (CR CX0 outer P w H s Q E) s
theorem FnT.mono {P : Program} {w : World} {K : PySem.W.Frag} {mg : Str → Option Value} {base : Heap} {j k : Nat} {f : Addr} {fd : FuncData} {ps : List Str} {sp : Sp} (F : FnT P w K mg base j f fd ps sp) (h : j ≤ k) : FnT P w K mg base k f fd ps sp :=
  ⟨F.size, fun A outer s H args us vs Q E one room => F.goes A outer s H args us vs Q E one (room.mono h)⟩
theorem PSsT.nox {X : Cx} {st : List Stmt} {t : TS} (h : PSsT X.nox st t) : PSsT X st t := fun pins s σ H D one I goal =>
  wpAny_mono (h pins s σ H D one (I.wish _) goal) (fun _ _ q => q.unwish) fun _ _ no => no.elim
theorem okT {P : Program} {w : World} {K : PySem.W.Frag} {mg : Str → Option Value} {base : Heap} {x qual : Str} {st : Stmt} {f : Addr} {fd : FuncData} {N ps : List Str} {k : Nat} {sp : Sp} (F : Fun K x qual st f fd) (sc : FnScope N ps (defScope st)) (size : ∀ vs H Q E, sp vs H Q E → vs.length = ps.length)
    (walk : ∀ (cd : Value) (A : Around) (outer : List Env) (s : Shared) (H : Hp) (vs : List V) (Q : VK) (E : XK), Room k (A.deeper (envOfC qual (defScope st) s.heap.objs.size f cd)) → sp vs H Q E →
      ∃ t, PSsT (cxOf CX0 P w K mg base N qual (defScope st) f cd A outer s H E).nox (defBody st) t ∧ t { nx := fun _ H' => Q .non H', rt := Q } (L2.start N vs) H) : FnT P w K mg base (k + 1) f fd ps sp := by
  obtain ⟨v1, v2, v3, v4, v5, an, cd, v6, sl, same, found, code⟩ := F.ex
  subst same
  refine ⟨size, fun A outer s H args us vs Q E one room e0 binds vals goal => ?_⟩
  have many := size _ _ _ _ goal
  have kin : K.In s.heap := e0.mod.kin.keeps fun y o q => (e0.bs y o q).1
  have nolim : s.heap.NoLimit := e0.mod.nolimit.keeps fun y o q => (e0.bs y o q).1
  have kinds : ∀ z ∈ ps.zip us, (defScope st).names.lookup z.1 = some .local ∨ ((defScope st).names.lookup z.1 = some .cell ∧ ((cellsFrom (s.heap.objs.size + 1) (defScope st).names []).lookup z.1).isSome = true) := fun ⟨n, v⟩ hz =>
    (sc.par n (List.of_mem_zip hz).1).elim .inl fun q => .inr ⟨q, PySem.W.cellsFrom_some _ _ _ (.inl q)⟩
  refine codeAny_call_function room.depth (kin _ _ found) rfl sc.co sc.gen rfl (PySem.W.codeRec_of kin code) (binds _ _ _ _ (tkn one ?_))
  refine wpAny_newFunctionEnv_cells sc.kind kinds fun env he s1 laid out => ?_
  subst he
  refine ⟨nolim.keeps laid.toInCall.keep, codeAny_func ?_⟩
  obtain ⟨t, rules, reading⟩ := walk cd A outer s H vs Q E (room.deeper _) goal
  have begin' := inv_start (CX := CX0) (E := E) (cd := cd) sc room.hd e0 many vals laid
  refine thn (PSsT.nox rules [] s1 (L2.start N vs) H _ out begin' reading) fun fl s' hs => ?_
  cases fl with
  | next =>
    obtain ⟨τ, G, J, q⟩ := hs
    exact ⟨V.non, G, J.os, J.bare, J.base, J.hok, rfl, q⟩
  | ret u =>
    obtain ⟨v, τ, G, J, rv, q⟩ := hs
    exact ⟨v, G, J.os, J.bare, J.base, J.hok, rv, q⟩
  | brk =>
    obtain ⟨_, _, _, q⟩ := hs
    exact q.elim
  | cont =>
    obtain ⟨_, _, _, q⟩ := hs
    exact q.elim
structure DfnT (P : Program) (w : World) (K : PySem.W.Frag) (mg : Str → Option Value) (base : Heap) (x : Str) (k : Nat) (ps : List Str) (sp : Sp) : Prop where
  ex : ∃ f fd, FnT P w K mg base k f fd ps sp ∧ mg x = some (.ref f) ∧ PySem.W.keepIn K (.ref f) = true ∧ Binds K fd ps []
section
variable {X : Cx} {a b c e o : Expr} {es rest : List Expr} {ta tb te to : TE} {t : TA} {pos : Pos}
theorem DfnT.mono {P : Program} {w : World} {K : PySem.W.Frag} {mg : Str → Option Value} {base : Heap} {x : Str} {j k : Nat} {ps : List Str} {sp : Sp} (D : DfnT P w K mg base x j ps sp) (h : j ≤ k) : DfnT P w K mg base x k ps sp := by
  obtain ⟨f, fd, F, r⟩ := D.ex
  exact ⟨f, fd, F.mono h, r⟩
/-- a call of such a def -/
theorem pet_do {x : Str} {j : Nat} {ps : List Str} {sp : Sp} {p : Pos} (D : DfnT X.prog X.w X.K X.mg X.base x j ps sp) (room : Room j X.A)
    (ha : PA X (e :: es) t) (hg : Gl X x := by rfl) (low : (x == ("__debug__" : Str)) = false := by decide) (plain : starEach (e :: es) X.env = (false, eval e X.env) :: starEach es X.env := by rfl) (one : (backTo pos (starEach es X.env)).any (·.1) = false := by rfl) :
    PET X (.Call (.Name x p) (e :: es) [] pos) (tCall sp [] E0 t) := by
  obtain ⟨f, fd, F, found, keep, binds⟩ := D.ex
  intro pins s σ H Q out I goal0
  refine wpAny_Call_Name_kw (ld_glob I hg found (PySem.W.callWith_K (h₀ := X.base) I.ok.mod.kin keep (tkn out ?_) plain one) low)
  refine thn (ha.run pos pins s σ H _ I goal0) fun us s1 got out1 => ?_
  obtain ⟨vs, G, J, vals, goal⟩ := got
  refine ⟨J.kIn, ?_⟩
  have goal : sp (vs ++ []) G Q E0 := goal
  rw [List.append_nil] at goal
  have bd := binds s1 us J.kIn (by rw [List.append_nil, ← vals.length]; exact F.size _ _ _ _ goal)
  rw [List.append_nil] at bd
  refine wpAny_call (codeAny_mono (F.goes X.A X.stack s1 G ⟨us, []⟩ us vs Q E0 out1 room J.env0 bd vals goal) fun res s' hq => ?_)
  cases res with
  | error er => exact hq.elim
  | ok fl =>
    cases fl with
    | ret u => exact J.after hq
    | next => exact hq.elim
    | brk => exact hq.elim
    | cont => exact hq.elim
/-- a call whose first argument wants a token -/
theorem pet_do1 {x : Str} {j : Nat} {ps : List Str} {sp : Sp} {p : Pos} (D : Dfn X.prog X.w X.K X.mg X.base x j ps sp) (room : Room j X.A)
    (ha : PAT X (e :: es) t) (hg : Gl X x := by rfl) (low : (x == ("__debug__" : Str)) = false := by decide) (plain : starEach (e :: es) X.env = (false, eval e X.env) :: starEach es X.env := by rfl) (one : (backTo pos (starEach es X.env)).any (·.1) = false := by rfl) :
    PET X (.Call (.Name x p) (e :: es) [] pos) (tCall sp [] E0 t) := by
  obtain ⟨f, fd, F, found, keep, binds⟩ := D.ex
  intro pins s σ H Q out I goal0
  refine wpAny_Call_Name_kw (ld_glob I hg found (PySem.W.callWith_K (h₀ := X.base) I.ok.mod.kin keep (thn (ha pos pins s σ H _ out I goal0) fun us s1 got => ?_) plain one) low)
  obtain ⟨vs, G, J, vals, goal⟩ := got
  exact ⟨J.kIn, run_fn F room binds .nil pass0 J vals goal⟩
theorem PAT.of (h : PA X es t) : PAT X es t := fun pos pins s σ H Q _ I goal => h.run pos pins s σ H Q I goal
/-- name = what wants a token -/
theorem pst_set {i : Nat} {x : Str} {p : Pos} (nd : X.N.Nodup) (at' : X.N[i]? = some x) (loc : Loc X.env.scope x) (he : PET X e te) (sw : swapsWith e (some (.Name x p)) pos.line X.env = pure false := by rfl) (kind : X.fn x = true ∨ X.env.scope.names.lookup x = some .local := by first | exact .inl rfl | exact .inr rfl | assumption) :
    PST X (.Assign [.Name x p] e pos) (tAsg te (gName i)) := by
  intro pins s σ H D out I goal
  refine wpAny_Assign_Name (thn (he pins s σ H _ out I goal) fun v s1 got => ?_) sw
  obtain ⟨y, G, J, rv, q⟩ := got
  exact store_ok J nd at' loc rv (fun _ J' => ⟨_, G, J', q⟩) kind
/-- a walk in whose body a token is out: begin' is the iterable, behind it one is out -/
theorem walk_tok {pre : Shared → Prop} {tg iter : Expr} {body : List Stmt} {wi : TI} {g : TG} {tb : TS} (own : PassesOwn (model X.prog X.w) X.A X.env X.xe) (calm : X.calm = true)
    (begin' : ∀ (pins : List (Addr × Obj)) (s : Shared) (σ : L2.St) (H : Hp) (R : It → Hp → Prop), pre s → Inv X pins σ H s → wi σ H R → wpAny (model X.prog X.w) X.A (eval iter X.env) (fun v s' => 1 ≤ s'.toks ∧ wpAny (model X.prog X.w) X.A (pyIter v) (PIE X pins σ tg R) X.xe s') X.xe s)
    (tgt : PG X tg g) (blk : PSsT X body tb) (flat : ∀ z, foldedSetIterable iter X.env z = pure z) :
    ∀ (pins : List (Addr × Obj)) (s : Shared) (σ : L2.St) (H : Hp) (D : Ends), pre s → Inv X pins σ H s → tFor wi g tb D σ H → wpAny (model X.prog X.w) X.A (exec (.For tg iter body [] pos) X.env) (SP X pins D) X.xe s := by
  intro pins s σ H D ok I goal
  refine wpAny_For (thn (begin' pins s σ H _ ok I goal) fun v sa ⟨ka, run⟩ => tkn ka (thn run fun itv sb got kb => ?_)) flat
  obtain ⟨ad, recs, stands, J, G, eq, Jb, L, stb, okb, Wv, ⟨m, beg⟩, turn⟩ := got
  cases eq
  have fit : ∀ {G' : Hp}, (∀ r ∈ recs, G' r = none) → ∀ r ∈ recs, FpOk X pins G' r := fun none' r hr => ⟨none' r hr, (okb r hr).2⟩
  have free0 : ∀ r ∈ recs, G r = none := fun r hr => (okb r hr).1
  refine codeAny_forLoop_any (fun n s' => 1 ≤ s'.toks ∧ ∃ i τ G', Inv X pins τ G' s' ∧ stands i s'.heap ∧ (∀ r ∈ recs, G' r = none) ∧ Wv i n τ G') ?_ m ⟨kb, 0, σ, G, Jb, stb, free0, beg⟩
  rintro n sc ⟨kc, i, τ, Gc, Jc, stc, frc, wc⟩
  rcases turn i n τ Gc wc with ⟨over, qn⟩ | ⟨more, Nx, less, step⟩
  · refine wpAny_passesOwn own (thn (L.done X rfl rfl rfl calm i pins sc τ Gc X.xe Jc (fit frc) stc over) fun res sd ⟨hres, Jd⟩ => ?_)
    cases hres
    exact wpAny_execs_nil ⟨τ, Gc, Jd, qn⟩
  refine tkn kc (wpAny_passesOwn own (thn (L.item X rfl rfl rfl calm i pins sc τ Gc X.xe Jc (fit frc) stc more) fun res sd ⟨u, hres, item⟩ kd => ?_))
  cases hres
  refine tkn kd (wpAny_passesOwn own (thn item fun _ se ⟨y, Ge, Je, ry, yl, ste, fre⟩ ke => ?_))
  have held := Je.pinned (fit fre) (L.obj _ _ ste)
  refine tkn ke (wpAny_passesOwn own (thn (tgt.run _ se τ Ge y u _ held ry (step y Ge yl)) fun _ sf ⟨τf, Gf, Jf, qf⟩ kf => ?_))
  refine tkn kf (wpAny_passesOwn own (thn (blk _ sf τf Gf _ kf Jf qf) fun fl sg qg kg => ?_))
  have next' : ∀ {τg : L2.St} {Gg : Hp}, Inv X (pins ++ pinsAt recs se.heap) τg Gg sg → Nx τg Gg → ∃ m', m' < n ∧ 1 ≤ sg.toks ∧ ∃ i' τ' G', Inv X pins τ' G' sg ∧ stands i' sg.heap ∧ (∀ r ∈ recs, G' r = none) ∧ Wv i' m' τ' G' := by
    intro τg Gg Jg ng
    obtain ⟨m', lt, wg⟩ := less τg Gg ng
    have pinned : ∀ r ∈ recs, ∀ o, se.heap.get? r = some o → (r, o) ∈ X.pn ++ (pins ++ pinsAt recs se.heap) := fun r hr o e => List.mem_append_right _ (List.mem_append_right _ (mem_pinsAt hr e))
    refine ⟨m', lt, kg, i + 1, τg, Gg, Jg.unpinned, L.keep _ _ _ ste fun r hr o e => (Jg.pin (r, o) (pinned r hr o e)).1, fun r hr => ?_, wg⟩
    obtain ⟨o, e, _⟩ := L.obj _ _ ste r hr
    exact (Jg.pin (r, o) (pinned r hr o e)).2.1
  cases fl with
  | ret v =>
    obtain ⟨y7, τ7, G7, J7, rv, q7⟩ := qg
    exact ⟨y7, τ7, G7, J7.unpinned, rv, q7⟩
  | brk =>
    obtain ⟨τ7, G7, J7, q7⟩ := qg
    exact ⟨τ7, G7, J7.unpinned, q7⟩
  | next =>
    obtain ⟨τ7, G7, J7, n7⟩ := qg
    exact next' J7 n7
  | cont =>
    obtain ⟨τ7, G7, J7, n7⟩ := qg
    exact next' J7 n7
theorem pst_forT {tg iter : Expr} {body : List Stmt} {wi : TI} {g : TG} {tb : TS} (own : PassesOwn (model X.prog X.w) X.A X.env X.xe) (calm : X.calm = true) (it : PI X tg iter wi) (tgt : PG X tg g) (blk : PSsT X body tb)
    (flat : ∀ z, foldedSetIterable iter X.env z = pure z := by intro _; rfl) : PST X (.For tg iter body [] pos) (tFor wi g tb) :=
  walk_tok (pre := fun s => 1 ≤ s.toks) own calm (fun pins s σ H R one I goal => tkn one (thn (it.run pins s σ H R I goal) fun _ _ q k => ⟨k, q⟩)) tgt blk flat
/-- an iterable behind which a token is out -/
def PIB (X : Cx) (tg iter : Expr) (wi : TI) : Prop := ∀ (pins : List (Addr × Obj)) (s : Shared) (σ : L2.St) (H : Hp) (R : It → Hp → Prop), Inv X pins σ H s → wi σ H R →
    wpAny (model X.prog X.w) X.A (eval iter X.env) (fun v s1 => 1 ≤ s1.toks ∧ wpAny (model X.prog X.w) X.A (pyIter v) (PIE X pins σ tg R) X.xe s1) X.xe s
theorem ps_forB {tg iter : Expr} {body : List Stmt} {wi : TI} {g : TG} {tb : TS} (own : PassesOwn (model X.prog X.w) X.A X.env X.xe) (calm : X.calm = true) (it : PIB X tg iter wi) (tgt : PG X tg g) (blk : PSsT X body tb)
    (flat : ∀ z, foldedSetIterable iter X.env z = pure z := by intro _; rfl) : PS X (.For tg iter body [] pos) (tFor wi g tb) :=
  ⟨fun pins s σ H D I goal => walk_tok (pre := fun _ => True) own calm (fun pins s σ H R _ I goal => it pins s σ H R I goal) tgt blk flat pins s σ H D trivial I goal⟩
def iRngC (n : Int) : TI := iRng1 (tCons (tC (.int n)) tNil)
/-- range of a written number -/
theorem piB_range {tg : Expr} {n : Int} {j : Nat} {cp p : Pos} (hg : Gl X "range") (free : X.mg "range" = none) (plain : starEach [.Constant (.int n) j cp] X.env = [(false, eval (.Constant (.int n) j cp) X.env)] := by rfl) : PIB X tg (.Call (.Name "range" p) [.Constant (.int n) j cp] [] pos) (iRngC n) := by
  intro pins s σ H R I goal
  refine Call_ (ld_blt I hg free boot_range (PyProof.Rows.callWith_type1 ?_ plain rfl))
  show wpAny _ _ (spliced (backTo pos (starEach [.Constant (.int n) j cp] X.env))) _ _ s
  rw [plain]
  show wpAny _ _ (spliced ((false, eval (.Constant (.int n) j cp) X.env) :: [])) _ _ s
  refine Calls.spliced_cons (wpAny_Constant_int (Calls.spliced_nil ?_))
  have out : 1 ≤ ({ s with toks := s.toks + 1 } : Shared).toks := Nat.le_add_left 1 s.toks
  obtain ⟨m, e, lo, hi, q⟩ := goal
  cases e
  exact tkn out (thn (call_range_1 (range_it (I.tok _) (by omega) (by omega) lo hi (by simpa using q))) fun v s2 q2 k => ⟨k, q2⟩)
/-! tests -/
/-- a test that wants a token -/
def PTT (X : Cx) (e : Expr) (t : TT) : Prop := ∀ (pins : List (Addr × Obj)) (s : Shared) (σ : L2.St) (H : Hp) (Q : Bool → Hp → Prop), 1 ≤ s.toks → Inv X pins σ H s → t σ H Q → wpAny (model X.prog X.w) X.A (isTrue e X.env (eval e X.env)) (TP X pins σ Q) X.xe s
theorem ptt_val {t : TE} (h : PET X e t) (truth : ∀ whole, isTrue e X.env whole = (do let v ← whole; standAt e.pos; holding [v] (truthy v)) := by intro _; rfl) : PTT X e (tB t) := by
  intro pins s σ H Q out I goal
  refine isTrue_plain (thn (h pins s σ H _ out I goal) fun v s1 got => ?_) (truth _)
  obtain ⟨x, G, J, rv, d, e, q⟩ := got
  subst e
  cases rv
  exact wpAny_truthy_bool ⟨G, J, q⟩
theorem ptt_not {tA : TT} (ha : PTT X a tA) : PTT X (.UnaryOp .Not a pos) (tNot tA) := fun pins s σ H Q out I goal =>
  isTrue_not (ha pins s σ H (fun d G => Q (!d) G) out I goal)
theorem ptt_or {tA tO : TT} (ha : PTT X a tA) (hb : PW X (.BoolOp .Or (b :: rest) pos) tO) : PTT X (.BoolOp .Or (a :: b :: rest) pos) (tOr tA tO) := by
  intro pins s σ H Q out I goal
  refine isTrue_or (thn (ha pins s σ H _ out I goal) fun d s1 got => ?_)
  obtain ⟨G, J, q⟩ := got
  cases d
  · exact hb.run _ pins s1 σ G Q J q
  · exact ⟨G, J, q⟩
theorem pst_ifT {c : Expr} {xs ys : List Stmt} {tc : TT} {t u : TS} (hc : PTT X c tc) (hx : PSs X xs t) (hy : PSs X ys u) : PST X (.If c xs ys pos) (tIfS tc t u) := by
  intro pins s σ H D out I goal
  refine wpAny_If (thn (hc pins s σ H _ out I goal) fun d s1 got => ?_)
  obtain ⟨G, J, q⟩ := got
  cases d
  · exact hy.run pins s1 σ G D J q
  · exact hx.run pins s1 σ G D J q
theorem pet_cmpR {op : CmpOp} {r : R2} (ho : OpR X (compareOp op) r) (ha : PET X a ta) (hb : PE X b tb) (mark : behindInMarks op b = false) : PET X (.Compare a [op] [b] pos) (tOp r ta tb) := by
  intro pins s σ H Q out I goal
  refine wpAny_Compare1 (thn (ha pins s σ H _ out I goal) fun v s1 got => ?_) mark
  obtain ⟨x, G, J, rx, q⟩ := got
  refine thn (hb.run pins s1 σ G _ J q) fun u s2 got2 => ?_
  obtain ⟨y, G2, J2, ry, q2⟩ := got2
  exact ho pins s2 σ G2 x y v u Q J2 rx ry q2
theorem pet_and (ha : PET X a ta) (hb : PE X (.BoolOp .And (b :: rest) pos) tb) : PET X (.BoolOp .And (a :: b :: rest) pos) (tAndV ta tb) := by
  intro pins s σ H Q out I goal
  refine BoolOp_and (thn (ha pins s σ H _ out I goal) fun v s1 got => ?_)
  obtain ⟨x, G, J, rx, d, e, q⟩ := got
  subst e
  cases rx
  refine wpAny_truthy_bool ?_
  cases d
  · exact ⟨V.bl false, G, J, rfl, q⟩
  · exact hb.run pins s1 σ G Q J q
/-! where a token is given out -/
/-- behind it one token is out -/
def PSB (X : Cx) (st : Stmt) (t : TS) : Prop := ∀ (pins : List (Addr × Obj)) (s : Shared) (σ : L2.St) (H : Hp) (D : Ends), Inv X pins σ H s → t D σ H → wpAny (model X.prog X.w) X.A (exec st X.env) (fun f s' => 1 ≤ s'.toks ∧ SP X pins D f s') X.xe s
theorem pssB {st : Stmt} {more : List Stmt} {t u : TS} (h1 : PSB X st t) (h2 : PSsT X more u) : PSs X (st :: more) (tSeq t u) := by
  constructor
  intro pins s σ H D I goal
  refine wpAny_execs_cons (thn (h1 pins s σ H { D with nx := u D } I goal) fun fl s1 got => ?_)
  obtain ⟨out, q⟩ := got
  cases fl
  case next =>
    obtain ⟨τ, G, J, q⟩ := q
    exact h2 pins s1 τ G D out J q
  all_goals exact q
/-- if a == text: .. -/
theorem psB_if {j : Nat} {z : Str} {cp p2 : Pos} {xs ys : List Stmt} {r : R2} {t u : TS} (ho : OpR X (compareOp .Eq) r) (ha : PE X a ta) (hx : PSs X xs t) (hy : PSs X ys u) (mark : behindInMarks .Eq (.Constant (.str z) j cp) = false) :
    PSB X (.If (.Compare a [.Eq] [.Constant (.str z) j cp] p2) xs ys pos) (tIfS (tTest (tOp r ta (tC (.str z)))) t u) := by
  intro pins s σ H D I goal
  refine wpAny_If (wpAny_isTrue_Compare1 (thn (ha.run pins s σ H _ I goal) fun v s1 got => Calls.Constant_str ?_) mark)
  obtain ⟨x, G, J, rx, q⟩ := got
  have out : 1 ≤ ({ s1 with toks := s1.toks + 1 } : Shared).toks := Nat.le_add_left 1 s1.toks
  refine tkn out (thn (ho pins _ σ G x (.str z) v (.str z s1.toks) _ (J.tok _) rx ⟨_, rfl⟩ q) fun w2 s3 got k3 => ?_)
  obtain ⟨zv, G3, J3, rz, d, e, q3⟩ := got
  subst e
  cases rz
  refine wpAny_truthy_bool ?_
  have both : ∀ {zs : List Stmt} {tz : TS}, PSs X zs tz → tz D σ G3 → wpAny (model X.prog X.w) X.A (execs zs X.env) (fun f s' => 1 ≤ s'.toks ∧ SP X pins D f s') X.xe s3 := fun hz qz =>
    tkn k3 (thn (hz.run pins s3 σ G3 D J3 qz) fun _ _ q k => ⟨k, q⟩)
  cases d
  · exact both hy q3
  · exact both hx q3
/-! e.replace(l + r, l2 + r2) -/
/-- l + r of two texts that are not empty -/
def tAdd2 (tl tr : TE) : L2.St → Hp → (Str → Str → Hp → Prop) → Prop := fun σ H Q => tl σ H fun a H1 => tr σ H1 fun b H2 => ∃ i j : Str, a = .str i ∧ b = .str j ∧ 0 < i.length ∧ 0 < j.length ∧ i.length + j.length ≤ sizeLine ∧ Q i j H2
theorem add_tok {l r : Expr} {tl tr : TE} (hl : PE X l tl) (hr : PE X r tr) {pins : List (Addr × Obj)} {s : Shared} {σ : L2.St} {H : Hp} {n : Nat} {Q : Str → Str → Hp → Prop} {R : Value → Shared → Prop} (hn : n ≤ s.toks) (I : Inv X pins σ H s) (goal : tAdd2 tl tr σ H Q)
    (fin : ∀ i j H' (s' : Shared), n ≤ s'.toks → Inv X pins σ H' { s' with toks := s'.toks + 1 } → Q i j H' → R (.str (i ++ j) s'.toks) { s' with toks := s'.toks + 1 }) : wpAny (model X.prog X.w) X.A (eval (.BinOp l .Add r pos) X.env) R X.xe s := by
  refine wpAny_BinOp (tkn hn (thn (hl.run pins s σ H _ I goal) fun v s1 got k1 => ?_))
  obtain ⟨x, G, J, rx, q⟩ := got
  refine tkn k1 (thn (hr.run pins s1 σ G _ J q) fun u s2 got2 k2 => ?_)
  obtain ⟨y, G2, J2, ry, i, j, ex, ey, i0, j0, hz, q2⟩ := got2
  subst ex ey
  obtain ⟨t1, rfl⟩ := rx
  obtain ⟨t2, rfl⟩ := ry
  have no : ∀ z : Str, 0 < z.length → (z.length == 0) = false := fun z h => beq_eq_false_iff_ne.mpr (Nat.pos_iff_ne_zero.mp h)
  refine P.add_str ?_
  rw [no i i0, no j j0, if_neg Bool.false_ne_true, if_neg Bool.false_ne_true]
  exact ⟨Nat.le_trans (Nat.le_of_eq (PySem.Str.length_append i j)) hz, fin i j G2 s2 k2 (J2.tok _) q2⟩
def tRepl2 (to tl tr tl2 tr2 : TE) : TE := fun σ H Q => to σ H fun v H1 => ∃ x, v = .str x ∧ tAdd2 tl tr σ H1 fun i j H2 => tAdd2 tl2 tr2 σ H2 fun i2 j2 H3 => (i ++ j == i2 ++ j2) = false ∧ x.length + (x.length + 1) * (i2 ++ j2).length ≤ 16777216 ∧ Q (.str (Txt.replace x (i ++ j) (i2 ++ j2))) H3
theorem pet_repl2 {l r l2 r2 : Expr} {tl tr tl2 tr2 : TE} {p1 p2 apos : Pos} (ho : PE X o to) (hl : PE X l tl) (hr : PE X r tr) (hl2 : PE X l2 tl2) (hr2 : PE X r2 tr2)
    (plain : starEach [.BinOp l .Add r p1, .BinOp l2 .Add r2 p2] X.env = [(false, eval (.BinOp l .Add r p1) X.env), (false, eval (.BinOp l2 .Add r2 p2) X.env)] := by rfl)
    (whole : attributeBase o "replace" X.env (eval o X.env) = eval o X.env := by rfl) (row : (apos.endLine == pos.line) = true := by rfl) :
    PET X (.Call (.Attribute o "replace" apos) [.BinOp l .Add r p1, .BinOp l2 .Add r2 p2] [] pos) (tRepl2 to tl tr tl2 tr2) := by
  intro pins s σ H Q out I goal
  refine PySem.Call_method2 whole plain row (tkn out (thn (ho.run pins s σ H _ I goal) fun v s1 got k1 => ?_))
  obtain ⟨_, G, J, rv, x, ex, q⟩ := got
  subst ex
  obtain ⟨t0, rfl⟩ := rv
  refine ⟨"str", _, PySem.F.plainAttrs_str, PySem.F.slot_str_replace, PySem.F.type_str_replace, typeIs_str _ _ _, nofun, Calls.callWith_builtin rfl (Calls.evalArgs_plain (Calls.spliced_cons ?_))⟩
  refine add_tok hl hr k1 J q fun i j G2 s2 k2 J2 q2 => Calls.spliced_cons ?_
  refine add_tok (n := s2.toks + 1) hl2 hr2 (Nat.le_refl _) J2 q2 fun i2 j2 G3 s3 k3 J3 q3 => Calls.spliced_nil ?_
  have u0 : s2.toks ≠ 0 := by omega
  have v0 : s3.toks ≠ 0 := by omega
  have uv : s2.toks ≠ s3.toks := by omega
  exact PySem.SC.replace u0 v0 uv q3.1 q3.2.1 fun t' k => ⟨.str (Txt.replace x (i ++ j) (i2 ++ j2)), G3, J3.tok k, ⟨t', rfl⟩, q3.2.2⟩
end
end
section
open PySem PySem.Spec PyProof.Rows
/-! ### texts of dances: the mathematics -/
/-- a blank between neighbours of P -/
def gl (P : Nat → Nat → Bool) : List Nat → List Nat
  | [] => []
  | [x] => [x]
  | x :: y :: r => if P x y = true then x :: 32 :: gl P (y :: r) else x :: gl P (y :: r)
theorem gl_head (P : Nat → Nat → Bool) (x : Nat) (r : List Nat) : ∃ t, gl P (x :: r) = x :: t := by
  cases r with
  | nil => exact ⟨_, rfl⟩
  | cons y r =>
    unfold gl
    split
    · exact ⟨_, rfl⟩
    · exact ⟨_, rfl⟩
theorem take2 (x y : Nat) (r : List Nat) : (x :: y :: r).take 2 = [x, y] := rfl
theorem rep_gl {a b : Nat} {P : Nat → Nat → Bool} (ab : a ≠ b) (a32 : a ≠ 32) (b32 : b ≠ 32) (hP : P a b = false) :
    ∀ l : List Nat, StrLaws.replL [a, b] [a, 32, b] (gl P l) = gl (fun x y => P x y || (decide (x = a) && decide (y = b))) l
  | [] => StrLaws.replL_nil
  | [x] => by
    show StrLaws.replL [a, b] [a, 32, b] [x] = [x]
    rw [StrLaws.replL_miss (by show ¬ [x] = [a, b]; intro h; cases h), StrLaws.replL_nil]
  | x :: y :: r => by
    have ih := rep_gl ab a32 b32 hP (y :: r)
    obtain ⟨t, ht⟩ := gl_head P y r
    show StrLaws.replL [a, b] [a, 32, b] (if P x y = true then x :: 32 :: gl P (y :: r) else x :: gl P (y :: r)) = if (P x y || (decide (x = a) && decide (y = b))) = true then x :: 32 :: gl (fun x y => P x y || (decide (x = a) && decide (y = b))) (y :: r) else x :: gl (fun x y => P x y || (decide (x = a) && decide (y = b))) (y :: r)
    rw [← ih, ht]
    cases hp : P x y
    · rw [if_neg Bool.false_ne_true, Bool.false_or]
      by_cases hh : x = a ∧ y = b
      · obtain ⟨rfl, rfl⟩ := hh
        rw [decide_eq_true rfl, decide_eq_true rfl, if_pos (by rfl : (true && true) = true), StrLaws.replL_hit (by simp) rfl]
        show x :: 32 :: y :: StrLaws.replL [x, y] [x, 32, y] t = _
        rw [StrLaws.replL_miss (c := y) (r := t) (by
          intro h
          have : (y :: t).take 2 = [x, y] := h
          cases t with
          | nil => cases this
          | cons z t => exact ab (List.cons.inj this).1.symm)]
      · have e : (decide (x = a) && decide (y = b)) = false := by
          rw [Bool.and_eq_false_iff, decide_eq_false_iff_not, decide_eq_false_iff_not]
          by_cases hx : x = a
          · exact .inr fun hy => hh ⟨hx, hy⟩
          · exact .inl hx
        rw [e, if_neg Bool.false_ne_true, StrLaws.replL_miss (c := x) (by
          intro h
          have : [x, y] = [a, b] := h
          exact hh ⟨(List.cons.inj this).1, (List.cons.inj (List.cons.inj this).2).1⟩)]
    · rw [if_pos rfl, Bool.true_or, if_pos rfl, StrLaws.replL_miss (c := x) (by
        intro h
        have : [x, 32] = [a, b] := h
        exact b32 (List.cons.inj (List.cons.inj this).2).1.symm), StrLaws.replL_miss (c := 32) (by
        intro h
        have : [32, y] = [a, b] := h
        exact a32 (List.cons.inj this).1.symm)]
theorem gl_congr {P P' : Nat → Nat → Bool} : ∀ l : List Nat, (∀ x ∈ l, ∀ y ∈ l, P x y = P' x y) → gl P l = gl P' l
  | [], _ => rfl
  | [x], _ => rfl
  | x :: y :: r, h => by
    unfold gl
    rw [h x (by simp) y (by simp), gl_congr (y :: r) fun u hu v hv => h u (List.mem_cons_of_mem _ hu) v (List.mem_cons_of_mem _ hv)]
theorem gl_none : ∀ l : List Nat, gl (fun _ _ => false) l = l
  | [] => rfl
  | [x] => rfl
  | x :: y :: r => by
    unfold gl
    rw [if_neg Bool.false_ne_true, gl_none (y :: r)]
/-! the nine turns of the two walks -/
def prs : List (Nat × Nat) := [(84, 84), (84, 85), (84, 82), (85, 84), (85, 85), (85, 82), (82, 84), (82, 85), (82, 82)]
def rp (l : List Nat) (p : Nat × Nat) : List Nat := if p.1 = p.2 then l else StrLaws.replL [p.1, p.2] [p.1, 32, p.2] l
/-- the text behind n turns -/
def sp9 (l : List Nat) (n : Nat) : List Nat := (prs.take n).foldl rp l
theorem sp9_succ {l : List Nat} {n : Nat} {p : Nat × Nat} (h : prs[n]? = some p) : sp9 l (n + 1) = rp (sp9 l n) p := by
  unfold sp9
  rw [List.take_add_one, h, List.foldl_append]
  rfl
def ltr (i : Nat) : Nat := if i = 0 then 84 else if i = 1 then 85 else 82
def lsV : List V := [V.str (S [84]), V.str (S [85]), V.str (S [82])]
theorem lsV_at {i : Nat} {x : V} (h : lsV[i]? = some x) : i < 3 ∧ x = V.str (S [ltr i]) := by
  match i, h with
  | 0, h => cases h; exact ⟨by decide, rfl⟩
  | 1, h => cases h; exact ⟨by decide, rfl⟩
  | 2, h => cases h; exact ⟨by decide, rfl⟩
theorem prs_at {i j : Nat} (hi : i < 3) (hj : j < 3) : prs[3 * i + j]? = some (ltr i, ltr j) := by
  match i, hi, j, hj with
  | 0, _, 0, _ => rfl
  | 0, _, 1, _ => rfl
  | 0, _, 2, _ => rfl
  | 1, _, 0, _ => rfl
  | 1, _, 1, _ => rfl
  | 1, _, 2, _ => rfl
  | 2, _, 0, _ => rfl
  | 2, _, 1, _ => rfl
  | 2, _, 2, _ => rfl
theorem ltr_one (i : Nat) : ltr i = 84 ∨ ltr i = 85 ∨ ltr i = 82 := by
  unfold ltr
  split
  · exact .inl rfl
  · split
    · exact .inr (.inl rfl)
    · exact .inr (.inr rfl)
def ne2 (x y : Nat) : Bool := !decide (x = y)
theorem sp9_end {l : List Nat} (h : Lets l) : sp9 l 9 = gl ne2 l := by
  show StrLaws.replL [82, 85] [82, 32, 85] (StrLaws.replL [82, 84] [82, 32, 84] (StrLaws.replL [85, 82] [85, 32, 82] (StrLaws.replL [85, 84] [85, 32, 84] (StrLaws.replL [84, 82] [84, 32, 82] (StrLaws.replL [84, 85] [84, 32, 85] l))))) = _
  conv => lhs; rw [← gl_none l]
  rw [rep_gl (by decide) (by decide) (by decide) rfl, rep_gl (by decide) (by decide) (by decide) rfl, rep_gl (by decide) (by decide) (by decide) rfl, rep_gl (by decide) (by decide) (by decide) rfl, rep_gl (by decide) (by decide) (by decide) rfl, rep_gl (by decide) (by decide) (by decide) rfl]
  refine gl_congr l fun x hx y hy => ?_
  rcases h x hx with rfl | rfl | rfl <;> rcases h y hy with rfl | rfl | rfl <;> rfl
theorem gl_len (P : Nat → Nat → Bool) : ∀ l : List Nat, (gl P l).length ≤ 2 * l.length
  | [] => Nat.le_refl _
  | [x] => by show 1 ≤ 2; decide
  | x :: y :: r => by
    have ih := gl_len P (y :: r)
    unfold gl
    split
    · rw [List.length_cons, List.length_cons, List.length_cons]; omega
    · rw [List.length_cons, List.length_cons]; omega
theorem sp9_gl (l : List Nat) : ∀ n, n ≤ 9 → ∃ P, sp9 l n = gl P l ∧ ∀ m, n ≤ m → ∀ p, prs[m]? = some p → P p.1 p.2 = false
  | 0, _ => ⟨fun _ _ => false, (gl_none l).symm, fun _ _ _ _ => rfl⟩
  | n + 1, h => by
    obtain ⟨P, e, k⟩ := sp9_gl l n (by omega)
    have hn : n < prs.length := h
    obtain ⟨p, hp⟩ : ∃ p, prs[n]? = some p := ⟨_, List.getElem?_eq_getElem hn⟩
    have nd : prs.Nodup := by decide
    have off : ∀ p ∈ prs, p.1 ≠ 32 ∧ p.2 ≠ 32 := by decide
    rw [sp9_succ hp, e]
    unfold rp
    by_cases c : p.1 = p.2
    · rw [if_pos c]
      exact ⟨P, rfl, fun m hm q hq => k m (by omega) q hq⟩
    · rw [if_neg c, rep_gl c (off p (List.mem_of_getElem? hp)).1 (off p (List.mem_of_getElem? hp)).2 (k n (Nat.le_refl _) p hp)]
      refine ⟨_, rfl, fun m hm q hq => ?_⟩
      show (P q.1 q.2 || (decide (q.1 = p.1) && decide (q.2 = p.2))) = false
      rw [k m (by omega) q hq, Bool.false_or, Bool.and_eq_false_iff, decide_eq_false_iff_not, decide_eq_false_iff_not]
      have ne : q ≠ p := fun z => by
        have := (List.getElem?_inj (List.getElem?_eq_some_iff.mp hq).1 nd).mp (hq.trans ((congrArg some z).trans hp.symm))
        omega
      by_cases c1 : q.1 = p.1
      · exact .inr fun c2 => ne (Prod.ext c1 c2)
      · exact .inl c1
theorem sp9_len {l : List Nat} {n : Nat} (h : n ≤ 9) : (sp9 l n).length ≤ 2 * l.length := by
  obtain ⟨P, e, _⟩ := sp9_gl l n h
  rw [e]
  exact gl_len P l
theorem rep_S (l : List Nat) (a b : Nat) : Txt.replace (S l) (S [a, b]) (S [a, 32, b]) = S (StrLaws.replL [a, b] [a, 32, b] l) := by
  refine TL.ext_tl ?_
  have e := StrLaws.replace_list (x := S l) (y := S [a, b]) (z := S [a, 32, b]) (by rw [S_len]; show 1 ≤ 2; decide)
  rw [S_list, S_list, S_list] at e
  exact e.trans (S_list _).symm
/-! runs -/
abbrev Run := Nat × Nat
def fl (rr : List Run) : List Nat := (rr.map fun p => List.replicate p.2 p.1).flatten
def word (p : Run) : List Nat := List.replicate p.2 p.1
/-- neighbours differ -/
def Alt2 : List Run → Prop
  | [] => True
  | [_] => True
  | p :: q :: r => p.1 ≠ q.1 ∧ Alt2 (q :: r)
structure Runs (rr : List Run) : Prop where
  pos : ∀ p ∈ rr, 1 ≤ p.2
  alt : Alt2 rr
  let' : ∀ p ∈ rr, p.1 = 84 ∨ p.1 = 85 ∨ p.1 = 82
theorem fl_cons (p : Run) (r : List Run) : fl (p :: r) = List.replicate p.2 p.1 ++ fl r := by
  unfold fl
  rw [List.map_cons, List.flatten_cons]
theorem gl_run {c : Nat} {rest : List Nat} (hr : ∀ y t, rest = y :: t → c ≠ y) : ∀ n : Nat, gl ne2 (List.replicate (n + 1) c ++ rest) = List.replicate (n + 1) c ++ (if rest = [] then [] else 32 :: gl ne2 rest)
  | 0 => by
    cases rest with
    | nil => rfl
    | cons y t =>
      show (if ne2 c y = true then c :: 32 :: gl ne2 (y :: t) else c :: gl ne2 (y :: t)) = c :: 32 :: gl ne2 (y :: t)
      have : ne2 c y = true := by unfold ne2; rw [decide_eq_false (hr y t rfl)]; rfl
      rw [if_pos this]
  | n + 1 => by
    have ih := gl_run hr n
    show (if ne2 c c = true then c :: 32 :: gl ne2 (List.replicate (n + 1) c ++ rest) else c :: gl ne2 (List.replicate (n + 1) c ++ rest)) = _
    have : ne2 c c = false := by unfold ne2; rw [decide_eq_true rfl]; rfl
    rw [this, if_neg Bool.false_ne_true, ih]
    rfl
theorem gl_runs : ∀ rr : List Run, (∀ p ∈ rr, 1 ≤ p.2) → Alt2 rr → gl ne2 (fl rr) = TL.joinL [32] (rr.map word)
  | [], _, _ => rfl
  | [p], h, _ => by
    obtain ⟨n, hn⟩ : ∃ n, p.2 = n + 1 := ⟨p.2 - 1, by have := h p (by simp); omega⟩
    rw [fl_cons]
    show gl ne2 (List.replicate p.2 p.1 ++ []) = List.replicate p.2 p.1
    rw [hn, gl_run (fun y t e => by cases e) n, if_pos rfl, List.append_nil]
  | p :: q :: r, h, ha => by
    obtain ⟨n, hn⟩ : ∃ n, p.2 = n + 1 := ⟨p.2 - 1, by have := h p (by simp); omega⟩
    obtain ⟨m, hm⟩ : ∃ m, q.2 = m + 1 := ⟨q.2 - 1, by have := h q (by simp); omega⟩
    have ih := gl_runs (q :: r) (fun x hx => h x (List.mem_cons_of_mem _ hx)) ha.2
    have e : fl (q :: r) = q.1 :: (List.replicate m q.1 ++ fl r) := by rw [fl_cons, hm]; rfl
    rw [fl_cons, hn, gl_run (fun y t e' => by rw [e] at e'; rw [← (List.cons.inj e').1]; exact ha.1) n, if_neg (by rw [e]; simp), ih, ← hn]
    rfl
/-! the runs of a dance, as the law takes them -/
def rstep (rr : List Run) (c : Nat) : List Run := match rr.getLast? with
  | some p => if p.1 = c then rr.dropLast ++ [(c, p.2 + 1)] else rr ++ [(c, 1)]
  | none => rr ++ [(c, 1)]
def rle (l : List Nat) : List Run := l.foldl rstep []
theorem fl_app (a b : List Run) : fl (a ++ b) = fl a ++ fl b := by unfold fl; rw [List.map_append, List.flatten_append]
theorem fl_one (c n : Nat) : fl [(c, n)] = List.replicate n c := by unfold fl; simp
theorem alt_snoc : ∀ {a : List Run} {p q : Run}, Alt2 (a ++ [p]) → p.1 ≠ q.1 → Alt2 (a ++ [p, q])
  | [], p, q, _, h => ⟨h, trivial⟩
  | [x], p, q, h, h2 => ⟨h.1, h2, trivial⟩
  | x :: y :: a, p, q, h, h2 => ⟨h.1, alt_snoc (a := y :: a) h.2 h2⟩
theorem alt_same : ∀ {a : List Run} {p q : Run}, Alt2 (a ++ [p]) → p.1 = q.1 → Alt2 (a ++ [q])
  | [], p, q, _, _ => trivial
  | [x], p, q, h, h2 => ⟨fun z => h.1 (z.trans h2.symm), trivial⟩
  | x :: y :: a, p, q, h, h2 => ⟨h.1, alt_same (a := y :: a) h.2 h2⟩
theorem last_split {rr : List Run} {p : Run} (h : rr.getLast? = some p) : rr = rr.dropLast ++ [p] := by
  have ne : rr ≠ [] := fun e => by rw [e] at h; cases h
  rw [List.getLast?_eq_some_getLast ne] at h
  rw [← Option.some.inj h]
  exact (List.dropLast_concat_getLast ne).symm
theorem rstep_runs {rr : List Run} {c : Nat} (h : Runs rr) (hc : c = 84 ∨ c = 85 ∨ c = 82) : Runs (rstep rr c) ∧ fl (rstep rr c) = fl rr ++ [c] := by
  unfold rstep
  cases e : rr.getLast? with
  | none =>
    have e0 : rr = [] := List.getLast?_eq_none_iff.mp e
    subst e0
    exact ⟨⟨fun p hp => by rw [List.mem_singleton.mp hp]; exact Nat.le_refl _, trivial, fun p hp => by rw [List.mem_singleton.mp hp]; exact hc⟩, rfl⟩
  | some p =>
    have es := last_split e
    generalize hA : rr.dropLast = A at es
    subst es
    dsimp only
    by_cases k : p.1 = c
    · rw [if_pos k]
      refine ⟨⟨fun x hx => ?_, alt_same h.alt k, fun x hx => ?_⟩, ?_⟩
      · rcases List.mem_append.mp hx with z | z
        · exact h.pos x (List.mem_append_left _ z)
        · rw [List.mem_singleton.mp z]; show 1 ≤ p.2 + 1; omega
      · rcases List.mem_append.mp hx with z | z
        · exact h.let' x (List.mem_append_left _ z)
        · rw [List.mem_singleton.mp z]; exact hc
      · have ep : p = (c, p.2) := by rw [← k]
        rw [fl_app, fl_app, fl_one]
        conv => rhs; rw [ep]
        rw [fl_one, List.append_assoc, List.replicate_succ']
    · rw [if_neg k]
      refine ⟨⟨fun x hx => ?_, by rw [List.append_assoc]; exact alt_snoc h.alt k, fun x hx => ?_⟩, ?_⟩
      · rcases List.mem_append.mp hx with z | z
        · exact h.pos x z
        · rw [List.mem_singleton.mp z]; exact Nat.le_refl _
      · rcases List.mem_append.mp hx with z | z
        · exact h.let' x z
        · rw [List.mem_singleton.mp z]; exact hc
      · rw [fl_app (A ++ [p]), fl_one]; rfl
theorem rle_snoc (l : List Nat) (c : Nat) : rle (l ++ [c]) = rstep (rle l) c := by unfold rle; rw [List.foldl_append]; rfl
theorem rle_runs (l : List Nat) (h : Lets l) : Runs (rle l) ∧ fl (rle l) = l := by
  have key : ∀ n, n ≤ l.length → Runs (rle (l.take n)) ∧ fl (rle (l.take n)) = l.take n := by
    intro n
    induction n with
    | zero => intro _; exact ⟨⟨fun p hp => (by cases hp), trivial, fun p hp => (by cases hp)⟩, rfl⟩
    | succ n ih =>
      intro hn
      obtain ⟨a, b⟩ := ih (by omega)
      have hn' : n < l.length := hn
      have e : l[n]? = some l[n] := List.getElem?_eq_getElem hn'
      rw [List.take_add_one, e]
      show Runs (rle (l.take n ++ [l[n]])) ∧ fl (rle (l.take n ++ [l[n]])) = l.take n ++ [l[n]]
      rw [rle_snoc]
      obtain ⟨c, d⟩ := rstep_runs a (h l[n] (List.getElem_mem hn'))
      exact ⟨c, by rw [d, b]⟩
  have := key l.length (Nat.le_refl _)
  rw [List.take_length] at this
  exact this
theorem fl_len : ∀ rr : List Run, (fl rr).length = (rr.map (·.2)).sum
  | [] => rfl
  | p :: r => by rw [fl_cons, List.length_append, List.length_replicate, List.map_cons, List.sum_cons, fl_len r]
theorem fl_lets {rr : List Run} (h : Runs rr) : Lets (fl rr) := by
  intro c hc
  unfold fl at hc
  obtain ⟨w, hw, hcw⟩ := List.mem_flatten.mp hc
  obtain ⟨p, hp, rfl⟩ := List.mem_map.mp hw
  rw [List.eq_of_mem_replicate hcw]
  exact h.let' p hp
theorem runs_few {rr : List Run} (h : Runs rr) : rr.length ≤ (fl rr).length := by
  rw [fl_len]
  have : ∀ r : List Run, (∀ p ∈ r, 1 ≤ p.2) → r.length ≤ (r.map (·.2)).sum := fun r => by
    induction r with
    | nil => intro _; exact Nat.le_refl _
    | cons p r ih =>
      intro h
      have a := ih fun x hx => h x (List.mem_cons_of_mem _ hx)
      have b := h p List.mem_cons_self
      rw [List.length_cons, List.map_cons, List.sum_cons]
      omega
  exact this rr h.pos
theorem run_le {rr : List Run} {p : Run} (h : p ∈ rr) : p.2 ≤ (fl rr).length := by
  rw [fl_len]
  have : ∀ r : List Run, p ∈ r → p.2 ≤ (r.map (·.2)).sum := fun r => by
    induction r with
    | nil => intro h; cases h
    | cons q r ih =>
      intro h
      rw [List.map_cons, List.sum_cons]
      rcases List.mem_cons.mp h with rfl | h
      · omega
      · have := ih h; omega
  exact this rr h
/-! the words -/
theorem let_blank {c : Nat} (h : c = 84 ∨ c = 85 ∨ c = 82) : Unicode.isSpace c = false := by
  rcases h with rfl | rfl | rfl <;> decide +kernel
theorem words_runs {rr : List Run} (h : Runs rr) : Txt.words (S (gl ne2 (fl rr))) = rr.map fun p => S (word p) := by
  refine TL.map_tl_inj ?_
  rw [TL.words_tl]
  have e : TL.tl (S (gl ne2 (fl rr))) = gl ne2 (fl rr) := S_list _
  rw [e, gl_runs rr h.pos h.alt, List.map_map]
  have e2 : rr.map (TL.tl ∘ fun p => S (word p)) = rr.map word := List.map_congr_left fun p _ => S_list _
  rw [e2]
  by_cases n : rr = []
  · subst n; rfl
  · have := TL.wfold_join (rr.map word) [] (fun z => n (List.map_eq_nil_iff.mp z)) fun w hw => ?_
    · exact this
    · obtain ⟨p, hp, rfl⟩ := List.mem_map.mp hw
      refine ⟨fun z => ?_, fun c hc => ?_⟩
      · have := congrArg List.length z
        unfold word at this
        rw [List.length_replicate] at this
        have := h.pos p hp
        simp at *
        omega
      · rw [List.eq_of_mem_replicate hc]
        exact let_blank (h.let' p hp)
end
section
open PySem PySem.Spec PyProof.Rows
/-! ### words of dances -/
def wr (p : Run) : List Nat := if p.2 = 1 then [p.1] else p.1 :: TL.numL p.2
def txt (rr : List Run) : List Nat := TL.joinL [32] (rr.map wr)
/-- a word of a text -/
def okd : List Nat → Bool
  | [] => false
  | c :: r => letter c && (decide (r = []) || cnt r)
def val : List Nat → List Nat
  | [] => []
  | c :: r => if r = [] then [c] else List.replicate (nv (S r)).toNat c
def long : List Nat → Bool
  | [] => false
  | _ :: r => !decide (r = []) && decide (100000 ≤ (nv (S r)).toNat)
theorem okd_cons (c : Nat) (r : List Nat) : okd (c :: r) = (letter c && (decide (r = []) || cnt r)) := rfl
theorem val_cons (c : Nat) (r : List Nat) : val (c :: r) = if r = [] then [c] else List.replicate (nv (S r)).toNat c := rfl
theorem long_cons (c : Nat) (r : List Nat) : long (c :: r) = (!decide (r = []) && decide (100000 ≤ (nv (S r)).toNat)) := rfl
/-- what a text stands for -/
def rdz (z : Str) : Option (List Nat) := if lc z = [] then some [] else if (ws z).all (fun w => okd (lc w)) = true then some ((ws z).map fun w => val (lc w)).flatten else none
theorem nv_num {n : Nat} (h : n < 1000000000) : nv (S (TL.numL n)) = (n : Int) := by
  have e : Str.ofString (toString ((n : Nat) : Int)) = S (TL.numL n) := SX.num_S n
  unfold nv
  rw [← e, TL.int_num (Nat.le_trans (TL.numL_len (k := 9) (by decide) (by have : (10 : Nat) ^ 9 = 1000000000 := rfl; omega)) (by decide))]
  rfl
theorem cnt_parts {r : List Nat} (h : cnt r = true) : r ≠ [] ∧ r.length ≤ 9 ∧ r.head? ≠ some 48 ∧ r.all dig = true := by
  unfold cnt at h
  simp only [Bool.and_eq_true, Bool.not_eq_true', Bool.or_eq_false_iff, decide_eq_false_iff_not] at h
  exact ⟨h.1.1.1, by omega, h.1.2, h.2⟩
theorem nv_nat {r : List Nat} (h : cnt r = true) : ∃ n : Nat, nv (S r) = (n : Int) ∧ intText? (S r) = some (n : Int) := by
  obtain ⟨a, b, _, d⟩ := cnt_parts h
  have e : intText? (S r) = _ := SX.int_S (a := r) d a (by omega)
  refine ⟨_, ?_, e⟩
  unfold nv
  rw [e]; rfl
theorem numL_head : ∀ (k n : Nat), n ≤ k → 1 ≤ n → (TL.numL n).head? ≠ some 48
  | 0, n, h, h1 => by omega
  | k + 1, n, h, h1 => by
    by_cases c : n < 10
    · rw [TL.numL_lt c]
      show some (48 + n) ≠ some 48
      intro z
      have := Option.some.inj z
      omega
    · rw [TL.numL_step (by omega), List.head?_append]
      have ih := numL_head k (n / 10) (by omega) (by omega)
      cases e : (TL.numL (n / 10)).head? with
      | none => exact absurd (List.head?_eq_none_iff.mp e) (TL.numL_ne _)
      | some x =>
        rw [e] at ih
        exact ih
theorem numL_dig (n : Nat) : (TL.numL n).all dig = true := by
  rw [List.all_eq_true]
  intro c hc
  have := TL.numL_digits n c hc
  unfold dig
  rw [decide_eq_true this.1, decide_eq_true this.2]
  rfl
theorem cnt_num {n : Nat} (h1 : 1 ≤ n) (h : n < 1000000000) : cnt (TL.numL n) = true := by
  have l9 : (TL.numL n).length ≤ 9 := TL.numL_len (by decide) (by have : (10 : Nat) ^ 9 = 1000000000 := rfl; omega)
  unfold cnt
  rw [decide_eq_false (TL.numL_ne n), decide_eq_false (by omega : ¬ 9 < (TL.numL n).length), decide_eq_false (numL_head n n (Nat.le_refl _) h1), numL_dig]
  rfl
theorem okd_num {c n : Nat} (hc : c = 84 ∨ c = 85 ∨ c = 82) (h1 : 1 ≤ n) (h : n < 1000000000) : okd (c :: TL.numL n) = true := by
  rw [okd_cons, letter_iff.mpr hc, cnt_num h1 h, Bool.or_true]
  rfl
theorem val_num {c n : Nat} (h : n < 1000000000) : val (c :: TL.numL n) = List.replicate n c := by
  rw [val_cons, if_neg (TL.numL_ne n), nv_num h]
  rfl
theorem okd_one {c : Nat} (hc : c = 84 ∨ c = 85 ∨ c = 82) : okd [c] = true := by
  rw [okd_cons, letter_iff.mpr hc]
  rfl
theorem wr_ok {p : Run} (hc : p.1 = 84 ∨ p.1 = 85 ∨ p.1 = 82) (h1 : 1 ≤ p.2) (h : p.2 < 1000000000) : okd (wr p) = true ∧ val (wr p) = List.replicate p.2 p.1 := by
  unfold wr
  by_cases e : p.2 = 1
  · rw [if_pos e, e]
    exact ⟨okd_one hc, rfl⟩
  · rw [if_neg e]
    exact ⟨okd_num hc h1 h, val_num h⟩
theorem wr_len {p : Run} (h : p.2 < 1000000000) : (wr p).length ≤ 10 := by
  have l9 : (TL.numL p.2).length ≤ 9 := TL.numL_len (by decide) (by have : (10 : Nat) ^ 9 = 1000000000 := rfl; omega)
  unfold wr
  split
  · show 1 ≤ 10; decide
  · rw [List.length_cons]; omega
theorem wr_sum {rr : List Run} (h : ∀ p ∈ rr, p.2 < 1000000000) : ((rr.map fun p => S (wr p)).map (·.length)).sum + (rr.map fun p => S (wr p)).length * (Str.ofString " ").length ≤ 11 * rr.length := by
  rw [show (Str.ofString " ").length = 1 from by decide +kernel]
  induction rr with
  | nil => exact Nat.le_refl _
  | cons p r ih =>
    have a := ih fun x hx => h x (List.mem_cons_of_mem _ hx)
    have b := wr_len (h p List.mem_cons_self)
    have c : (S (wr p)).length = (wr p).length := S_len _
    rw [List.map_cons, List.map_cons, List.sum_cons, List.length_cons, List.length_cons]
    omega
theorem okd_blank {w : List Nat} (h : okd w = true) : w ≠ [] ∧ 32 ∉ w := by
  match w, h with
  | c :: r, h =>
    refine ⟨by simp, fun m => ?_⟩
    rw [okd_cons] at h
    rw [Bool.and_eq_true, Bool.or_eq_true, decide_eq_true_eq] at h
    obtain ⟨h1, h2⟩ := h
    have hc := letter_iff.mp h1
    rcases List.mem_cons.mp m with e | m
    · omega
    · rcases h2 with e | e
      · rw [e] at m; cases m
      · unfold cnt at e
        rw [Bool.and_eq_true] at e
        have := List.all_eq_true.mp e.2 32 m
        exact absurd this (by decide)
theorem joinS (W : List (List Nat)) : S (TL.joinL [32] W) = Txt.join (S [32]) (W.map S) := by
  refine TL.ext_tl ?_
  have e1 : TL.tl (S (TL.joinL [32] W)) = TL.joinL [32] W := S_list _
  have e2 : TL.tl (S [32]) = [32] := S_list _
  have e3 : (W.map S).map TL.tl = W := by
    rw [List.map_map]
    conv => rhs; rw [← List.map_id W]
    exact List.map_congr_left fun w _ => S_list w
  rw [e1, TL.join_eq, TL.tl_join, e2, e3]
theorem ws_join {W : List (List Nat)} (ne : W ≠ []) (h : ∀ w ∈ W, 32 ∉ w) : ws (S (TL.joinL [32] W)) = W.map S := by
  unfold ws
  rw [joinS]
  refine TL.split_join (s := 32) (S := []) (S_list _) (by decide +kernel) (fun z => ne (List.map_eq_nil_iff.mp z)) fun p hp => ?_
  obtain ⟨w, hw, rfl⟩ := List.mem_map.mp hp
  have e : TL.tl (S w) = w := S_list _
  rw [e]
  exact h w hw
theorem joinL_ne {w : List Nat} {W : List (List Nat)} (h : w ≠ []) : TL.joinL [32] (w :: W) ≠ [] := by
  cases W with
  | nil => exact h
  | cons v W =>
    show w ++ ([32] ++ TL.joinL [32] (v :: W)) ≠ []
    simp
/-- a text of good words is read -/
theorem rdz_join {W : List (List Nat)} (h : ∀ w ∈ W, okd w = true) : rdz (S (TL.joinL [32] W)) = some (W.map val).flatten := by
  unfold rdz
  cases W with
  | nil =>
    show (if lc (S []) = [] then _ else _) = _
    rw [lc_S, if_pos rfl]
    rfl
  | cons w W =>
    rw [lc_S, if_neg (joinL_ne (okd_blank (h w List.mem_cons_self)).1), ws_join (by simp) fun v hv => (okd_blank (h v hv)).2, if_pos, List.map_map]
    · refine congrArg (fun z : List (List Nat) => some z.flatten) (List.map_congr_left fun v _ => ?_)
      show val (lc (S v)) = val v
      rw [lc_S]
    · rw [List.all_eq_true]
      intro z hz
      obtain ⟨v, hv, rfl⟩ := List.mem_map.mp hz
      rw [lc_S]
      exact h v hv
theorem rdz_txt {rr : List Run} (h : Runs rr) (hb : ∀ p ∈ rr, p.2 < 1000000000) : rdz (S (txt rr)) = some (fl rr) := by
  unfold txt
  rw [rdz_join (W := rr.map wr) fun w hw => ?_]
  · rw [List.map_map]
    unfold fl
    congr 1
    congr 1
    exact List.map_congr_left fun p hp => (wr_ok (h.let' p hp) (h.pos p hp) (hb p hp)).2
  · obtain ⟨p, hp, rfl⟩ := List.mem_map.mp hw
    exact (wr_ok (h.let' p hp) (h.pos p hp) (hb p hp)).1
theorem joinL_len {n : Nat} : ∀ W : List (List Nat), (∀ w ∈ W, w.length ≤ n) → (TL.joinL [32] W).length ≤ W.length * (n + 1)
  | [], _ => Nat.zero_le _
  | [w], h => by
    show w.length ≤ 1 * (n + 1)
    have := h w (by simp)
    omega
  | w :: v :: W, h => by
    have ih := joinL_len (n := n) (v :: W) fun x hx => h x (List.mem_cons_of_mem _ hx)
    have := h w (by simp)
    show (w ++ ([32] ++ TL.joinL [32] (v :: W))).length ≤ (W.length + 1 + 1) * (n + 1)
    rw [List.length_append, List.length_append]
    rw [List.length_cons] at ih
    rw [Nat.succ_mul (W.length + 1)]
    show w.length + (1 + _) ≤ _
    omega
theorem flat_mem {w : List Nat} : ∀ {W : List (List Nat)}, w ∈ W → w.length ≤ W.flatten.length
  | v :: W, h => by
    rw [List.flatten_cons, List.length_append]
    rcases List.mem_cons.mp h with e | h
    · rw [e]; omega
    · have := flat_mem h; omega
theorem flat_le {n : Nat} : ∀ W : List (List Nat), (∀ w ∈ W, w.length ≤ n) → W.flatten.length ≤ W.length * n
  | [], _ => Nat.zero_le _
  | w :: W, h => by
    have ih := flat_le (n := n) W fun x hx => h x (List.mem_cons_of_mem _ hx)
    have := h w (by simp)
    rw [List.flatten_cons, List.length_append, List.length_cons, Nat.succ_mul]
    omega
theorem sum_flat (W : List (List Nat)) : ((W.map S).map (·.length)).sum = W.flatten.length := by
  induction W with
  | nil => rfl
  | cons w W ih =>
    rw [List.map_cons, List.map_cons, List.sum_cons, ih, List.flatten_cons, List.length_append, S_len]
/-! blanks -/
theorem cnt_is (l : List Nat) : PyProof.Rows.cnt 32 l = (l.count 32 : Int) := by
  induction l with
  | nil => rfl
  | cons c r ih =>
    rw [PyProof.Rows.cnt_cons, ih, List.count_cons]
    by_cases e : c = 32
    · subst e; rw [if_pos rfl, if_pos (by decide)]; omega
    · rw [if_neg e, if_neg (by simpa using e)]; omega
theorem ws_count (l : List Nat) : (ws (S l)).length = 1 + l.count 32 := by
  have e : ((ws (S l)).length : Int) = 1 + PyProof.Rows.cnt 32 (S l).cps.toList := PyProof.Rows.split_len (S l) 32
  rw [cnt_is, S_list] at e
  omega
theorem joinL_blanks : ∀ W : List (List Nat), (∀ w ∈ W, 32 ∉ w) → (TL.joinL [32] W).count 32 ≤ W.length
  | [], _ => Nat.le_refl _
  | [w], h => by
    show w.count 32 ≤ 1
    rw [List.count_eq_zero_of_not_mem (h w (by simp))]
    omega
  | w :: v :: W, h => by
    have ih := joinL_blanks (v :: W) fun x hx => h x (List.mem_cons_of_mem _ hx)
    show (w ++ ([32] ++ TL.joinL [32] (v :: W))).count 32 ≤ (v :: W).length + 1
    rw [List.count_append, List.count_append, List.count_eq_zero_of_not_mem (h w (by simp))]
    show 0 + (1 + _) ≤ _
    omega
/-! what is not long -/
theorem val_short {w : List Nat} (h : long w = false) : (val w).length ≤ 99999 := by
  match w, h with
  | [], _ => exact Nat.zero_le _
  | c :: r, h =>
    rw [val_cons]
    split
    · show 1 ≤ 99999; decide
    · rename_i e
      rw [long_cons, decide_eq_false e] at h
      have := of_decide_eq_false h
      rw [List.length_replicate]
      omega
theorem flat_short : ∀ {W : List (List Nat)}, (∀ w ∈ W, long w = false) → (W.map val).flatten.length ≤ 99999 * W.length
  | [], _ => Nat.zero_le _
  | w :: W, h => by
    have ih := flat_short (W := W) fun x hx => h x (List.mem_cons_of_mem _ hx)
    have := val_short (h w (by simp))
    rw [List.map_cons, List.flatten_cons, List.length_append, List.length_cons]
    omega
theorem val_lets {w : List Nat} (h : okd w = true) : Lets (val w) := by
  match w, h with
  | c :: r, h =>
    rw [okd_cons] at h
    rw [Bool.and_eq_true] at h
    have hc := letter_iff.mp h.1
    rw [val_cons]
    split
    · intro x hx; rw [List.mem_singleton.mp hx]; exact hc
    · intro x hx; rw [List.eq_of_mem_replicate hx]; exact hc
/-! what the law reads -/
def lng : List Nat := [108, 111, 110, 103]
def wv (l : List Nat) : V := if okd l = true then (if long l = true then .str (S lng) else .str (S (val l))) else .non
def rv (z : Str) : V := if lc z = [] then .str (S []) else if (ws z).all (fun w => okd (lc w)) = true then (if (ws z).any (fun w => long (lc w)) = true then .str (S lng) else .str (S ((ws z).map fun w => val (lc w)).flatten)) else .non
theorem e_long : Str.ofString "long" = S lng := by decide +kernel
theorem val_not_lng {w : List Nat} (h : okd w = true) : val w ≠ lng := fun e => by
  have := val_lets h 108 (by rw [e]; simp [lng])
  omega
theorem rep_one (n c : Nat) : (List.replicate n [c]).flatten = List.replicate n c := by
  induction n with
  | zero => rfl
  | succ n ih => rw [List.replicate_succ, List.flatten_cons, ih, List.replicate_succ]; rfl
theorem three_runs {f c l n : Nat} (h1 : f ≠ c) (h2 : c ≠ l) (hn : 1 ≤ n) (hf : f = 84 ∨ f = 85 ∨ f = 82) (hc : c = 84 ∨ c = 85 ∨ c = 82) (hl : l = 84 ∨ l = 85 ∨ l = 82) : Runs [(f, 2), (c, n), (l, 1)] := by
  refine ⟨fun p hp => ?_, ⟨h1, h2, trivial⟩, fun p hp => ?_⟩
  · simp only [List.mem_cons, List.not_mem_nil, or_false] at hp
    rcases hp with rfl | rfl | rfl
    · show 1 ≤ 2; decide
    · exact hn
    · exact Nat.le_refl _
  · simp only [List.mem_cons, List.not_mem_nil, or_false] at hp
    rcases hp with rfl | rfl | rfl
    · exact hf
    · exact hc
    · exact hl
theorem three_small {c n : Nat} (f l : Nat) (h : n ≤ 9999) : (∀ p ∈ [(f, 2), (c, n), (l, 1)], p.2 < 1000000) ∧ (fl [(f, 2), (c, n), (l, 1)]).length ≤ 20000 := by
  refine ⟨fun p hp => ?_, ?_⟩
  · simp only [List.mem_cons, List.not_mem_nil, or_false] at hp
    rcases hp with rfl | rfl | rfl
    · show 2 < 1000000; decide
    · show n < 1000000; omega
    · show 1 < 1000000; decide
  · rw [fl_len]
    show 2 + (n + (1 + 0)) ≤ _
    omega
theorem flat_not_lng {W : List (List Nat)} (h : ∀ w ∈ W, Lets w) : W.flatten ≠ lng := fun e => by
  have m : 108 ∈ W.flatten := by rw [e]; simp [lng]
  obtain ⟨w, hw, hm⟩ := List.mem_flatten.mp m
  have := h w hw 108 hm
  omega
theorem wv_flat (W : List Str) : (W.map fun w => wv (lc w)).all flatV = true := by
  rw [List.all_eq_true]
  intro x hx
  obtain ⟨w, _, rfl⟩ := List.mem_map.mp hx
  unfold wv
  split
  · split <;> rfl
  · rfl
theorem eqV_none (v : V) (h : flatV v = true) : eqV v .non = decide (v = .non) := by
  cases v <;> first | rfl | cases h
theorem none_parts (W : List Str) : inV .non (W.map fun w => wv (lc w)) = !(W.all fun w => okd (lc w)) := by
  unfold inV
  induction W with
  | nil => rfl
  | cons w W ih =>
    rw [List.map_cons, List.any_cons, ih, List.all_cons, Bool.not_and]
    congr 1
    unfold wv
    split
    · rename_i h
      rw [h]
      split <;> rfl
    · rename_i h
      rw [show okd (lc w) = false by simpa using h]
      rfl
theorem long_parts : ∀ {W : List Str}, (∀ w ∈ W, okd (lc w) = true) → inV (.str (S lng)) (W.map fun w => wv (lc w)) = W.any fun w => long (lc w)
  | [], _ => rfl
  | w :: W, h => by
    have ih := long_parts (W := W) fun x hx => h x (List.mem_cons_of_mem _ hx)
    unfold inV at ih ⊢
    rw [List.map_cons, List.any_cons, ih, List.any_cons]
    congr 1
    unfold wv
    rw [if_pos (h w List.mem_cons_self)]
    cases k : long (lc w)
    · rw [if_neg Bool.false_ne_true]
      show eqV (.str (S (val (lc w)))) (.str (S lng)) = false
      rw [eqV_str, decide_eq_false (val_not_lng (h w List.mem_cons_self))]
    · rw [if_pos rfl]
      show eqV (.str (S lng)) (.str (S lng)) = true
      rw [eqV_str, decide_eq_true rfl]
theorem rdz_none {z : Str} (h1 : lc z ≠ []) (h : (ws z).all (fun w => okd (lc w)) = false) : rdz z = none := by
  unfold rdz
  rw [if_neg h1, h, if_neg Bool.false_ne_true]
theorem rdz_some {z : Str} (h1 : lc z ≠ []) (h : (ws z).all (fun w => okd (lc w)) = true) : rdz z = some ((ws z).map fun w => val (lc w)).flatten := by
  unfold rdz
  rw [if_neg h1, h, if_pos rfl]
theorem count_cut (l : List Nat) (i j : Nat) (h : i ≤ j) : (l.take i ++ l.drop j).count 32 ≤ l.count 32 := by
  have : (l.take i ++ l.drop j).Sublist l := by
    conv => rhs; rw [← List.take_append_drop i l]
    refine List.Sublist.append (List.Sublist.refl _) ?_
    have e : l.drop j = (l.drop i).drop (j - i) := by rw [List.drop_drop]; congr 1; omega
    rw [e]
    exact List.drop_sublist _ _
  exact this.count_le 32
end
section
open PySem PySem.Spec PyProof.Rows
theorem noPass {X : Cx} : Passes (L2N.CX X.prog X.w) X (fun _ _ _ => False) := fun _ _ _ _ _ _ _ ⟨_, _, _, _, _, _, _, _, _, _, _, _, h⟩ => h.elim
theorem Sm.seq {K : PySem.W.Frag} {H H' : Hp} {a : Addr} {xs : List V} (x : Sm H H') (h : SqL K H a xs) : SqL K H' a xs := by
  rcases h with (h | ⟨o, h⟩) | h
  · exact .inl (.inl (x.lst h))
  · exact .inl (.inr ⟨o, x.1 _ _ h fun _ z => by cases z⟩)
  · exact .inr h
theorem Sm.but {a : Addr} {H G G' : Hp} (s : Sm H G) (x : But a G G') (n : H a = none) : Sm H G' := by
  refine ⟨fun b o h k => x b o (ne_of_none h n) (s.1 b o h k), fun P t => ?_, fun b h => ?_⟩
  · obtain ⟨ps, e, _⟩ := id t
    obtain ⟨qs, e2, k2⟩ := s.2.1 P t
    exact ⟨qs, x _ _ (ne_of_none e n) e2, k2⟩
  · by_cases e : b = a
    · rw [e]; exact n
    · exact s.2.2 b (none_back x e h)
/-! ### runs in the heap -/
theorem same_upd {H G : Hp} {D : Addr} {o : HO} (s : Same H G) (n : H D = none) : Same H (upd G D o) := fun b u e => by
  rw [upd_ne (ne_of_none e n)]
  exact s b u e
theorem but_upd {t D : Addr} {H G : Hp} {o : HO} (s : But t H G) (n : H D = none) : But t H (upd G D o) := fun b u nb e => by
  rw [upd_ne (ne_of_none e n)]
  exact s b u nb e
theorem Tape.nil_ne {H : Hp} {a b : Addr} (t : Tape H a) {o : HO} (h : H b = some o) (k : ∀ (x : Int) (c : Bool) (y z : Int), o ≠ .lst [.int x, .bl c, .int y, .int z]) : b ≠ a := fun e => by
  obtain ⟨x, y, z, c, q⟩ := t
  rw [e, q] at h
  exact k _ _ _ _ (Option.some.inj h).symm
theorem refs_no {xs : List Addr} (x : Int) (c : Bool) (y z : Int) : HO.lst (xs.map V.ref) ≠ .lst [.int x, .bl c, .int y, .int z] := fun e => by
  have e' := HO.lst.inj e
  match xs, e' with
  | _ :: _, e' => cases e'
theorem tape_up {H : Hp} {a p : Addr} {o : HO} (t : Tape H a) (n : p ≠ a) : Tape (upd H p o) a := by
  obtain ⟨x, y, z, c, q⟩ := t
  exact ⟨x, y, z, c, by rw [upd_ne (Ne.symm n)]; exact q⟩
theorem ixN_last {n m : Nat} (h : n = m + 1) : ixN n (-1) = some m := by
  unfold ixN
  rw [if_neg (by decide), if_pos (by omega)]
  congr 1
  omega
theorem at_neg1 {xs : List V} {m : Nat} {v : V} (h : xs.length = m + 1) (e : xs[m]? = some v) : atI xs (-1) = some v := by
  unfold atI
  rw [ixN_last h]
  exact e
def vR (p : Run) : List V := [.str (S [p.1]), .int (p.2 : Int)]
def RunsAt (H : Hp) (D : Addr) (rr : List Run) : Prop := ∃ xs : List Addr, H D = some (.lst (xs.map V.ref)) ∧ xs.length = rr.length ∧ ∀ (i : Nat) (x : Addr) (p : Run), xs[i]? = some x → rr[i]? = some p → H x = some (.tup (vR p))
theorem RunsAt.same {H H' : Hp} {D : Addr} {rr : List Run} (h : RunsAt H D rr) (s : Same H H') : RunsAt H' D rr := by
  obtain ⟨xs, a, b, c⟩ := h
  exact ⟨xs, s _ _ a, b, fun i x p hx hp => s _ _ (c i x p hx hp)⟩
theorem RunsAt.but {H H' : Hp} {D t : Addr} {rr : List Run} (h : RunsAt H D rr) (tp : Tape H t) (s : But t H H') : RunsAt H' D rr := by
  obtain ⟨xs, a, b, c⟩ := h
  exact ⟨xs, s _ _ (tp.nil_ne a refs_no) a, b, fun i x p hx hp => s _ _ (tp.nil_ne (c i x p hx hp) fun _ _ _ _ z => nomatch z) (c i x p hx hp)⟩
theorem RunsAt.push {G : Hp} {D x : Addr} {rr : List Run} {p : Run} {xs : List Addr} (h1 : G D = some (.lst (xs.map V.ref))) (h2 : xs.length = rr.length) (h3 : ∀ (i : Nat) (x : Addr) (p : Run), xs[i]? = some x → rr[i]? = some p → G x = some (.tup (vR p))) (hx : G x = some (.tup (vR p))) :
    RunsAt (upd G D (.lst (xs.map V.ref ++ [V.ref x]))) D (rr ++ [p]) := by
  have ne : ∀ (y : Addr) (us : List V), G y = some (.tup us) → upd G D (.lst (xs.map V.ref ++ [V.ref x])) y = some (.tup us) := fun y us h => by
    rw [upd_ne (fun z => by rw [z, h1] at h; cases h)]; exact h
  refine ⟨xs ++ [x], by rw [upd_same, List.map_append]; rfl, by rw [List.length_append, List.length_append, h2]; rfl, fun i y q hy hq => ne _ _ ?_⟩
  by_cases c : i < xs.length
  · rw [List.getElem?_append_left c] at hy
    rw [List.getElem?_append_left (by omega)] at hq
    exact h3 i y q hy hq
  · rw [List.getElem?_append_right (by omega)] at hy
    rw [List.getElem?_append_right (by omega), ← h2] at hq
    have e0 : i - xs.length = 0 := by
      cases k : i - xs.length with
      | zero => rfl
      | succ n => rw [k] at hy; cases hy
    rw [e0] at hy hq
    cases hy
    cases hq
    exact hx
theorem RunsAt.last {G : Hp} {D x : Addr} {A : List Run} {p p' : Run} {xs : List Addr} (h1 : G D = some (.lst (xs.map V.ref))) (h2 : xs.length = (A ++ [p]).length) (h3 : ∀ (i : Nat) (x : Addr) (q : Run), xs[i]? = some x → (A ++ [p])[i]? = some q → G x = some (.tup (vR q))) (hx : G x = some (.tup (vR p'))) :
    RunsAt (upd G D (.lst ((xs.map V.ref).set (xs.length - 1) (V.ref x)))) D (A ++ [p']) := by
  have ne : ∀ (y : Addr) (us : List V), G y = some (.tup us) → upd G D (.lst ((xs.map V.ref).set (xs.length - 1) (V.ref x))) y = some (.tup us) := fun y us h => by
    rw [upd_ne (fun z => by rw [z, h1] at h; cases h)]; exact h
  have hA : xs.length = A.length + 1 := by rw [h2, List.length_append]; rfl
  refine ⟨xs.set (xs.length - 1) x, by rw [upd_same, List.map_set], by rw [List.length_set, List.length_append, hA]; rfl, fun i y q hy hq => ne _ _ ?_⟩
  by_cases c : i < A.length
  · rw [List.getElem?_set_ne (by omega)] at hy
    rw [List.getElem?_append_left c] at hq
    exact h3 i y q hy (by rw [List.getElem?_append_left c]; exact hq)
  · rw [List.getElem?_append_right (by omega)] at hq
    have e0 : i - A.length = 0 := by
      cases k : i - A.length with
      | zero => rfl
      | succ n => rw [k] at hq; cases hq
    rw [e0] at hq
    cases hq
    rw [show i = xs.length - 1 by omega, List.getElem?_set_self (by omega)] at hy
    cases hy
    exact hx
/-- all but the object at a and the code tables -/
def SmB (a : Addr) (H H' : Hp) : Prop := (∀ b o, b ≠ a → H b = some o → (∀ ps, o ≠ HO.tbl ps) → H' b = some o) ∧ (∀ P, GxR.TabG H P → GxR.TabG H' P) ∧ ∀ b, H' b = none → H b = none
theorem SmB.but {a : Addr} {H H' : Hp} (x : But a H H') (t : Tape H a) (t' : Tape H' a) : SmB a H H' := by
  refine ⟨fun b o nb e _ => x b o nb e, fun P h => ?_, fun b h => ?_⟩
  · obtain ⟨u, v, w, c, q⟩ := t
    exact tab_but x q h
  · by_cases e : b = a
    · obtain ⟨u, v, w, c, q⟩ := t'
      rw [e, q] at h
      cases h
    · exact none_back x e h
theorem SmB.sm {a : Addr} {H G G' : Hp} (x : SmB a H G) (y : Sm G G') : SmB a H G' := ⟨fun b o nb e n => y.1 b o (x.1 b o nb e n) n, fun P h => y.2.1 P (x.2.1 P h), fun b h => x.2.2 b (y.2.2 b h)⟩
theorem Sm.smB {a : Addr} {H G G' : Hp} (x : Sm H G) (n : H a = none) (y : SmB a G G') : Sm H G' :=
  ⟨fun b o e k => y.1 b o (ne_of_none e n) (x.1 b o e k) k, fun P h => y.2.1 P (x.2.1 P h), fun b h => x.2.2 b (y.2.2 b h)⟩
theorem runs3 {G : Hp} {D p1 p2 p3 : Addr} {a b c : Run} (hD : G D = some (.lst [.ref p1, .ref p2, .ref p3])) (h1 : G p1 = some (.tup (vR a))) (h2 : G p2 = some (.tup (vR b))) (h3 : G p3 = some (.tup (vR c))) : RunsAt G D [a, b, c] :=
  ⟨[p1, p2, p3], hD, rfl, fun i x p hx hp => by
    match i, hx, hp with
    | 0, hx, hp => cases hx; cases hp; exact h1
    | 1, hx, hp => cases hx; cases hp; exact h2
    | 2, hx, hp => cases hx; cases hp; exact h3⟩
theorem SmB.trans {a : Addr} {H G G' : Hp} (x : SmB a H G) (y : SmB a G G') : SmB a H G' := ⟨fun b o nb e n => y.1 b o nb (x.1 b o nb e n) n, fun P h => y.2.1 P (x.2.1 P h), fun b h => x.2.2 b (y.2.2 b h)⟩
theorem Sm.tape {a : Addr} {H H' : Hp} (x : Sm H H') (t : Tape H a) : Tape H' a := by
  obtain ⟨u, v, w, c, q⟩ := t
  exact ⟨u, v, w, c, x.lst q⟩
theorem RunsAt.sm {H H' : Hp} {D : Addr} {rr : List Run} (h : RunsAt H D rr) (s : Sm H H') : RunsAt H' D rr := by
  obtain ⟨xs, a, b, c⟩ := h
  exact ⟨xs, s.lst a, b, fun i x p hx hp => s.tup (c i x p hx hp)⟩
theorem four_at {u v w x : V} {i : Nat} {y : V} (h : [u, v, w, x][i]? = some y) : y = u ∨ y = v ∨ y = w ∨ y = x := by
  match i, h with
  | 0, h => cases h; exact .inl rfl
  | 1, h => cases h; exact .inr (.inl rfl)
  | 2, h => cases h; exact .inr (.inr (.inl rfl))
  | 3, h => cases h; exact .inr (.inr (.inr rfl))
end
section
def spCount (P2 : Addr) : Sp := fun vs H Q _ => ∃ l : List Nat, vs = [.str (S l)] ∧ GxR.TabG H P2 ∧ l.length ≤ 10000000 ∧ ∀ H', Sm H H' → Q (.bl (cnt l)) H'
def spWordQ (P2 : Addr) : Sp := fun vs H Q _ => ∃ l : List Nat, vs = [.str (S l)] ∧ GxR.TabG H P2 ∧ l.length ≤ 1000000 ∧ ∀ H', Sm H H' → Q (.bl (okd l)) H'
def spRunOf : Sp := fun vs H Q _ => ∃ l : List Nat, vs = [.str (S l)] ∧ okd l = true ∧ (val l).length ≤ 16777215 ∧ l.length ≤ 1000000 ∧ Q (.str (S (val l))) H
def spWritten : Sp := fun vs H Q _ => ∃ p : Run, vs = [.str (S (word p))] ∧ 1 ≤ p.2 ∧ p.2 ≤ 1000000 ∧ Q (.str (S (wr p))) H
def spReadD (C Pc : Addr) : Sp := fun vs H Q E => ∃ z : Str, vs = [.str z] ∧ GxR.TabG H Pc ∧ z.length ≤ 1000000 ∧ (∀ l, rdz z = some l → l.length ≤ 16000000 ∧ ∀ H', Sm H H' → Q (.str (S l)) H') ∧ (rdz z = none → ∀ H', Sm H H' → E (.ref C) none H')
def spRefD (Pc : Addr) : Sp := fun vs H Q _ => ∃ z : Str, vs = [.str z] ∧ GxR.TabG H Pc ∧ z.length ≤ 1000000 ∧ rdz z = none ∧ ∀ H', Sm H H' → Q (.bl true) H'
def spRuns : Sp := fun vs H Q _ => ∃ l : List Nat, vs = [.str (S l)] ∧ l.length ≤ 1000 ∧ ∀ D H', Same H H' → H D = none → RunsAt H' D (rle l) → Q (.ref D) H'
def spText : Sp := fun vs H Q _ => ∃ (a : Addr) (rr : List Run), vs = [.ref a] ∧ RunsAt H a rr ∧ rr.length ≤ 1000 ∧ (∀ p ∈ rr, p.2 < 1000000000) ∧ ∀ H', Same H H' → Q (.str (S (txt rr))) H'
def spSplit : Sp := fun vs H Q _ => ∃ (t a : Addr) (rr : List Run), vs = [.ref t, .ref a] ∧ Tape H t ∧ RunsAt H a rr ∧ Runs rr ∧ (fl rr).length ≤ 60 ∧ ∀ l H', rdz (S l) = some (fl rr) → l.length ≤ 2000 → l.count 32 ≤ 120 → But t H H' → Tape H' t → Q (.str (S l)) H'
def spWordL : Sp := fun vs H Q _ => ∃ l : List Nat, vs = [.str (S l)] ∧ l.length ≤ 1000000 ∧ ∀ H', Same H H' → Q (wv l) H'
def spReadL : Sp := fun vs H Q _ => ∃ z : Str, vs = [.str z] ∧ z.length ≤ 10000 ∧ (ws z).length ≤ 150 ∧ ∀ H', Same H H' → Q (rv z) H'
def spHolds (Pc : Addr) : Sp := fun vs H Q _ => ∃ z : Str, vs = [.str z] ∧ GxR.TabG H Pc ∧ z.length ≤ 10000 ∧ (ws z).length ≤ 150 ∧ ∀ H', Sm H H' → Q (.bl true) H'
def spSpoilt27 : Sp := fun vs H Q _ => ∃ (a : Addr) (l : List Nat), vs = [.ref a, .str (S l)] ∧ Tape H a ∧ l.length ≤ 5000 ∧ ∀ m H', m.length ≤ l.length + 2 → m.count 32 ≤ l.count 32 + 2 → But a H H' → Tape H' a → Q (.str (S m)) H'
def spOdd : Sp := fun vs H Q _ => ∃ a : Addr, vs = [.ref a] ∧ Tape H a ∧ ∀ z H', z.length ≤ 20 → But a H H' → Tape H' a → Q (.str z) H'
def spGreat (Pc : Addr) : Sp := fun vs H Q _ => ∃ a : Addr, vs = [.ref a] ∧ Tape H a ∧ GxR.TabG H Pc ∧ ∀ H', SmB a H H' → Q (.bl true) H'
def spLaw27 (K : PySem.W.Frag) (Pc : Addr) : Sp := fun vs H Q _ => ∃ (a : Addr) (ns : List Int), vs = [.ref a] ∧ SqL K H a (ns.map V.int) ∧ ns.length ≤ 63 ∧ GxR.TabG H Pc ∧ ∀ H', Q (.bl true) H'
def spWriteD : Sp := fun vs H Q _ => ∃ rr : List Run, vs = [.str (S (fl rr))] ∧ Runs rr ∧ (fl rr).length ≤ 1000000 ∧ ∀ H', Same H H' → Q (.str (S (txt rr))) H'
end
section
def strsB : List Value → List Str → Bool
  | [], [] => true
  | .str a _ :: r, b :: s => decide (a = b) && strsB r s
  | _, _ => false
theorem strs_ok : ∀ (us : List Value) (zs : List Str), strsB us zs = true → Vals (zs.map V.str) us
  | [], [], _ => .nil
  | .str a t :: r, b :: s, h => by
    obtain ⟨h1, h2⟩ := He.ba (show (decide (a = b) && strsB r s) = true from h)
    have e := of_decide_eq_true h1
    subst e
    exact .cons ⟨t, rfl⟩ (strs_ok r s h2)
  | [], _ :: _, h => by cases h
  | .none :: _, [], h => by cases h
  | .bool _ :: _, [], h => by cases h
  | v :: r, [], h => by cases v <;> cases h
  | v :: r, b :: s, h => by
    cases v with
    | str a t =>
      obtain ⟨h1, h2⟩ := He.ba (show (decide (a = b) && strsB r s) = true from h)
      have e := of_decide_eq_true h1
      subst e
      exact .cons ⟨t, rfl⟩ (strs_ok r s h2)
    | _ => cases h
def tupB (K : PySem.W.Frag) (a : Addr) (zs : List Str) : Bool := match K.lookup a with
  | some o => decide (o.cls = .type "tuple") && (match o.data with
    | .seq its _ => strsB its.toList zs
    | _ => false)
  | none => false
theorem tup_ok {K : PySem.W.Frag} {a : Addr} {zs : List Str} (h : tupB K a zs = true) (hz : zs.length ≤ 1000) : ∀ H, SqT K H a (zs.map V.str) := by
  intro H
  unfold tupB at h
  cases e : K.lookup a with
  | none => rw [e] at h; cases h
  | some o =>
    rw [e] at h
    obtain ⟨h1, h2⟩ := He.ba (show (decide (o.cls = .type "tuple") && (match o.data with
      | .seq its _ => strsB its.toList zs
      | _ => false)) = true from h)
    cases ed : o.data with
    | seq its n =>
      rw [ed] at h2
      have v := strs_ok _ _ h2
      refine .inr ⟨o, its, n, e, of_decide_eq_true h1, ed, ?_, v⟩
      have := v.length
      rw [List.length_map] at this
      rw [sizeLine_eq]
      have e2 : its.toList.length = its.size := Array.length_toList
      omega
    | _ => rw [ed] at h2; cases h2
def lettersB (K : PySem.W.Frag) : Bool := tupB K (He.ga K "LETTERS") ["T", "U", "R"]
theorem letters_ok {K : PySem.W.Frag} (h : lettersB K = true) : ∀ H, SqT K H (He.ga K "LETTERS") [V.str (S [84]), V.str (S [85]), V.str (S [82])] := by
  intro H
  have e : (["T", "U", "R"] : List Str).map V.str = [V.str (S [84]), V.str (S [85]), V.str (S [82])] := by
    rw [← e_T, ← e_U, ← e_R]
    rfl
  rw [← e]
  exact tup_ok h (by decide) H
end
section
variable {P : Program} {w : World} {K : PySem.W.Frag} {mg : Str → Option Value} {base : Heap} {f : Addr} {fd : FuncData}
theorem ok_written (F : Fun K "written" "written" s_written f fd) (y_len : mg "len" = none) (y_str : mg "str" = none)  : FnOk P w K mg base CX0 1 f fd ["run"] spWritten := by
  refine F.ok sc_written (fun vs H Q E h => ?_) (fun cdv A outer s H vs Q E hr h => ?_)
  · obtain ⟨p, rfl, h1, h2, q⟩ := h
    rfl
  obtain ⟨p, rfl, h1, h2, q⟩ := h
  refine ⟨_, (pss_one (ps_ret (pe_ifExp (pt_cmpR op_eq (pe_callB call_len_str rfl y_len PySem.boot_len (pa_cons (pv 0) pa_nil)) pe_int (nomark _)) (pv 0) (pe_op op_add_str (pe_ix ix_str (pv 0) pe_int (fun _ _ => rfl)) (pe_callTy call_str_int rfl y_str (by decide +kernel) (pa_cons (pe_callB call_len_str rfl y_len PySem.boot_len (pa_cons (pv 0) pa_nil)) pa_nil)))))), ?_⟩
  have lw : (word p).length = p.2 := List.length_replicate
  have e1 : decide (V.int (p.2 : Int) = V.int 1) = decide (p.2 = 1) := decide_eq_decide.mpr ⟨fun e => by have := V.int.inj e; omega, fun e => by rw [e]; rfl⟩
  refine ⟨_, rfl, _, rfl, by rw [S_len, lw]; exact fits (by omega), ?_⟩
  rw [S_len, lw]
  refine ⟨rfl, _, rfl, ?_⟩
  rw [e1]
  refine ite2 (fun c => ?_) (fun c => ?_)
  · have c' : p.2 = 1 := of_decide_eq_true c
    refine ⟨_, rfl, ?_⟩
    have e : word p = wr p := by unfold word wr; rw [if_pos c', c']; rfl
    rw [e]
    exact q
  · have c' : ¬ p.2 = 1 := fun z => c (decide_eq_true z)
    have h0 : (word p)[0]? = some p.1 := by unfold word; rw [List.getElem?_replicate, if_pos (by omega)]
    refine ⟨_, rfl, S (word p), _, p.1, rfl, rfl, by rw [S_len, lw]; exact fits (by omega), by rw [S_list]; exact atI_nat (j := 0) h0, _, rfl, _, rfl, by rw [S_len, lw]; exact fits (by omega), ?_⟩
    rw [S_len, lw]
    refine ⟨_, rfl, small_log (by omega) (by omega), _, _, rfl, rfl, ?_, ?_⟩
    · have := num_len (i := (p.2 : Int)) (by omega) (by omega)
      exact fits (by show 1 + _ ≤ _; omega)
    · have e : (⟨#[p.1]⟩ : Str) ++ Str.ofString (toString (p.2 : Int)) = S (wr p) := by
        rw [num_lc (by omega), show (⟨#[p.1]⟩ : Str) = S [p.1] from rfl, S_app]
        unfold wr
        rw [if_neg c']
        rfl
      rw [e]
      exact q
end
section
variable {P : Program} {w : World} {K : PySem.W.Frag} {mg : Str → Option Value} {base : Heap} {f : Addr} {fd : FuncData}
theorem ok_write_dance (F : Fun K "write_dance" "write_dance" s_write_dance f fd) (D_written : Dfn P w K mg base "written" 1 ["run"] spWritten) {dL : Addr} (gLet : mg "LETTERS" = some (.ref dL)) (hLet : ∀ H, SqT K H dL [V.str (S [84]), V.str (S [85]), V.str (S [82])]) : FnT P w K mg base 2 f fd ["dance"] spWriteD := by
  refine okT F sc_write_dance (fun vs H Q E h => ?_) (fun cdv A outer s H vs Q E hr h => ?_)
  · obtain ⟨rr, rfl, hR, hl, q⟩ := h
    rfl
  obtain ⟨rr, rfl, hR, hl, q⟩ := h
  refine ⟨_, (psst_cons (PST.of (ps_set (i := 1) sc_write_dance.nd rfl (.inl rfl) (pv 0)))
    (psst_cons (pst_forT PassesOwn.never rfl (pi_tup (pe_glob (v := .ref dL) rfl gLet rfl)) (pg_name (i := 2) sc_write_dance.nd rfl (.inl rfl))
    (CwR.psst_one (pst_forT PassesOwn.never rfl (pi_tup (pe_glob (v := .ref dL) rfl gLet rfl)) (pg_name (i := 3) sc_write_dance.nd rfl (.inl rfl))
    (CwR.psst_one (CwR.pst_if (pt_cmpR op_ne (pv 2) (pv 3) (nomark _)) (CwR.psst_one (pst_set (i := 1) sc_write_dance.nd rfl (.inl rfl) (pet_repl2 (pv 1) (pv 2) (pv 3) (pe_op op_add_str (pv 2) pe_str) (pv 3)))) CwR.psst_nil)))))
    (CwR.psst_one (PST.of (ps_ret (pe_join pe_str (pe_lc (own := [("run", 4)]) (g := (gName 4)) (tt := tYes) (by rfl) sc_write_dance.nd (pi_list (pe_words (pv 1))) (blkOk_by (own := [("run", 4)]) (N := ["dance", "spaced", "letter", "other", "run"]) (sc := defScope s_write_dance) (by decide +kernel)) (fun _ _ _ _ _ => pg_name (i := 4) sc_write_dance.nd rfl (Or.inl rfl)) (fun _ _ _ _ _ => pts_nil) (fun _ _ _ _ _ => (pe_do D_written hr (pa_cons (pv 4) pa_nil)))))))))), ?_⟩
  have hS : ∀ G, SqT K G dL lsV := hLet
  refine ⟨_, rfl, dL, rfl, ⟨_, hS H⟩, for_tup (K := K) (a := dL) (xs := lsV) (fun i σ F => ∃ (x2 x3 x4 : Option V), σ = [some (.str (S (fl rr))), some (.str (S (sp9 (fl rr) (3 * i)))), x2, x3, x4] ∧ F = H) ⟨_, _, _, rfl, rfl⟩ (fun i σ F _ _ => hS F) ?_ ?_⟩
  · rintro i x σ F hx ⟨x2, x3, x4, rfl, rfl⟩
    obtain ⟨i3, rfl⟩ := lsV_at hx
    refine ⟨dL, rfl, ⟨_, hS F⟩, for_tup (K := K) (a := dL) (xs := lsV) (fun j σ G => ∃ (x3 x4 : Option V), σ = [some (.str (S (fl rr))), some (.str (S (sp9 (fl rr) (3 * i + j)))), some (.str (S [ltr i])), x3, x4] ∧ G = F) ⟨_, _, rfl, rfl⟩ (fun i σ F _ _ => hS F) ?_ ?_⟩
    · rintro j x σ G hx ⟨x3, x4, rfl, rfl⟩
      obtain ⟨j3, rfl⟩ := lsV_at hx
      have step := sp9_succ (l := fl rr) (prs_at i3 j3)
      unfold rp at step
      refine ⟨_, rfl, _, rfl, rfl, _, rfl, ?_⟩
      have ec : (!decide (V.str (S [ltr i]) = V.str (S [ltr j]))) = !decide (ltr i = ltr j) := by
        rw [show decide (V.str (S [ltr i]) = V.str (S [ltr j])) = decide (ltr i = ltr j) from decide_eq_decide.mpr ⟨fun h => by have := S_inj (V.str.inj h); exact (List.cons.inj this).1, fun h => by rw [h]⟩]
      rw [ec]
      refine ite2 (fun c => ?_) (fun c => ?_)
      · have c' : ¬ ltr i = ltr j := by simpa using c
        rw [if_neg c'] at step
        have lw := sp9_len (l := fl rr) (n := 3 * i + j) (by omega)
        have e3 : S [ltr i] ++ Str.ofString " " ++ S [ltr j] = S [ltr i, 32, ltr j] := by
          rw [show Str.ofString " " = S [32] from e_sp, S_app, S_app]; rfl
        have e2 : S [ltr i] ++ S [ltr j] = S [ltr i, ltr j] := by rw [S_app]; rfl
        refine ⟨_, rfl, _, rfl, _, rfl, _, rfl, S [ltr i], S [ltr j], rfl, rfl, by rw [S_len]; exact Nat.one_pos, by rw [S_len]; exact Nat.one_pos, by rw [S_len, S_len]; exact fits (by show 2 ≤ 16777216; decide), _, rfl, _, _, rfl, rfl, by rw [S_len, show Str.ofString " " = S [32] from e_sp, S_len]; exact fits (by show 2 ≤ 16777216; decide), _, rfl, _, _, rfl, rfl, ?_, ?_, ?_, ?_, ?_, ?_⟩
        · rw [show Str.ofString " " = S [32] from e_sp, S_app, S_len]; show 0 < 2; decide
        · rw [S_len]; show 0 < 1; decide
        · rw [show Str.ofString " " = S [32] from e_sp, S_app, S_len, S_len]; exact fits (by show 3 ≤ 16777216; decide)
        · rw [e3, e2]
          exact beq_eq_false_iff_ne.mpr fun z => by have := congrArg List.length (S_inj z); simp at this
        · rw [e3, S_len, S_len]
          show _ + (_ + 1) * 3 ≤ _
          omega
        · rw [e3, e2, rep_S, ← step]
          exact ⟨_, _, rfl, rfl⟩
      · have c' : ltr i = ltr j := by simpa using c
        rw [if_pos c'] at step
        rw [← step]
        exact ⟨_, _, rfl, rfl⟩
    · rintro σ G ⟨x3, x4, rfl, rfl⟩
      exact ⟨_, _, _, rfl, rfl⟩
  · rintro σ F ⟨x2, x3, x4, rfl, rfl⟩
    rw [show 3 * lsV.length = 9 from rfl, sp9_end (fl_lets hR)]
    have gll := gl_len ne2 (fl rr)
    refine ⟨⟨_, rfl⟩, _, rfl, ⟨_, rfl⟩, _, rfl, rfl, fits (by rw [S_len]; omega), fun wp hwp => ?_⟩
    have s1 := same_new hwp (.lst ((Txt.words (S (gl ne2 (fl rr)))).map V.str))
    rw [words_runs hR] at s1 ⊢
    generalize hG1 : upd F wp (.lst ((rr.map fun p => S (word p)).map V.str)) = G1 at s1
    have hw : G1 wp = some (.lst ((rr.map fun p => S (word p)).map V.str)) := by rw [← hG1, upd_same]
    have few := runs_few hR
    refine ⟨wp, rfl, ⟨_, SqL.of hw⟩, fun D hD => lc_list (xs := (rr.map fun p => S (word p)).map V.str) (fun i G => Same G1 G ∧ G D = some (.lst ((rr.take i).map fun p => V.str (S (wr p))))) ⟨same_new hD _, upd_same⟩ (fun i G hi s => SqL.of (s.1 _ _ hw)) ?_ ?_⟩
    · rintro i x G hx ⟨sG, hG⟩
      rw [List.map_map, List.getElem?_map] at hx
      obtain ⟨p, hp, rfl⟩ := Option.map_eq_some_iff.mp hx
      have pm := List.mem_of_getElem? hp
      have hi : i < rr.length := (List.getElem?_eq_some_iff.mp hp).1
      refine ⟨rfl, ?_⟩
      refine ⟨_, rfl, p, rfl, hR.pos p pm, Nat.le_trans (run_le pm) hl, ?_⟩
      refine ⟨_, hG, Nat.lt_of_lt_of_le (by rw [List.length_map, List.length_take]; omega) sizeLine_big, fun b o hb => ?_, ?_⟩
      · rw [upd_ne (ne_of_none hb hD)]; exact sG _ _ hb
      · rw [upd_same, List.take_add_one, hp, List.map_append]; rfl
    · rintro G ⟨sG, hG⟩
      rw [List.length_map, List.length_map, List.take_length] at hG
      refine ⟨_, D, rr.map fun p => S (wr p), rfl, rfl, .inl (SqL.of (by rw [List.map_map]; exact hG)), ?_, ?_⟩
      · have := wr_sum (rr := rr) fun p hp => by have := run_le hp; omega
        omega
      · have e : Txt.join (Str.ofString " ") (rr.map fun p => S (wr p)) = S (txt rr) := by
          rw [show Str.ofString " " = S [32] from e_sp]
          unfold txt
          rw [joinS, List.map_map]
          rfl
        rw [e]
        exact q G (s1.trans sG)
end
section
variable {P : Program} {w : World} {K : PySem.W.Frag} {mg : Str → Option Value} {base : Heap} {f : Addr} {fd : FuncData}
theorem ok_is_count (F : Fun K "is_count" "is_count" s_is_count f fd) (y_len : mg "len" = none) {c Pc : Addr} {tM tD : Tok} (hc : fd.code = .ref c) (TB : GxR.TabB base mg c Pc) (gM : mg "MOST_DIGITS" = some (.int 9 tM)) (gD : mg "DIGITS" = some (.str "0123456789" tD)) (y_all : mg "all" = none) : FnOk P w K mg base CX0 1 f fd ["digits"] (spCount Pc) := by
  refine okC F hc sc_is_count (fun vs H Q E h => ?_) (fun A outer s H vs Q E hr h => ?_)
  · obtain ⟨l, rfl, tg, hl, q⟩ := h
    rfl
  obtain ⟨l, rfl, tg, hl, q⟩ := h
  refine ⟨_, (pss_cons (ps_if (PW.pt (pw_or (pt_cmpR op_eq (pv 0) pe_str (nomark _)) (pw_or (pt_cmpR op_gt (pe_callB call_len_str rfl y_len PySem.boot_len (pa_cons (pv 0) pa_nil)) (pe_glob (v := .int 9) rfl gM ⟨_, rfl⟩) (nomark _)) (pw_or1 (pt_cmpR op_eq (pe_ix ix_str (pv 0) pe_int (fun _ _ => rfl)) pe_str (nomark _)))))) (pss_one (ps_ret pe_bl)) pss_nil)
    (pss_one (ps_ret (pe_allG (k := 0) hr rfl y_all TB rfl ⟨rfl, rfl, by decide +kernel, rfl, rfl, fun y hy e => absurd e (by revert y; decide +kernel)⟩ (pv 0) (elt_inS (pb := dig) gD dig_in rfl rfl rfl) (fun v => rfl))))), ?_⟩
  have ee : (decide (V.str (S l) = V.str "")) = decide (l = []) := by rw [e_empty]; exact decide_eq_decide.mpr tx_iff
  refine ⟨_, rfl, rfl, _, rfl, ?_⟩
  rw [ee]
  refine ite2 (fun c => iteT ?_) (fun c => ?_)
  · have e : cnt l = false := by unfold cnt; rw [c]; rfl
    rw [e] at q
    exact q H (Sm.refl H)
  refine ⟨_, rfl, _, rfl, by rw [S_len]; exact fits (by omega), _, _, rfl, rfl, _, rfl, ?_⟩
  rw [S_len]
  refine ite2 (fun c2 => iteT ?_) (fun c2 => ?_)
  · have k : (9 : Int) < (l.length : Int) := of_decide_eq_true c2
    have e : cnt l = false := by unfold cnt; rw [decide_eq_true (show 9 < l.length by omega)]; simp
    rw [e] at q
    exact q H (Sm.refl H)
  have c' : l ≠ [] := by simpa using c
  have k2 : ¬ 9 < l.length := fun z => c2 (decide_eq_true (by omega))
  obtain ⟨a, r, rfl⟩ : ∃ a r, l = a :: r := by
    cases l with
    | nil => exact absurd rfl c'
    | cons a r => exact ⟨a, r, rfl⟩
  refine ⟨_, rfl, S (a :: r), _, a, rfl, rfl, by rw [S_len]; exact fits (by omega), by rw [S_list]; exact atI_nat (j := 0) rfl, rfl, _, rfl, ?_⟩
  rw [show decide (V.str ⟨#[a]⟩ = V.str "0") = decide (a = 48) from decide_eq_decide.mpr (sign_eq (c := a) (n := 48) (by decide +kernel))]
  have e : cnt (a :: r) = (!decide (a = 48) && (a :: r).all dig) := by
    unfold cnt
    rw [decide_eq_false c', decide_eq_false k2]
    simp
  refine ite2 (fun c3 => ?_) (fun c3 => ?_)
  · rw [e, c3] at q
    exact q H (Sm.refl H)
  · rw [e, show decide (a = 48) = false by simpa using c3] at q
    exact ⟨_, rfl, S (a :: r), rfl, tg, fun H' tb => by rw [S_list]; exact q H' (Sm.tab tg tb)⟩
end
section
variable {P : Program} {w : World} {K : PySem.W.Frag} {mg : Str → Option Value} {base : Heap} {f : Addr} {fd : FuncData}
theorem ok_is_word (F : Fun K "is_word" "is_word" s_is_word f fd) (y_len : mg "len" = none) {Pc : Addr} (D_cnt : Dfn P w K mg base "is_count" 1 ["digits"] (spCount Pc)) {dL : Addr} (gLet : mg "LETTERS" = some (.ref dL)) (hLet : ∀ H, SqT K H dL [V.str (S [84]), V.str (S [85]), V.str (S [82])]) : FnOk P w K mg base CX0 2 f fd ["word"] (spWordQ Pc) := by
  refine F.ok sc_is_word (fun vs H Q E h => ?_) (fun cdv A outer s H vs Q E hr h => ?_)
  · obtain ⟨l, rfl, tg, hl, q⟩ := h
    rfl
  obtain ⟨l, rfl, tg, hl, q⟩ := h
  refine ⟨_, (pss_one (ps_ret (pe_and (pe_cmpR op_in_seq (pe_slice sl_str (pv 0) po_none (po_some pe_int)) (pe_glob (v := .ref dL) rfl gLet rfl) (by rfl)) (pe_one (pe_or (pe_cmpR op_eq (pe_callB call_len_str rfl y_len PySem.boot_len (pa_cons (pv 0) pa_nil)) pe_int (nomark _)) (pe_one (pe_do D_cnt hr (pa_cons (pe_slice sl_str (pv 0) (po_some pe_int) po_none) pa_nil)))))))), ?_⟩
  have hS : ∀ G, SqT K G dL ([[84], [85], [82]].map tx) := hLet
  refine ⟨_, rfl, _, rfl, _, rfl, by rw [S_len]; exact fits (by omega), ?_⟩
  rw [S_take l (show (0 : Int) ≤ 1 by decide)]
  refine ⟨dL, _, rfl, .inr (hS _), rfl, flat_strs _, ?_⟩
  rw [show (if false = true then !(inV (V.str (S (l.take (1 : Int).toNat))) ([[84], [85], [82]].map tx)) else inV (V.str (S (l.take (1 : Int).toNat))) ([[84], [85], [82]].map tx)) = decide (l.take 1 ∈ [[84], [85], [82]]) from inV_strs _ _]
  match l with
  | [] => exact ⟨_, rfl, q H (Sm.refl H)⟩
  | c :: r =>
    have e1 : decide ((c :: r).take 1 ∈ [[84], [85], [82]]) = letter c := by
      rw [Bool.eq_iff_iff, decide_eq_true_eq, letter_iff]
      show [c] ∈ _ ↔ _
      simp
    rw [e1]
    rw [List.length_cons] at hl
    refine ⟨_, rfl, ?_⟩
    cases hc : letter c
    · have e : okd (c :: r) = false := by rw [okd_cons, hc]; rfl
      rw [e] at q
      exact iteF (q H (Sm.refl H))
    refine iteT ?_
    rw [okd_cons, hc, Bool.true_and] at q
    refine ⟨_, rfl, _, rfl, by rw [S_len]; exact fits (by rw [List.length_cons]; omega), ?_⟩
    rw [S_len, List.length_cons]
    refine ⟨rfl, _, rfl, ?_⟩
    rw [show decide (V.int ((r.length + 1 : Nat) : Int) = V.int 1) = decide (r = []) from decide_eq_decide.mpr ⟨fun e => by have := V.int.inj e; exact List.length_eq_zero_iff.mp (by omega), fun e => by rw [e]; rfl⟩]
    refine ite2 (fun c1 => ?_) (fun c1 => ?_)
    · rw [c1] at q
      exact q H (Sm.refl H)
    · rw [show decide (r = []) = false by simpa using c1, Bool.false_or] at q
      refine ⟨_, rfl, _, rfl, _, rfl, by rw [S_len]; exact fits (by rw [List.length_cons]; omega), ?_⟩
      rw [S_drop (c :: r) (show (0 : Int) ≤ 1 by decide)]
      exact ⟨r, rfl, tg, by omega, q⟩
end
section
variable {P : Program} {w : World} {K : PySem.W.Frag} {mg : Str → Option Value} {base : Heap} {f : Addr} {fd : FuncData}
theorem ok_run_of (F : Fun K "run_of" "run_of" s_run_of f fd) (y_len : mg "len" = none) (y_int : mg "int" = none)  : FnOk P w K mg base CX0 1 f fd ["word"] spRunOf := by
  refine F.ok sc_run_of (fun vs H Q E h => ?_) (fun cdv A outer s H vs Q E hr h => ?_)
  · obtain ⟨l, rfl, ok, h9, hl, q⟩ := h
    rfl
  obtain ⟨l, rfl, ok, h9, hl, q⟩ := h
  refine ⟨_, (pss_one (ps_ret (pe_ifExp (pt_cmpR op_eq (pe_callB call_len_str rfl y_len PySem.boot_len (pa_cons (pv 0) pa_nil)) pe_int (nomark _)) (pv 0) (pe_op op_mul_str (pe_ix ix_str (pv 0) pe_int (fun _ _ => rfl)) (pe_callTy call_int_str rfl y_int (by decide +kernel) (pa_cons (pe_slice sl_str (pv 0) (po_some pe_int) po_none) pa_nil)))))), ?_⟩
  match l, ok with
  | c :: r, ok =>
    have e1 : decide (V.int ((c :: r).length : Int) = V.int 1) = decide (r = []) := decide_eq_decide.mpr ⟨fun e => by have := V.int.inj e; rw [List.length_cons] at this; exact List.length_eq_zero_iff.mp (by omega), fun e => by rw [e]; rfl⟩
    refine ⟨_, rfl, _, rfl, by rw [S_len]; exact fits (by omega), ?_⟩
    rw [S_len]
    refine ⟨rfl, _, rfl, ?_⟩
    rw [e1]
    refine ite2 (fun c1 => ?_) (fun c1 => ?_)
    · have c' : r = [] := of_decide_eq_true c1
      subst c'
      exact ⟨_, rfl, q⟩
    · have c' : r ≠ [] := by simpa using c1
      rw [okd_cons, Bool.and_eq_true, Bool.or_eq_true, decide_eq_true_eq] at ok
      have hi := okP_int (z := S r) (by rw [lc_S]; unfold okP; rw [ok.2.resolve_left c', Bool.or_true])
      refine ⟨_, rfl, S (c :: r), _, c, rfl, rfl, by rw [S_len]; exact fits (by omega), by rw [S_list]; exact atI_nat (j := 0) rfl, ?_⟩
      refine ⟨_, rfl, _, rfl, _, rfl, by rw [S_len]; exact fits (by omega), ?_⟩
      rw [S_drop (c :: r) (show (0 : Int) ≤ 1 by decide)]
      have h0 : 0 ≤ nv (S r) := by
        obtain ⟨n, e, _⟩ := nv_nat (ok.2.resolve_left c')
        rw [e]; omega
      have h9' : (nv (S r)).toNat ≤ 16777215 := by
        rw [val_cons, if_neg c', List.length_replicate] at h9
        exact h9
      refine ⟨S r, _, rfl, hi.1, by have := hi.2; omega, [c], _, rfl, rfl, h0, by have : (2 : Int) ^ 62 = 4611686018427387904 := rfl; omega, by show 1 * _ ≤ _; omega, ?_⟩
      have e : (List.replicate (nv (S r)).toNat [c]).flatten = val (c :: r) := by
        rw [val_cons, if_neg c']
        generalize (nv (S r)).toNat = n
        induction n with
        | zero => rfl
        | succ n ih => rw [List.replicate_succ, List.flatten_cons, ih, List.replicate_succ]; rfl
      rw [e]
      exact q
end
section
variable {P : Program} {w : World} {K : PySem.W.Frag} {mg : Str → Option Value} {base : Heap} {f : Addr} {fd : FuncData}
theorem ok_readX (F : Fun K "read_dance" "read_dance" s_read_dance f fd) (D_run_of : Dfn P w K mg base "run_of" 2 ["word"] spRunOf) {C Pc : Addr} (EC : Err K mg "BadText" C) (D_isw : Dfn P w K mg base "is_word" 2 ["word"] (spWordQ Pc)) : FnOk P w K mg base (L2N.CX P w) 3 f fd ["text"] (spReadD C Pc) := by
  refine okX F sc_read_dance (fun vs H Q E h => ?_) (fun cdv A outer s H vs Q E hr h => ?_)
  · obtain ⟨z, rfl, tg, hz, q, qE⟩ := h
    rfl
  obtain ⟨z, rfl, tg, hz, q, qE⟩ := h
  refine ⟨_, (pss_cons (ps_if (pt_cmpR op_eq (pv 0) pe_str (nomark _)) (pss_one (ps_ret pe_str)) pss_nil)
    (pss_cons (ps_set (i := 1) sc_read_dance.nd rfl (.inl rfl) (pe_split (pv 0) pe_str))
    (pss_cons (ps_for (L2.passes_of rfl) rfl (pi_list (pv 1)) (pg_name (i := 2) sc_read_dance.nd rfl (.inl rfl))
    (pss_one (ps_if (pt_not (pt_val (pe_do D_isw hr (pa_cons (pv 2) pa_nil)))) (pss_one (L2N.ps_raise rfl (L2N.takes_of rfl rfl rfl rfl) (L2N.pmk_own PySem.F.excBase_ValueError EC.x EC.g EC.k (raises_own EC.b EC.t) rfl))) pss_nil)))
    (pss_one (ps_ret (pe_join pe_str (pe_lc (own := [("word", 2)]) (g := (gName 2)) (tt := tYes) (by rfl) sc_read_dance.nd (pi_list (pv 1)) (blkOk_by (own := [("word", 2)]) (N := ["text", "words", "word"]) (sc := defScope s_read_dance) (by decide +kernel)) (fun _ _ _ _ _ => pg_name (i := 2) sc_read_dance.nd rfl (Or.inl rfl)) (fun _ _ _ _ _ => pts_nil) (fun _ _ _ _ _ => (pe_do D_run_of hr (pa_cons (pv 2) pa_nil)))))))))), ?_⟩
  obtain ⟨l, rfl⟩ : ∃ l, z = S l := ⟨lc z, (S_lc z).symm⟩
  have ee : (decide (V.str (S l) = V.str "")) = decide (l = []) := by rw [e_empty]; exact decide_eq_decide.mpr tx_iff
  refine ⟨_, rfl, rfl, _, rfl, ?_⟩
  rw [ee]
  refine ite2 (fun c => ?_) (fun c => ?_)
  · have c' : l = [] := of_decide_eq_true c
    subst c'
    have e : rdz (S []) = some [] := by unfold rdz; rw [lc_S, if_pos rfl]
    have := (q [] e).2 H (Sm.refl H)
    rw [show S [] = Str.ofString "" from e_empty.symm] at this
    exact this
  have c' : l ≠ [] := by simpa using c
  have er : rdz (S l) = if (ws (S l)).all (fun w => okd (lc w)) = true then some ((ws (S l)).map fun w => val (lc w)).flatten else none := by unfold rdz; rw [lc_S, if_neg c']
  refine ⟨_, rfl, ⟨_, rfl⟩, S l, _, rfl, rfl, rfl, fits (by omega), fun wp hwp => ?_⟩
  rw [show Txt.split (S l) (Str.ofString " ") = ws (S l) by unfold ws; rw [← e_sp]]
  have wl := ws_weight (S l)
  have wlen : ∀ w ∈ ws (S l), w.length ≤ (S l).length := fun w h => ws_len h
  generalize hW : ws (S l) = W at *
  have s1 := same_new hwp (.lst (W.map V.str))
  generalize hG1 : upd H wp (.lst (W.map V.str)) = G1 at s1
  have hw : G1 wp = some (.lst (W.map V.str)) := by rw [← hG1, upd_same]
  refine ⟨_, rfl, wp, rfl, ⟨_, SqL.of hw⟩, for_list (K := K) (a := wp) (xs := W.map V.str) (fun i σ F => ∃ x2 : Option V, σ = [some (.str (S l)), some (.ref wp), x2] ∧ Sm G1 F ∧ ∀ w ∈ W.take i, okd (lc w) = true) ⟨_, rfl, Sm.refl G1, fun w h => by cases h⟩ (fun i σ F _ h => by obtain ⟨_, _, sF, _⟩ := h; exact SqL.of (sF.lst hw)) ?_ ?_⟩
  · rintro i x σ F hx ⟨x2, rfl, sF, ok⟩
    rw [List.getElem?_map] at hx
    obtain ⟨w, hwi, rfl⟩ := Option.map_eq_some_iff.mp hx
    have wm := List.mem_of_getElem? hwi
    have wln := wlen w wm
    obtain ⟨v, rfl⟩ : ∃ v, w = S v := ⟨lc w, (S_lc w).symm⟩
    rw [S_len] at wln
    refine ⟨_, rfl, v, rfl, ((Sm.of s1).trans sF).2.1 _ tg, by omega, fun F' s' => ⟨_, rfl, ?_⟩⟩
    cases ho : okd v
    · refine iteT (qE ?_ F' (((Sm.of s1).trans sF).trans s'))
      rw [er, if_neg]
      intro h
      have := List.all_eq_true.mp h (S v) wm
      rw [lc_S, ho] at this
      cases this
    · refine iteF ⟨_, rfl, sF.trans s', fun y hy => ?_⟩
      rw [List.take_add_one, hwi] at hy
      rcases List.mem_append.mp hy with h | h
      · exact ok y h
      · rw [List.mem_singleton.mp h, lc_S]; exact ho
  rintro σ F ⟨x2, rfl, sF, ok⟩
  rw [List.length_map, List.take_length] at ok
  rw [if_pos (List.all_eq_true.mpr fun w h => ok w h)] at er
  obtain ⟨q1, q2⟩ := q _ er
  have hwF := sF.lst hw
  refine ⟨⟨_, rfl⟩, _, rfl, wp, rfl, ⟨_, SqL.of hwF⟩, fun D hD => lc_list (xs := W.map V.str) (fun i G => Same F G ∧ G D = some (.lst ((W.take i).map fun w => V.str (S (val (lc w)))))) ⟨same_new hD _, upd_same⟩ (fun i G hi s => SqL.of (s.1 _ _ hwF)) ?_ ?_⟩
  · rintro i x G hx ⟨sG, hG⟩
    rw [List.getElem?_map] at hx
    obtain ⟨w, hwi, rfl⟩ := Option.map_eq_some_iff.mp hx
    have wm := List.mem_of_getElem? hwi
    have wln := wlen w wm
    have hi : i < W.length := (List.getElem?_eq_some_iff.mp hwi).1
    refine ⟨rfl, ?_⟩
    refine ⟨_, rfl, lc w, by rw [S_lc]; rfl, ok w wm, ?_, by rw [lc_len]; omega, ?_⟩
    · have := flat_mem (List.mem_map.mpr ⟨w, wm, rfl⟩ : val (lc w) ∈ W.map fun w => val (lc w))
      omega
    refine ⟨_, hG, Nat.lt_of_lt_of_le (by rw [List.length_map, List.length_take]; omega) sizeLine_big, fun b o hb => ?_, ?_⟩
    · rw [upd_ne (ne_of_none hb hD)]; exact sG _ _ hb
    · rw [upd_same, List.take_add_one, hwi, List.map_append]; rfl
  · rintro G ⟨sG, hG⟩
    rw [List.length_map, List.take_length] at hG
    have em : (W.map fun w => S (val (lc w))) = (W.map fun w => val (lc w)).map S := by rw [List.map_map]; rfl
    refine ⟨_, D, W.map fun w => S (val (lc w)), rfl, rfl, .inl (SqL.of (by rw [List.map_map]; exact hG)), ?_, ?_⟩
    · rw [em, sum_flat, show (Str.ofString "").length = 0 from by decide +kernel]
      omega
    · rw [em, show Str.ofString "" = S [] from e_empty, join_empty]
      exact q2 G (((Sm.of s1).trans sF).trans (Sm.of sG))
end
/-! ### _law_refused -/
abbrev tIsFrefused (K : PySem.W.Frag) (D a : Addr) (cls : Value) (d : Option Addr) (c : V) : TE := tCB (rIsF K D a cls d) (tCons (tVar 1) (tCons (tC c) tNil))
def t_suiterefused (K : PySem.W.Frag) (C B1 B2 B3 : Addr) : Addr → Value → Option Addr → TS := fun a cls d =>
  tSeq (tAsg (tLst (tCons (tIsFrefused K C a cls d (.ref B1)) (tCons (tIsFrefused K C a cls d (.ref B2)) (tCons (tIsFrefused K C a cls d (.ref B3)) tNil)))) (gName 2))
    (tRet (tAndV (tIsFrefused K C a cls d (.ref C)) (tAndV (tIsFrefused K C a cls d (.ty "ValueError")) (tNotV (tCB (rAny K) (tCons (tVar 2) tNil))))))
structure Kin (K : PySem.W.Frag) (C R B1 B2 B3 : Addr) : Prop where
  ex : PySem.W.exmOne K (.ref C) (.ref R) = some true
  kC : PySem.W.kitOne K (.ref C) (.ref C) = some true
  kV : PySem.W.kitOne K (.ref C) (.type "ValueError") = some true
  k1 : PySem.W.kitOne K (.ref C) (.ref B1) = some false
  k2 : PySem.W.kitOne K (.ref C) (.ref B2) = some false
  k3 : PySem.W.kitOne K (.ref C) (.ref B3) = some false
section
variable {P : Program} {w : World} {K : PySem.W.Frag} {mg : Str → Option Value} {base : Heap} {f : Addr} {fd : FuncData}
theorem ok_refused {g C R B1 B2 B3 : Addr} {gd : FuncData} (F : Fun K "_law_refused" "_law_refused" s_law_refused f fd) (G : FnOk P w K mg base (L2N.CX P w) 3 g gd ["text"] (spReadD C Pc)) (mG : mg "read_dance" = some (.ref g)) (kG : PySem.W.keepIn K (.ref g) = true) (bG : Binds K gd ["text"] [])
    (EC : ExcC K C) (gC : mg "BadText" = some (.ref C)) (gR : mg "RopeError" = some (.ref R)) (g1 : mg "BadMove" = some (.ref B1)) (g2 : mg "NoFraction" = some (.ref B2)) (g3 : mg "NoDance" = some (.ref B3)) (Z : Kin K C R B1 B2 B3)
    (mI : mg "isinstance" = none) (mV : mg "ValueError" = none) (mA : mg "any" = none) : FnOk P w K mg base CX0 4 f fd ["text"] (spRefD Pc) := by
  refine F.ok sc_law_refused (fun vs H Q E h => ?_) (fun cdv A outer s H vs Q E hr h => ?_)
  · obtain ⟨z, rfl, tg, hz, hn, q⟩ := h
    rfl
  obtain ⟨z, rfl, tg, hz, hn, q⟩ := h
  have bi : bootBuiltins "isinstance" = some (.builtin "isinstance") := by decide +kernel
  have bV : bootBuiltins "ValueError" = some (.type "ValueError") := by decide +kernel
  have bA : bootBuiltins "any" = some (.builtin "any") := by decide +kernel
  refine ⟨_, pss_cons (L2N.ps_try_as (i := 1) (tb := fun W => tDrop (tCallS (spReadD C Pc) (WE W) (tCons (tVar 0) tNil))) (ts := t_suiterefused K C B1 B2 B3) (Wout := fun _ _ _ _ => False) rfl rfl sc_law_refused.nd rfl rfl ⟨rfl, by decide, Or.inl gR⟩ takes0N
      (fun W pn xe tk _ => pss_one (ps_expr (by exact (pe_callS G hr rfl mG kG bG (fun σ => L2N.passAt tk σ) (by exact (pa_cons (pv 0) pa_nil))))))
      (fun a oe cls d pn hz hf => pss_cons (ps_set (i := 2) sc_law_refused.nd rfl (.inl rfl) (pe_lst (pa_cons (pe_callB (call_isF EC hz hf) rfl mI bi (pa_cons (pv 1) (pa_cons (pe_glob (v := .ref B1) rfl g1 rfl) pa_nil)))
          (pa_cons (pe_callB (call_isF EC hz hf) rfl mI bi (pa_cons (pv 1) (pa_cons (pe_glob (v := .ref B2) rfl g2 rfl) pa_nil))) (pa_cons (pe_callB (call_isF EC hz hf) rfl mI bi (pa_cons (pv 1) (pa_cons (pe_glob (v := .ref B3) rfl g3 rfl) pa_nil))) pa_nil)))))
        (pss_one (ps_ret (pe_and (pe_callB (call_isF EC hz hf) rfl mI bi (pa_cons (pv 1) (pa_cons (pe_glob (v := .ref C) rfl gC rfl) pa_nil)))
          (pe_and (pe_callB (call_isF EC hz hf) rfl mI bi (pa_cons (pv 1) (pa_cons (pe_bltn (v := .ty "ValueError") rfl mV bV rfl) pa_nil))) (pe_one (pe_not (pe_callB (any_hot hz hf) rfl mA bA (pa_cons (pv 2) pa_nil))))))))))
    (pss_one (ps_ret pe_bl)), ?_⟩
  refine ⟨_, rfl, z, rfl, tg, hz, (fun l e => absurd hn (by rw [e]; simp)), fun _ H1 s1 => ⟨true, Z.ex, fun _ a2 ha2 => ?_, fun z => nomatch z⟩⟩
  have own : ∀ (D : Addr) (u : Value), RelV (.ref D) u → u = .ref D := fun D u r => r
  refine ⟨_, rfl, rfl, rfl, _, _, false, rfl, own B1, Z.k1, _, rfl, rfl, rfl, _, _, false, rfl, own B2, Z.k2, _, rfl, rfl, rfl, _, _, false, rfl, own B3, Z.k3, fits (by show 3 ≤ 16777216; decide), fun p hp => ?_⟩
  refine ⟨_, rfl, rfl, rfl, _, _, true, rfl, own C, Z.kC, _, rfl, iteT ?_⟩
  refine ⟨_, rfl, rfl, rfl, _, _, true, rfl, fun u r => r, Z.kV, _, rfl, iteT ?_⟩
  exact ⟨_, rfl, p, [false, false, false], rfl, SqL.of upd_same, _, rfl, q _ (s1.trans (Sm.of (same_new hp _)))⟩
end
section
variable {P : Program} {w : World} {K : PySem.W.Frag} {mg : Str → Option Value} {base : Heap} {f : Addr} {fd : FuncData}
theorem ok__law_runs (F : Fun K "_law_runs" "_law_runs" s_law_runs f fd) (y_len : mg "len" = none)  : FnOk P w K mg base CX0 1 f fd ["dance"] spRuns := by
  refine F.ok sc_law_runs (fun vs H Q E h => ?_) (fun cdv A outer s H vs Q E hr h => ?_)
  · obtain ⟨l, rfl, hl, q⟩ := h
    rfl
  obtain ⟨l, rfl, hl, q⟩ := h
  refine ⟨_, (pss_cons (ps_set (i := 1) sc_law_runs.nd rfl (.inl rfl) (pe_lst pa_nil))
    (pss_cons (ps_for PassesOwn.never rfl (pi_str (pv 0)) (pg_name (i := 2) sc_law_runs.nd rfl (.inl rfl))
    (pss_one (ps_if (PW.pt (pw_and (pt_cmpR op_gt (pe_callB call_len_seq rfl y_len PySem.boot_len (pa_cons (pv 1) pa_nil)) pe_int (nomark _)) (pw_and1 (pt_cmpR op_eq (pe_ix ix_tup (pe_ix ix_list (pv 1) (pe_un un_neg pe_int) (fun _ _ => rfl)) pe_int (fun _ _ => rfl)) (pv 2) (nomark _))))) (pss_one (ps_asg (pe_tup (pa_cons (pv 2) (pa_cons (pe_op op_add (pe_ix ix_tup (pe_ix ix_list (pv 1) (pe_un un_neg pe_int) (fun _ _ => rfl)) pe_int (fun _ _ => rfl)) pe_int) pa_nil))) (pg_sub (pv 1) (pe_un un_neg pe_int) set_list))) (pss_one (ps_expr (pe_bm PySem.F.plainAttrs_list PySem.F.slot_list_append PySem.F.type_list_append mt_append (pv 1) (pa_cons (pe_tup (pa_cons (pv 2) (pa_cons pe_int pa_nil))) pa_nil)))))))
    (pss_one (ps_ret (pv 1))))), ?_⟩
  refine ⟨Nat.zero_le _, fun D hD => ?_⟩
  have s1 := same_new hD (.lst [])
  have hL : upd H D (.lst []) D = some (.lst []) := upd_same
  generalize upd H D (.lst []) = H1 at *
  refine ⟨_, rfl, _, rfl, for_str (l := l) (fun i σ F => ∃ x2 : Option V, σ = [some (.str (S l)), some (.ref D), x2] ∧ Same H F ∧ RunsAt F D (rle (l.take i)) ∧ (rle (l.take i)).length ≤ i) ⟨_, rfl, s1, ⟨[], hL, rfl, fun i x p h => by cases h⟩, Nat.le_refl _⟩ ?_ ?_⟩
  · rintro i c σ F hc ⟨x2, rfl, sF, rA, rl⟩
    have tk : l.take (i + 1) = l.take i ++ [c] := by rw [List.take_add_one, hc]; rfl
    have hi : i < l.length := (List.getElem?_eq_some_iff.mp hc).1
    obtain ⟨xs, a, b, d⟩ := id rA
    generalize hrr : rle (l.take i) = rr at rA rl b d
    refine ⟨_, rfl, D, _, rfl, .inl (SqL.of a), _, _, rfl, rfl, _, rfl, ?_⟩
    rw [List.length_map, b]
    have es : rstep rr c = match rr.getLast? with
      | some p => if p.1 = c then rr.dropLast ++ [(c, p.2 + 1)] else rr ++ [(c, 1)]
      | none => rr ++ [(c, 1)] := rfl
    cases e : rr.getLast? with
    | none =>
      have e0 : rr = [] := List.getLast?_eq_none_iff.mp e
      rw [e] at es
      dsimp only at es
      rw [decide_eq_false (by rw [e0]; decide : ¬ (0 : Int) < (rr.length : Int))]
      refine iteF (iteF ?_)
      refine ⟨_, rfl, .inl ⟨rfl, _, SqL.of a⟩, _, rfl, fits (by show 2 ≤ 16777216; decide), fun p1 hp1 => ?_⟩
      have u1 := same_new hp1 (.tup [V.str (S [c]), V.int 1])
      have ht : upd F p1 (.tup [V.str (S [c]), V.int 1]) p1 = some (.tup (vR (c, 1))) := upd_same
      generalize upd F p1 (.tup [V.str (S [c]), V.int 1]) = G at u1 ht
      have a' := u1 _ _ a
      refine ⟨D, _, _, rfl, rfl, a', Nat.lt_of_lt_of_le (by rw [List.length_map, b]; omega) sizeLine_big, ?_⟩
      refine ⟨_, rfl, same_upd (sF.trans u1) hD, ?_, ?_⟩
      · rw [tk, rle_snoc, hrr, es]
        exact RunsAt.push a' b (fun i x q h1 h2 => u1 _ _ (d i x q h1 h2)) ht
      · rw [tk, rle_snoc, hrr, es, List.length_append]
        show _ + 1 ≤ _
        omega
    | some p =>
      have er := last_split e
      rw [e] at es
      dsimp only at es
      generalize rr.dropLast = A at es er
      subst er
      have lA : (A ++ [p]).length = A.length + 1 := by rw [List.length_append]; rfl
      rw [decide_eq_true (by rw [lA]; omega : (0 : Int) < ((A ++ [p]).length : Int))]
      have bx : xs.length = A.length + 1 := by rw [b, lA]
      obtain ⟨y, hy⟩ : ∃ y, xs[A.length]? = some y := ⟨_, List.getElem?_eq_getElem (by omega)⟩
      have hp : (A ++ [p])[A.length]? = some p := by rw [List.getElem?_append_right (Nat.le_refl _), Nat.sub_self]; rfl
      have hyt := d _ _ _ hy hp
      have neg : atI (xs.map V.ref) (-1) = some (V.ref y) := at_neg1 (by rw [List.length_map, bx]) (by rw [List.getElem?_map, hy]; rfl)
      refine iteT ⟨_, rfl, _, rfl, D, _, _, _, rfl, rfl, SqL.of a, neg, y, _, _, _, rfl, rfl, SqT.of hyt, at_of (j := 0) rfl rfl, _, rfl, rfl, _, rfl, ?_⟩
      have ec : decide (V.str (S [p.1]) = V.str (S [c])) = decide (p.1 = c) := decide_eq_decide.mpr ⟨fun h => (List.cons.inj (S_inj (V.str.inj h))).1, fun h => by rw [h]⟩
      rw [ec]
      refine ite2 (fun k => ?_) (fun k => ?_)
      · rw [if_pos (of_decide_eq_true k)] at es
        refine ⟨_, rfl, _, rfl, _, rfl, D, _, _, _, rfl, rfl, SqL.of a, neg, y, _, _, _, rfl, rfl, SqT.of hyt, at_of (j := 1) rfl rfl, _, _, rfl, rfl, fits (by show 2 ≤ 16777216; decide), fun p1 hp1 => ?_⟩
        have u1 := same_new hp1 (.tup [V.str (S [c]), V.int ((p.2 : Int) + 1)])
        have ht : upd F p1 (.tup [V.str (S [c]), V.int ((p.2 : Int) + 1)]) p1 = some (.tup (vR (c, p.2 + 1))) := upd_same
        generalize upd F p1 (.tup [V.str (S [c]), V.int ((p.2 : Int) + 1)]) = G at u1 ht
        have a' := u1 _ _ a
        refine ⟨_, rfl, _, rfl, D, _, _, xs.length - 1, rfl, rfl, a', ixN_last (by rw [List.length_map]; omega), ?_⟩
        refine ⟨_, rfl, same_upd (sF.trans u1) hD, ?_, ?_⟩
        · rw [tk, rle_snoc, hrr, es]
          exact RunsAt.last a' b (fun i x q h1 h2 => u1 _ _ (d i x q h1 h2)) ht
        · rw [tk, rle_snoc, hrr, es, List.length_append]
          rw [lA] at rl
          show A.length + 1 ≤ _
          omega
      · rw [if_neg (fun z => k (decide_eq_true z))] at es
        refine ⟨_, rfl, .inl ⟨rfl, _, SqL.of a⟩, _, rfl, fits (by show 2 ≤ 16777216; decide), fun p1 hp1 => ?_⟩
        have u1 := same_new hp1 (.tup [V.str (S [c]), V.int 1])
        have ht : upd F p1 (.tup [V.str (S [c]), V.int 1]) p1 = some (.tup (vR (c, 1))) := upd_same
        generalize upd F p1 (.tup [V.str (S [c]), V.int 1]) = G at u1 ht
        have a' := u1 _ _ a
        refine ⟨D, _, _, rfl, rfl, a', Nat.lt_of_lt_of_le (by rw [List.length_map, b]; omega) sizeLine_big, ?_⟩
        refine ⟨_, rfl, same_upd (sF.trans u1) hD, ?_, ?_⟩
        · rw [tk, rle_snoc, hrr, es]
          exact RunsAt.push a' b (fun i x q h1 h2 => u1 _ _ (d i x q h1 h2)) ht
        · rw [tk, rle_snoc, hrr, es, List.length_append]
          show _ + 1 ≤ _
          omega
  · rintro σ F ⟨x2, rfl, sF, rA, _⟩
    rw [List.take_length] at rA
    exact ⟨_, rfl, q D F sF hD rA⟩
end
section
variable {P : Program} {w : World} {K : PySem.W.Frag} {mg : Str → Option Value} {base : Heap} {f : Addr} {fd : FuncData}
theorem ok__law_text (F : Fun K "_law_text" "_law_text" s_law_text f fd) (y_str : mg "str" = none)  : FnOk P w K mg base CX0 1 f fd ["runs"] spText := by
  refine F.ok sc_law_text (fun vs H Q E h => ?_) (fun cdv A outer s H vs Q E hr h => ?_)
  · obtain ⟨a, rr, rfl, hA, hl, hb, q⟩ := h
    rfl
  obtain ⟨a, rr, rfl, hA, hl, hb, q⟩ := h
  refine ⟨_, (pss_cons (ps_set (i := 1) sc_law_text.nd rfl (.inl rfl) (pe_lst pa_nil))
    (pss_cons (ps_for PassesOwn.never rfl (pi_list (pv 0)) (pg_tup (by rfl) (pgs_cons (pg_name (i := 2) sc_law_text.nd rfl (.inl rfl)) (pgs_cons (pg_name (i := 3) sc_law_text.nd rfl (.inl rfl)) pgs_nil)))
    (pss_one (ps_if (pt_cmpR op_eq (pv 3) pe_int (nomark _)) (pss_one (ps_expr (pe_bm PySem.F.plainAttrs_list PySem.F.slot_list_append PySem.F.type_list_append mt_append (pv 1) (pa_cons (pv 2) pa_nil)))) (pss_one (ps_expr (pe_bm PySem.F.plainAttrs_list PySem.F.slot_list_append PySem.F.type_list_append mt_append (pv 1) (pa_cons (pe_op op_add_str (pv 2) (pe_callTy call_str_int rfl y_str (by decide +kernel) (pa_cons (pv 3) pa_nil))) pa_nil)))))))
    (pss_one (ps_ret (pe_join pe_str (pv 1)))))), ?_⟩
  refine ⟨Nat.zero_le _, fun D hD => ?_⟩
  have s1 := same_new hD (.lst [])
  have hL : upd H D (.lst []) D = some (.lst []) := upd_same
  generalize upd H D (.lst []) = H1 at *
  obtain ⟨xs, xa, xb, xd⟩ := id hA
  refine ⟨_, rfl, a, rfl, ⟨_, SqL.of (s1 _ _ xa)⟩, for_list (K := K) (a := a) (xs := xs.map V.ref) (fun i σ F => ∃ x2 x3 : Option V, σ = [some (.ref a), some (.ref D), x2, x3] ∧ Same H F ∧ F D = some (.lst ((rr.take i).map fun p => V.str (S (wr p))))) ⟨_, _, rfl, s1, hL⟩ (fun i σ F _ h => by obtain ⟨_, _, _, sF, _⟩ := h; exact SqL.of (sF _ _ xa)) ?_ ?_⟩
  · rintro i x σ F hx ⟨x2, x3, rfl, sF, hF⟩
    rw [List.getElem?_map] at hx
    obtain ⟨y, hy, rfl⟩ := Option.map_eq_some_iff.mp hx
    have hi : i < rr.length := by rw [← xb]; exact (List.getElem?_eq_some_iff.mp hy).1
    have hp : rr[i]? = some rr[i] := List.getElem?_eq_getElem hi
    generalize rr[i] = p at hp
    have pm := List.mem_of_getElem? hp
    have pb := hb p pm
    have tk : rr.take (i + 1) = rr.take i ++ [p] := by rw [List.take_add_one, hp]; rfl
    have hyt := sF _ _ (xd i y p hy hp)
    refine ⟨y, _, rfl, SqT.of hyt, rfl, _, _, rfl, _, _, rfl, rfl, ?_⟩
    refine ⟨_, rfl, rfl, _, rfl, ?_⟩
    rw [show decide (V.int (p.2 : Int) = V.int 1) = decide (p.2 = 1) from decide_eq_decide.mpr ⟨fun e => by have := V.int.inj e; omega, fun e => by rw [e]; rfl⟩]
    have fin : ∀ z : Str, z = S (wr p) → ∃ x2' x3' : Option V, [some (V.ref a), some (V.ref D), some (V.str (S [p.1])), some (V.int (p.2 : Int))] = [some (.ref a), some (.ref D), x2', x3'] ∧ Same H (upd F D (.lst ((rr.take i).map (fun p => V.str (S (wr p))) ++ [V.str z]))) ∧ upd F D (.lst ((rr.take i).map (fun p => V.str (S (wr p))) ++ [V.str z])) D = some (.lst ((rr.take (i + 1)).map fun p => V.str (S (wr p)))) := fun z e =>
      ⟨_, _, rfl, same_upd sF hD, by rw [upd_same, tk, List.map_append, e]; rfl⟩
    have big : ((rr.take i).map fun p => V.str (S (wr p))).length < sizeLine := Nat.lt_of_lt_of_le (by rw [List.length_map, List.length_take]; omega) sizeLine_big
    refine ite2 (fun k => ?_) (fun k => ?_)
    · refine ⟨_, rfl, .inl ⟨rfl, _, SqL.of hF⟩, _, rfl, D, _, _, rfl, rfl, hF, big, ?_⟩
      exact fin _ (by unfold wr; rw [if_pos (of_decide_eq_true k)])
    · have k' : ¬ p.2 = 1 := fun z => k (decide_eq_true z)
      refine ⟨_, rfl, .inl ⟨rfl, _, SqL.of hF⟩, _, rfl, _, rfl, _, rfl, small_log (i := (p.2 : Int)) (by omega) (by omega), _, _, rfl, rfl, ?_, D, _, _, rfl, rfl, hF, big, ?_⟩
      · have := num_len (i := (p.2 : Int)) (by omega) (by omega)
        rw [S_len]
        exact fits (by show 1 + _ ≤ _; omega)
      · exact fin _ (by rw [num_lc (by omega), S_app]; unfold wr; rw [if_neg k']; rfl)
  · rintro σ F ⟨x2, x3, rfl, sF, hF⟩
    rw [List.length_map, xb, List.take_length] at hF
    refine ⟨⟨_, rfl⟩, _, rfl, _, D, rr.map fun p => S (wr p), rfl, rfl, .inl (SqL.of (by rw [List.map_map]; exact hF)), ?_, ?_⟩
    · have := wr_sum (rr := rr) hb
      omega
    · have e : Txt.join (Str.ofString " ") (rr.map fun p => S (wr p)) = S (txt rr) := by
        rw [show Str.ofString " " = S [32] from e_sp]
        unfold txt
        rw [joinS, List.map_map]
        rfl
      rw [e]
      exact q F sF
end
section
variable {P : Program} {w : World} {K : PySem.W.Frag} {mg : Str → Option Value} {base : Heap} {f : Addr} {fd : FuncData}
theorem ok__law_split (F : Fun K "_law_split" "_law_split" s_law_split f fd) (D_take : Dfn P w K mg base "_law_take" 1 ["tape", "many"] spTake) (y_str : mg "str" = none)  : FnOk P w K mg base CX0 2 f fd ["tape", "runs"] spSplit := by
  refine F.ok sc_law_split (fun vs H Q E h => ?_) (fun cdv A outer s H vs Q E hr h => ?_)
  · obtain ⟨t, a, rr, rfl, tp, hA, hR, hl, q⟩ := h
    rfl
  obtain ⟨t, a, rr, rfl, tp, hA, hR, hl, q⟩ := h
  refine ⟨_, (pss_cons (ps_set (i := 2) sc_law_split.nd rfl (.inl rfl) (pe_lst pa_nil))
    (pss_cons (ps_for PassesOwn.never rfl (pi_list (pv 1)) (pg_tup (by rfl) (pgs_cons (pg_name (i := 3) sc_law_split.nd rfl (.inl rfl)) (pgs_cons (pg_name (i := 4) sc_law_split.nd rfl (.inl rfl)) pgs_nil)))
    (pss_cons (ps_set (i := 5) sc_law_split.nd rfl (.inl rfl) (pe_do D_take hr (pa_cons (pv 0) (pa_cons (pv 4) pa_nil))))
    (pss_cons (ps_if (pt_cmpR op_gt (pv 5) pe_int (nomark _)) (pss_one (ps_expr (pe_bm PySem.F.plainAttrs_list PySem.F.slot_list_append PySem.F.type_list_append mt_append (pv 2) (pa_cons (pe_op op_add_str (pv 3) (pe_callTy call_str_int rfl y_str (by decide +kernel) (pa_cons (pv 5) pa_nil))) pa_nil)))) pss_nil)
    (pss_one (ps_expr (pe_bm PySem.F.plainAttrs_list PySem.F.slot_list_append PySem.F.type_list_append mt_append (pv 2) (pa_cons (pe_op op_add_str (pv 3) (pe_callTy call_str_int rfl y_str (by decide +kernel) (pa_cons (pe_op op_sub (pv 4) (pv 5)) pa_nil))) pa_nil)))))))
    (pss_one (ps_ret (pe_join pe_str (pv 2)))))), ?_⟩
  refine ⟨Nat.zero_le _, fun D hD => ?_⟩
  have b1 : But t H (upd H D (.lst [])) := But.of (same_new hD (.lst []))
  have t1 := tp.same (same_new hD (.lst []))
  have hL : upd H D (.lst []) D = some (.lst []) := upd_same
  have nD : D ≠ t := tp.ne hD
  generalize upd H D (.lst []) = H1 at *
  have few := runs_few hR
  obtain ⟨xs, xa, xb, xd⟩ := id hA
  have na := tp.nil_ne xa refs_no
  refine ⟨_, rfl, a, rfl, ⟨_, SqL.of (b1 _ _ na xa)⟩, for_list (K := K) (a := a) (xs := xs.map V.ref) (fun i σ F => ∃ (x3 x4 x5 : Option V) (W : List (List Nat)), σ = [some (.ref t), some (.ref a), some (.ref D), x3, x4, x5] ∧ But t H F ∧ Tape F t ∧ F D = some (.lst (W.map fun w => V.str (S w))) ∧ (W.map val).flatten = fl (rr.take i) ∧ (∀ w ∈ W, okd w = true ∧ w.length ≤ 10) ∧ W.length ≤ 2 * i) ⟨_, _, _, [], rfl, b1, t1, hL, rfl, fun w h => (by cases h), Nat.le_refl _⟩ (fun i σ F _ h => by obtain ⟨_, _, _, _, _, bF, _⟩ := h; exact SqL.of (bF _ _ na xa)) ?_ ?_⟩
  · rintro i x σ F hx ⟨x3, x4, x5, W, rfl, bF, tF, hF, eW, oW, lW⟩
    rw [List.getElem?_map] at hx
    obtain ⟨y, hy, rfl⟩ := Option.map_eq_some_iff.mp hx
    have hi : i < rr.length := by rw [← xb]; exact (List.getElem?_eq_some_iff.mp hy).1
    have hp : rr[i]? = some rr[i] := List.getElem?_eq_getElem hi
    generalize rr[i] = p at hp
    have pm := List.mem_of_getElem? hp
    have pb := run_le pm
    have p1 := hR.pos p pm
    have pl := hR.let' p pm
    have tk : fl (rr.take (i + 1)) = fl (rr.take i) ++ List.replicate p.2 p.1 := by rw [List.take_add_one, hp, fl_app]; show _ ++ fl [(p.1, p.2)] = _; rw [fl_one]
    have hyt := bF _ _ (tp.nil_ne (xd i y p hy hp) fun _ _ _ _ z => nomatch z) (xd i y p hy hp)
    refine ⟨y, _, rfl, SqT.of hyt, rfl, _, _, rfl, _, _, rfl, rfl, ?_⟩
    refine ⟨_, rfl, _, rfl, t, (p.2 : Int), rfl, tF, by omega, by omega, fun r F2 r0 r1 b2 t2 => ?_⟩
    obtain ⟨n, rfl⟩ := Int.eq_ofNat_of_zero_le r0
    have np : n < p.2 := by omega
    have hF2 := b2 _ _ nD hF
    have bF2 := bF.trans b2
    refine ⟨_, rfl, _, _, rfl, rfl, _, rfl, ?_⟩
    have big : ∀ V : List (List Nat), V.length ≤ 2 * i + 1 → (V.map fun w => L2.V.str (S w)).length < sizeLine := fun V h => Nat.lt_of_lt_of_le (by rw [List.length_map]; omega) sizeLine_big
    have nl : ∀ m : Nat, m ≤ 60 → (S [p.1]).length + (Str.ofString (toString (m : Int))).length ≤ sizeLine := fun m hm => by
      have := num_len (i := (m : Int)) (by omega) (by omega)
      rw [S_len]
      exact fits (by show 1 + _ ≤ _; omega)
    have wd' : ∀ m : Nat, S [p.1] ++ Str.ofString (toString (m : Int)) = S (p.1 :: TL.numL m) := fun m => by rw [num_lc (by omega), S_app]; rfl
    have ok' : ∀ m : Nat, 1 ≤ m → m ≤ 60 → okd (p.1 :: TL.numL m) = true ∧ (p.1 :: TL.numL m).length ≤ 10 := fun m h1 h2 => ⟨okd_num pl h1 (by omega), by
      have l9 : (TL.numL m).length ≤ 9 := TL.numL_len (by decide) (by have : (10 : Nat) ^ 9 = 1000000000 := rfl; omega)
      rw [List.length_cons]; omega⟩
    refine ite2 (fun k => ?A) (fun k => ?B)
    case' A =>
      have n1 : 1 ≤ n := by have : (0 : Int) < (n : Int) := of_decide_eq_true k; omega
      refine ⟨_, rfl, .inl ⟨rfl, _, SqL.of hF2⟩, _, rfl, _, rfl, _, rfl, small_log (i := (n : Int)) (by omega) (by omega), _, _, rfl, rfl, nl n (by omega), D, _, _, rfl, rfl, hF2, big W (by omega), ?_⟩
      rw [wd']
      obtain ⟨F3, h3, W3, e3, l3, o3, b3, t3⟩ : ∃ F3, upd F2 D (.lst (W.map (fun w => V.str (S w)) ++ [V.str (S (p.1 :: TL.numL n))])) = F3 ∧ ∃ W3 : List (List Nat), F3 D = some (.lst (W3.map fun w => V.str (S w))) ∧ W3.length ≤ 2 * i + 1 ∧ ((∀ w ∈ W3, okd w = true ∧ w.length ≤ 10) ∧ (W3.map val).flatten = fl (rr.take i) ++ List.replicate n p.1) ∧ But t H F3 ∧ Tape F3 t := by
        refine ⟨_, rfl, W ++ [p.1 :: TL.numL n], by rw [upd_same, List.map_append]; rfl, by rw [List.length_append]; show W.length + 1 ≤ _; omega, ⟨fun w hw => ?_, ?_⟩, but_upd bF2 hD, tape_up t2 nD⟩
        · rcases List.mem_append.mp hw with h | h
          · exact oW w h
          · rw [List.mem_singleton.mp h]; exact ok' n n1 (by omega)
        · rw [List.map_append, List.flatten_append, eW]
          show _ ++ (val (p.1 :: TL.numL n) ++ []) = _
          rw [val_num (by omega), List.append_nil]
      rw [h3]
      clear h3
    case' B =>
      have n0 : n = 0 := by have : ¬ (0 : Int) < (n : Int) := fun z => k (decide_eq_true z); omega
      obtain ⟨F3, h3, W3, e3, l3, o3, b3, t3⟩ : ∃ F3, F2 = F3 ∧ ∃ W3 : List (List Nat), F3 D = some (.lst (W3.map fun w => V.str (S w))) ∧ W3.length ≤ 2 * i + 1 ∧ ((∀ w ∈ W3, okd w = true ∧ w.length ≤ 10) ∧ (W3.map val).flatten = fl (rr.take i) ++ List.replicate n p.1) ∧ But t H F3 ∧ Tape F3 t :=
        ⟨F2, rfl, W, hF2, by omega, ⟨oW, by rw [eW, n0]; exact (List.append_nil _).symm⟩, bF2, t2⟩
      rw [h3]
      clear h3
    all_goals
      have ed : ((p.2 : Int) - (n : Int)) = ((p.2 - n : Nat) : Int) := by omega
      refine ⟨_, rfl, .inl ⟨rfl, _, SqL.of e3⟩, _, rfl, _, rfl, _, rfl, _, _, rfl, rfl, ?_⟩
      refine ⟨((p.2 - n : Nat) : Int), congrArg (fun z : Int => [V.int z]) ed, small_log (i := ((p.2 - n : Nat) : Int)) (by omega) (by omega), _, _, rfl, rfl, nl (p.2 - n) (by omega), D, _, _, rfl, rfl, e3, big W3 l3, ?_⟩
      rw [wd']
      refine ⟨_, _, _, W3 ++ [p.1 :: TL.numL (p.2 - n)], rfl, but_upd b3 hD, tape_up t3 nD, by rw [upd_same, List.map_append]; rfl, ?_, fun w hw => ?_, by rw [List.length_append]; show W3.length + 1 ≤ _; omega⟩
      · rw [List.map_append, List.flatten_append, o3.2, tk]
        show _ ++ (val (p.1 :: TL.numL (p.2 - n)) ++ []) = _
        rw [val_num (by omega), List.append_nil, List.append_assoc, List.replicate_append_replicate, show n + (p.2 - n) = p.2 by omega]
      · rcases List.mem_append.mp hw with h | h
        · exact o3.1 w h
        · rw [List.mem_singleton.mp h]; exact ok' _ (by omega) (by omega)
  · rintro σ F ⟨x3, x4, x5, W, rfl, bF, tF, hF, eW, oW, lW⟩
    rw [List.length_map, xb, List.take_length] at eW
    rw [List.length_map, xb] at lW
    have em : (W.map fun w => V.str (S w)) = (W.map S).map V.str := by rw [List.map_map]; rfl
    have jl := joinL_len (n := 10) W fun w h => (oW w h).2
    have jb := joinL_blanks W fun w h => (okd_blank (oW w h).1).2
    have jr := rdz_join (W := W) fun w h => (oW w h).1
    rw [eW] at jr
    refine ⟨⟨_, rfl⟩, _, rfl, _, D, W.map S, rfl, rfl, .inl (SqL.of (by rw [← em]; exact hF)), ?_, ?_⟩
    · rw [sum_flat, List.length_map, show (Str.ofString " ").length = 1 from by decide +kernel]
      have := flat_le (n := 10) W fun w h => (oW w h).2
      omega
    · rw [show Str.ofString " " = S [32] from e_sp, ← joinS]
      exact q _ F jr (by omega) (by omega) bF tF
end
section
variable {P : Program} {w : World} {K : PySem.W.Frag} {mg : Str → Option Value} {base : Heap} {f : Addr} {fd : FuncData}
theorem ok__law_word (F : Fun K "_law_word" "_law_word" s_law_word f fd) (y_len : mg "len" = none) (y_int : mg "int" = none)  : FnOk P w K mg base CX0 1 f fd ["word"] spWordL := by
  refine F.ok sc_law_word (fun vs H Q E h => ?_) (fun cdv A outer s H vs Q E hr h => ?_)
  · obtain ⟨l, rfl, hl, q⟩ := h
    rfl
  obtain ⟨l, rfl, hl, q⟩ := h
  refine ⟨_, (pss_cons (ps_if (PW.pt (pw_or (pt_cmpR op_eq (pv 0) pe_str (nomark _)) (pw_or1 (pt_cmpR op_notIn_sign (pe_ix ix_str (pv 0) pe_int (fun _ _ => rfl)) pe_str rfl)))) (pss_one (ps_ret pe_non)) pss_nil)
    (pss_cons (ps_if (pt_cmpR op_eq (pe_callB call_len_str rfl y_len PySem.boot_len (pa_cons (pv 0) pa_nil)) pe_int (nomark _)) (pss_one (ps_ret (pv 0))) pss_nil)
    (pss_cons (ps_set (i := 1) sc_law_word.nd rfl (.inl rfl) (pe_slice sl_str (pv 0) (po_some pe_int) po_none))
    (pss_cons (ps_if (PW.pt (pw_or (pt_cmpR op_gt (pe_callB call_len_str rfl y_len PySem.boot_len (pa_cons (pv 1) pa_nil)) pe_int (nomark _)) (pw_or (pt_cmpR op_eq (pe_ix ix_str (pv 1) pe_int (fun _ _ => rfl)) pe_str (nomark _)) (pw_or1 (pt_cmpR op_gt (pe_callB call_len_seq rfl y_len PySem.boot_len (pa_cons (pe_lc (own := [("char", 2)]) (g := (gName 2)) (by rfl) sc_law_word.nd (pi_str (pv 1)) (blkOk_by (own := [("char", 2)]) (N := ["word", "digits", "char"]) (sc := defScope s_law_word) (by decide +kernel)) (fun _ _ _ _ _ => pg_name (i := 2) sc_law_word.nd rfl (Or.inl rfl)) (fun _ _ _ _ _ => (pts_one (pt_cmpR op_notIn_sign (pv 2) pe_str rfl))) (fun _ _ _ _ _ => (pv 2))) pa_nil)) pe_int (nomark _)))))) (pss_one (ps_ret pe_non)) pss_nil)
    (pss_cons (ps_if (pt_cmpR op_ge (pe_callTy call_int_str rfl y_int (by decide +kernel) (pa_cons (pv 1) pa_nil)) pe_int (nomark _)) (pss_one (ps_ret pe_str)) pss_nil)
    (pss_one (ps_ret (pe_op op_mul_str (pe_ix ix_str (pv 0) pe_int (fun _ _ => rfl)) (pe_callTy call_int_str rfl y_int (by decide +kernel) (pa_cons (pv 1) pa_nil)))))))))), ?_⟩
  have ee : (decide (V.str (S l) = V.str "")) = decide (l = []) := by rw [e_empty]; exact decide_eq_decide.mpr tx_iff
  refine ⟨_, rfl, rfl, _, rfl, ?_⟩
  rw [ee]
  match l with
  | [] => exact iteT (iteT (q H (Same.refl H)))
  | c :: r =>
    rw [List.length_cons] at hl
    refine iteF ?_
    refine ⟨_, rfl, S (c :: r), _, c, rfl, rfl, by rw [S_len]; exact fits (by rw [List.length_cons]; omega), by rw [S_list]; exact atI_nat (j := 0) rfl, c, _, rfl, rfl, _, rfl, ?_⟩
    rw [show decide (c ∈ (Str.ofString "TUR").cps.toList) = letter c from tur_in c]
    cases hc : letter c
    · have e : wv (c :: r) = .non := by unfold wv; rw [okd_cons, hc]; rfl
      rw [e] at q
      exact iteT (q H (Same.refl H))
    refine iteF ?_
    have eo : okd (c :: r) = (decide (r = []) || cnt r) := by rw [okd_cons, hc, Bool.true_and]
    refine ⟨_, rfl, _, rfl, by rw [S_len]; exact fits (by rw [List.length_cons]; omega), ?_⟩
    rw [S_len, List.length_cons]
    refine ⟨rfl, _, rfl, ?_⟩
    rw [show decide (V.int ((r.length + 1 : Nat) : Int) = V.int 1) = decide (r = []) from decide_eq_decide.mpr ⟨fun e => by have := V.int.inj e; exact List.length_eq_zero_iff.mp (by omega), fun e => by rw [e]; rfl⟩]
    refine ite2 (fun c1 => ?_) (fun c1 => ?_)
    · have c' : r = [] := of_decide_eq_true c1
      subst c'
      have e : wv [c] = .str (S [c]) := by unfold wv; rw [eo]; rfl
      rw [e] at q
      exact ⟨_, rfl, q H (Same.refl H)⟩
    have c' : r ≠ [] := by simpa using c1
    rw [show decide (r = []) = false by simpa using c1, Bool.false_or] at eo
    refine ⟨_, rfl, _, rfl, _, rfl, by rw [S_len]; exact fits (by rw [List.length_cons]; omega), ?_⟩
    rw [S_drop (c :: r) (show (0 : Int) ≤ 1 by decide)]
    have wn : cnt r = false → wv (c :: r) = .non := fun e => by unfold wv; rw [eo, e]; rfl
    refine ⟨_, rfl, _, rfl, by rw [S_len]; exact fits (by show r.length ≤ _; omega), _, _, rfl, rfl, _, rfl, ?_⟩
    rw [S_len]
    show if decide ((9 : Int) < (r.length : Int)) = true then _ else _
    refine ite2 (fun c2 => iteT ?_) (fun c2 => ?_)
    · have k : (9 : Int) < (r.length : Int) := of_decide_eq_true c2
      have e : cnt r = false := by unfold cnt; rw [decide_eq_true (show 9 < r.length by omega)]; simp
      have := wn e
      rw [this] at q
      exact q H (Same.refl H)
    have k2 : ¬ 9 < r.length := fun z => c2 (decide_eq_true (by omega))
    obtain ⟨d, r', rfl⟩ : ∃ d r', r = d :: r' := by
      cases r with
      | nil => exact absurd rfl c'
      | cons d r' => exact ⟨d, r', rfl⟩
    refine ⟨_, rfl, S (d :: r'), _, d, rfl, rfl, by rw [S_len]; exact fits (by omega), by rw [S_list]; exact atI_nat (j := 0) rfl, rfl, _, rfl, ?_⟩
    rw [show decide (V.str ⟨#[d]⟩ = V.str "0") = decide (d = 48) from decide_eq_decide.mpr (sign_eq (c := d) (n := 48) (by decide +kernel))]
    have ec : cnt (d :: r') = (!decide (d = 48) && (d :: r').all dig) := by
      unfold cnt
      rw [decide_eq_false c', decide_eq_false k2]
      simp
    refine ite2 (fun c3 => iteT ?_) (fun c3 => ?_)
    · have := wn (by rw [ec, c3]; rfl)
      rw [this] at q
      exact q H (Same.refl H)
    have ec2 : cnt (d :: r') = (d :: r').all dig := by rw [ec, show decide (d = 48) = false by simpa using c3]; rfl
    generalize hr' : d :: r' = r at *
    refine ⟨_, rfl, _, rfl, fun D hD => lc_str (l := r) (fun i G => Same H G ∧ G D = some (.lst (((r.take i).filter fun c => !dig c).map fun c => V.str (S [c])))) ⟨same_new hD _, upd_same⟩ ?_ ?_⟩
    · rintro i ch G hc' ⟨sG, hG⟩
      refine ⟨rfl, ?_⟩
      refine ⟨_, rfl, ch, _, rfl, rfl, _, rfl, ?_⟩
      rw [show decide (ch ∈ (Str.ofString "0123456789").cps.toList) = dig ch from dig_in ch]
      have tk : r.take (i + 1) = r.take i ++ [ch] := by rw [List.take_add_one, hc']; rfl
      cases hd : dig ch
      · refine iteT ⟨_, rfl, _, hG, Nat.lt_of_lt_of_le (by rw [List.length_map]; have := List.length_filter_le (fun c => !dig c) (r.take i); rw [List.length_take] at this; omega) sizeLine_big, fun b o hb => ?_, ?_⟩
        · rw [upd_ne (ne_of_none hb hD)]; exact sG _ _ hb
        · rw [upd_same, tk, List.filter_append, List.map_append, List.filter_cons_of_pos (by rw [hd]; rfl)]; rfl
      · refine iteF ⟨sG, ?_⟩
        rw [tk, List.filter_append, List.filter_cons_of_neg (by rw [hd]; decide), hG, List.filter_nil, List.append_nil]
    rintro G ⟨sG, hG⟩
    rw [List.take_length] at hG
    refine ⟨D, _, rfl, .inl (SqL.of hG), _, _, rfl, rfl, _, rfl, ?_⟩
    rw [List.length_map]
    refine ite2 (fun c4 => ?_) (fun c4 => ?_)
    · have k : r.all dig = false := by
        cases e : r.all dig with
        | false => rfl
        | true =>
          have : r.filter (fun c => !dig c) = [] := List.filter_eq_nil_iff.mpr fun x hx => by rw [List.all_eq_true.mp e x hx]; decide
          rw [this] at c4
          exact absurd c4 (by decide)
      have := wn (by rw [ec2, k])
      rw [this] at q
      exact q G sG
    have da : r.all dig = true := by
      rw [List.all_eq_true]
      intro x hx
      cases e : dig x with
      | true => rfl
      | false =>
        have : x ∈ r.filter (fun c => !dig c) := List.mem_filter.mpr ⟨hx, by rw [e]; rfl⟩
        exact absurd (decide_eq_true (by have := List.length_pos_of_mem this; omega)) c4
    have ck : cnt r = true := by rw [ec2, da]
    obtain ⟨n, en, ei⟩ := nv_nat ck
    refine ⟨_, rfl, S r, _, rfl, ei, by rw [S_len]; omega, ?_⟩
    refine ⟨_, _, rfl, rfl, _, rfl, ?_⟩
    have el : long (c :: r) = decide (100000 ≤ n) := by rw [long_cons, decide_eq_false c', en]; rfl
    have wo : wv (c :: r) = if long (c :: r) = true then .str (S lng) else .str (S (val (c :: r))) := by
      unfold wv
      rw [eo, ck, if_pos rfl]
    refine ite2 (fun c5 => ?_) (fun c5 => ?_)
    · have k : (100000 : Int) ≤ (n : Int) := of_decide_eq_true c5
      rw [el, decide_eq_true (by omega : 100000 ≤ n), if_pos rfl] at wo
      rw [wo] at q
      show Q (.str (Str.ofString "long")) G
      rw [e_long]
      exact q G sG
    · have k : ¬ (100000 : Int) ≤ (n : Int) := fun z => c5 (decide_eq_true z)
      rw [el, decide_eq_false (by omega : ¬ 100000 ≤ n), if_neg Bool.false_ne_true] at wo
      rw [wo] at q
      refine ⟨_, rfl, S (c :: r), _, c, rfl, rfl, by rw [S_len]; exact fits (by rw [List.length_cons]; omega), by rw [S_list]; exact atI_nat (j := 0) rfl, _, rfl, S r, _, rfl, ei, by rw [S_len]; omega, ?_⟩
      refine ⟨[c], (n : Int), rfl, rfl, by omega, by have : (2 : Int) ^ 62 = 4611686018427387904 := rfl; omega, by show 1 * _ ≤ _; omega, ?_⟩
      have e : (List.replicate ((n : Int)).toNat [c]).flatten = val (c :: r) := by
        rw [val_cons, if_neg c', en]
        show (List.replicate n [c]).flatten = List.replicate n c
        generalize n = m
        induction m with
        | zero => rfl
        | succ m ih => rw [List.replicate_succ, List.flatten_cons, ih, List.replicate_succ]; rfl
      rw [e]
      exact q G sG
end
section
variable {P : Program} {w : World} {K : PySem.W.Frag} {mg : Str → Option Value} {base : Heap} {f : Addr} {fd : FuncData}
theorem ok__law_read (F : Fun K "_law_read" "_law_read" s_law_read f fd) (D__law_word : Dfn P w K mg base "_law_word" 1 ["word"] spWordL)  : FnOk P w K mg base CX0 2 f fd ["text"] spReadL := by
  refine F.ok sc_law_read (fun vs H Q E h => ?_) (fun cdv A outer s H vs Q E hr h => ?_)
  · obtain ⟨z, rfl, hz, hW, q⟩ := h
    rfl
  obtain ⟨z, rfl, hz, hW, q⟩ := h
  refine ⟨_, (pss_cons (ps_if (pt_cmpR op_eq (pv 0) pe_str (nomark _)) (pss_one (ps_ret pe_str)) pss_nil)
    (pss_cons (ps_setLc (i := 1) (own := [("word", 2)]) (g := (gName 2)) (tt := tYes) (by rfl) sc_law_read.nd rfl rfl (sw_true rfl rfl rfl (by decide +kernel)) (pi_list (pe_split (pv 0) pe_str)) (blkOk_by (own := [("word", 2)]) (N := ["text", "parts", "word"]) (sc := defScope s_law_read) (by decide +kernel)) (fun _ _ _ _ _ => pg_name (i := 2) sc_law_read.nd rfl (Or.inl rfl)) (fun _ _ _ _ _ => pts_nil) (fun _ _ _ _ _ => (pe_do D__law_word hr (pa_cons (pv 2) pa_nil))))
    (pss_cons (ps_if (pt_cmpR op_in_seq pe_non (pv 1) (by rfl)) (pss_one (ps_ret pe_non)) pss_nil)
    (pss_cons (ps_if (pt_cmpR op_in_seq pe_str (pv 1) (by rfl)) (pss_one (ps_ret pe_str)) pss_nil)
    (pss_one (ps_ret (pe_join pe_str (pv 1)))))))), ?_⟩
  have ee : (decide (V.str z = V.str "")) = decide (lc z = []) := by
    rw [e_empty]
    exact decide_eq_decide.mpr ⟨fun h => by rw [V.str.inj h, lc_S], fun h => by rw [← S_lc z, h]⟩
  refine ⟨_, rfl, rfl, _, rfl, ?_⟩
  rw [ee]
  refine ite2 (fun c => ?_) (fun c => ?_)
  · have e : rv z = .str (S []) := by unfold rv; rw [if_pos (of_decide_eq_true c)]
    rw [e] at q
    show Q (.str (Str.ofString "")) H
    rw [show Str.ofString "" = S [] from e_empty]
    exact q H (Same.refl H)
  have c' : lc z ≠ [] := fun h => c (decide_eq_true h)
  have er : rv z = if (ws z).all (fun w => okd (lc w)) = true then (if (ws z).any (fun w => long (lc w)) = true then .str (S lng) else .str (S ((ws z).map fun w => val (lc w)).flatten)) else .non := by unfold rv; rw [if_neg c']
  refine ⟨_, rfl, ⟨_, rfl⟩, z, _, rfl, rfl, rfl, fits (by omega), fun wp hwp => ?_⟩
  rw [show Txt.split z (Str.ofString " ") = ws z by unfold ws; rw [← e_sp]]
  have wlen : ∀ w ∈ ws z, w.length ≤ z.length := fun w h => ws_len h
  generalize ws z = W at *
  have s1 := same_new hwp (.lst (W.map V.str))
  generalize hG1 : upd H wp (.lst (W.map V.str)) = G1 at s1
  have hw : G1 wp = some (.lst (W.map V.str)) := by rw [← hG1, upd_same]
  refine ⟨wp, rfl, ⟨_, SqL.of hw⟩, fun D hD => lc_list (xs := W.map V.str) (fun i G => Same G1 G ∧ G D = some (.lst ((W.take i).map fun w => wv (lc w)))) ⟨same_new hD _, upd_same⟩ (fun i G hi s => SqL.of (s.1 _ _ hw)) ?_ ?_⟩
  · rintro i x G hx ⟨sG, hG⟩
    rw [List.getElem?_map] at hx
    obtain ⟨w, hwi, rfl⟩ := Option.map_eq_some_iff.mp hx
    have wm := List.mem_of_getElem? hwi
    have wln := wlen w wm
    refine ⟨rfl, ?_⟩
    refine ⟨_, rfl, lc w, by rw [S_lc]; rfl, by rw [lc_len]; omega, fun G' s' => ?_⟩
    have hG' := s' _ _ hG
    refine ⟨_, hG', Nat.lt_of_lt_of_le (by rw [List.length_map, List.length_take]; omega) sizeLine_big, fun b o hb => ?_, ?_⟩
    · rw [upd_ne (ne_of_none hb hD)]; exact s' _ _ (sG _ _ hb)
    · rw [upd_same, List.take_add_one, hwi, List.map_append]; rfl
  rintro G ⟨sG, hG⟩
  rw [List.length_map, List.take_length] at hG
  have S1 := s1.trans sG
  refine ⟨_, rfl, D, _, rfl, .inl (SqL.of hG), rfl, wv_flat W, _, rfl, ?_⟩
  rw [show (if false = true then !(inV V.non (W.map fun w => wv (lc w))) else inV V.non (W.map fun w => wv (lc w))) = !(W.all fun w => okd (lc w)) from none_parts W]
  cases ha : W.all fun w => okd (lc w)
  · rw [ha, if_neg Bool.false_ne_true] at er
    rw [er] at q
    exact iteT (q G S1)
  refine iteF ?_
  rw [ha, if_pos rfl] at er
  have al : ∀ w ∈ W, okd (lc w) = true := fun w h => List.all_eq_true.mp ha w h
  refine ⟨_, rfl, D, _, rfl, .inl (SqL.of hG), rfl, wv_flat W, _, rfl, ?_⟩
  rw [show Str.ofString "long" = S lng from e_long]
  rw [show (if false = true then !(inV (V.str (S lng)) (W.map fun w => wv (lc w))) else inV (V.str (S lng)) (W.map fun w => wv (lc w))) = W.any fun w => long (lc w) from long_parts al]
  cases hl : W.any fun w => long (lc w)
  · refine iteF ?_
    rw [hl, if_neg Bool.false_ne_true] at er
    have nl : ∀ w ∈ W, long (lc w) = false := fun w h => by
      cases e : long (lc w) with
      | false => rfl
      | true => rw [List.any_eq_true.mpr ⟨w, h, e⟩] at hl; cases hl
    have em : (W.map fun w => wv (lc w)) = ((W.map fun w => val (lc w)).map S).map V.str := by
      rw [List.map_map, List.map_map]
      refine List.map_congr_left fun w h => ?_
      show wv (lc w) = V.str (S (val (lc w)))
      unfold wv
      rw [if_pos (al w h), nl w h, if_neg Bool.false_ne_true]
    rw [em] at hG
    have sh := flat_short (W := W.map lc) fun v hv => by
      obtain ⟨w, h, rfl⟩ := List.mem_map.mp hv
      exact nl w h
    rw [List.map_map, List.length_map] at sh
    have sh' : (W.map fun w => val (lc w)).flatten.length ≤ 99999 * W.length := sh
    refine ⟨⟨_, rfl⟩, _, rfl, _, D, _, rfl, rfl, .inl (SqL.of hG), ?_, ?_⟩
    · rw [sum_flat, show (Str.ofString "").length = 0 from by decide +kernel]
      omega
    · rw [show Str.ofString "" = S [] from e_empty, join_empty]
      rw [er] at q
      exact q G S1
  · rw [hl, if_pos rfl] at er
    rw [er] at q
    exact iteT (q G S1)
end
section
variable {P : Program} {w : World} {K : PySem.W.Frag} {mg : Str → Option Value} {base : Heap} {f : Addr} {fd : FuncData}
theorem ok__law_holds (F : Fun K "_law_holds" "_law_holds" s_law_holds f fd) (D__law_read : Dfn P w K mg base "_law_read" 4 ["text"] spReadL) (D_refused : Dfn P w K mg base "_law_refused" 4 ["text"] (spRefD Pc)) (D_same1 : Dfn P w K mg base "_law_same" 4 ["told", "due"] (spSame 1)) {C gr : Addr} {gdr : FuncData} (GR : FnOk P w K mg base (L2N.CX P w) 3 gr gdr ["text"] (spReadD C Pc)) (mR : mg "read_dance" = some (.ref gr)) (kR : PySem.W.keepIn K (.ref gr) = true) (bR : Binds K gdr ["text"] []) : FnOk P w K mg base CX0 5 f fd ["text"] (spHolds Pc) := by
  refine F.ok sc_law_holds (fun vs H Q E h => ?_) (fun cdv A outer s H vs Q E hr h => ?_)
  · obtain ⟨z, rfl, tg, hz, hW, q⟩ := h
    rfl
  obtain ⟨z, rfl, tg, hz, hW, q⟩ := h
  refine ⟨_, (pss_cons (ps_set (i := 1) sc_law_holds.nd rfl (.inl rfl) (pe_do D__law_read hr (pa_cons (pv 0) pa_nil)))
    (pss_cons (ps_if (pt_cmpR op_eq (pv 1) pe_str (nomark _)) (pss_one (ps_ret pe_bl)) pss_nil)
    (pss_cons (ps_if (pt_cmpR op_isN (pv 1) pe_non (nomark _)) (pss_one (ps_ret (pe_do D_refused hr (pa_cons (pv 0) pa_nil)))) pss_nil)
    (pss_one (ps_ret (pe_do D_same1 hr (pa_cons (pe_call (E := fun _ _ _ => False) GR (hr.mono (by decide)) rfl mR kR bR .nil noPass (pa_cons (pv 0) pa_nil)) (pa_cons (pv 1) pa_nil)))))))), ?_⟩
  refine ⟨_, rfl, z, rfl, hz, hW, fun H1 s1 => ?_⟩
  have tg1 := (Sm.of s1).2.1 _ tg
  have fin : ∀ F, Sm H1 F → Q (.bl true) F := fun F s => q F ((Sm.of s1).trans s)
  unfold rv
  by_cases c0 : lc z = []
  · rw [if_pos c0]
    have er : rdz z = some [] := by unfold rdz; rw [if_pos c0]
    refine ⟨_, rfl, rfl, _, rfl, ?_⟩
    rw [show Str.ofString "long" = S lng from e_long, eq_tx, show decide (([] : List Nat) = lng) = false from rfl]
    refine iteF ⟨_, rfl, rfl, _, rfl, iteF ?_⟩
    refine ⟨_, rfl, z, rfl, tg1, by omega, ?_, fun h => by rw [er] at h; cases h⟩
    intro l hl
    rw [er] at hl
    cases hl
    refine ⟨by show 0 ≤ _; omega, fun F s2 => ?_⟩
    refine ⟨_, rfl, _, _, .str (S []), rfl, str_is, str_is, fin F s2⟩
  rw [if_neg c0]
  cases ha : (ws z).all fun w => okd (lc w)
  · rw [if_neg Bool.false_ne_true]
    have er := rdz_none c0 ha
    refine ⟨_, rfl, rfl, _, rfl, ?_⟩
    refine iteF ⟨_, rfl, rfl, _, rfl, iteT ?_⟩
    exact ⟨_, rfl, z, rfl, tg1, by omega, er, fun F s2 => fin F s2⟩
  rw [if_pos rfl]
  have er := rdz_some c0 ha
  have al : ∀ w ∈ ws z, okd (lc w) = true := fun w h => List.all_eq_true.mp ha w h
  cases hl : (ws z).any fun w => long (lc w)
  · rw [if_neg Bool.false_ne_true]
    have nl : ∀ w ∈ ws z, long (lc w) = false := fun w h => by
      cases e : long (lc w) with
      | false => rfl
      | true => rw [List.any_eq_true.mpr ⟨w, h, e⟩] at hl; cases hl
    have sh := flat_short (W := (ws z).map lc) fun v hv => by
      obtain ⟨w, h, rfl⟩ := List.mem_map.mp hv
      exact nl w h
    rw [List.map_map, List.length_map] at sh
    have sh' : ((ws z).map fun w => val (lc w)).flatten.length ≤ 99999 * (ws z).length := sh
    have nlg : ((ws z).map fun w => val (lc w)).flatten ≠ lng := flat_not_lng (fun v hv => by
      obtain ⟨w, h, rfl⟩ := List.mem_map.mp hv
      exact val_lets (al w h))
    generalize ((ws z).map fun w => val (lc w)).flatten = l at *
    refine ⟨_, rfl, rfl, _, rfl, ?_⟩
    rw [show Str.ofString "long" = S lng from e_long, eq_tx, decide_eq_false nlg]
    refine iteF ⟨_, rfl, rfl, _, rfl, iteF ?_⟩
    refine ⟨_, rfl, z, rfl, tg1, by omega, ?_, fun h => by rw [er] at h; cases h⟩
    intro l' hl'
    rw [er] at hl'
    cases hl'
    refine ⟨by omega, fun F s2 => ?_⟩
    refine ⟨_, rfl, _, _, .str (S l), rfl, str_is, str_is, fin F s2⟩
  · rw [if_pos rfl]
    refine ⟨_, rfl, rfl, _, rfl, ?_⟩
    rw [show Str.ofString "long" = S lng from e_long, eq_tx, decide_eq_true rfl]
    exact iteT (fin H1 (Sm.refl H1))
end
section
variable {P : Program} {w : World} {K : PySem.W.Frag} {mg : Str → Option Value} {base : Heap} {f : Addr} {fd : FuncData}
theorem ok__law_spoilt (F : Fun K "_law_spoilt" "_law_spoilt" s_law_spoilt f fd) (D_take : Dfn P w K mg base "_law_take" 1 ["tape", "many"] spTake) (y_range : mg "range" = none) (y_len : mg "len" = none)  : FnOk P w K mg base CX0 2 f fd ["tape", "text"] spSpoilt27 := by
  refine F.ok sc_law_spoilt (fun vs H Q E h => ?_) (fun cdv A outer s H vs Q E hr h => ?_)
  · obtain ⟨a, l, rfl, tp, hl, q⟩ := h
    rfl
  obtain ⟨a, l, rfl, tp, hl, q⟩ := h
  refine ⟨_, (pss_cons (ps_for PassesOwn.never rfl (pi_range1 rfl y_range (pa_cons (pe_op op_add pe_int (pe_do D_take hr (pa_cons (pv 0) (pa_cons pe_int pa_nil)))) pa_nil)) (pg_name (i := 2) sc_law_spoilt.nd rfl (.inl rfl))
    (pss_cons (ps_set (i := 3) sc_law_spoilt.nd rfl (.inl rfl) (pe_ix ix_str pe_str (pe_do D_take hr (pa_cons (pv 0) (pa_cons pe_int pa_nil))) (fun _ _ => rfl)))
    (pss_cons (ps_set (i := 4) sc_law_spoilt.nd rfl (.inl rfl) (pe_do D_take hr (pa_cons (pv 0) (pa_cons (pe_op op_add (pe_callB call_len_str rfl y_len PySem.boot_len (pa_cons (pv 1) pa_nil)) pe_int) pa_nil))))
    (pss_cons (ps_set (i := 5) sc_law_spoilt.nd rfl (.inl rfl) (pe_do D_take hr (pa_cons (pv 0) (pa_cons pe_int pa_nil))))
    (pss_one (ps_if (pt_cmpR op_eq (pv 5) pe_int (nomark _)) (pss_one (ps_set (i := 1) sc_law_spoilt.nd rfl (.inl rfl) (pe_op op_add_str (pe_op op_add_str (pe_slice sl_str (pv 1) po_none (po_some (pv 4))) (pv 3)) (pe_slice sl_str (pv 1) (po_some (pv 4)) po_none)))) (pss_one (ps_if (pt_cmpR op_eq (pv 5) pe_int (nomark _)) (pss_one (ps_set (i := 1) sc_law_spoilt.nd rfl (.inl rfl) (pe_op op_add_str (pe_op op_add_str (pe_slice sl_str (pv 1) po_none (po_some (pv 4))) (pv 3)) (pe_slice sl_str (pv 1) (po_some (pe_op op_add (pv 4) pe_int)) po_none)))) (pss_one (ps_set (i := 1) sc_law_spoilt.nd rfl (.inl rfl) (pe_op op_add_str (pe_slice sl_str (pv 1) po_none (po_some (pv 4))) (pe_slice sl_str (pv 1) (po_some (pe_op op_add (pv 4) pe_int)) po_none))))))))))))
    (pss_one (ps_ret (pv 1)))), ?_⟩
  refine ⟨_, rfl, a, 2, rfl, tp, by decide, by decide, fun w H1 w0 w1 b1 t1 => ⟨_, _, rfl, rfl, 1 + w, rfl, by omega, by omega, for_range (lo := 0) (n := (1 + w).toNat) (fun i σ F => ∃ (x2 x3 x4 x5 : Option V) (m : List Nat), σ = [some (.ref a), some (.str (S m)), x2, x3, x4, x5] ∧ But a H F ∧ Tape F a ∧ m.length ≤ l.length + i ∧ m.count 32 ≤ l.count 32 + i) ⟨_, _, _, _, l, rfl, b1, t1, Nat.le_refl _, Nat.le_refl _⟩ ?_ ?_⟩⟩
  · rintro i σ F hi ⟨x2, x3, x4, x5, m, rfl, bF, tF, lm, cm⟩
    have i2 : i < 2 := by omega
    refine ⟨_, rfl, a, 19, rfl, tF, by decide, by decide, fun r F2 r0 r1 b2 t2 => ?_⟩
    obtain ⟨c, hc, c128⟩ := pick_sign (l := lc (Str.ofString "TUR 0123456789t-+_S")) (r := r) (by decide +kernel) r0 (by rw [show (lc (Str.ofString "TUR 0123456789t-+_S")).length = 19 by decide +kernel]; exact r1)
    refine ⟨_, r, c, rfl, rfl, fits (by decide +kernel), hc, ?_⟩
    refine ⟨_, rfl, _, rfl, _, rfl, by rw [S_len]; exact fits (by omega), _, _, rfl, rfl, a, _, rfl, t2, by rw [S_len]; omega, by rw [S_len]; omega, fun sp F3 s0 s1 b3 t3 => ?_⟩
    refine ⟨_, rfl, a, 3, rfl, t3, by decide, by decide, fun ch F4 ch0 ch1 b4 t4 => ?_⟩
    have B := ((bF.trans b2).trans b3).trans b4
    rw [S_len] at s1
    have ec : (⟨#[c]⟩ : Str) = S [c] := rfl
    have oc : ([c] : List Nat).count 32 ≤ 1 := List.count_le_length
    have tl1 := List.length_take_le sp.toNat m
    have cc0 := count_cut m sp.toNat sp.toNat (Nat.le_refl _)
    have cc1 := count_cut m sp.toNat (sp + 1).toNat (by omega)
    rw [List.count_append] at cc0 cc1
    refine ⟨_, rfl, rfl, _, rfl, ite2 (fun e0 => ?_) (fun e0 => ?_)⟩
    · refine ⟨_, rfl, _, rfl, _, rfl, _, rfl, by rw [S_len]; exact fits (by omega), ?_⟩
      rw [S_take m s0]
      refine ⟨_, rfl, _, _, rfl, rfl, by rw [S_len]; exact fits (by show _ + 1 ≤ _; omega), ?_⟩
      rw [ec, S_app]
      refine ⟨_, rfl, _, rfl, _, rfl, _, rfl, by rw [S_len]; exact fits (by omega), ?_⟩
      rw [S_drop m s0]
      refine ⟨_, _, rfl, rfl, by rw [S_len, S_len, List.length_append, List.length_take, List.length_drop]; exact fits (by show _ + 1 + _ ≤ _; omega), ?_⟩
      rw [S_app]
      refine ⟨_, _, _, _, _, rfl, B, t4, ?_, ?_⟩
      · rw [List.length_append, List.length_append, List.length_take, List.length_drop]; show _ + 1 + _ ≤ _; omega
      · rw [List.count_append, List.count_append]; omega
    refine ⟨_, rfl, rfl, _, rfl, ite2 (fun e1 => ?_) (fun e1 => ?_)⟩
    · refine ⟨_, rfl, _, rfl, _, rfl, _, rfl, by rw [S_len]; exact fits (by omega), ?_⟩
      rw [S_take m s0]
      refine ⟨_, rfl, _, _, rfl, rfl, by rw [S_len]; exact fits (by show _ + 1 ≤ _; omega), ?_⟩
      rw [ec, S_app]
      refine ⟨_, rfl, _, rfl, _, _, rfl, rfl, _, rfl, _, rfl, by rw [S_len]; exact fits (by omega), ?_⟩
      rw [S_drop m (show 0 ≤ sp + 1 by omega)]
      refine ⟨_, _, rfl, rfl, by rw [S_len, S_len, List.length_append, List.length_take, List.length_drop]; exact fits (by show _ + 1 + _ ≤ _; omega), ?_⟩
      rw [S_app]
      refine ⟨_, _, _, _, _, rfl, B, t4, ?_, ?_⟩
      · rw [List.length_append, List.length_append, List.length_take, List.length_drop]; show _ + 1 + _ ≤ _; omega
      · rw [List.count_append, List.count_append]; omega
    · refine ⟨_, rfl, _, rfl, _, rfl, _, rfl, by rw [S_len]; exact fits (by omega), ?_⟩
      rw [S_take m s0]
      refine ⟨_, rfl, _, rfl, _, _, rfl, rfl, _, rfl, _, rfl, by rw [S_len]; exact fits (by omega), ?_⟩
      rw [S_drop m (show 0 ≤ sp + 1 by omega)]
      refine ⟨_, _, rfl, rfl, by rw [S_len, S_len, List.length_take, List.length_drop]; exact fits (by omega), ?_⟩
      rw [S_app]
      refine ⟨_, _, _, _, _, rfl, B, t4, ?_, ?_⟩
      · rw [List.length_append, List.length_take, List.length_drop]; omega
      · rw [List.count_append]; omega
  · rintro σ F ⟨x2, x3, x4, x5, m, rfl, bF, tF, lm, cm⟩
    exact ⟨_, rfl, q m F (by omega) (by omega) bF tF⟩
end
section
variable {P : Program} {w : World} {K : PySem.W.Frag} {mg : Str → Option Value} {base : Heap} {f : Addr} {fd : FuncData}
theorem ok__law_odd (F : Fun K "_law_odd" "_law_odd" s_law_odd f fd) (D_take : Dfn P w K mg base "_law_take" 1 ["tape", "many"] spTake)  : FnOk P w K mg base CX0 2 f fd ["tape"] spOdd := by
  refine F.ok sc_law_odd (fun vs H Q E h => ?_) (fun cdv A outer s H vs Q E hr h => ?_)
  · obtain ⟨a, rfl, tp, q⟩ := h
    rfl
  obtain ⟨a, rfl, tp, q⟩ := h
  refine ⟨_, (pss_cons (ps_set (i := 1) sc_law_odd.nd rfl (.inl rfl) (pe_lst (pa_cons pe_str (pa_cons pe_str (pa_cons pe_str (pa_cons pe_str (pa_cons pe_str (pa_cons pe_str (pa_cons pe_str (pa_cons pe_str (pa_cons pe_str (pa_cons pe_str (pa_cons pe_str (pa_cons pe_str (pa_cons pe_str (pa_cons pe_str (pa_cons pe_str (pa_cons pe_str pa_nil))))))))))))))))))
    (pss_cons (ps_set (i := 1) sc_law_odd.nd rfl (.inl rfl) (pe_op op_cat (pv 1) (pe_lst (pa_cons pe_str (pa_cons pe_str (pa_cons pe_str (pa_cons pe_str (pa_cons pe_str (pa_cons pe_str pa_nil)))))))))
    (pss_one (ps_ret (pe_ix ix_list (pv 1) (pe_do D_take hr (pa_cons (pv 0) (pa_cons pe_int pa_nil))) (fun _ _ => rfl)))))), ?_⟩
  refine ⟨fits (by show 16 ≤ 16777216; decide), fun p1 hp1 => ?_⟩
  refine ⟨_, rfl, fits (by show 6 ≤ 16777216; decide), fun p2 hp2 => ?_⟩
  refine ⟨p1, p2, _, _, rfl, rfl, (same_new hp2 _) _ _ upd_same, upd_same, fits (by show 22 ≤ 16777216; decide), fun p3 hp3 => ?_⟩
  have key : ∀ (F3 : Hp) (xs : List V), F3 p3 = some (.lst xs) → Same H F3 → xs.all okV = true → (xs.length : Int) = 22 → ∀ r, 0 ≤ r → r < 22 → ∀ G4, But a F3 G4 → Tape G4 a → ∃ v, G4 p3 = some (.lst xs) ∧ atI xs r = some v ∧ Q v G4 := fun F3 xs hx u ha hl r r0 r1 G4 b6 t6 => by
    obtain ⟨y, hy, y20, _⟩ := pick_str ha r0 (by omega)
    have np : p3 ≠ a := ((tp.same (same_new hp1 _)).same (same_new hp2 _)).ne hp3
    exact ⟨_, b6 _ _ np hx, hy, q y G4 y20 ((But.of u).trans b6) t6⟩
  refine ⟨_, rfl, _, rfl, a, 22, rfl, ((tp.same (same_new hp1 _)).same (same_new hp2 _)).same (same_new hp3 _), by decide, by decide, fun r G4 r0 r1 b6 t6 => ?_⟩
  obtain ⟨v, h1, h2, h3⟩ := key _ _ upd_same (((same_new hp1 _).trans (same_new hp2 _)).trans (same_new hp3 _)) (by decide +kernel) rfl r r0 r1 G4 b6 t6
  exact ⟨p3, _, r, v, rfl, rfl, SqL.of h1, h2, h3⟩
end
section
variable {P : Program} {w : World} {K : PySem.W.Frag} {mg : Str → Option Value} {base : Heap} {f : Addr} {fd : FuncData}
theorem ok__law_great (F : Fun K "_law_great" "_law_great" s_law_great f fd) (D_take : Dfn P w K mg base "_law_take" 3 ["tape", "many"] spTake) (D_write_dance : DfnT P w K mg base "write_dance" 3 ["dance"] spWriteD) (D__law_text : Dfn P w K mg base "_law_text" 3 ["runs"] spText) (y_int : mg "int" = none) (y_str : mg "str" = none) {C Pc gr : Addr} {gdr : FuncData} (GR : FnOk P w K mg base (L2N.CX P w) 3 gr gdr ["text"] (spReadD C Pc)) (mR : mg "read_dance" = some (.ref gr)) (kR : PySem.W.keepIn K (.ref gr) = true) (bR : Binds K gdr ["text"] []) : FnOk P w K mg base CX0 4 f fd ["tape"] (spGreat Pc) := by
  refine F.ok sc_law_great (fun vs H Q E h => ?_) (fun cdv A outer s H vs Q E hr h => ?_)
  · obtain ⟨a, rfl, tp, tg, q⟩ := h
    rfl
  obtain ⟨a, rfl, tp, tg, q⟩ := h
  refine ⟨_, (pss_cons (ps_if (pt_cmpR op_eq (pe_do D_take hr (pa_cons (pv 0) (pa_cons pe_int pa_nil))) pe_int (nomark _)) (pss_cons (ps_set (i := 1) sc_law_great.nd rfl (.inl rfl) (pe_ix ix_list (pe_lst (pa_cons (pe_op op_add pe_int (pe_do D_take hr (pa_cons (pv 0) (pa_cons pe_int pa_nil)))) (pa_cons (pe_op op_add pe_int (pe_do D_take hr (pa_cons (pv 0) (pa_cons pe_int pa_nil)))) pa_nil))) (pe_callTy call_int1 rfl y_int (by decide +kernel) (pa_cons (pe_cmpR op_eq (pe_do D_take hr (pa_cons (pv 0) (pa_cons pe_int pa_nil))) pe_int (nomark _)) pa_nil)) (fun _ _ => rfl)))
    (pss_one (ps_ret (pe_cmpR op_eq (pe_call (E := fun _ _ _ => False) GR (hr.mono (by decide)) rfl mR kR bR .nil noPass (pa_cons (pe_op op_add_str (pe_op op_add_str pe_str (pe_callTy call_str_int rfl y_str (by decide +kernel) (pa_cons (pv 1) pa_nil))) pe_str) pa_nil)) (pe_op op_add_str (pe_op op_mul_str pe_str (pv 1)) pe_str) (nomark _))))) pss_nil)
    (pss_cons (ps_set (i := 1) sc_law_great.nd rfl (.inl rfl) (pe_ix ix_list (pe_lst (pa_cons pe_int (pa_cons pe_int (pa_cons pe_int (pa_cons (pe_op op_add pe_int (pe_do D_take hr (pa_cons (pv 0) (pa_cons pe_int pa_nil)))) pa_nil))))) (pe_do D_take hr (pa_cons (pv 0) (pa_cons pe_int pa_nil))) (fun _ _ => rfl)))
    (pss_cons (ps_set (i := 2) sc_law_great.nd rfl (.inl rfl) (pe_ix ix_str pe_str (pe_do D_take hr (pa_cons (pv 0) (pa_cons pe_int pa_nil))) (fun _ _ => rfl)))
    (pss_cons (ps_set (i := 3) sc_law_great.nd rfl (.inl rfl) (pe_lst (pa_cons (pe_tup (pa_cons pe_str (pa_cons pe_int pa_nil))) (pa_cons (pe_tup (pa_cons (pv 2) (pa_cons (pv 1) pa_nil))) (pa_cons (pe_tup (pa_cons pe_str (pa_cons pe_int pa_nil))) pa_nil)))))
    (pss_cons (ps_if (pt_cmpR op_eq (pv 2) pe_str (nomark _)) (pss_one (ps_set (i := 3) sc_law_great.nd rfl (.inl rfl) (pe_lst (pa_cons (pe_tup (pa_cons pe_str (pa_cons pe_int pa_nil))) (pa_cons (pe_tup (pa_cons (pv 2) (pa_cons (pv 1) pa_nil))) (pa_cons (pe_tup (pa_cons pe_str (pa_cons pe_int pa_nil))) pa_nil)))))) pss_nil)
    (pssB (psB_if op_eq (pv 2) (pss_one (ps_set (i := 3) sc_law_great.nd rfl (.inl rfl) (pe_lst (pa_cons (pe_tup (pa_cons pe_str (pa_cons pe_int pa_nil))) (pa_cons (pe_tup (pa_cons (pv 2) (pa_cons (pv 1) pa_nil))) (pa_cons (pe_tup (pa_cons pe_str (pa_cons pe_int pa_nil))) pa_nil)))))) pss_nil (nomark _))
    (psst_cons (PST.of (ps_set (i := 4) sc_law_great.nd rfl (.inl rfl) (pe_join pe_str (pe_lc (own := [("one", 5), ("many", 6)]) (g := (gTup K 2 (gCons (gName 5) (gCons (gName 6) gNil)))) (tt := tYes) (by rfl) sc_law_great.nd (pi_list (pv 3)) (blkOk_by (own := [("one", 5), ("many", 6)]) (N := ["tape", "count", "letter", "runs", "dance", "one", "many"]) (sc := defScope s_law_great) (by decide +kernel)) (fun _ _ _ _ _ => pg_tup (by rfl) (pgs_cons (pg_name (i := 5) sc_law_great.nd rfl (.inl rfl)) (pgs_cons (pg_name (i := 6) sc_law_great.nd rfl (.inl rfl)) pgs_nil))) (fun _ _ _ _ _ => pts_nil) (fun _ _ _ _ _ => (pe_op op_mul_str (pv 5) (pv 6)))))))
    (CwR.psst_one (CwR.pst_ret (pet_and (pet_cmpR op_eq (pet_do D_write_dance hr (pa_cons (pv 4) pa_nil)) (pe_do D__law_text hr (pa_cons (pv 3) pa_nil)) (nomark _)) (pe_one (pe_cmpR op_eq (pe_call (E := fun _ _ _ => False) GR (hr.mono (by decide)) rfl mR kR bR .nil noPass (pa_cons (pe_do D__law_text hr (pa_cons (pv 3) pa_nil)) pa_nil)) (pv 4) (nomark _))))))))))))), ?_⟩
  refine ⟨_, rfl, a, 12, rfl, tp, by decide, by decide, fun r H1 r0 r1 b1 t1 => ?_⟩
  refine ⟨rfl, _, rfl, ite2 (fun c0 => ?_) (fun c0 => ?_)⟩
  · refine ⟨_, rfl, a, 90000, rfl, t1, by decide, by decide, fun u H2 u0 u1 b2 t2 => ⟨_, _, rfl, rfl, _, rfl, a, 900001, rfl, t2, by decide, by decide, fun v H3 v0 v1 b3 t3 => ⟨_, _, rfl, rfl, fits (by show 2 ≤ 16777216; decide), fun lp hlp => ?_⟩⟩⟩
    have nl := t3.ne hlp
    refine ⟨_, rfl, a, 3, rfl, t3.same (same_new hlp _), by decide, by decide, fun x H5 x0 x1 b5 t5 => ?_⟩
    have B5 : But a H H5 := (((b1.trans b2).trans b3).trans (But.of (same_new hlp _))).trans b5
    have hl5 := b5 _ _ nl upd_same
    have pick : ∃ n : Nat, atI [V.int (10000 + u), V.int (100000 + v)] (if decide (V.int x = V.int 0) = true then 1 else 0) = some (.int (n : Int)) ∧ 10000 ≤ n ∧ n ≤ 1000000 := by
      cases decide (V.int x = V.int 0)
      · exact ⟨(10000 + u).toNat, at_of (j := 0) rfl (congrArg (fun z => some (V.int z)) (by omega)), by omega, by omega⟩
      · exact ⟨(100000 + v).toNat, at_of (j := 1) rfl (congrArg (fun z => some (V.int z)) (by omega)), by omega, by omega⟩
    obtain ⟨n, hn, n0, n1⟩ := pick
    refine ⟨rfl, .inr ⟨_, rfl, lp, _, _, _, rfl, rfl, SqL.of hl5, hn, ?_⟩⟩
    have S5 := SmB.but B5 tp t5
    have nlen := num_len (i := (n : Int)) (by omega) (by omega)
    refine ⟨_, rfl, _, rfl, small_log (i := (n : Int)) (by omega) (by omega), _, _, rfl, rfl, ?_, ?_⟩
    · rw [show Str.ofString "U" = S [85] from by decide +kernel, S_len]
      exact fits (by show 1 + _ ≤ _; omega)
    have hR : Runs [(85, n), (82, 1)] := ⟨fun p hp => by
      simp only [List.mem_cons, List.not_mem_nil, or_false] at hp
      rcases hp with rfl | rfl
      · show 1 ≤ n; omega
      · exact Nat.le_refl _, ⟨(by show (85 : Nat) ≠ 82; decide), trivial⟩, fun p hp => by
      simp only [List.mem_cons, List.not_mem_nil, or_false] at hp
      rcases hp with rfl | rfl
      · exact .inr (.inl rfl)
      · exact .inr (.inr rfl)⟩
    have ez : Str.ofString "U" ++ Str.ofString (toString (n : Int)) ++ Str.ofString " R" = S (txt [(85, n), (82, 1)]) := by
      rw [show Str.ofString "U" = S [85] from by decide +kernel, show Str.ofString " R" = S [32, 82] from by decide +kernel, num_lc (by omega), S_app, S_app]
      unfold txt
      show _ = S (wr (85, n) ++ ([32] ++ wr (82, 1)))
      have e1 : wr (85, n) = 85 :: TL.numL n := by unfold wr; rw [if_neg (show ¬ n = 1 by omega)]
      rw [e1]
      rfl
    refine ⟨_, _, rfl, rfl, ?_, ?_⟩
    · rw [PySem.Str.length_append, show Str.ofString "U" = S [85] from by decide +kernel, show Str.ofString " R" = S [32, 82] from by decide +kernel, S_len, S_len]
      exact fits (by show 1 + _ + 2 ≤ _; omega)
    rw [ez]
    have er := rdz_txt hR fun p hp => by
      simp only [List.mem_cons, List.not_mem_nil, or_false] at hp
      rcases hp with rfl | rfl
      · show n < _; omega
      · show 1 < _; omega
    have efl : fl [(85, n), (82, 1)] = List.replicate n 85 ++ [82] := by rw [fl_cons, fl_one]; rfl
    have tl2 : (S (txt [(85, n), (82, 1)])).length ≤ 1000000 := by
      rw [← ez, PySem.Str.length_append, PySem.Str.length_append, show Str.ofString "U" = S [85] from by decide +kernel, show Str.ofString " R" = S [32, 82] from by decide +kernel, S_len, S_len]
      show 1 + _ + 2 ≤ _
      omega
    refine ⟨_, rfl, S5.2.1 _ tg, tl2, ?_, fun h => by rw [er] at h; cases h⟩
    intro l hl
    rw [er] at hl
    cases hl
    refine ⟨by rw [efl, List.length_append, List.length_replicate]; show n + 1 ≤ _; omega, fun F s2 => ?_⟩
    refine ⟨_, rfl, [85], (n : Int), congrArg V.str e_U, rfl, by omega, by have : (2 : Int) ^ 62 = 4611686018427387904 := rfl; omega, by show 1 * n ≤ _; omega, _, _, rfl, rfl, ?_, ?_⟩
    · rw [rep_one, e_R, S_len, S_len, List.length_replicate]
      exact fits (by show n + 1 ≤ _; omega)
    have e2 : S (List.replicate ((n : Int)).toNat [85]).flatten ++ Str.ofString "R" = S (fl [(85, n), (82, 1)]) := by
      rw [rep_one, e_R, S_app, efl]
      rfl
    rw [e2]
    refine ⟨rfl, ?_⟩
    rw [decide_eq_true rfl]
    exact q F (S5.sm s2)
  refine ⟨_, rfl, a, 9990, rfl, t1, by decide, by decide, fun u H2 u0 u1 b2 t2 => ⟨_, _, rfl, rfl, fits (by show 4 ≤ 16777216; decide), fun lp hlp => ?_⟩⟩
  have nl := t2.ne hlp
  refine ⟨_, rfl, a, 4, rfl, t2.same (same_new hlp _), by decide, by decide, fun x H3 x0 x1 b3 t3 => ?_⟩
  have B3 : But a H H3 := ((b1.trans b2).trans (But.of (same_new hlp _))).trans b3
  have hl3 := b3 _ _ nl upd_same
  have pick : ∃ n : Nat, atI [V.int 100, V.int 1000, V.int 9999, V.int (10 + u)] x = some (.int (n : Int)) ∧ 10 ≤ n ∧ n ≤ 9999 := by
    obtain e | e | e | e : x = (0 : Nat) ∨ x = (1 : Nat) ∨ x = (2 : Nat) ∨ x = (3 : Nat) := by omega
    · exact ⟨100, at_of e rfl, by decide, by decide⟩
    · exact ⟨1000, at_of e rfl, by decide, by decide⟩
    · exact ⟨9999, at_of e rfl, by decide, by decide⟩
    · exact ⟨(10 + u).toNat, at_of e (congrArg (fun z => some (V.int z)) (by omega)), by omega, by omega⟩
  obtain ⟨n, hn, n0, n1⟩ := pick
  refine ⟨lp, _, _, _, rfl, rfl, SqL.of hl3, hn, ?_⟩
  refine ⟨_, rfl, a, 3, rfl, t3, by decide, by decide, fun y H4 y0 y1 b4 t4 => ?_⟩
  have pick2 : ∃ c : Nat, atI (Str.ofString "TUR").cps.toList y = some c ∧ (c = 84 ∨ c = 85 ∨ c = 82) := by
    have e : (Str.ofString "TUR").cps.toList = [84, 85, 82] := by decide +kernel
    rw [e]
    obtain e | e | e : y = (0 : Nat) ∨ y = (1 : Nat) ∨ y = (2 : Nat) := by omega
    · exact ⟨84, by rw [e]; exact atI_nat (j := 0) rfl, .inl rfl⟩
    · exact ⟨85, by rw [e]; exact atI_nat (j := 1) rfl, .inr (.inl rfl)⟩
    · exact ⟨82, by rw [e]; exact atI_nat (j := 2) rfl, .inr (.inr rfl)⟩
  obtain ⟨c, hc, cl⟩ := pick2
  refine ⟨_, y, c, rfl, rfl, fits (by decide +kernel), hc, ?_⟩
  have B4 := B3.trans b4
  refine ⟨fits (by show 2 ≤ 16777216; decide), fun p1 hp1 => ?_⟩
  have u1 := same_new hp1 (.tup [V.str (Str.ofString "T"), V.int 2])
  have g1 : upd H4 p1 (.tup [V.str (Str.ofString "T"), V.int 2]) p1 = some (.tup (vR (84, 2))) := by rw [upd_same, e_T]; rfl
  generalize upd H4 p1 (.tup [V.str (Str.ofString "T"), V.int 2]) = G1 at *
  refine ⟨_, rfl, _, rfl, fits (by show 2 ≤ 16777216; decide), fun p2 hp2 => ?_⟩
  have u2 := same_new hp2 (.tup [V.str ⟨#[c]⟩, V.int (n : Int)])
  have g2 : upd G1 p2 (.tup [V.str ⟨#[c]⟩, V.int (n : Int)]) p2 = some (.tup (vR (c, n))) := upd_same
  generalize upd G1 p2 (.tup [V.str ⟨#[c]⟩, V.int (n : Int)]) = G2 at *
  refine ⟨fits (by show 2 ≤ 16777216; decide), fun p3 hp3 => ?_⟩
  have u3 := same_new hp3 (.tup [V.str (Str.ofString "U"), V.int 1])
  have g3 : upd G2 p3 (.tup [V.str (Str.ofString "U"), V.int 1]) p3 = some (.tup (vR (85, 1))) := by rw [upd_same, e_U]; rfl
  generalize upd G2 p3 (.tup [V.str (Str.ofString "U"), V.int 1]) = G3 at *
  refine ⟨fits (by show 3 ≤ 16777216; decide), fun D hD => ?_⟩
  have u4 := same_new hD (.lst [V.ref p1, .ref p2, .ref p3])
  have g4 : upd G3 D (.lst [V.ref p1, .ref p2, .ref p3]) D = some (.lst [.ref p1, .ref p2, .ref p3]) := upd_same
  generalize upd G3 D (.lst [V.ref p1, .ref p2, .ref p3]) = G4 at *
  have RA : RunsAt G4 D [(84, 2), (c, n), (85, 1)] := runs3 g4 (u4 _ _ (u3 _ _ (u2 _ _ g1))) (u4 _ _ (u3 _ _ g2)) (u4 _ _ g3)
  have nA : Same H4 G4 := ((u1.trans u2).trans u3).trans u4
  refine ⟨_, rfl, rfl, _, rfl, ?_⟩
  rw [show decide (V.str ⟨#[c]⟩ = V.str "T") = decide (c = 84) from decide_eq_decide.mpr (sign_eq (c := c) (n := 84) (by decide +kernel))]
  have eU : decide (V.str ⟨#[c]⟩ = V.str "U") = decide (c = 85) := decide_eq_decide.mpr (sign_eq (c := c) (n := 85) (by decide +kernel))
  refine ite2 (fun k1 => ?A) (fun k1 => ?R)
  case' A =>
    have ck : c = 84 := of_decide_eq_true k1
    refine ⟨fits (by show 2 ≤ 16777216; decide), fun p1a hp1a => ?_⟩
    have u1a := same_new hp1a (.tup [V.str (Str.ofString "R"), V.int 2])
    have g1a : upd G4 p1a (.tup [V.str (Str.ofString "R"), V.int 2]) p1a = some (.tup (vR (82, 2))) := by rw [upd_same, e_R]; rfl
    generalize upd G4 p1a (.tup [V.str (Str.ofString "R"), V.int 2]) = G1a at *
    refine ⟨_, rfl, _, rfl, fits (by show 2 ≤ 16777216; decide), fun p2a hp2a => ?_⟩
    have u2a := same_new hp2a (.tup [V.str ⟨#[c]⟩, V.int (n : Int)])
    have g2a : upd G1a p2a (.tup [V.str ⟨#[c]⟩, V.int (n : Int)]) p2a = some (.tup (vR (c, n))) := upd_same
    generalize upd G1a p2a (.tup [V.str ⟨#[c]⟩, V.int (n : Int)]) = G2a at *
    refine ⟨fits (by show 2 ≤ 16777216; decide), fun p3a hp3a => ?_⟩
    have u3a := same_new hp3a (.tup [V.str (Str.ofString "U"), V.int 1])
    have g3a : upd G2a p3a (.tup [V.str (Str.ofString "U"), V.int 1]) p3a = some (.tup (vR (85, 1))) := by rw [upd_same, e_U]; rfl
    generalize upd G2a p3a (.tup [V.str (Str.ofString "U"), V.int 1]) = G3a at *
    refine ⟨fits (by show 3 ≤ 16777216; decide), fun Da hDa => ?_⟩
    have u4a := same_new hDa (.lst [V.ref p1a, .ref p2a, .ref p3a])
    have g4a : upd G3a Da (.lst [V.ref p1a, .ref p2a, .ref p3a]) Da = some (.lst [.ref p1a, .ref p2a, .ref p3a]) := upd_same
    generalize upd G3a Da (.lst [V.ref p1a, .ref p2a, .ref p3a]) = G4a at *
    have RAa : RunsAt G4a Da [(82, 2), (c, n), (85, 1)] := runs3 g4a (u4a _ _ (u3a _ _ (u2a _ _ g1a))) (u4a _ _ (u3a _ _ g2a)) (u4a _ _ g3a)
    have nB : Same H4 G4a := nA.trans (((u1a.trans u2a).trans u3a).trans u4a)
    refine ⟨_, rfl, rfl, _, rfl, ?_⟩
    rw [eU, decide_eq_false (by omega)]
    refine iteF ?_
    have nZ := nB
    have RZ := RAa
    have RR : Runs [(82, 2), (c, n), (85, 1)] := three_runs (by omega) (by omega) (by omega) (by decide) cl (by decide)
    have r3 : [(82, 2), (c, n), (85, 1)].length = 3 := rfl
    have rb := three_small (n := n) (c := c) 82 85 n1
    generalize [(82, 2), (c, n), (85, 1)] = rr at RZ RR r3 rb
    generalize G4a = F9 at nZ RZ ⊢
    generalize Da = D9 at RZ ⊢
  case' R =>
    have k1' : ¬ c = 84 := fun z => k1 (decide_eq_true z)
    refine ⟨_, rfl, rfl, _, rfl, ?_⟩
    rw [eU]
    refine ite2 (fun k2 => ?B) (fun k2 => ?C)
  case' B =>
    have ck : c = 85 := of_decide_eq_true k2
    refine ⟨fits (by show 2 ≤ 16777216; decide), fun p1b hp1b => ?_⟩
    have u1b := same_new hp1b (.tup [V.str (Str.ofString "R"), V.int 2])
    have g1b : upd G4 p1b (.tup [V.str (Str.ofString "R"), V.int 2]) p1b = some (.tup (vR (82, 2))) := by rw [upd_same, e_R]; rfl
    generalize upd G4 p1b (.tup [V.str (Str.ofString "R"), V.int 2]) = G1b at *
    refine ⟨_, rfl, _, rfl, fits (by show 2 ≤ 16777216; decide), fun p2b hp2b => ?_⟩
    have u2b := same_new hp2b (.tup [V.str ⟨#[c]⟩, V.int (n : Int)])
    have g2b : upd G1b p2b (.tup [V.str ⟨#[c]⟩, V.int (n : Int)]) p2b = some (.tup (vR (c, n))) := upd_same
    generalize upd G1b p2b (.tup [V.str ⟨#[c]⟩, V.int (n : Int)]) = G2b at *
    refine ⟨fits (by show 2 ≤ 16777216; decide), fun p3b hp3b => ?_⟩
    have u3b := same_new hp3b (.tup [V.str (Str.ofString "T"), V.int 1])
    have g3b : upd G2b p3b (.tup [V.str (Str.ofString "T"), V.int 1]) p3b = some (.tup (vR (84, 1))) := by rw [upd_same, e_T]; rfl
    generalize upd G2b p3b (.tup [V.str (Str.ofString "T"), V.int 1]) = G3b at *
    refine ⟨fits (by show 3 ≤ 16777216; decide), fun Db hDb => ?_⟩
    have u4b := same_new hDb (.lst [V.ref p1b, .ref p2b, .ref p3b])
    have g4b : upd G3b Db (.lst [V.ref p1b, .ref p2b, .ref p3b]) Db = some (.lst [.ref p1b, .ref p2b, .ref p3b]) := upd_same
    generalize upd G3b Db (.lst [V.ref p1b, .ref p2b, .ref p3b]) = G4b at *
    have RAb : RunsAt G4b Db [(82, 2), (c, n), (84, 1)] := runs3 g4b (u4b _ _ (u3b _ _ (u2b _ _ g1b))) (u4b _ _ (u3b _ _ g2b)) (u4b _ _ g3b)
    have nB : Same H4 G4b := nA.trans (((u1b.trans u2b).trans u3b).trans u4b)
    have nZ := nB
    have RZ := RAb
    have RR : Runs [(82, 2), (c, n), (84, 1)] := three_runs (by omega) (by omega) (by omega) (by decide) cl (by decide)
    have r3 : [(82, 2), (c, n), (84, 1)].length = 3 := rfl
    have rb := three_small (n := n) (c := c) 82 84 n1
    generalize [(82, 2), (c, n), (84, 1)] = rr at RZ RR r3 rb
    generalize G4b = F9 at nZ RZ ⊢
    generalize Db = D9 at RZ ⊢
  case' C =>
    have k2' : ¬ c = 85 := fun z => k2 (decide_eq_true z)
    have nZ := nA
    have RZ := RA
    have RR : Runs [(84, 2), (c, n), (85, 1)] := three_runs (by omega) (by omega) (by omega) (by decide) cl (by decide)
    have r3 : [(84, 2), (c, n), (85, 1)].length = 3 := rfl
    have rb := three_small (n := n) (c := c) 84 85 n1
    generalize [(84, 2), (c, n), (85, 1)] = rr at RZ RR r3 rb
    generalize G4 = F9 at nZ RZ ⊢
    generalize D = D9 at RZ ⊢
  all_goals
    obtain ⟨xs, xa, xb, xd⟩ := id RZ
    refine ⟨⟨_, rfl⟩, _, rfl, D9, rfl, ⟨_, SqL.of xa⟩, fun L hL => lc_list (xs := xs.map V.ref) (fun i G => Same F9 G ∧ G L = some (.lst ((rr.take i).map fun p => V.str (S (word p))))) ⟨same_new hL _, upd_same⟩ (fun i G hi s => SqL.of (s.1 _ _ xa)) ?_ ?_⟩
    · rintro i x G hx ⟨sG, hG⟩
      rw [List.getElem?_map] at hx
      obtain ⟨y, hy, rfl⟩ := Option.map_eq_some_iff.mp hx
      have hi : i < rr.length := by rw [← xb]; exact (List.getElem?_eq_some_iff.mp hy).1
      have hp : rr[i]? = some rr[i] := List.getElem?_eq_getElem hi
      generalize rr[i] = p at hp
      have pm := List.mem_of_getElem? hp
      have pb := rb.1 p pm
      have hyt := sG _ _ (xd i y p hy hp)
      refine ⟨y, _, rfl, SqT.of hyt, rfl, _, _, rfl, _, _, rfl, rfl, rfl, ?_⟩
      refine ⟨_, rfl, _, rfl, [p.1], (p.2 : Int), rfl, rfl, by omega, by have : (2 : Int) ^ 62 = 4611686018427387904 := rfl; omega, by show 1 * p.2 ≤ _; omega, ?_⟩
      rw [rep_one]
      refine ⟨_, hG, Nat.lt_of_lt_of_le (by rw [List.length_map, List.length_take]; omega) sizeLine_big, fun b o hb => ?_, ?_⟩
      · rw [upd_ne (ne_of_none hb hL)]; exact sG _ _ hb
      · rw [upd_same, List.take_add_one, hp, List.map_append]; rfl
    · rintro G ⟨sG, hG⟩
      rw [List.length_map, xb, List.take_length] at hG
      have em : (rr.map fun p => V.str (S (word p))) = ((rr.map word).map S).map V.str := by rw [List.map_map, List.map_map]; rfl
      rw [em] at hG
      refine ⟨_, L, _, rfl, rfl, .inl (SqL.of hG), ?_, ?_⟩
      · rw [sum_flat, show (Str.ofString "").length = 0 from by decide +kernel]
        have : (rr.map word).flatten.length ≤ 20000 := rb.2
        omega
      rw [show Str.ofString "" = S [] from e_empty, join_empty]
      have S4 := (SmB.but B4 tp t4).sm (Sm.of (nZ.trans sG))
      have RG := RZ.same sG
      have fin : ∀ F, Sm G F → Q (.bl true) F := fun F s => q F (S4.sm s)
      have rb9 : ∀ p ∈ rr, p.2 < 1000000000 := fun p h => by have := rb.1 p h; omega
      have er := rdz_txt RR rb9
      have txl : (txt rr).length ≤ 33 := by
        have := joinL_len (n := 10) (rr.map wr) fun w hw => by
          obtain ⟨p, hp, rfl⟩ := List.mem_map.mp hw
          exact wr_len (rb9 p hp)
        rw [List.length_map, r3] at this
        exact this
      refine ⟨_, rfl, rr, rfl, RR, by have := rb.2; omega, fun F2 s2 => ?_⟩
      refine ⟨_, rfl, D9, rr, rfl, RG.same s2, by omega, rb9, fun F3 s3 => ?_⟩
      refine ⟨rfl, _, rfl, ?_⟩
      rw [decide_eq_true rfl]
      refine iteT ?_
      refine ⟨_, rfl, D9, rr, rfl, (RG.same s2).same s3, by omega, rb9, fun F4 s4 => ?_⟩
      have S7 := Sm.of ((s2.trans s3).trans s4)
      refine ⟨_, rfl, (S4.sm S7).2.1 _ tg, by rw [S_len]; omega, ?_, fun h => by rw [er] at h; cases h⟩
      intro l hl
      rw [er] at hl
      cases hl
      refine ⟨by have := rb.2; omega, fun F5 s5 => ?_⟩
      refine ⟨_, rfl, rfl, ?_⟩
      rw [show (List.map word rr).flatten = fl rr from rfl, decide_eq_true rfl]
      exact fin F5 (S7.trans s5)
end
section
variable {P : Program} {w : World} {K : PySem.W.Frag} {mg : Str → Option Value} {base : Heap} {f : Addr} {fd : FuncData}
theorem ok_law (F : Fun K "law" "law" s_law f fd) (D__law_great : Dfn P w K mg base "_law_great" 6 ["tape"] (spGreat Pc)) (D_tape : Dfn P w K mg base "_law_tape" 6 ["script", "k"] (spTape K)) (D__law_odd : Dfn P w K mg base "_law_odd" 6 ["tape"] spOdd) (D__law_spoilt : Dfn P w K mg base "_law_spoilt" 6 ["tape", "text"] spSpoilt27) (D__law_holds : Dfn P w K mg base "_law_holds" 6 ["text"] (spHolds Pc)) (D_same1 : Dfn P w K mg base "_law_same" 6 ["told", "due"] (spSame 1)) (D__law_split : Dfn P w K mg base "_law_split" 6 ["tape", "runs"] spSplit) (D_write_dance : DfnT P w K mg base "write_dance" 6 ["dance"] spWriteD) (D__law_text : Dfn P w K mg base "_law_text" 6 ["runs"] spText) (D__law_runs : Dfn P w K mg base "_law_runs" 6 ["dance"] spRuns) (D_dance : Dfn P w K mg base "_law_dance" 6 ["tape", "most"] spDance) (y_range : mg "range" = none) {C gr : Addr} {gdr : FuncData} (GR : FnOk P w K mg base (L2N.CX P w) 3 gr gdr ["text"] (spReadD C Pc)) (mR : mg "read_dance" = some (.ref gr)) (kR : PySem.W.keepIn K (.ref gr) = true) (bR : Binds K gdr ["text"] []) : FnOk P w K mg base CX0 7 f fd ["script"] (spLaw27 K Pc) := by
  refine F.ok sc_law (fun vs H Q E h => ?_) (fun cdv A outer s H vs Q E hr h => ?_)
  · obtain ⟨sa, ns, rfl, hS, h63, tg, q⟩ := h
    rfl
  obtain ⟨sa, ns, rfl, hS, h63, tg, q⟩ := h
  refine ⟨_, (pss_cons (ps_if (pt_not (pt_val (pe_do D__law_great hr (pa_cons (pe_do D_tape hr (pa_cons (pv 0) (pa_cons pe_int pa_nil))) pa_nil)))) (pss_one (ps_ret pe_bl)) pss_nil)
    (pss_cons (ps_forB PassesOwn.never rfl (piB_range rfl y_range) (pg_name (i := 1) sc_law.nd rfl (.inl rfl))
    (psst_cons (PST.of (ps_set (i := 2) sc_law.nd rfl (.inl rfl) (pe_do D_tape hr (pa_cons (pv 0) (pa_cons (pv 1) pa_nil)))))
    (psst_cons (PST.of (ps_set (i := 3) sc_law.nd rfl (.inl rfl) (pe_do D_dance hr (pa_cons (pv 2) (pa_cons pe_int pa_nil)))))
    (psst_cons (PST.of (ps_set (i := 4) sc_law.nd rfl (.inl rfl) (pe_do D__law_runs hr (pa_cons (pv 3) pa_nil))))
    (psst_cons (PST.of (ps_set (i := 5) sc_law.nd rfl (.inl rfl) (pe_do D__law_text hr (pa_cons (pv 4) pa_nil))))
    (psst_cons (pst_ifT (ptt_or (ptt_not (ptt_val (pet_do1 D_same1 hr (pat_cons (pet_do D_write_dance hr (pa_cons (pv 3) pa_nil)) (PAT.of (pa_cons (pv 5) pa_nil)))))) (pw_or1 (pt_not (pt_val (pe_do D_same1 hr (pa_cons (pe_call (E := fun _ _ _ => False) GR (hr.mono (by decide)) rfl mR kR bR .nil noPass (pa_cons (pv 5) pa_nil)) (pa_cons (pv 3) pa_nil))))))) (pss_one (ps_ret pe_bl)) pss_nil)
    (psst_cons (PST.of (ps_set (i := 6) sc_law.nd rfl (.inl rfl) (pe_do D__law_split hr (pa_cons (pv 2) (pa_cons (pv 4) pa_nil)))))
    (psst_cons (PST.of (ps_if (pt_not (pt_val (pe_do D_same1 hr (pa_cons (pe_call (E := fun _ _ _ => False) GR (hr.mono (by decide)) rfl mR kR bR .nil noPass (pa_cons (pv 6) pa_nil)) (pa_cons (pv 3) pa_nil))))) (pss_one (ps_ret pe_bl)) pss_nil))
    (CwR.psst_one (PST.of (ps_for PassesOwn.never rfl (pi_list (pe_lst (pa_cons (pe_do D__law_spoilt hr (pa_cons (pv 2) (pa_cons (pv 5) pa_nil))) (pa_cons (pe_do D__law_spoilt hr (pa_cons (pv 2) (pa_cons (pv 6) pa_nil))) (pa_cons (pe_do D__law_odd hr (pa_cons (pv 2) pa_nil)) (pa_cons pe_str pa_nil)))))) (pg_name (i := 7) sc_law.nd rfl (.inl rfl))
    (pss_one (ps_if (pt_not (pt_val (pe_do D__law_holds hr (pa_cons (pv 7) pa_nil)))) (pss_one (ps_ret pe_bl)) pss_nil)))))))))))))
    (pss_one (ps_ret pe_bl)))), ?_⟩
  refine ⟨_, rfl, sa, ns, 8, rfl, hS, by decide, fun t8 H1 s1 n8 tp8 => ?_⟩
  refine ⟨t8, rfl, tp8, (Sm.of s1).2.1 _ tg, fun H2 s2 => ⟨_, rfl, iteF ?_⟩⟩
  have S2 : Sm H H2 := (Sm.of s1).smB n8 s2
  refine ⟨8, rfl, by decide, by decide, for_range (lo := 0) (n := 8) (fun i σ F => ∃ (x1 x2 x3 x4 x5 x6 x7 : Option V), σ = [some (.ref sa), x1, x2, x3, x4, x5, x6, x7] ∧ Sm H F) ⟨_, _, _, _, _, _, _, rfl, S2⟩ ?_ ?_⟩
  · rintro i σ F hi ⟨y1, y2, y3, y4, y5, y6, y7, rfl, sF⟩
    refine ⟨_, rfl, _, rfl, sa, ns, _, rfl, sF.seq hS, by omega, fun tp F1 u1 ntp t1 => ?_⟩
    refine ⟨_, rfl, tp, 60, rfl, t1, by decide, by decide, fun l F2 hl l60 b2 t2 => ?_⟩
    have C2 := SmB.but b2 t1 t2
    obtain ⟨RR, efl⟩ := rle_runs l hl
    have ll : l.length ≤ 60 := by omega
    refine ⟨_, rfl, l, rfl, by omega, fun D F3 u3 nD rA => ?_⟩
    have C3 := C2.sm (Sm.of u3)
    generalize hrr : rle l = rr at RR efl rA
    have few := runs_few RR
    rw [efl] at few
    have rb : ∀ p ∈ rr, p.2 < 1000000000 := fun p h => by have := run_le h; rw [efl] at this; omega
    refine ⟨_, rfl, D, rr, rfl, rA, by omega, rb, fun F4 u4 => ?_⟩
    have er := rdz_txt RR rb
    rw [efl] at er
    have txl : (txt rr).length ≤ 660 := by
      have := joinL_len (n := 10) (rr.map wr) fun w hw => by
        obtain ⟨p, hp, rfl⟩ := List.mem_map.mp hw
        exact wr_len (rb p hp)
      rw [List.length_map] at this
      show (TL.joinL [32] (rr.map wr)).length ≤ _
      omega
    have txc : (txt rr).count 32 ≤ 60 := by
      have := joinL_blanks (rr.map wr) fun w hw => by
        obtain ⟨p, hp, rfl⟩ := List.mem_map.mp hw
        exact (okd_blank (wr_ok (RR.let' p hp) (RR.pos p hp) (rb p hp)).1).2
      rw [List.length_map] at this
      show (TL.joinL [32] (rr.map wr)).count 32 ≤ _
      omega
    have C4 := C3.sm (Sm.of u4)
    have rA4 := rA.same u4
    have t4 := (t2.same u3).same u4
    refine ⟨_, rfl, rr, by rw [efl]; rfl, RR, by rw [efl]; omega, fun F5 u5 => ?_⟩
    refine ⟨_, rfl, _, _, .str (S (txt rr)), rfl, str_is, str_is, ⟨_, rfl, iteF ?_⟩⟩
    have C5 := C4.sm (Sm.of u5)
    have tg5 := C5.2.1 _ ((Sm.of u1).2.1 _ (sF.2.1 _ tg))
    refine ⟨_, rfl, _, rfl, tg5, by rw [S_len]; omega, ?_, fun h => by rw [er] at h; cases h⟩
    intro l' hl'
    rw [er] at hl'
    cases hl'
    refine ⟨by omega, fun F6 u6 => ?_⟩
    refine ⟨_, rfl, _, _, .str (S l), rfl, str_is, str_is, ⟨_, rfl, iteF ?_⟩⟩
    have C6 := C5.sm u6
    have t6 := u6.tape (t4.same u5)
    have rA6 := (rA4.same u5).sm u6
    refine ⟨_, rfl, _, rfl, tp, D, rr, rfl, t6, rA6, RR, by rw [efl]; exact ll, fun o F7 ro lo co b7 t7 => ?_⟩
    rw [efl] at ro
    have C7 := C6.trans (SmB.but b7 t6 t7)
    have tg7 := C7.2.1 _ ((Sm.of u1).2.1 _ (sF.2.1 _ tg))
    refine ⟨_, rfl, _, rfl, tg7, by rw [S_len]; omega, ?_, fun h => by rw [ro] at h; cases h⟩
    intro l' hl'
    rw [ro] at hl'
    cases hl'
    refine ⟨by omega, fun F8 u8 => ?_⟩
    refine ⟨_, rfl, _, _, .str (S l), rfl, str_is, str_is, ⟨_, rfl, iteF ?_⟩⟩
    have C8 := C7.sm u8
    have t8' := u8.tape t7
    refine ⟨_, rfl, _, rfl, tp, txt rr, rfl, t8', by omega, fun m1 F9 lm1 cm1 b9 t9 => ?_⟩
    refine ⟨_, rfl, _, rfl, tp, o, rfl, t9, by omega, fun m2 G1 lm2 cm2 b10 t10 => ?_⟩
    refine ⟨_, rfl, tp, rfl, t10, fun z3 G2 lz3 b11 t11 => ⟨fits (by show 4 ≤ 16777216; decide), fun lp hlp => ?_⟩⟩
    have C9 := (C8.trans (SmB.but b9 t8' t9)).trans ((SmB.but b10 t9 t10).trans (SmB.but b11 t10 t11))
    have v1 := same_new hlp (.lst [V.str (S m1), V.str (S m2), V.str z3, V.str (Str.ofString "")])
    have hL : upd G2 lp (.lst [V.str (S m1), V.str (S m2), V.str z3, V.str (Str.ofString "")]) lp = some (.lst [V.str (S m1), V.str (S m2), V.str z3, V.str (Str.ofString "")]) := upd_same
    generalize upd G2 lp (.lst [V.str (S m1), V.str (S m2), V.str z3, V.str (Str.ofString "")]) = G3 at *
    have S3 : Sm H G3 := sF.trans ((Sm.of u1).smB ntp (C9.sm (Sm.of v1)))
    refine ⟨lp, rfl, ⟨_, SqL.of hL⟩, for_list (K := K) (a := lp) (xs := [V.str (S m1), V.str (S m2), V.str z3, V.str (Str.ofString "")]) (fun j σ G => ∃ x7 : Option V, σ = [some (.ref sa), some (.int (0 + (i : Int))), some (.ref tp), some (.str (S l)), some (.ref D), some (.str (S (txt rr))), some (.str (S o)), x7] ∧ Sm G3 G) ⟨_, rfl, Sm.refl _⟩ (fun j σ G _ h => by obtain ⟨_, _, sG⟩ := h; exact SqL.of (sG.lst hL)) ?_ ?_⟩
    · rintro j x σ G hx ⟨x7, rfl, sG⟩
      have fitz : ∃ z : Str, x = V.str z ∧ z.length ≤ 10000 ∧ (ws z).length ≤ 150 := by
        rcases four_at hx with e | e | e | e
        · exact ⟨_, e, by rw [S_len]; omega, by rw [ws_count]; omega⟩
        · exact ⟨_, e, by rw [S_len]; omega, by rw [ws_count]; omega⟩
        · exact ⟨_, e, by omega, by have := ws_weight z3; omega⟩
        · exact ⟨_, e, by rw [show Str.ofString "" = S [] from e_empty, S_len]; show 0 ≤ _; omega, by rw [show Str.ofString "" = S [] from e_empty, ws_count]; show 1 + 0 ≤ _; omega⟩
      obtain ⟨z, rfl, z1, z2⟩ := fitz
      refine ⟨_, rfl, z, rfl, (S3.trans sG).2.1 _ tg, z1, z2, fun G' s' => ⟨_, rfl, iteF ?_⟩⟩
      exact ⟨_, rfl, sG.trans s'⟩
    · rintro σ G ⟨x7, rfl, sG⟩
      exact ⟨_, _, _, _, _, _, _, rfl, S3.trans sG⟩
  · rintro σ F ⟨y1, y2, y3, y4, y5, y6, y7, rfl, sF⟩
    exact q F
end
def d_write_dance : He.DefD := ⟨("write_dance", none), "write_dance", "write_dance", defArgs s_write_dance, defBody s_write_dance, defScope s_write_dance, [], []⟩
def d_written : He.DefD := ⟨("written", none), "written", "written", defArgs s_written, defBody s_written, defScope s_written, [], []⟩
def d_read_dance : He.DefD := ⟨("read_dance", none), "read_dance", "read_dance", defArgs s_read_dance, defBody s_read_dance, defScope s_read_dance, [], []⟩
def d_is_word : He.DefD := ⟨("is_word", none), "is_word", "is_word", defArgs s_is_word, defBody s_is_word, defScope s_is_word, [], []⟩
def d_is_count : He.DefD := ⟨("is_count", none), "is_count", "is_count", defArgs s_is_count, defBody s_is_count, defScope s_is_count, [], []⟩
def d_run_of : He.DefD := ⟨("run_of", none), "run_of", "run_of", defArgs s_run_of, defBody s_run_of, defScope s_run_of, [], []⟩
def d__law_tape : He.DefD := ⟨("_law_tape", none), "_law_tape", "_law_tape", defArgs s_law_tape, defBody s_law_tape, defScope s_law_tape, [], []⟩
def d__law_take : He.DefD := ⟨("_law_take", none), "_law_take", "_law_take", defArgs s_law_take, defBody s_law_take, defScope s_law_take, [], []⟩
def d__law_dance : He.DefD := ⟨("_law_dance", none), "_law_dance", "_law_dance", defArgs s_law_dance, defBody s_law_dance, defScope s_law_dance, [], []⟩
def d__law_same : He.DefD := ⟨("_law_same", none), "_law_same", "_law_same", defArgs s_law_same, defBody s_law_same, defScope s_law_same, [], []⟩
def d__law_runs : He.DefD := ⟨("_law_runs", none), "_law_runs", "_law_runs", defArgs s_law_runs, defBody s_law_runs, defScope s_law_runs, [], []⟩
def d__law_text : He.DefD := ⟨("_law_text", none), "_law_text", "_law_text", defArgs s_law_text, defBody s_law_text, defScope s_law_text, [], []⟩
def d__law_split : He.DefD := ⟨("_law_split", none), "_law_split", "_law_split", defArgs s_law_split, defBody s_law_split, defScope s_law_split, [], []⟩
def d__law_word : He.DefD := ⟨("_law_word", none), "_law_word", "_law_word", defArgs s_law_word, defBody s_law_word, defScope s_law_word, [], []⟩
def d__law_read : He.DefD := ⟨("_law_read", none), "_law_read", "_law_read", defArgs s_law_read, defBody s_law_read, defScope s_law_read, [], []⟩
def d__law_spoilt : He.DefD := ⟨("_law_spoilt", none), "_law_spoilt", "_law_spoilt", defArgs s_law_spoilt, defBody s_law_spoilt, defScope s_law_spoilt, [], []⟩
def d__law_odd : He.DefD := ⟨("_law_odd", none), "_law_odd", "_law_odd", defArgs s_law_odd, defBody s_law_odd, defScope s_law_odd, [], []⟩
def d__law_refused : He.DefD := ⟨("_law_refused", none), "_law_refused", "_law_refused", defArgs s_law_refused, defBody s_law_refused, defScope s_law_refused, [], []⟩
def d__law_holds : He.DefD := ⟨("_law_holds", none), "_law_holds", "_law_holds", defArgs s_law_holds, defBody s_law_holds, defScope s_law_holds, [], []⟩
def d__law_great : He.DefD := ⟨("_law_great", none), "_law_great", "_law_great", defArgs s_law_great, defBody s_law_great, defScope s_law_great, [], []⟩
def d_law : He.DefD := ⟨("law", none), "law", "law", defArgs s_law, defBody s_law, defScope s_law, [], []⟩
def dfs : List He.DefD := [d_write_dance, d_written, d_read_dance, d_is_word, d_is_count, d_run_of, d__law_tape, d__law_take, d__law_dance, d__law_same, d__law_runs, d__law_text, d__law_split, d__law_word, d__law_read, d__law_spoilt, d__law_odd, d__law_refused, d__law_holds, d__law_great, d_law]
def fas : List He.Fa := [.glo "write_dance", .glo "written", .glo "read_dance", .glo "is_word", .glo "is_count", .glo "run_of", .glo "_law_tape", .glo "_law_take", .glo "_law_dance", .glo "_law_same", .glo "_law_runs", .glo "_law_text", .glo "_law_split", .glo "_law_word", .glo "_law_read", .glo "_law_spoilt", .glo "_law_odd", .glo "_law_refused", .glo "_law_holds", .glo "_law_great", .glo "law", .free "len", .free "abs", .free "int", .free "range", .free "isinstance", .free "tuple", .free "list", .free "str", .free "bool", .free "all", .free "any", .free "ValueError", .exc "BadText", .exm "BadText" "RopeError" true, .glo "BadText", .glo "RopeError", .glo "BadMove", .glo "NoFraction", .glo "NoDance", .str "DIGITS" "0123456789", .int "MOST_DIGITS" 9, .glo "LETTERS"]
def tbs : List He.Tab := []
def tfs : List He.Defn := [("is_count", none)]
def exs (K : PySem.W.Frag) : Bool := (PySem.W.hasDictIn K (He.ga K "BadText") && (He.eqO (PySem.W.findIn K (.ref (He.ga K "BadText")) "__getattribute__") (some (some (.builtin "BaseException.__getattribute__"))) && (He.eqO (PySem.W.findIn K (.ref (He.ga K "BadText")) "__getattr__") (some none) && (He.eqO (PySem.W.findIn K (.ref (He.ga K "BadText")) "__class__") (some (some (.builtin "object.__class__"))) && (decide (PySem.W.mroIn K (He.ga K "BadText") (.type "object") = some true) && (He.eqO (PySem.W.specialIn K (.builtin "object.__class__") "__get__") (some (some (.builtin "getset_descriptor.__get__"))) && (decide (PySem.W.takesIn K (.builtin "object.__class__") = some true) && (decide (PySem.W.kitOne K (.ref (He.ga K "BadText")) (.ref (He.ga K "BadText")) = some true) && (decide (PySem.W.kitOne K (.ref (He.ga K "BadText")) (.type "ValueError") = some true) && (decide (PySem.W.kitOne K (.ref (He.ga K "BadText")) (.ref (He.ga K "BadMove")) = some false) && (decide (PySem.W.kitOne K (.ref (He.ga K "BadText")) (.ref (He.ga K "NoFraction")) = some false) && (decide (PySem.W.kitOne K (.ref (He.ga K "BadText")) (.ref (He.ga K "NoDance")) = some false) && lettersB K))))))))))))
abbrev Rw : PySem.W.OpenRow := PySem.W.OpenLaw.row PySem.Challenge.rw_ropedance_k27_texts_of_dances
abbrev hk : PySem.W.Hook := He.hookX 6 fas dfs tbs tfs exs
def ob (s : PySem.W.SharedT) : He.AlX := He.obsX 6 fas dfs tbs tfs exs (HandSHeadRun.getT s)
theorem ob_eq (s : PySem.W.SharedT) : ob s = hk.obs s.abs := He.obsX_eq (HandSHeadRun.getT_eq s)
theorem head_run (w : World) : HandSHeadRun.RunEq Rw (PySem.W.view Rw.prog [31]) hk ob 6000 ["write_dance", "written", "read_dance", "is_word", "is_count", "run_of", "_law_tape", "_law_take", "_law_dance", "_law_same", "_law_runs", "_law_text", "_law_split", "_law_word", "_law_read", "_law_spoilt", "_law_odd", "_law_refused", "_law_holds", "_law_great", "RopeError", "NoFraction", "BadMove", "BadText", "NoDance", "DIGITS", "MOST_DIGITS", "LETTERS"] w := by
  intro os
  kernel_rfl
theorem fun_of {K : PySem.W.Frag} {d : He.DefD} {f : Addr} {fd : FuncData} {st : Stmt} (h : FunD K d.name d.qual d.params d.body d.scope (d.dvs K) (d.kws K) f fd) (ha : d.params = defArgs st) (hb : d.body = defBody st) (hs : d.scope = defScope st) (h0 : d.dfl = []) (h1 : d.kwd = []) : Fun K d.name d.qual st f fd := by
  obtain ⟨oc, od, dV, kV, doc, pm, an, cdv, ct, osl, e, lk, cd, dfl, kw⟩ := h.ex
  have e0 : d.dvs K = [] := by unfold He.DefD.dvs; rw [h0]; rfl
  rw [e0] at dfl
  have ed : dV = .none := by
    rcases dfl with ⟨_, q⟩ | ⟨q, _⟩
    · exact q
    · exact absurd rfl q
  subst ed
  rw [ha, hb, hs] at e
  exact ⟨⟨oc, od, kV, doc, pm, an, cdv, ct, osl, e, lk, cd⟩, h.kp⟩
abbrev spLawK (K : PySem.W.Frag) : Sp := spLaw27 K ((He.cT K ("is_count", none)).2)
theorem spLaw_from (K : PySem.W.Frag) : ∀ (H : Hp) (a : Addr) (ns : List Int), ns.length ≤ 63 → (∀ z ∈ ns, Builtin.Int.intBits z ≤ 1048576) → (∀ p ∈ tfs.map (He.cT K), H p.2 = some (.tbl #[])) → SqL K H a (ns.map V.int) → spLawK K [.ref a] H (fun v _ => v = .bl true) fun _ _ _ => False :=
  fun H a ns hl _ hT hS => ⟨a, ns, rfl, hS, hl, ⟨#[], hT _ (List.mem_map.mpr ⟨("is_count", none), List.mem_cons_self .., rfl⟩), trivial⟩, fun _ => rfl⟩
theorem all_facts {P : Program} {w : World} {K : PySem.W.Frag} {h : Heap} {mg : Str → Option Value} {fa : Addr} (X : K.In h) (G : h.Ns mainGlobals mg) (hfa : mg ("law" : Str) = some (.ref fa)) (c : He.SaysX fas dfs tbs tfs exs w h K) :
    ∃ fd : FuncData, (∀ (s : Shared) (v : Value), BindsTo s fd ⟨[v], []⟩ [("script", v)]) ∧ ∀ base : Heap, K.In base → base.Ns mainGlobals mg → (∀ p ∈ tfs.map (He.cT K), LamX.TabB base mg p.1 p.2) → FnOk P w K mg base CX0 7 fa fd ["script"] (spLawK K) := by
  have cd := c.t.d
  obtain ⟨fd0, G0⟩ := cd.def_ 0 (d := d_write_dance) rfl
  have F_write_dance : Fun K "write_dance" "write_dance" s_write_dance _ fd0 := fun_of G0 rfl rfl rfl rfl rfl
  have m_write_dance := He.glo_ok X G (cd.fact 0 (f := .glo "write_dance") rfl)
  have b_write_dance := F_write_dance.binds (ps := ["dance"]) fun _ _ _ _ _ _ us hl => match us, hl with | [_], _ => rfl
  obtain ⟨fd1, G1⟩ := cd.def_ 1 (d := d_written) rfl
  have F_written : Fun K "written" "written" s_written _ fd1 := fun_of G1 rfl rfl rfl rfl rfl
  have m_written := He.glo_ok X G (cd.fact 1 (f := .glo "written") rfl)
  have b_written := F_written.binds (ps := ["run"]) fun _ _ _ _ _ _ us hl => match us, hl with | [_], _ => rfl
  obtain ⟨fd2, G2⟩ := cd.def_ 2 (d := d_read_dance) rfl
  have F_read_dance : Fun K "read_dance" "read_dance" s_read_dance _ fd2 := fun_of G2 rfl rfl rfl rfl rfl
  have m_read_dance := He.glo_ok X G (cd.fact 2 (f := .glo "read_dance") rfl)
  have b_read_dance := F_read_dance.binds (ps := ["text"]) fun _ _ _ _ _ _ us hl => match us, hl with | [_], _ => rfl
  obtain ⟨fd3, G3⟩ := cd.def_ 3 (d := d_is_word) rfl
  have F_is_word : Fun K "is_word" "is_word" s_is_word _ fd3 := fun_of G3 rfl rfl rfl rfl rfl
  have m_is_word := He.glo_ok X G (cd.fact 3 (f := .glo "is_word") rfl)
  have b_is_word := F_is_word.binds (ps := ["word"]) fun _ _ _ _ _ _ us hl => match us, hl with | [_], _ => rfl
  obtain ⟨fd4, G4⟩ := cd.def_ 4 (d := d_is_count) rfl
  have F_is_count : Fun K "is_count" "is_count" s_is_count _ fd4 := fun_of G4 rfl rfl rfl rfl rfl
  have m_is_count := He.glo_ok X G (cd.fact 4 (f := .glo "is_count") rfl)
  have b_is_count := F_is_count.binds (ps := ["digits"]) fun _ _ _ _ _ _ us hl => match us, hl with | [_], _ => rfl
  obtain ⟨fd5, G5⟩ := cd.def_ 5 (d := d_run_of) rfl
  have F_run_of : Fun K "run_of" "run_of" s_run_of _ fd5 := fun_of G5 rfl rfl rfl rfl rfl
  have m_run_of := He.glo_ok X G (cd.fact 5 (f := .glo "run_of") rfl)
  have b_run_of := F_run_of.binds (ps := ["word"]) fun _ _ _ _ _ _ us hl => match us, hl with | [_], _ => rfl
  obtain ⟨fd6, G6⟩ := cd.def_ 6 (d := d__law_tape) rfl
  have F__law_tape : Fun K "_law_tape" "_law_tape" s_law_tape _ fd6 := fun_of G6 rfl rfl rfl rfl rfl
  have m__law_tape := He.glo_ok X G (cd.fact 6 (f := .glo "_law_tape") rfl)
  have b__law_tape := F__law_tape.binds (ps := ["script", "k"]) fun _ _ _ _ _ _ us hl => match us, hl with | [_, _], _ => rfl
  obtain ⟨fd7, G7⟩ := cd.def_ 7 (d := d__law_take) rfl
  have F__law_take : Fun K "_law_take" "_law_take" s_law_take _ fd7 := fun_of G7 rfl rfl rfl rfl rfl
  have m__law_take := He.glo_ok X G (cd.fact 7 (f := .glo "_law_take") rfl)
  have b__law_take := F__law_take.binds (ps := ["tape", "many"]) fun _ _ _ _ _ _ us hl => match us, hl with | [_, _], _ => rfl
  obtain ⟨fd8, G8⟩ := cd.def_ 8 (d := d__law_dance) rfl
  have F__law_dance : Fun K "_law_dance" "_law_dance" s_law_dance _ fd8 := fun_of G8 rfl rfl rfl rfl rfl
  have m__law_dance := He.glo_ok X G (cd.fact 8 (f := .glo "_law_dance") rfl)
  have b__law_dance := F__law_dance.binds (ps := ["tape", "most"]) fun _ _ _ _ _ _ us hl => match us, hl with | [_, _], _ => rfl
  obtain ⟨fd9, G9⟩ := cd.def_ 9 (d := d__law_same) rfl
  have F__law_same : Fun K "_law_same" "_law_same" s_law_same _ fd9 := fun_of G9 rfl rfl rfl rfl rfl
  have m__law_same := He.glo_ok X G (cd.fact 9 (f := .glo "_law_same") rfl)
  have b__law_same := F__law_same.binds (ps := ["told", "due"]) fun _ _ _ _ _ _ us hl => match us, hl with | [_, _], _ => rfl
  obtain ⟨fd10, G10⟩ := cd.def_ 10 (d := d__law_runs) rfl
  have F__law_runs : Fun K "_law_runs" "_law_runs" s_law_runs _ fd10 := fun_of G10 rfl rfl rfl rfl rfl
  have m__law_runs := He.glo_ok X G (cd.fact 10 (f := .glo "_law_runs") rfl)
  have b__law_runs := F__law_runs.binds (ps := ["dance"]) fun _ _ _ _ _ _ us hl => match us, hl with | [_], _ => rfl
  obtain ⟨fd11, G11⟩ := cd.def_ 11 (d := d__law_text) rfl
  have F__law_text : Fun K "_law_text" "_law_text" s_law_text _ fd11 := fun_of G11 rfl rfl rfl rfl rfl
  have m__law_text := He.glo_ok X G (cd.fact 11 (f := .glo "_law_text") rfl)
  have b__law_text := F__law_text.binds (ps := ["runs"]) fun _ _ _ _ _ _ us hl => match us, hl with | [_], _ => rfl
  obtain ⟨fd12, G12⟩ := cd.def_ 12 (d := d__law_split) rfl
  have F__law_split : Fun K "_law_split" "_law_split" s_law_split _ fd12 := fun_of G12 rfl rfl rfl rfl rfl
  have m__law_split := He.glo_ok X G (cd.fact 12 (f := .glo "_law_split") rfl)
  have b__law_split := F__law_split.binds (ps := ["tape", "runs"]) fun _ _ _ _ _ _ us hl => match us, hl with | [_, _], _ => rfl
  obtain ⟨fd13, G13⟩ := cd.def_ 13 (d := d__law_word) rfl
  have F__law_word : Fun K "_law_word" "_law_word" s_law_word _ fd13 := fun_of G13 rfl rfl rfl rfl rfl
  have m__law_word := He.glo_ok X G (cd.fact 13 (f := .glo "_law_word") rfl)
  have b__law_word := F__law_word.binds (ps := ["word"]) fun _ _ _ _ _ _ us hl => match us, hl with | [_], _ => rfl
  obtain ⟨fd14, G14⟩ := cd.def_ 14 (d := d__law_read) rfl
  have F__law_read : Fun K "_law_read" "_law_read" s_law_read _ fd14 := fun_of G14 rfl rfl rfl rfl rfl
  have m__law_read := He.glo_ok X G (cd.fact 14 (f := .glo "_law_read") rfl)
  have b__law_read := F__law_read.binds (ps := ["text"]) fun _ _ _ _ _ _ us hl => match us, hl with | [_], _ => rfl
  obtain ⟨fd15, G15⟩ := cd.def_ 15 (d := d__law_spoilt) rfl
  have F__law_spoilt : Fun K "_law_spoilt" "_law_spoilt" s_law_spoilt _ fd15 := fun_of G15 rfl rfl rfl rfl rfl
  have m__law_spoilt := He.glo_ok X G (cd.fact 15 (f := .glo "_law_spoilt") rfl)
  have b__law_spoilt := F__law_spoilt.binds (ps := ["tape", "text"]) fun _ _ _ _ _ _ us hl => match us, hl with | [_, _], _ => rfl
  obtain ⟨fd16, G16⟩ := cd.def_ 16 (d := d__law_odd) rfl
  have F__law_odd : Fun K "_law_odd" "_law_odd" s_law_odd _ fd16 := fun_of G16 rfl rfl rfl rfl rfl
  have m__law_odd := He.glo_ok X G (cd.fact 16 (f := .glo "_law_odd") rfl)
  have b__law_odd := F__law_odd.binds (ps := ["tape"]) fun _ _ _ _ _ _ us hl => match us, hl with | [_], _ => rfl
  obtain ⟨fd17, G17⟩ := cd.def_ 17 (d := d__law_refused) rfl
  have F__law_refused : Fun K "_law_refused" "_law_refused" s_law_refused _ fd17 := fun_of G17 rfl rfl rfl rfl rfl
  have m__law_refused := He.glo_ok X G (cd.fact 17 (f := .glo "_law_refused") rfl)
  have b__law_refused := F__law_refused.binds (ps := ["text"]) fun _ _ _ _ _ _ us hl => match us, hl with | [_], _ => rfl
  obtain ⟨fd18, G18⟩ := cd.def_ 18 (d := d__law_holds) rfl
  have F__law_holds : Fun K "_law_holds" "_law_holds" s_law_holds _ fd18 := fun_of G18 rfl rfl rfl rfl rfl
  have m__law_holds := He.glo_ok X G (cd.fact 18 (f := .glo "_law_holds") rfl)
  have b__law_holds := F__law_holds.binds (ps := ["text"]) fun _ _ _ _ _ _ us hl => match us, hl with | [_], _ => rfl
  obtain ⟨fd19, G19⟩ := cd.def_ 19 (d := d__law_great) rfl
  have F__law_great : Fun K "_law_great" "_law_great" s_law_great _ fd19 := fun_of G19 rfl rfl rfl rfl rfl
  have m__law_great := He.glo_ok X G (cd.fact 19 (f := .glo "_law_great") rfl)
  have b__law_great := F__law_great.binds (ps := ["tape"]) fun _ _ _ _ _ _ us hl => match us, hl with | [_], _ => rfl
  obtain ⟨fd20, G20⟩ := cd.def_ 20 (d := d_law) rfl
  have F_law : Fun K "law" "law" s_law _ fd20 := fun_of G20 rfl rfl rfl rfl rfl
  have m_law := He.glo_ok X G (cd.fact 20 (f := .glo "law") rfl)
  have b_law := F_law.binds (ps := ["script"]) fun _ _ _ _ _ _ us hl => match us, hl with | [_], _ => rfl
  have y_len := He.free_ok X G (cd.fact 21 (f := .free "len") rfl)
  have y_abs := He.free_ok X G (cd.fact 22 (f := .free "abs") rfl)
  have y_int := He.free_ok X G (cd.fact 23 (f := .free "int") rfl)
  have y_range := He.free_ok X G (cd.fact 24 (f := .free "range") rfl)
  have y_isinstance := He.free_ok X G (cd.fact 25 (f := .free "isinstance") rfl)
  have y_tuple := He.free_ok X G (cd.fact 26 (f := .free "tuple") rfl)
  have y_list := He.free_ok X G (cd.fact 27 (f := .free "list") rfl)
  have y_str := He.free_ok X G (cd.fact 28 (f := .free "str") rfl)
  have y_bool := He.free_ok X G (cd.fact 29 (f := .free "bool") rfl)
  have y_all := He.free_ok X G (cd.fact 30 (f := .free "all") rfl)
  have y_any := He.free_ok X G (cd.fact 31 (f := .free "any") rfl)
  have y_ValueError := He.free_ok X G (cd.fact 32 (f := .free "ValueError") rfl)
  have fa0 := cd.fact 33 (f := .exc "BadText") rfl
  have fa1 := cd.fact 34 (f := .exm "BadText" "RopeError" true) rfl
  have fa2 := cd.fact 35 (f := .glo "BadText") rfl
  have fa3 := cd.fact 36 (f := .glo "RopeError") rfl
  have fa4 := cd.fact 37 (f := .glo "BadMove") rfl
  have fa5 := cd.fact 38 (f := .glo "NoFraction") rfl
  have fa6 := cd.fact 39 (f := .glo "NoDance") rfl
  have fa7 := cd.fact 40 (f := .str "DIGITS" "0123456789") rfl
  have fa8 := cd.fact 41 (f := .int "MOST_DIGITS" 9) rfl
  have fa9 := cd.fact 42 (f := .glo "LETTERS") rfl
  have e := hfa.symm.trans m_law
  cases e
  refine ⟨fd20, fun s v => ?_, fun base KB GB TB => ?_⟩
  · obtain ⟨oc, od, kV, doc, pm, an, cdv, ct, osl, e, _⟩ := F_law.ex
    rw [e]
    exact .of_eq rfl
  have mo := c.more
  unfold exs at mo
  obtain ⟨mo1, mo⟩ := He.ba mo
  obtain ⟨mo2, mo⟩ := He.ba mo
  obtain ⟨mo3, mo⟩ := He.ba mo
  obtain ⟨mo4, mo⟩ := He.ba mo
  obtain ⟨mo5, mo⟩ := He.ba mo
  obtain ⟨mo6, mo⟩ := He.ba mo
  obtain ⟨mo7, mo⟩ := He.ba mo
  obtain ⟨mo8, mo⟩ := He.ba mo
  obtain ⟨mo9, mo⟩ := He.ba mo
  obtain ⟨mo10, mo⟩ := He.ba mo
  obtain ⟨mo11, mo⟩ := He.ba mo
  obtain ⟨mo12, mo13⟩ := He.ba mo
  have ex := He.exc_ok fa0
  have EC : Err K mg "BadText" (He.ga K "BadText") := ⟨He.glo_ok X G fa2, ex.1, ex.2.1, ex.2.2.1, ex.2.2.2, mo1, He.eqO_ok mo2, He.eqO_ok mo3, He.eqO_ok mo4, of_decide_eq_true mo5⟩
  have hsp := He.eqO_ok mo6
  have htk := of_decide_eq_true mo7
  have gR := He.glo_ok X G fa3
  have g1 := He.glo_ok X G fa4
  have g2 := He.glo_ok X G fa5
  have g3 := He.glo_ok X G fa6
  have Z : Kin K (He.ga K "BadText") (He.ga K "RopeError") (He.ga K "BadMove") (He.ga K "NoFraction") (He.ga K "NoDance") := ⟨He.exm_ok fa1, of_decide_eq_true mo8, of_decide_eq_true mo9, of_decide_eq_true mo10, of_decide_eq_true mo11, of_decide_eq_true mo12⟩
  obtain ⟨tD, gD⟩ := He.str_ok X G fa7
  obtain ⟨tM, gM⟩ := He.int_ok X G fa8
  have gLet := He.glo_ok X G fa9
  have hLet := letters_ok mo13
  have D_tape : Dfn P w K mg base "_law_tape" 1 _ (spTape K) := ⟨_, _, ok_tape F__law_tape y_len y_abs y_int, m__law_tape, F__law_tape.kp, b__law_tape⟩
  have D_take : Dfn P w K mg base "_law_take" 1 _ spTake := ⟨_, _, ok_take F__law_take y_int, m__law_take, F__law_take.kp, b__law_take⟩
  have D_dance : Dfn P w K mg base "_law_dance" 2 _ spDance := ⟨_, _, ok_dance F__law_dance D_take y_range, m__law_dance, F__law_dance.kp, b__law_dance⟩
  have D_same0 : Dfn P w K mg base "_law_same" 0 _ (spSame 0) := ⟨_, _, none_same, m__law_same, F__law_same.kp, b__law_same⟩
  have D_same1 : Dfn P w K mg base "_law_same" 1 _ (spSame 1) := ⟨_, _, ok_same F__law_same D_same0 y_isinstance y_tuple y_list y_len y_range y_str y_int y_bool, m__law_same, F__law_same.kp, b__law_same⟩
  have D_written : Dfn P w K mg base "written" 1 _ spWritten := ⟨_, _, ok_written F_written y_len y_str , m_written, F_written.kp, b_written⟩
  have D_write_dance : DfnT P w K mg base "write_dance" 2 _ spWriteD := ⟨_, _, ok_write_dance F_write_dance D_written gLet hLet, m_write_dance, F_write_dance.kp, b_write_dance⟩
  have TBC : GxR.TabB base mg (He.cT K ("is_count", none)).1 (He.cT K ("is_count", none)).2 := by
    have t := TB (He.cT K ("is_count", none)) (List.mem_map.mpr ⟨("is_count", none), List.mem_cons_self .., rfl⟩)
    exact ⟨t.code, t.bm, t.gP⟩
  have codeC : fd4.code = .ref (He.cT K ("is_count", none)).1 := by
    obtain ⟨oc, od, kV, doc, pm, an, cdv, ct, osl, e, lk, cdn⟩ := F_is_count.ex
    obtain ⟨x, hx⟩ := He.codeIn_ref cdn
    have hc : fd4.code = .ref x := by rw [e]; exact hx
    rw [hc]
    exact congrArg Value.ref (He.codeOf_eq (p := ("is_count", none)) lk hc).symm
  have D_is_count : Dfn P w K mg base "is_count" 1 _ (spCount (He.cT K ("is_count", none)).2) := ⟨_, _, ok_is_count F_is_count y_len codeC TBC gM gD y_all, m_is_count, F_is_count.kp, b_is_count⟩
  have D_is_word : Dfn P w K mg base "is_word" 2 _ (spWordQ ((He.cT K ("is_count", none)).2)) := ⟨_, _, ok_is_word F_is_word y_len D_is_count gLet hLet, m_is_word, F_is_word.kp, b_is_word⟩
  have D_run_of : Dfn P w K mg base "run_of" 1 _ spRunOf := ⟨_, _, ok_run_of F_run_of y_len y_int , m_run_of, F_run_of.kp, b_run_of⟩
  have GR := ok_readX (P := P) (w := w) (base := base) F_read_dance (D_run_of.mono (by decide)) EC D_is_word
  have D_refused : Dfn P w K mg base "_law_refused" 4 _ (spRefD ((He.cT K ("is_count", none)).2)) := ⟨_, _, ok_refused F__law_refused GR m_read_dance F_read_dance.kp b_read_dance (EC.c hsp htk) EC.g gR g1 g2 g3 Z y_isinstance y_ValueError y_any, m__law_refused, F__law_refused.kp, b__law_refused⟩
  have D__law_runs : Dfn P w K mg base "_law_runs" 1 _ spRuns := ⟨_, _, ok__law_runs F__law_runs y_len , m__law_runs, F__law_runs.kp, b__law_runs⟩
  have D__law_text : Dfn P w K mg base "_law_text" 1 _ spText := ⟨_, _, ok__law_text F__law_text y_str , m__law_text, F__law_text.kp, b__law_text⟩
  have D__law_split : Dfn P w K mg base "_law_split" 2 _ spSplit := ⟨_, _, ok__law_split F__law_split D_take y_str , m__law_split, F__law_split.kp, b__law_split⟩
  have D__law_word : Dfn P w K mg base "_law_word" 1 _ spWordL := ⟨_, _, ok__law_word F__law_word y_len y_int , m__law_word, F__law_word.kp, b__law_word⟩
  have D__law_read : Dfn P w K mg base "_law_read" 2 _ spReadL := ⟨_, _, ok__law_read F__law_read D__law_word , m__law_read, F__law_read.kp, b__law_read⟩
  have D__law_holds : Dfn P w K mg base "_law_holds" 5 _ (spHolds ((He.cT K ("is_count", none)).2)) := ⟨_, _, ok__law_holds F__law_holds (D__law_read.mono (by decide)) D_refused (D_same1.mono (by decide)) GR m_read_dance F_read_dance.kp b_read_dance, m__law_holds, F__law_holds.kp, b__law_holds⟩
  have D__law_spoilt : Dfn P w K mg base "_law_spoilt" 2 _ spSpoilt27 := ⟨_, _, ok__law_spoilt F__law_spoilt D_take y_range y_len , m__law_spoilt, F__law_spoilt.kp, b__law_spoilt⟩
  have D__law_odd : Dfn P w K mg base "_law_odd" 2 _ spOdd := ⟨_, _, ok__law_odd F__law_odd D_take , m__law_odd, F__law_odd.kp, b__law_odd⟩
  have D__law_great : Dfn P w K mg base "_law_great" 4 _ (spGreat ((He.cT K ("is_count", none)).2)) := ⟨_, _, ok__law_great F__law_great (D_take.mono (by decide)) (D_write_dance.mono (by decide)) (D__law_text.mono (by decide)) y_int y_str GR m_read_dance F_read_dance.kp b_read_dance, m__law_great, F__law_great.kp, b__law_great⟩
  exact ok_law F_law (D__law_great.mono (by decide)) (D_tape.mono (by decide)) (D__law_odd.mono (by decide)) (D__law_spoilt.mono (by decide)) (D__law_holds.mono (by decide)) (D_same1.mono (by decide)) (D__law_split.mono (by decide)) (D_write_dance.mono (by decide)) (D__law_text.mono (by decide)) (D__law_runs.mono (by decide)) (D_dance.mono (by decide)) y_range GR m_read_dance F_read_dance.kp b_read_dance
end Rope
open PySem PySem.W PySem.Calls PyProof.Rows
set_option maxRecDepth 100000 in
set_option maxHeartbeats 0 in
theorem PySem.Challenge.cw_ropedance_k27_texts_of_dances_holds : PySem.Challenge.rw_ropedance_k27_texts_of_dances.Holds := by
  w_on; o_law
  refine HandSHeadRun.head_any (r := OpenLaw.row PySem.Challenge.rw_ropedance_k27_texts_of_dances) (q := view (OpenLaw.row PySem.Challenge.rw_ropedance_k27_texts_of_dances).prog [31]) (H := Rope.hk) (ob := Rope.ob) (M := 6000) (loose := ["write_dance", "written", "read_dance", "is_word", "is_count", "run_of", "_law_tape", "_law_take", "_law_dance", "_law_same", "_law_runs", "_law_text", "_law_split", "_law_word", "_law_read", "_law_spoilt", "_law_odd", "_law_refused", "_law_holds", "_law_great", "RopeError", "NoFraction", "BadMove", "BadText", "NoDance", "DIGITS", "MOST_DIGITS", "LETTERS"]) (d := HandSHeadRun.topDef (OpenLaw.row PySem.Challenge.rw_ropedance_k27_texts_of_dances).prog 31) (kwd := []) Rope.ob_eq
    (by kernel_rfl) (fun s => by kernel_rfl) Rope.head_run (by kernel_rfl) (by kernel_rfl) (by kernel_rfl) (by rfl) (by first | assumption | decide +kernel) (by decide +kernel) ⟨rfl, rfl, rfl, rfl, rfl, by decide +kernel⟩ ?hw ?hc
  case hw => w_witness2
  case hc =>
    refine LamX.walk_ofTsE (l := PySem.Challenge.rw_ropedance_k27_texts_of_dances) (n := 63) (k := 7) (x := "script") (CX := fun _ => L2.CX0) rfl (by decide) (by kernel_rfl) ⟨rfl, by decide, by decide⟩ ?F (fun _ _ _ _ _ z => z)
    intro w mg fa h Y G hmg0
    obtain ⟨K, KX, c⟩ := Y
    have hmg : mg ("law" : PySem.Str) = some (.ref fa) := by
      have e : (HandSHeadRun.topDef (OpenLaw.row PySem.Challenge.rw_ropedance_k27_texts_of_dances).prog 31).name = ("law" : PySem.Str) := by kernel_rfl
      rw [← e]
      exact hmg0
    obtain ⟨fd, hb, hF⟩ := Rope.all_facts (P := (PySem.Challenge.rw_ropedance_k27_texts_of_dances).prog) (w := w) KX G hmg c
    refine ⟨K, KX, fd, Rope.tfs.map (He.cT K), Rope.spLawK K, fun p hp => ?_, fun p hp => ?_, fun p hp => ?_, hb, Rope.spLaw_from K, hF⟩
    · obtain ⟨x, hx, rfl⟩ := List.mem_map.mp hp
      exact c.empty x hx
    · obtain ⟨x, hx, rfl⟩ := List.mem_map.mp hp
      exact c.out x hx
    · obtain ⟨x, hx, rfl⟩ := List.mem_map.mp hp
      exact PySem.W.codeHd_of_K KX (c.hd x hx)
