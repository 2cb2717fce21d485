import PyProof.Rows.All
import Wide.All
import OpenK.AllK
import Wide.FinOn
import PyProof.StrBlock2
import HandS.ForMost
import HandS.Wide
import HandS.IsInst
import HandS.Exc
import HandS.ExcOwn
import HandS.ExcCtx
import HandS.ExcIs
import HandS.Hot
import HandS.WordsExc
import HandS.Gcd
import HandS.AnyAll
import HandS.Style
import HandS.More
import HandS.List
import HandS.Dict
import HandS.Conv
import HandS.TupLe
import HandS.Deep
import HandS.Strs
import HandS.Codes
import HandS.Text
import HandS.Flow
import HandS.Comp
import HandS.TryOnly
import HandS.HeadHook4
import HandS.HeadEnd
import HandS.HeadWalk
import HandS.Head0
import HandS.Head1
import HandS.Head2
import HandS.Head3
import PySem.Challenge.RW_ropedance_k28_lines_of_moves
set_option Elab.async false
set_option linter.all false
set_option maxRecDepth 100000
set_option maxHeartbeats 4000000
namespace Rope
open PySem L2


/-! ### texts as lists of codes -/
def S (l : List Nat) : Str := ⟨l.toArray⟩
theorem S_len (l : List Nat) : (S l).length = l.length := by simp [S, Str.length]
theorem S_list (l : List Nat) : (S l).cps.toList = l := by simp [S]
theorem S_size (l : List Nat) : (S l).cps.size = l.length := by simp [S]
theorem S_get (l : List Nat) (i : Nat) : (S l).cps[i]? = l[i]? := by simp [S]
theorem S_inj {l m : List Nat} (h : S l = S m) : l = m := by
  have := congrArg (fun z : Str => z.cps.toList) h
  simpa [S] using this
theorem S_app (l m : List Nat) : S l ++ S m = S (l ++ m) := by
  show Str.append (S l) (S m) = S (l ++ m)
  simp [Str.append, S]
theorem S_mul (l : List Nat) (n : Int) : Txt.mul (S l) n = S (List.replicate n.toNat l).flatten := by
  unfold Txt.mul
  by_cases h1 : n < 1
  · rw [if_pos h1]
    have : n.toNat = 0 := by omega
    rw [this]
    rfl
  · rw [if_neg h1]
    by_cases h2 : (n == 1 || (S l).length == 0) = true
    · rw [if_pos h2]
      simp only [Bool.or_eq_true, beq_iff_eq] at h2
      rcases h2 with h2 | h2
      · subst h2
        show S l = S (List.replicate 1 l).flatten
        simp
      · rw [S_len] at h2
        have : l = [] := List.eq_nil_of_length_eq_zero h2
        subst this
        simp
    · rw [if_neg h2]
      have aux : ∀ (k : Nat) (a : Array Nat), ((List.replicate k (S l).cps).foldl (· ++ ·) a).toList = a.toList ++ (List.replicate k l).flatten := by
        intro k
        induction k with
        | zero => intro a; simp
        | succ k ih =>
          intro a
          rw [List.replicate_succ, List.foldl_cons, ih, List.replicate_succ, List.flatten_cons, Array.toList_append, List.append_assoc, S_list]
      have := aux n.toNat #[]
      unfold S
      congr 1
      apply Array.toList_inj.mp
      rw [show S l = (⟨l.toArray⟩ : Str) from rfl] at this
      rw [this]
      simp
theorem S_cut (l : List Nat) (lo hi : Option Int) : cutS (S l) lo hi = S ((l.drop (HT.sIx l.length 0 lo)).take (HT.sIx l.length l.length hi - HT.sIx l.length 0 lo)) := by
  unfold cutS
  rw [S_len, S_list]
  rfl
theorem S_take (l : List Nat) {m : Int} (h : 0 ≤ m) : cutS (S l) none (some m) = S (l.take m.toNat) := by
  obtain ⟨k, rfl⟩ := Int.eq_ofNat_of_zero_le h
  rw [S_cut, HT.sIx_none, HT.sIx_nat, List.drop_zero, Nat.sub_zero, Int.toNat_natCast]
  congr 1
  by_cases h2 : k ≤ l.length
  · rw [Nat.min_eq_left h2]
  · rw [Nat.min_eq_right (by omega), List.take_of_length_le (Nat.le_refl _), List.take_of_length_le (by omega)]
theorem S_drop (l : List Nat) {m : Int} (h : 0 ≤ m) : cutS (S l) (some m) none = S (l.drop m.toNat) := by
  obtain ⟨k, rfl⟩ := Int.eq_ofNat_of_zero_le h
  rw [S_cut, HT.sIx_none, HT.sIx_nat, Int.toNat_natCast]
  congr 1
  rw [List.take_of_length_le (by simp)]
  by_cases h2 : k ≤ l.length
  · rw [Nat.min_eq_left h2]
  · rw [Nat.min_eq_right (by omega), List.drop_length, List.drop_eq_nil_of_le (by omega)]
/-- a text times an int -/
theorem op_mul_str {X : Cx} : OpR X (binaryOp .Mult) (fun x y H Q => ∃ (l : List Nat) (n : Int), x = .str (S l) ∧ y = .int n ∧ 0 ≤ n ∧ n < 2 ^ 62 ∧ l.length * n.toNat ≤ 16777215 ∧ Q (.str (S (List.replicate n.toNat l).flatten)) H) := by
  intro pins s σ H x y v u Q I rx ry h
  obtain ⟨l, n, rfl, rfl, h0, h1, h2, q⟩ := h
  obtain ⟨t, rfl⟩ := rx
  obtain ⟨t', rfl⟩ := ry
  have e1 : decide (n < -(2 ^ 63 : Int)) = false := decide_eq_false (by omega)
  have e2 : decide (n ≥ 2 ^ 63) = false := decide_eq_false (by omega)
  refine SB.mul ⟨by rw [e1, e2]; rfl, fun z1 z2 => ?_, fun z1 z2 => ?_⟩ fun t' k => ⟨.str _, H, I.tok _, ⟨_, rfl⟩, by rw [S_mul]; exact q⟩
  · rw [S_len]
    have h3 : (l.length : Int) * n ≤ 16777215 := by
      have : ((l.length * n.toNat : Nat) : Int) ≤ 16777215 := Int.ofNat_le.mpr h2
      rw [Int.natCast_mul, Int.toNat_of_nonneg h0] at this
      exact this
    have hn : 0 < n := by omega
    intro hc
    have hc' : (2 ^ 63 - 1) / n < (l.length : Int) := hc
    have := (Int.ediv_lt_iff_lt_mul hn).mp hc'
    omega
  · rw [S_len]
    unfold Builtin.Str.tooLong
    rw [sizeLine_eq]
    exact decide_eq_false (by omega)
/-! ### the calls: a fraction by a letter -/
def called (v : Int × Int) (c : Nat) : Int × Int :=
  if c = 84 then (v.1 + v.2, v.2) else if c = 85 then (v.1 - v.2, v.2) else if 0 < v.1 then (0 - v.2, v.1) else if v.1 < 0 then (v.2, 0 - v.1) else (1, 0)
def run (v : Int × Int) (l : List Nat) : Int × Int := l.foldl called v
theorem run_nil (v : Int × Int) : run v [] = v := rfl
theorem run_app (v : Int × Int) (l m : List Nat) : run v (l ++ m) = run (run v l) m := List.foldl_append
theorem run_take {l : List Nat} {i c : Nat} (v : Int × Int) (h : l[i]? = some c) : run v (l.take (i + 1)) = called (run v (l.take i)) c := by
  rw [List.take_add_one, h, run_app]
  rfl
/-- what a fraction of the laws keeps: q positive or infinite, no common divisor -/
def Good (v : Int × Int) : Prop := (0 < v.2 ∨ v = (1, 0)) ∧ Int.gcd v.1 v.2 = 1
theorem Good.zero : Good (0, 1) := ⟨.inl (by decide), by decide⟩
theorem gcd_add' (p q : Int) : Int.gcd (p + q) q = Int.gcd p q := by
  have := Int.gcd_add_mul_right_left p q 1
  simpa using this
theorem Good.called {v : Int × Int} (h : Good v) (c : Nat) : Good (called v c) := by
  obtain ⟨p, q⟩ := v
  obtain ⟨h1, h2⟩ := h
  simp only at h1 h2
  unfold Rope.called
  by_cases c1 : c = 84
  · rw [if_pos c1]
    refine ⟨?_, ?_⟩
    · rcases h1 with h1 | h1
      · exact .inl h1
      · cases h1; exact .inr rfl
    · show Int.gcd (p + q) q = 1
      rw [gcd_add']; exact h2
  rw [if_neg c1]
  by_cases c2 : c = 85
  · rw [if_pos c2]
    refine ⟨?_, ?_⟩
    · rcases h1 with h1 | h1
      · exact .inl h1
      · cases h1; exact .inr rfl
    · show Int.gcd (p - q) q = 1
      have := gcd_add' (p - q) q
      rw [Int.sub_add_cancel] at this
      rw [← this]; exact h2
  rw [if_neg c2]
  by_cases c3 : 0 < p
  · rw [if_pos (show 0 < (p, q).1 from c3)]
    refine ⟨.inl c3, ?_⟩
    show Int.gcd (0 - q) p = 1
    rw [Int.zero_sub, Int.neg_gcd, Int.gcd_comm]; exact h2
  rw [if_neg (show ¬ 0 < (p, q).1 from c3)]
  by_cases c4 : p < 0
  · rw [if_pos (show (p, q).1 < 0 from c4)]
    refine ⟨.inl (by show 0 < 0 - p; omega), ?_⟩
    show Int.gcd q (0 - p) = 1
    rw [Int.zero_sub, Int.gcd_neg, Int.gcd_comm]; exact h2
  rw [if_neg (show ¬ (p, q).1 < 0 from c4)]
  exact ⟨.inr rfl, by decide⟩
theorem good_run : ∀ (l : List Nat) {v : Int × Int}, Good v → Good (run v l)
  | [], _, h => h
  | c :: r, _, h => good_run r (h.called c)
/-- its size grows by a bit a letter -/
theorem called_size {v : Int × Int} {n : Nat} (h1 : v.1.natAbs ≤ n) (h2 : v.2.natAbs ≤ n) (h0 : 1 ≤ n) (c : Nat) : (called v c).1.natAbs ≤ 2 * n ∧ (called v c).2.natAbs ≤ 2 * n := by
  unfold called
  repeat' split
  all_goals simp only
  all_goals omega
theorem run_size : ∀ (l : List Nat) {v : Int × Int} {n : Nat}, v.1.natAbs ≤ n → v.2.natAbs ≤ n → 1 ≤ n → (run v l).1.natAbs ≤ 2 ^ l.length * n ∧ (run v l).2.natAbs ≤ 2 ^ l.length * n
  | [], v, n, h1, h2, _ => by simpa [run] using ⟨h1, h2⟩
  | c :: r, v, n, h1, h2, h0 => by
    have q := called_size h1 h2 h0 c
    have ih := run_size r q.1 q.2 (by omega)
    have e : 2 ^ (c :: r).length * n = 2 ^ r.length * (2 * n) := by
      rw [List.length_cons, Nat.pow_succ, Nat.mul_assoc]
    rw [e]
    exact ih
/-! ### the divisor -/
theorem gcd_step (x y : Int) : Nat.gcd y.natAbs (x.fmod y).natAbs = Nat.gcd x.natAbs y.natAbs := by
  show Int.gcd y (x.fmod y) = Int.gcd x y
  have e : x.fmod y = x + y * (-(x.fdiv y)) := by
    have := Int.fmod_def x y
    rw [this, Int.mul_neg]
    rfl
  rw [e, Int.gcd_add_mul_left_right, Int.gcd_comm]
theorem fmod_less {x y : Int} (h : y ≠ 0) : (x.fmod y).natAbs < y.natAbs := by
  by_cases h0 : 0 < y
  · rw [Int.fmod_eq_emod_of_nonneg x (by omega)]
    have h1 := Int.emod_nonneg x h
    have h2 := Int.emod_lt_of_pos x h0
    omega
  · have e : x.fmod y = -((-x).fmod (-y)) := by
      have := Int.neg_fmod_neg (a := x) (b := y)
      omega
    rw [e, Int.fmod_eq_emod_of_nonneg _ (by omega)]
    have h1 := Int.emod_nonneg (-x) (b := -y) (by omega)
    have h2 := Int.emod_lt_of_pos (-x) (b := -y) (by omega)
    omega
/-- for letter in text -/
theorem for_str {l : List Nat} {g : TG} {tb : TS} {D : Ends} {σ : L2.St} {H : Hp} (Pv : Nat → L2.St → Hp → Prop) (h0 : Pv 0 σ H)
    (hs : ∀ i c σ H, l[i]? = some c → Pv i σ H → g (.str (S [c])) σ H fun σ2 H2 => tb { D with nx := Pv (i + 1), ct := Pv (i + 1), bk := D.nx } σ2 H2) (hd : ∀ σ H, Pv l.length σ H → D.nx σ H) :
    ∃ W : Nat → Nat → L2.St → Hp → Prop, (∃ m, W 0 m σ H) ∧ ∀ i m σ H, W i m σ H →
      ((Its (S l)).stop i H ∧ D.nx σ H) ∨ ((Its (S l)).go i H ∧ ∃ N : L2.St → Hp → Prop, (∀ σ' H', N σ' H' → ∃ m', m' < m ∧ W (i + 1) m' σ' H') ∧ ∀ x H', (Its (S l)).yld i H x H' → g x σ H' fun σ2 H2 => tb { D with nx := N, ct := N, bk := D.nx } σ2 H2) := by
  refine ⟨fun i m σ H => m = l.length - i ∧ i ≤ l.length ∧ Pv i σ H, ⟨l.length, by simp, Nat.zero_le _, h0⟩, ?_⟩
  rintro i m σ H ⟨rfl, hi, p⟩
  by_cases hlt : i < l.length
  · refine .inr ⟨by show i < (S l).cps.size; rw [S_size]; exact hlt, Pv (i + 1), fun σ' H' p' => ⟨l.length - (i + 1), by omega, rfl, hlt, p'⟩, fun x H' y => ?_⟩
    obtain ⟨e, c, hc, rfl⟩ := y
    subst e
    rw [S_get] at hc
    exact hs i c σ _ hc p
  · have e : i = l.length := by omega
    subst e
    exact .inl ⟨by show (S l).cps.size ≤ l.length; rw [S_size]; exact Nat.le_refl _, hd σ H p⟩

section
open PySem.F HotX
variable {prog : Program} {w : World} {A : Around} {E : Value → Shared → Prop} {s : Shared}
/-- the end of a list's walk while an exception is handled -/
theorem list_end_hot {it l x1 : Addr} {i : Nat} {items : Array Value} {Q : Option Value → Shared → Prop} (hot : HotAt A x1 s.heap) (hne : x1 ≠ it)
    (hit : s.heap.IsListIter it l i) (hl : s.heap.IsList l items) (hx : items[i]? = none)
    (hQ : ∀ h', Heap.ExtBut it s.heap h' → Q none { s with heap := h' }) : wpAny (model prog w) A (pyNext (.ref it)) Q E s := by
  obtain ⟨io, iAt, _, iDat⟩ := id hit
  obtain ⟨lo, lAt, _, ln, lDat⟩ := hl
  obtain ⟨he, xo, xv, xAt, xDat, xCtx⟩ := hot
  have typ := hit.typeIs
  unfold pyNext
  refine wpAny_bind (wpAny_attempt (wpAny_callSpecial?_slot (name := Str.ofString "__next__") typ slot_listiter_next (wpAny_call_entry slot_listiter_next typ entry_listiter_next ?body (args_listiter_next _))))
  -- the list, the place, the items: nothing is left
  show wpAny _ _ (field (.ref it) 0 >>= _) _ _ s; refine wpAny_bind (wpAny_field iAt iDat (x := .ref l) rfl ?_)
  show wpAny _ _ (if (Value.ref l == Value.none) = true then _ else _) _ _ s; rw [if_neg (show ¬ ((Value.ref l == Value.none) = true) from Bool.false_ne_true)]
  show wpAny _ _ (field (.ref it) 1 >>= _) _ _ s; refine wpAny_bind (wpAny_field iAt iDat (x := .int i 0) rfl ?_)
  show wpAny _ _ (seqItems? (.ref l) >>= _) _ _ s; refine wpAny_bind (wpAny_seqItems lAt lDat ?_); simp only [Int.toNat_natCast, hx]
  refine wpAny_bind (wpAny_rule (wpAny_bind (wpAny_setField iAt iDat (by simp) ?stop)))
  -- StopIteration is made and raised on top of the one that is handled
  show wpAny _ _ (newExc (.type "StopIteration") [] >>= _) _ _ _; refine wpAny_bind ?_; simp only [newExc, newTuple]
  refine wpAny_bind (wpAny_newObj_type (wpAny_bind (m := firstArgMember _ _) (wpAny_of_eq (a := Value.none) (by first | rfl | (simp only [firstArgMember]; rfl)) (wpAny_newObj_type ?_ (by size_fits)))) (by size_fits))
  have kept := (Heap.get?_update_other s.heap (Obj.mapFields (·.setIfInBounds 0 .none)) hne.symm).trans xAt
  have far := Heap.lt_size (Heap.get?_push_of_some { cls := .type "tuple", data := .seq #[] } kept)
  refine raiseNew_hot ⟨he, xo, xv, Heap.get?_push_of_some _ (Heap.get?_push_of_some _ kept), xDat, xCtx⟩ (Nat.ne_of_lt far) (Heap.get?_push_size _ rfl) rfl (by first | (simp; done) | (simp; omega) | (simp only [Array.size_append]; simp; omega)) ?_
  refine wpAny_bind (wpAny_isInstance (T := "StopIteration") (b := true) ⟨_, Heap.get?_update_self _ (Heap.get?_push_size _ rfl) rfl, rfl⟩ isSubtype_stop (wpAny_pure (hQ _ fun c u hc e => ?_)))
  have e2 := (Heap.SameBut.update s.heap it (Obj.mapFields (·.setIfInBounds 0 .none))).extBut c u hc e
  have e3 := Heap.get?_push_of_some { cls := .type "tuple", data := .seq #[] } e2
  exact (Heap.get?_update_other _ _ (Nat.ne_of_gt (Heap.lt_size e3))).trans (Heap.get?_push_of_some _ e3)
end
/-- a list walked while an exception is handled -/
theorem walks_list_hot {prog : Program} {w : World} {A : Around} {x1 : Addr} {o1 : Obj} {vs1 : Array Value} (hh : A.handled = some (.ref x1)) (d1 : o1.data = .fields vs1) (c1 : vs1[2]? = some .none) (I ax : Addr) (hne : ax ≠ I) (h1I : x1 ≠ I) (items : Array Value) :
    Walks prog w A I [I, ax, x1] [I] items.size (fun i v => items[i]? = some v) (fun i h => h.IsListIter I ax i ∧ h.IsList ax items ∧ h.get? x1 = some o1) where
  sub := fun b hb => by simp at hb; simp [hb]
  frame := fun _ _ _ st hk => ⟨st.1.at fun o e => hk I (by simp) o e, st.2.1.at fun o e => hk ax (by simp) o e, hk x1 (by simp) _ st.2.2⟩
  item := fun i s Q E hi st hQ => by
    exact wpAny_pyNext_list_item st.1 st.2.1 (x := items[i]) (by simp [hi]) fun h' hit' hs' => hQ _ h' s.toks (by simp [hi]) ⟨hit', st.2.1.extBut hs'.extBut hne, hs'.extBut x1 _ h1I st.2.2⟩ fun b o hb e => hs'.extBut b o (fun h => hb (by simp [h])) e
  done := fun s Q E st hQ => list_end_hot ⟨hh, o1, vs1, st.2.2, d1, c1⟩ h1I st.1 st.2.1 (by simp) fun h' he' => hQ h' s.toks fun b o hb e => he' b o (fun h => hb (by simp [h])) e
  self := fun _ _ _ _ st hQ => wpAny_pyIter_listiter st.1 hQ
section
variable {X : Cx} {a : Addr} {oe : Obj} {cls : Value} {d : Option Addr} {pn : List (Addr × Obj)}
/-- any(list of bools) within an except suite -/
theorem any_hot (hz : L2N.Zn cls d oe) (hf : ∃ vs, oe.data = .fields vs) : CallR (X.suite a ((a, oe) :: pn)) (.builtin "any") (rAny X.K) := fun pins s σ H vs us Q I r ⟨b, bs, ev, hs, q⟩ => by
  subst ev
  obtain ⟨its, rv, hl, _⟩ := Inv.list I hs
  obtain ⟨fv, hd⟩ := hf
  have here := (I.pin (a, oe) (List.mem_append_left _ List.mem_cons_self)).1
  have lt := Heap.lt_size here
  rw [Vals.ref1 r]
  have items := rv.bls
  refine call_any_walk (iter_any hl.isList fun z ez st ne => ?_); subst ez
  refine ⟨_, _, _, _, _, _, _, rfl, walks_list_hot (A := (X.suite a ((a, oe) :: pn)).A.in1) (x1 := a) (o1 := oe) rfl hd (hz.2.2 fv hd) _ b ne (Nat.ne_of_lt lt) its.toArray, ⟨st.1, st.2, Heap.get?_push_of_some _ here⟩, truth_bools items, fun h' tk hk => ?_⟩
  have all : ∀ c u, s.heap.get? c = some u → h'.get? c = some u := fun c u e => hk c u (fun m => by
    rw [List.mem_singleton.mp m] at e
    exact Nat.lt_irrefl _ (Heap.lt_size e)) (Heap.get?_push_of_some _ e)
  refine ⟨.bl (bs.any id), H, I.kept all, ?_, q⟩
  show Value.bool ((List.range its.toArray.size).any fun i => bs.getD i false) = .bool (bs.any id)
  rw [← any_range, items, List.size_toArray, List.length_map]
/-- isinstance(e, c) of the error that the suite holds -/
def rIsF (K : PySem.W.Frag) (D a : Addr) (cls : Value) (d : Option Addr) : List V → Hp → VK → Prop := fun xs H Q => cls = .ref D ∧ d = none ∧ rIsE K D a xs H Q
theorem call_isF {D : Addr} (C : ExcC X.K D) (hz : L2N.Zn cls d oe) (hf : ∃ vs, oe.data = .fields vs) : CallR (X.suite a ((a, oe) :: pn)) (.builtin "isinstance") (rIsF X.K D a cls d) := by
  intro pins s σ H xs us Q I r h
  obtain ⟨rfl, rfl, h⟩ := h
  exact call_isE C hz.zc hf pins s σ H xs us Q I r h
end
theorem takes0N {X : Cx} : L2N.Takes X (fun _ _ _ _ => False) := fun _ _ ⟨_, _, _, _, _, _, _, _, _, _, _, _, _, _, _, _, no⟩ => False.elim no
theorem okX {P : Program} {w : World} {K : PySem.W.Frag} {mg : Str → Option Value} {base : Heap} {x qual : Str} {st : Stmt} {f : Addr} {fd : FuncData} {N ps : List Str} {k : Nat} {sp : Sp} (F : Fun K x qual st f fd) (S : FnScope N ps (defScope st)) (len : ∀ vs H Q E, sp vs H Q E → vs.length = ps.length)
    (hbody : ∀ (cdv : Value) (A : Around) (outer : List Env) (s : Shared) (H : Hp) (vs : List V) (Q : VK) (E : XK), Room k (A.deeper (PyProof.Rows.envOfC qual (defScope st) s.heap.objs.size f cdv)) → sp vs H Q E →
      ∃ t, PSs (cxOf (L2N.CX P w) P w K mg base N qual (defScope st) f cdv A outer s H E) (defBody st) t ∧ t { nx := fun _ H' => Q .non H', rt := Q } (start N vs) H) : FnOk P w K mg base (L2N.CX P w) (k + 1) f fd ps sp := by
  obtain ⟨_, _, _, _, _, _, cdv, _, _, rfl, lk, hcd⟩ := F.ex
  exact fn_of lk hcd S len (hbody cdv)
/-! ### an error class of the program -/
structure Err (K : PySem.W.Frag) (mg : Str → Option Value) (x : Str) (C : Addr) : Prop where
  g : mg x = some (.ref C)
  x : PySem.W.excIn K C [.type "ValueError", .type "Exception", .type "BaseException", .type "object"] "ValueError.__new__" = true
  k : PySem.W.keepIn K (.ref C) = true
  b : PySem.W.subIn K (.ref C) (.type "BaseException") = some true
  t : PySem.W.typeIn K (.ref C) = some (.type "type")
  hd : PySem.W.hasDictIn K C = true
  hg : PySem.W.findIn K (.ref C) "__getattribute__" = some (some (.builtin "BaseException.__getattribute__"))
  hk : PySem.W.findIn K (.ref C) "__getattr__" = some none
  ha : PySem.W.findIn K (.ref C) "__class__" = some (some (.builtin "object.__class__"))
  hm : PySem.W.mroIn K C (.type "object") = some true
theorem Err.c {K : PySem.W.Frag} {mg : Str → Option Value} {x : Str} {C : Addr} (e : Err K mg x C) (hn : PySem.W.specialIn K (.builtin "object.__class__") "__get__" = some (some (.builtin "getset_descriptor.__get__"))) (ht : PySem.W.takesIn K (.builtin "object.__class__") = some true) : ExcC K C :=
  ⟨e.hg, e.hk, e.b, e.hd, e.ha, hn, ht, e.hm⟩
/-- // of great ints, of any sign -/
theorem op_fdivWN {X : Cx} : OpR X (binaryOp .FloorDiv) (rI (fun _ j => j ≠ 0 ∧ j.natAbs.log2 < 9000) fun i j => .int (i.fdiv j)) := opI fun i j _ _ _ _ _ hc q =>
  PyProof.Rows.floordiv_int hc.1 q (.inl (PyProof.noPylong_of_log2 hc.2))

/-! ### text[::-1] -/
theorem rev_pick (l : List Nat) (t : Tok) (a : Tok) : sliceMade (S l) t none none (some (-1, a)) = Made.str (S l.reverse) := by
  have hs : slicePicked (S l) none none (some (-1, a)) = (List.range l.length).reverse := by
    show sliceRange (((S l).length : Int) - 1) (-1) (-1) = _
    rw [S_len, PySem.W.krv_sliceRange, PySem.W.krv_range]
  have hf : ((List.range l.length).reverse.filterMap ((S l).cps[·]?)) = l.reverse := by
    rw [List.filterMap_reverse]
    congr 1
    have : ∀ m : List Nat, (List.range m.length).filterMap (fun i => m[i]?) = m := fun m => by
      induction m with
      | nil => rfl
      | cons c r ih =>
        rw [List.length_cons, List.range_succ_eq_map, List.filterMap_cons, List.filterMap_map]
        show c :: (List.range r.length).filterMap (fun i => r[i]?) = c :: r
        rw [ih]
    have h2 : (fun i => (S l).cps[i]?) = fun i => l[i]? := funext fun i => S_get l i
    rw [h2]
    exact this l
  unfold sliceMade
  rw [hs, hf]
  rfl
def tRevS (te : TE) : TE := fun σ H Q => te σ H fun x H1 => ∃ l : List Nat, x = .str (S l) ∧ l.length ≤ 16777216 ∧ Q (.str (S l.reverse)) H1
theorem pe_revS {X : Cx} {e : Expr} {te : TE} {k : Nat} {p1 p2 p3 pos : Pos} (he : PE X e te) : PE X (.Subscript e (.Slice none none (some (.UnaryOp .USub (.Constant (.int 1) k p1) p2)) p3) pos) (tRevS te) := by
  constructor
  intro pins s σ H Q I hyp
  apply PyProof.Rows.Subscript_
  refine thn (he.run pins s σ H _ I hyp) fun v s1 ⟨x, H1, I1, r1, l, ex, hl, q⟩ => ?_
  subst ex
  obtain ⟨tk, rfl⟩ := r1
  have minus : PO X (some (.UnaryOp .USub (.Constant (.int 1) k p1) p2)) (tPart (tUn (rU fun i => .int (-i)) (tC (.int 1)))) := po_some (pe_un un_neg pe_int)
  apply wpAny_Slice
  refine thn (po_none.run pins s1 σ H1 (fun o G => o = none ∧ G = H1) I1 ⟨rfl, rfl⟩) fun v1 s2 ⟨o1, G1, J1, a1, b1, c1⟩ => ?_
  subst b1; subst c1
  refine thn (po_none.run pins s2 σ G1 (fun o G => o = none ∧ G = G1) J1 ⟨rfl, rfl⟩) fun v2 s3 ⟨o2, G2, J2, a2, b2, c2⟩ => ?_
  subst b2; subst c2
  refine thn (minus.run pins s3 σ G2 (fun o G => o = some (-1) ∧ G = G2) J2 ⟨1, rfl, -1, rfl, rfl, rfl⟩) fun v3 s4 ⟨o3, G3, J3, a3, b3, c3⟩ => ?_
  subst b3; subst c3
  obtain ⟨y1, rfl, g1⟩ := IsPart.raw a1
  obtain ⟨y2, rfl, g2⟩ := IsPart.raw a2
  obtain ⟨y3, rfl, g3⟩ := IsPart.raw a3
  cases y1 with
  | some z => cases g1
  | none =>
  cases y2 with
  | some z => cases g2
  | none =>
  cases y3 with
  | none => cases g3
  | some z =>
  obtain ⟨z1, z2⟩ := z
  have ez : z1 = -1 := Option.some.inj g3
  subst ez
  show wpAny (model X.prog X.w) X.A (PyProof.Rows.subscriptTail e (.Slice none none (some (.UnaryOp .USub (.Constant (.int 1) k p1) p2)) p3) (.str (S l) tk) (.ref s4.heap.objs.size)) (EP X pins σ Q) X.xe { s4 with heap := s4.heap.push { cls := .type "slice", data := .fields #[partValue none, partValue none, partValue (some (-1, z2))] } }
  refine PyProof.Rows.tail_any (ops := [.str (S l) tk, .ref s4.heap.objs.size]) (typeIs_str _ _ _) PySem.F.slot_str_getitem.lookup ?_ (by with_unfolding_all rfl)
  refine wpAny_getItem_str_slice (l := none) (u := none) (st := some (-1, z2)) ⟨_, Heap.get?_push_size _ rfl, rfl, rfl⟩ (by rfl) ?_
  rw [rev_pick]
  exact ⟨by rw [S_len, List.length_reverse, sizeLine_eq]; exact hl, .str _, _, J3.kept (t' := s4.toks + 1) fun b ob w => Heap.get?_push_of_some _ w, ⟨_, rfl⟩, q⟩
/-! ### all(test for x in text), where the test may read what the top has written -/
section
open GxR
variable {X : Cx} {pins : List (Addr × Obj)} {σ : L2.St} {H : Hp} {s : Shared}
def EltG (X : Cx) (scope : Scope) (x : Str) (elt : Expr) (pb : Nat → Bool) : Prop :=
  ∀ (cenv : Env) (A' : Around) (E' : Value → Shared → Prop) (c : Nat) (t : Tok) (z : Shared) (m : Str → Option Value), X.Ok → cenv.scope = scope → cenv.globals = X.env.globals → (∀ b o, X.base.get? b = some o → z.heap.get? b = some o) →
    z.heap.Ns cenv.locals m → m x = some (.str ⟨#[c]⟩ t) → wpAny (model X.prog X.w) A' (eval elt cenv) (fun y z' => y = .bool (pb c) ∧ Keeps z z') E' z
theorem tbl_not {H : Hp} {P : Addr} {ps : Array Value} (hP : H P = some (.tbl ps)) {b : Addr} (h : H b = none) : b ≠ P := fun z => by rw [z, hP] at h; cases h
theorem gen_go {c P : Addr} {elt : Expr} {x : Str} {scope : Scope} {pb : Nat → Bool} {k : Nat} {Q' : Value → Shared → Prop} {a : Str} {o : Obj} {St : Nat → Heap → Prop} {ps : Array Value}
    (hr : Room k X.A) (TB : TabB X.base X.mg c P) (sc : GenS X.env scope x) (hel : EltG X scope x elt pb) (J : L2.Inv X pins σ H s) (hP : H P = some (.tbl ps)) (atP : s.heap.get? P = some { cls := .none, data := .fields ps }) (ltP : P < s.heap.objs.size)
    (W : ∀ A' : Around, A'.handled = none → Walks X.prog X.w A' s.heap.objs.size [s.heap.objs.size] [s.heap.objs.size] a.cps.size (SignAt a) St) (st0 : St 0 (s.heap.push o)) (code : Value) (h3 : Heap) (tk : Nat) (ps' more : Array Value) (em : ps' = ps ++ more)
    (hx : Heap.ExtBut P (s.heap.push o) h3) (hsz : (s.heap.push o).objs.size ≤ h3.objs.size) (h3P : h3.get? P = some { cls := .none, data := .fields ps' }) (ok' : TriplesOk ps'.toList) (lim : (s.heap.push o).NoLimit) (hQ : ∀ g z, Ready X pins σ H P a pb g z → Q' (.ref g) z) :
    wpAny (model X.prog X.w) X.A (builtinsFor X.env.globals X.env.builtins) (fun bi s₄ =>
      ∃ Ia fp wr n₀ Pf St₀ pz F, Value.ref s.heap.objs.size = .ref Ia ∧ (∀ A' : Around, A'.handled = none → Walks X.prog X.w A' Ia fp wr n₀ Pf St₀) ∧ St₀ 0 s₄.heap ∧ (∀ b ∈ fp, b < s₄.heap.objs.size) ∧ s₄.heap.NoLimit ∧ cStatics ∉ wr ∧
        (∀ href : Heap, (∀ b u, s₄.heap.get? b = some u → href.get? b = some u) → QuietGen X.prog X.w (genEnv scope (cloFrom X.env.cells scope.names []) s₄.heap.objs.size code bi X.env) x [] elt (List.range s₄.heap.objs.size) wr Pf pz F href) ∧
        (∀ g h₅ tk gs, gs.bare = true → s₄.heap.objs.size < g → h₅.objs.size = g + 1 → (∀ b u, s₄.heap.get? b = some u → h₅.get? b = some u) →
          WalksS X.prog X.w X.A.in4 g (g :: s₄.heap.objs.size :: List.range s₄.heap.objs.size) (s₄.heap.objs.size :: wr) (GenOnlyQ s₄.gens.size) (passing pz n₀ 0).length (fun j y => ∃ i, (passing pz n₀ 0)[j]? = some i ∧ F i y) (GenAt X.prog X.w X.A.in4 g s₄.gens.size s₄.heap.objs.size (List.range s₄.heap.objs.size) wr pz n₀ F) →
          GenAt X.prog X.w X.A.in4 g s₄.gens.size s₄.heap.objs.size (List.range s₄.heap.objs.size) wr pz n₀ F 0 { s₄ with gens := s₄.gens.push gs, toks := tk, heap := h₅ } → Q' (.ref g) { s₄ with gens := s₄.gens.push gs, toks := tk, heap := h₅ })) X.xe { s with heap := h3, toks := tk } := by
  obtain ⟨bm, ob, q1, q2, q3, q4, q5, q6, q7, q8⟩ := TB.bm
  obtain ⟨cm, cns, cnn⟩ := J.nolimit
  have cP : cStatics ≠ P := fun z => by
    obtain ⟨o2, es, ep, g1, g2, _⟩ := cns
    rw [z, atP] at g1
    cases g1
    cases g2
  have cL : cStatics < s.heap.objs.size := cns.lt
  have big : (s.heap.push o).objs.size = s.heap.objs.size + 1 := Heap.size_push ..
  have kept : ∀ b u, b ≠ P → s.heap.get? b = some u → h3.get? b = some u := fun b u n e => hx b u n (Heap.get?_push_of_some _ e)
  have bases : ∀ b u, X.base.get? b = some u → h3.get? b = some u := fun b u e => kept b u (tbl_not hP (J.bs b u e).2) (J.bk b u e)
  refine wpAny_builtinsFor (m := X.mg) (by rw [J.ok.glob]; exact J.mod.glob.keeps bases) q1 q2 (bases _ _ q5) q6 q7 q8 ?_
  refine ⟨s.heap.objs.size, [s.heap.objs.size], [s.heap.objs.size], a.cps.size, SignAt a, St, fun _ => true, fun i y => ∃ cc, a.cps[i]? = some cc ∧ y = .bool (pb cc), rfl, W, ?_, ?_, lim.extBut hx cP, ?_, ?_, ?_⟩
  · refine (W X.A hr.hd).frame _ _ _ st0 fun b hb u e => hx b u ?_ e
    rw [List.mem_singleton.mp hb]
    exact Nat.ne_of_gt ltP
  · intro b hb
    rw [List.mem_singleton.mp hb]
    exact Nat.lt_of_lt_of_le (by rw [big]; exact Nat.lt_succ_self _) hsz
  · rw [List.mem_singleton]
    exact Nat.ne_of_lt cL
  · intro href hh
    refine ⟨fun A' E' i v s₂ m₂ _ _ _ _ _ => ?_, fun A' E' i v s₂ m₂ _ hv _ hn hm hk => ?_⟩
    · rw [List.forIn_nil]
      exact wpAny_pure ⟨rfl, keeps_refl s₂⟩
    · obtain ⟨cc, u, hcc, rfl⟩ := hv
      refine wpAny_mono (hel _ A' E' cc u s₂ m₂ J.ok rfl rfl (fun b w e => ?_) hn hm) (fun y z r => ⟨⟨cc, hcc, r.1⟩, r.2⟩) fun _ _ e => e
      have lb := Heap.lt_size (J.bk b w e)
      exact hk b (List.mem_range.mpr (Nat.lt_of_lt_of_le (Nat.lt_of_lt_of_le lb (by rw [big]; exact Nat.le_succ _)) hsz)) (by rw [List.mem_singleton]; exact Nat.ne_of_lt lb) w (hh b w (bases b w e))
  · intro g h5 tk5 gs bare _ _ _ W5 at5
    have W6 := W5
    simp only [GxR.passing_true, List.length_range] at W6
    refine hQ g _ ⟨_, _, _, _, _, W6.in4_1, at5, fun j y sj Qj Ej hy hq => ?_, fun z mv => ?_⟩
    · obtain ⟨i, hi, cc, hcc, rfl⟩ := hy
      obtain ⟨_, ei⟩ := List.getElem?_eq_some_iff.mp hi
      rw [List.getElem_range] at ei
      subst ei
      have hq' : Qj (trF pb a.cps.toList j) sj := hq
      rw [trF_some (show a.cps.toList[j]? = some cc by rw [Array.getElem?_toList]; exact hcc)] at hq'
      exact wpAny_truthy_bool hq'
    · have off : ∀ b u, s.heap.get? b = some u → b ∉ h3.objs.size :: [s.heap.objs.size] := fun b u e hb => by
        have l1 := Heap.lt_size e
        have l2 : s.heap.objs.size < h3.objs.size := Nat.lt_of_lt_of_le (by rw [big]; exact Nat.lt_succ_self _) hsz
        rcases List.mem_cons.mp hb with r | r
        · rw [r] at l1; exact absurd (Nat.lt_trans l1 l2) (Nat.lt_irrefl _)
        · rw [List.mem_singleton.mp r] at l1; exact absurd l1 (Nat.lt_irrefl _)
      have five : ∀ b u, h3.get? b = some u → h5.get? b = some u := by assumption
      have L := inv_tab (more := more) (h' := z.heap) (g' := z.gens) (d' := z.drawn) (t' := z.toks) J hP (fun b u n e => mv.heap b u (off b u e) (five b u (kept b u n e))) (by rw [← em]; exact mv.heap P _ (off P _ atP) (five P _ h3P)) (PyProof.Rows.AllBare.movedS (J.bare.push bare) mv)
      rw [sh_eta s z mv.os] at L
      exact ⟨upd H P (.tbl (ps ++ more)), ⟨⟨ps ++ more, upd_same, by rw [← em]; exact ok'⟩, fun b n => upd_ne n⟩, L⟩
theorem gen_signs {c P : Addr} {elt iter : Expr} {x : Str} {px gpos : Pos} {scope : Scope} {pb : Nat → Bool} {te : TE} {k : Nat} {Q' : Value → Shared → Prop} {R : Str → Hp → Prop}
    (hr : Room k X.A) (TB : TabB X.base X.mg c P) (hcode : X.env.code = .ref c) (sc : GenS X.env scope x) (hi : PE X iter te) (hel : EltG X scope x elt pb) (hs : ∀ v, genFold iter X.env v = pure v)
    (I : L2.Inv X pins σ H s) (h : te σ H fun v G => ∃ a : Str, v = .str a ∧ TabG G P ∧ R a G) (hQ : ∀ a G g z, R a G → Ready X pins σ G P a pb g z → Q' (.ref g) z) :
    wpAny (model X.prog X.w) X.A (eval (.GeneratorExp elt [⟨.Name x px, iter, [], 0⟩] scope gpos) X.env) Q' X.xe s := by
  have room : X.A.depth < recursionLimit := by have := hr.dp; omega
  refine wpAny_GeneratorExp_walksQ hr.hd sc.co (closure_ok sc.free) sc.cell sc.dot sc.loc sc.kind room (thn (hi.run pins s σ H _ I h) fun u s1 ⟨v, G, J, rv, a, ev, ⟨ps, hP, ok⟩, hR⟩ => ?_) hs
  subst ev
  obtain ⟨t, rfl⟩ := id rv
  refine wpAny_pyIter_str fun o St W st0 => ?_
  -- the table, the sizes, what is kept
  have atP : s1.heap.get? P = some { cls := .none, data := .fields ps } := J.hok P _ hP
  have ltP : P < s1.heap.objs.size := Heap.lt_size atP
  have atP' : (s1.heap.push o).get? P = some { cls := .none, data := .fields ps } := Heap.get?_push_of_some _ atP
  have cd : PySem.W.CodeHd (s1.heap.push o) c P := TB.code.keeps fun b w e => Heap.get?_push_of_some _ (J.bk b w e)
  have lim : (s1.heap.push o).NoLimit := J.nolimit.push o
  have next : ∀ (code : Value) (h3 : Heap) (tk : Nat) (ps' more : Array Value), ps' = ps ++ more → Heap.ExtBut P (s1.heap.push o) h3 → (s1.heap.push o).objs.size ≤ h3.objs.size → h3.get? P = some { cls := .none, data := .fields ps' } → TriplesOk ps'.toList → _ :=
    fun code h3 tk ps' more em hx hsz h3P ok' => gen_go (elt := elt) hr TB sc hel J hP atP ltP W st0 code h3 tk ps' more em hx hsz h3P ok' lim fun g z rd => hQ a G g z hR rd
  refine ⟨lim, ?_⟩
  cases hf : codeAmong gpos ps.toList with
  | some cv => exact wpAny_genexprCode_hit hcode (cd.code atP' ok) hf (next cv (s1.heap.push o) s1.toks ps #[] (by simp) (Heap.ExtBut.refl _ _) (Nat.le_refl _) atP' ok)
  | none =>
    refine wpAny_genexprCodeX hcode (cd.code atP' ok) (cd.tab atP') hf fun c' h' tk hx hge hlt hco' _ htab' _ => ?_
    obtain ⟨o1, vs, f1, tf, fl, tg, inF, tx, tt, op, _, _, _, _, _, _, _, _, _, htr, _⟩ := hco'
    exact next _ h' tk _ _ rfl hx (Nat.le_trans hge (Nat.le_of_lt hlt)) htab'.2 htr
theorem pe_allG {c P : Addr} {elt iter : Expr} {x : Str} {px p pos gpos : Pos} {scope : Scope} {pb : Nat → Bool} {te : TE} {k : Nat} (hr : Room k X.A) (hg : Gl X "all") (hm : X.mg "all" = none) (TB : TabB X.base X.mg c P) (hcode : X.env.code = .ref c)
    (sc : GenS X.env scope x) (hi : PE X iter te) (hel : EltG X scope x elt pb) (hs : ∀ v, genFold iter X.env v = pure v)
    (he : starEach [.GeneratorExp elt [⟨.Name x px, iter, [], 0⟩] scope gpos] X.env = (false, eval (.GeneratorExp elt [⟨.Name x px, iter, [], 0⟩] scope gpos) X.env) :: starEach [] X.env := by rfl) :
    PE X (.Call (.Name "all" p) [.GeneratorExp elt [⟨.Name x px, iter, [], 0⟩] scope gpos] [] pos) (tAllS P pb te) := by
  constructor
  intro pins s σ H Q I hyp
  have hb : bootBuiltins "all" = some (.builtin "all") := by decide +kernel
  refine wpAny_Call_Name_kw (ld_blt I hg hm hb (PyProof.Rows.callWith_builtin1 ?_ he (by rfl)))
  rw [he]
  show wpAny _ _ (spliced ((false, eval (.GeneratorExp elt [⟨.Name x px, iter, [], 0⟩] scope gpos) X.env) :: backTo pos (starEach [] X.env))) _ _ s
  refine Calls.spliced_cons (gen_signs (R := fun a G => ∀ G', Tabbed P G G' → Q (.bl (a.cps.toList.all pb)) G') hr TB hcode sc hi hel hs I hyp fun a G g z hR rd => Calls.spliced_nil ?_)
  obtain ⟨fp, wr, Gs, F, St, W, st, tr, done⟩ := rd
  refine call_all_walkS (W.self 0 _ _ _ st ⟨g, fp, wr, Gs, _, F, St, _, rfl, W, st, tr, fun z' mv => ?_⟩)
  obtain ⟨G', tb, L⟩ := done z' mv
  refine ⟨.bl _, G', L, rfl, ?_⟩
  rw [all_signs a pb]
  exact hR G' tb
/-- x in D, D a dict that the top has written -/
theorem elt_in {scope : Scope} {x y : Str} {pb : Nat → Bool} {d : Addr} {es : Array DictEntry} {n : Nat} {p1 p2 p3 : Pos} (D : KDict X.K X.w d es n) (gy : X.mg y = some (.ref d)) (hp : ∀ c, ∃ r, PySem.W.nsIn X.K d (S [c]) = some r ∧ r.isSome = pb c)
    (hk : scope.kind = .function) (hl : scope.names.lookup x = some .local) (hy : scope.names.lookup y = some .globalImplicit) (hd : (x == ("__debug__" : Str)) = false := by decide) (hd2 : (y == ("__debug__" : Str)) = false := by decide) :
    EltG X scope x (.Compare (.Name x p1) [.In] [.Name y p2] p3) pb := by
  intro cenv A' E' c t z m ok hs hg hb hn hm
  have kind : cenv.scope.kind = .function := by rw [hs]; exact hk
  refine wpAny_Compare1 (wpAny_Name (wpAny_loadName_local kind (show cenv.scope.names.lookup x = some .local by rw [hs]; exact hl) hn hm ?_) hd)
  refine Calls.Name_function_global kind (show cenv.scope.names.lookup y = some .globalImplicit by rw [hs]; exact hy) (Calls.loadGlobal_global (by rw [hg, ok.glob]; exact ok.mod.glob.keeps hb) gy ?_) hd2
  obtain ⟨r, e1, e2⟩ := hp c
  refine wpAny_in_of (PySem.strKind_is X.prog X.w (S [c]) t) D.low (PySem.W.mapOf_K (prog := X.prog) (ok.mod.kin.keeps hb) D.at_ D.lit) ?_
  rw [PySem.W.find_K D.at_ e1, e2]
  exact ⟨rfl, keeps_tok _ _⟩
end
/-! ### ''.join of texts, comprehensions over a text -/
theorem join_empty (ys : List (List Nat)) : Txt.join (S []) (ys.map S) = S ys.flatten := by
  have go : ∀ (zs : List (List Nat)) (a : Array Nat), ((zs.map S).foldl (fun acc p => acc ++ (S []).cps ++ p.cps) a).toList = a.toList ++ zs.flatten := by
    intro zs
    induction zs with
    | nil => intro a; simp
    | cons z r ih =>
      intro a
      rw [List.map_cons, List.foldl_cons, ih]
      simp [S]
  show Builtin.Str.glued (S []) (ys.map S) = _
  unfold Builtin.Str.glued
  cases ys with
  | nil => rfl
  | cons y r =>
    have := go r (S y).cps
    show (⟨(r.map S).foldl (fun acc p => acc ++ (S []).cps ++ p.cps) (S y).cps⟩ : Str) = _
    unfold S at this ⊢
    congr 1
    apply Array.toList_inj.mp
    rw [this]
    simp
theorem join_signs (l : List Nat) : Txt.join (S []) (l.map fun c => S [c]) = S l := by
  have := join_empty (l.map fun c => [c])
  rw [List.map_map] at this
  rw [show (l.map fun c => S [c]) = l.map (S ∘ fun c => [c]) from rfl, this]
  congr 1
  induction l with
  | nil => rfl
  | cons c r ih => rw [List.map_cons, List.flatten_cons, ih (join_empty _ |>.trans rfl |> fun h => by rw [List.map_map] at h; exact h)]; rfl
theorem sum_ones (l : List Nat) : ((l.map fun c => S [c]).map (·.length)).sum = l.length := by
  induction l with
  | nil => rfl
  | cons c r ih =>
    rw [List.map_cons, List.map_cons, List.sum_cons, ih, S_len, List.length_cons]
    show 1 + r.length = r.length + 1
    omega
theorem lc_str {l : List Nat} {g : TG} {tt : TT} {te : TE} {vs : List Nat} {σ : L2.St} {H1 : Hp} {D : Addr} {Qd : Hp → Prop} (Pv : Nat → Hp → Prop) (h0 : Pv 0 (upd H1 D (.lst [])))
    (hs : ∀ i c H, l[i]? = some c → Pv i H → g (.str (S [c])) (wipe σ vs) H fun σ2 H2 => wipe σ2 vs = wipe σ vs ∧ tt σ2 H2 fun b H3 =>
      if b = true then te σ2 H3 fun y H4 => ∃ acc, H4 D = some (.lst acc) ∧ acc.length < sizeLine ∧ Pv (i + 1) (upd H4 D (.lst (acc ++ [y]))) else Pv (i + 1) H3) (hd : ∀ H, Pv l.length H → Qd H) :
    ∃ W : Nat → Nat → Hp → Prop, (∃ m, W 0 m (upd H1 D (.lst []))) ∧ ∀ i m H, W i m H →
      ((Its (S l)).stop i H ∧ Qd H) ∨ ((Its (S l)).go i H ∧ ∃ Nx : Hp → Prop, (∀ H', Nx H' → ∃ m', m' < m ∧ W (i + 1) m' H') ∧ ∀ x H', (Its (S l)).yld i H x H' → g x (wipe σ vs) H' fun σ2 H2 => wipe σ2 vs = wipe σ vs ∧ tt σ2 H2 fun b H3 =>
        if b = true then te σ2 H3 fun y H4 => ∃ acc, H4 D = some (.lst acc) ∧ acc.length < sizeLine ∧ Nx (upd H4 D (.lst (acc ++ [y]))) else Nx H3) := by
  refine ⟨fun i m H => m = l.length - i ∧ i ≤ l.length ∧ Pv i H, ⟨l.length, by simp, Nat.zero_le _, h0⟩, ?_⟩
  rintro i m H ⟨rfl, hi, p⟩
  by_cases hlt : i < l.length
  · refine .inr ⟨by show i < (S l).cps.size; rw [S_size]; exact hlt, Pv (i + 1), fun H' p' => ⟨l.length - (i + 1), by omega, rfl, hlt, p'⟩, fun x H' y => ?_⟩
    obtain ⟨e, c, hc, rfl⟩ := y
    subst e
    rw [S_get] at hc
    exact hs i c _ hc p
  · have e : i = l.length := by omega
    subst e
    exact .inl ⟨by show (S l).cps.size ≤ l.length; rw [S_size]; exact Nat.le_refl _, hd H p⟩
/-- a def whose code object is told -/
theorem okC {P : Program} {w : World} {K : PySem.W.Frag} {mg : Str → Option Value} {base : Heap} {x qual : Str} {st : Stmt} {f c : Addr} {fd : FuncData} {N ps : List Str} {k : Nat} {sp : Sp} (F : Fun K x qual st f fd) (hc : fd.code = .ref c) (S : FnScope N ps (defScope st)) (len : ∀ vs H Q E, sp vs H Q E → vs.length = ps.length)
    (body : ∀ (A : Around) (outer : List Env) (s : Shared) (H : Hp) (vs : List V) (Q : VK) (E : XK), Room k (A.deeper (PyProof.Rows.envOfC qual (defScope st) s.heap.objs.size f (.ref c))) → sp vs H Q E →
      ∃ t, PSs (cxOf CX0 P w K mg base N qual (defScope st) f (.ref c) A outer s H E).nox (defBody st) t ∧ t { nx := fun _ H' => Q .non H', rt := Q } (start N vs) H) : FnOk P w K mg base CX0 (k + 1) f fd ps sp := by
  obtain ⟨_, _, _, _, _, _, cdv, _, _, rfl, lk, hcd⟩ := F.ex
  have e : cdv = .ref c := hc
  subst e
  refine fn_of lk hcd S len fun A outer s H vs Q E hr h => ?_
  obtain ⟨t, a, b⟩ := body A outer s H vs Q E hr h
  exact ⟨t, a.nox, b⟩
def top (i : Nat) : Stmt := PySem.Challenge.pw_ropedance_k28_lines_of_moves.main.body.getD i (.Pass ⟨0, 0, 0, 0⟩)
abbrev s_is_dance : Stmt := top 8
theorem sc_is_dance : FnScope ["text"] ["text"] (defScope s_is_dance) := ⟨rfl, rfl, rfl, by decide +kernel, rfl, by decide +kernel, by decide +kernel⟩
abbrev s_is_count : Stmt := top 13
theorem sc_is_count : FnScope ["digits"] ["digits"] (defScope s_is_count) := ⟨rfl, rfl, rfl, by decide +kernel, rfl, by decide +kernel, by decide +kernel⟩
abbrev s_write_moves : Stmt := top 14
theorem sc_write_moves : FnScope ["moves", "place", "old", "new"] ["moves"] (defScope s_write_moves) := ⟨rfl, rfl, rfl, by decide +kernel, rfl, by decide +kernel, by decide +kernel⟩
abbrev s_read_moves : Stmt := top 15
theorem sc_read_moves : FnScope ["lines", "line"] ["lines"] (defScope s_read_moves) := ⟨rfl, rfl, rfl, by decide +kernel, rfl, by decide +kernel, by decide +kernel⟩
abbrev s_move_of : Stmt := top 16
theorem sc_move_of : FnScope ["line", "words", "place", "old", "new"] ["line"] (defScope s_move_of) := ⟨rfl, rfl, rfl, by decide +kernel, rfl, by decide +kernel, by decide +kernel⟩
abbrev s_letters_of : Stmt := top 17
theorem sc_letters_of : FnScope ["word"] ["word"] (defScope s_letters_of) := ⟨rfl, rfl, rfl, by decide +kernel, rfl, by decide +kernel, by decide +kernel⟩
abbrev s_law_tape : Stmt := top 19
theorem sc_law_tape : FnScope ["script", "k", "cell"] ["script", "k"] (defScope s_law_tape) := ⟨rfl, rfl, rfl, by decide +kernel, rfl, by decide +kernel, by decide +kernel⟩
abbrev s_law_take : Stmt := top 20
theorem sc_law_take : FnScope ["tape", "many", "got", "mixed"] ["tape", "many"] (defScope s_law_take) := ⟨rfl, rfl, rfl, by decide +kernel, rfl, by decide +kernel, by decide +kernel⟩
abbrev s_law_dance : Stmt := top 21
theorem sc_law_dance : FnScope ["tape", "most", "dance", "size", "k"] ["tape", "most"] (defScope s_law_dance) := ⟨rfl, rfl, rfl, by decide +kernel, rfl, by decide +kernel, by decide +kernel⟩
abbrev s_law_same : Stmt := top 22
theorem sc_law_same : FnScope ["told", "due", "k"] ["told", "due"] (defScope s_law_same) := ⟨rfl, rfl, rfl, by decide +kernel, rfl, by decide +kernel, by decide +kernel⟩
abbrev s_law_drawn : Stmt := top 23
theorem sc_law_drawn : FnScope ["tape", "place"] ["tape"] (defScope s_law_drawn) := ⟨rfl, rfl, rfl, by decide +kernel, rfl, by decide +kernel, by decide +kernel⟩
abbrev s_law_line : Stmt := top 24
theorem sc_law_line : FnScope ["move", "words", "word"] ["move"] (defScope s_law_line) := ⟨rfl, rfl, rfl, by decide +kernel, rfl, by decide +kernel, by decide +kernel⟩
abbrev s_law_tuple : Stmt := top 25
theorem sc_law_tuple : FnScope ["line", "words", "letters", "word", "char"] ["line"] (defScope s_law_tuple) := ⟨rfl, rfl, rfl, by decide +kernel, rfl, by decide +kernel, by decide +kernel⟩
abbrev s_law_spoilt : Stmt := top 26
theorem sc_law_spoilt : FnScope ["tape", "line", "spot", "char", "words", "at", "choice", "rows"] ["tape", "line"] (defScope s_law_spoilt) := ⟨rfl, rfl, rfl, by decide +kernel, rfl, by decide +kernel, by decide +kernel⟩
abbrev s_law_refused : Stmt := top 27
theorem sc_law_refused : FnScope ["lines", "e", "others"] ["lines"] (defScope s_law_refused) := ⟨rfl, rfl, rfl, by decide +kernel, rfl, by decide +kernel, by decide +kernel⟩
abbrev s_law_reads : Stmt := top 28
theorem sc_law_reads : FnScope ["lines", "due", "passed", "told", "line"] ["lines"] (defScope s_law_reads) := ⟨rfl, rfl, rfl, by decide +kernel, rfl, by decide +kernel, by decide +kernel⟩
abbrev s_law : Stmt := top 29
theorem sc_law : FnScope ["script", "tape", "k", "moves", "lines", "passed", "told", "changed", "j", "spot", "move"] ["script"] (defScope s_law) := ⟨rfl, rfl, rfl, by decide +kernel, rfl, by decide +kernel, by decide +kernel⟩
/-! ### heaps, tapes, pairs -/
/-- all that was tracked is as it was, but what stands at a -/
def But (a : Addr) (H H' : Hp) : Prop := ∀ b o, b ≠ a → H b = some o → H' b = some o
theorem But.refl (a : Addr) (H : Hp) : But a H H := fun _ _ _ h => h
theorem But.trans {a : Addr} {H H1 H2 : Hp} (x : But a H H1) (y : But a H1 H2) : But a H H2 := fun b o n h => y b o n (x b o n h)
theorem But.of {a : Addr} {H H' : Hp} (x : Same H H') : But a H H' := fun b o _ h => x b o h
theorem But.upd {a : Addr} {H : Hp} {o : HO} : But a H (upd H a o) := fun b u n h => by rw [upd_ne n]; exact h
theorem But.same {a : Addr} {H0 H H' : Hp} (x : But a H H') (s : Same H0 H) (n : H0 a = none) : Same H0 H' := fun b o h => x b o (ne_of_none h n) (s b o h)
theorem same_new {H : Hp} {p : Addr} (h : H p = none) (o : HO) : Same H (L2.upd H p o) := fun b u q => by rw [upd_ne (ne_of_none q h)]; exact q
theorem Same.tup {K : PySem.W.Frag} {H H' : Hp} {a : Addr} {xs : List V} (e : Same H H') (h : SqT K H a xs) : SqT K H' a xs := by
  rcases h with (h | ⟨o, h⟩) | h
  · exact .inl (.inl (e _ _ h))
  · exact .inl (.inr ⟨o, e _ _ h⟩)
  · exact .inr h
def Tape (H : Hp) (a : Addr) : Prop := ∃ (t c s : Int) (b : Bool), H a = some (.lst [.int t, .bl b, .int c, .int s])
theorem Tape.same {H H' : Hp} {a : Addr} (t : Tape H a) (s : Same H H') : Tape H' a := by
  obtain ⟨x, c, y, b, h⟩ := t
  exact ⟨x, c, y, b, s _ _ h⟩
theorem Tape.ne {H : Hp} {a p : Addr} (t : Tape H a) (h : H p = none) : p ≠ a := by
  obtain ⟨x, c, y, b, e⟩ := t
  exact fun z => by rw [z, e] at h; cases h
theorem But.tup {K : PySem.W.Frag} {a : Addr} {H H' : Hp} {p : Addr} {xs : List V} (x : But a H H') (t : Tape H a) (h : SqT K H p xs) : SqT K H' p xs := by
  obtain ⟨y, c, z, b, e⟩ := t
  rcases h with (h | ⟨o, h⟩) | h
  · exact .inl (.inl (x _ _ (ne_of h e (by intro q; cases q)) h))
  · exact .inl (.inr ⟨o, x _ _ (ne_of h e (by intro q; cases q)) h⟩)
  · exact .inr h
/-- a dance: the letters T, U, R -/
def Lets (l : List Nat) : Prop := ∀ c ∈ l, c = 84 ∨ c = 85 ∨ c = 82
theorem atI_mk {α : Type} {xs : List α} {k : Int} (h0 : 0 ≤ k) (h1 : k < (xs.length : Int)) : ∃ v, atI xs k = some v ∧ v ∈ xs := by
  obtain ⟨n, rfl⟩ := Int.eq_ofNat_of_zero_le h0
  have h : n < xs.length := by omega
  exact ⟨xs[n], atI_nat (List.getElem?_eq_getElem h), List.getElem_mem h⟩
theorem atI_ints {ns : List Int} {k : Int} (h0 : 0 ≤ k) (h1 : k < (ns.length : Int)) : ∃ v : Int, atI (ns.map V.int) k = some (.int v) := by
  obtain ⟨v, e, m⟩ := atI_mk (xs := ns.map V.int) h0 (by rw [List.length_map]; exact h1)
  obtain ⟨i, _, rfl⟩ := List.mem_map.mp m
  exact ⟨i, e⟩
/-! ### a def of the text with its promise, ready to be called -/
structure Dfn (P : Program) (w : World) (K : PySem.W.Frag) (mg : Str → Option Value) (base : Heap) (x : Str) (k : Nat) (ps : List Str) (sp : Sp) : Prop where
  ex : ∃ (f : Addr) (fd : FuncData), FnOk P w K mg base CX0 k f fd ps sp ∧ mg x = some (.ref f) ∧ PySem.W.keepIn K (.ref f) = true ∧ Binds K fd ps []
theorem pe_do {X : Cx} {x : Str} {j : Nat} {ps : List Str} {sp : Sp} {e : Expr} {es : List Expr} {t : TA} {p pos : Pos} (D : Dfn X.prog X.w X.K X.mg X.base x j ps sp) (hr : Room j X.A)
    (ha : PA X (e :: es) t) (hg : Gl X x := by rfl) (hdb : (x == ("__debug__" : Str)) = false := by decide) (he : starEach (e :: es) X.env = (false, eval e X.env) :: starEach es X.env := by rfl) (hpl : (backTo pos (starEach es X.env)).any (·.1) = false := by rfl) :
    PE X (.Call (.Name x p) (e :: es) [] pos) (tCall sp [] E0 t) := by
  obtain ⟨f, fd, ok, mg, kp, bd⟩ := D.ex
  exact pe_call ok hr hg mg kp bd .nil pass0 ha hdb he hpl
theorem Dfn.mono {P : Program} {w : World} {K : PySem.W.Frag} {mg : Str → Option Value} {base : Heap} {x : Str} {j k : Nat} {ps : List Str} {sp : Sp} (D : Dfn P w K mg base x j ps sp) (h : j ≤ k) : Dfn P w K mg base x k ps sp := by
  obtain ⟨f, fd, ok, mg, kp, bd⟩ := D.ex
  exact ⟨f, fd, ok.mono h, mg, kp, bd⟩
section
variable {P : Program} {w : World} {K : PySem.W.Frag} {mg : Str → Option Value} {base : Heap} {f : Addr} {fd : FuncData}
/-! ### the tape of a law -/
def spTape (K : PySem.W.Frag) : Sp := fun vs H Q _ => ∃ (a : Addr) (ns : List Int) (k : Int), vs = [.ref a, .int k] ∧ SqL K H a (ns.map V.int) ∧ 0 ≤ k ∧ ∀ p H', Same H H' → H p = none → Tape H' p → Q (.ref p) H'
theorem ok_tape (F : Fun K "_law_tape" "_law_tape" s_law_tape f fd) (ml : mg "len" = none) (ma : mg "abs" = none) (mi : mg "int" = none) : FnOk P w K mg base CX0 1 f fd ["script", "k"] (spTape K) := by
  refine F.ok sc_law_tape (fun vs H Q E h => ?_) (fun cdv A outer s H vs Q E hr h => ?_)
  · obtain ⟨a, ns, k, rfl, _⟩ := h
    rfl
  obtain ⟨a, ns, k, rfl, hS, hk, q⟩ := h
  refine ⟨_, pss_cons (ps_set (i := 2) sc_law_tape.nd rfl (.inl rfl) pe_int)
    (pss_cons (ps_if (pt_cmpR op_lt (pv 1) (pe_callB call_len_seq rfl ml PySem.boot_len (pa_cons (pv 0) pa_nil)) (nomark _))
        (pss_one (ps_set (i := 2) sc_law_tape.nd rfl (.inl rfl) (pe_callB call_abs rfl ma (by decide +kernel) (pa_cons (pe_ix ix_list (pv 0) (pv 1) (fun _ _ => rfl)) pa_nil)))) pss_nil)
    (pss_one (ps_ret (pe_lst (pa_cons (pv 2) (pa_cons (pe_cmpR op_ge (pv 2) (pe_op op_pow pe_int pe_int) (nomark _)) (pa_cons pe_int
      (pa_cons (pe_op op_modN (pe_callTy call_int1 rfl mi (by decide +kernel) (pa_cons (pe_op op_add (pe_op op_mul (pv 2) pe_int) (pv 1)) pa_nil)) pe_int) pa_nil)))))))), ?_⟩
  refine ⟨_, rfl, _, rfl, a, _, rfl, .inl hS, _, _, rfl, rfl, _, rfl, ?_⟩
  refine ite2 (fun c => ?_) (fun c => ?_)
  · have c' : k < (((ns.map V.int).length : Nat) : Int) := of_decide_eq_true c
    rw [List.length_map] at c'
    obtain ⟨v, hv⟩ := atI_ints hk c'
    refine ⟨_, rfl, _, rfl, a, _, _, _, rfl, rfl, hS, hv, _, rfl, ?_⟩
    refine ⟨_, rfl, _, rfl, _, _, rfl, rfl, ⟨by decide, by decide, by decide⟩, _, _, rfl, rfl, _, rfl, _, _, rfl, rfl, .inr ⟨by decide, by decide⟩, _, rfl, _, _, rfl, rfl, .inl ⟨_, rfl, _, _, rfl, rfl, (show (2147483647 : Int) ≠ 0 by decide), ?_⟩⟩
    exact ⟨(by show 4 ≤ sizeLine; decide), fun p hp => q p _ (same_new hp _) hp ⟨_, _, _, _, upd_same⟩⟩
  · refine ⟨_, rfl, _, rfl, _, _, rfl, rfl, ⟨by decide, by decide, by decide⟩, _, _, rfl, rfl, _, rfl, _, _, rfl, rfl, .inr ⟨by decide, by decide⟩, _, rfl, _, _, rfl, rfl, .inl ⟨_, rfl, _, _, rfl, rfl, (show (2147483647 : Int) ≠ 0 by decide), ?_⟩⟩
    exact ⟨(by show 4 ≤ sizeLine; decide), fun p hp => q p _ (same_new hp _) hp ⟨_, _, _, _, upd_same⟩⟩
def spTake : Sp := fun vs H Q _ => ∃ (a : Addr) (m : Int), vs = [.ref a, .int m] ∧ Tape H a ∧ 0 < m ∧ m < 1073741824 ∧ ∀ r H', 0 ≤ r → r < m → But a H H' → Tape H' a → Q (.int r) H'
theorem ok_take (F : Fun K "_law_take" "_law_take" s_law_take f fd) (mi : mg "int" = none) : FnOk P w K mg base CX0 1 f fd ["tape", "many"] spTake := by
  refine F.ok sc_law_take (fun vs H Q E h => ?_) (fun cdv A outer s H vs Q E hr h => ?_)
  · obtain ⟨a, m, rfl, _⟩ := h
    rfl
  obtain ⟨a, m, rfl, ⟨t, c, sd, b, hT⟩, h0, h1, q⟩ := h
  refine ⟨_, pss_cons (ps_if (PW.pt (pw_and (pt_val (pe_ix ix_list (pv 0) pe_int (fun _ _ => rfl))) (pw_and1 (pt_cmpR op_gt (pe_ix ix_list (pv 0) pe_int (fun _ _ => rfl)) pe_int (nomark _)))))
      (pss_cons (ps_set (i := 2) sc_law_take.nd rfl (.inl rfl) (pe_op op_modN (pe_callTy call_int1 rfl mi (by decide +kernel) (pa_cons (pe_ix ix_list (pv 0) pe_int (fun _ _ => rfl)) pa_nil)) (pv 1)))
      (pss_cons (ps_asg (pe_op op_fdivN (pe_ix ix_list (pv 0) pe_int (fun _ _ => rfl)) (pv 1)) (pg_sub (pv 0) pe_int set_list))
      (pss_one (ps_ret (pv 2))))) pss_nil)
    (pss_cons (ps_asg (pe_op op_add (pe_ix ix_list (pv 0) pe_int (fun _ _ => rfl)) pe_int) (pg_sub (pv 0) pe_int set_list))
    (pss_cons (ps_set (i := 3) sc_law_take.nd rfl (.inl rfl) (pe_op op_modN (pe_callTy call_int1 rfl mi (by decide +kernel) (pa_cons (pe_op op_add (pe_op op_add (pe_op op_mul (pe_ix ix_list (pv 0) pe_int (fun _ _ => rfl)) pe_int) (pe_op op_mul (pe_ix ix_list (pv 0) pe_int (fun _ _ => rfl)) pe_int)) pe_int) pa_nil)) pe_int))
    (pss_cons (ps_set (i := 3) sc_law_take.nd rfl (.inl rfl) (pe_op op_modN (pe_callTy call_int1 rfl mi (by decide +kernel) (pa_cons (pe_op op_add (pe_op op_add (pe_op op_mul (pv 3) pe_int) (pe_op op_mul (pe_op op_fdivN (pv 3) pe_int) pe_int)) (pe_ix ix_list (pv 0) pe_int (fun _ _ => rfl))) pa_nil)) pe_int))
    (pss_one (ps_ret (pe_op op_modN (pe_callTy call_int1 rfl mi (by decide +kernel) (pa_cons (pe_op op_fdivN (pv 3) pe_int) pa_nil)) (pv 1))))))), ?_⟩
  have rest : ∀ x : Int, 0 ≤ x.fmod m ∧ x.fmod m < m := fun x => by
    rw [Int.fmod_eq_emod_of_nonneg x (Int.le_of_lt h0)]
    exact ⟨Int.emod_nonneg x (by omega), Int.emod_lt_of_pos x h0⟩
  refine ⟨_, rfl, a, _, _, _, rfl, rfl, SqL.of hT, rfl, b, rfl, ?_⟩
  refine ite2 (fun hb => ?_) (fun hb => ?_)
  · refine ⟨_, rfl, a, _, _, _, rfl, rfl, SqL.of hT, rfl, _, _, rfl, rfl, _, rfl, ?_⟩
    refine ite2 (fun hc => ?_) (fun hc => ?_)
    · refine ⟨_, rfl, a, _, _, _, rfl, rfl, SqL.of hT, rfl, .inl ⟨_, rfl, _, rfl, _, _, rfl, rfl, (show m ≠ 0 by omega), ?_⟩⟩
      refine ⟨_, rfl, a, _, _, _, rfl, rfl, SqL.of hT, rfl, _, rfl, _, _, rfl, rfl, (show m ≠ 0 ∧ m.natAbs < 1073741824 by omega), _, rfl, a, _, _, _, rfl, rfl, hT, rfl, ?_⟩
      exact ⟨_, rfl, q _ _ (rest _).1 (rest _).2 But.upd ⟨_, _, _, _, upd_same⟩⟩
    · refine ⟨_, rfl, a, _, _, _, rfl, rfl, SqL.of hT, rfl, _, _, rfl, rfl, _, rfl, a, _, _, _, rfl, rfl, hT, rfl, ?_⟩
      refine ⟨_, rfl, a, _, _, _, rfl, rfl, SqL.of upd_same, rfl, _, _, rfl, rfl, .inr ⟨by decide, by decide⟩, _, rfl, a, _, _, _, rfl, rfl, SqL.of upd_same, rfl, _, _, rfl, rfl, .inr ⟨by decide, by decide⟩, _, _, rfl, rfl, _, _, rfl, rfl, .inl ⟨_, rfl, _, _, rfl, rfl, (show (2147483647 : Int) ≠ 0 by decide), ?_⟩⟩
      refine ⟨_, rfl, _, _, rfl, rfl, .inr ⟨by decide, by decide⟩, _, rfl, _, _, rfl, rfl, ⟨by decide, by decide⟩, _, _, rfl, rfl, .inr ⟨by decide, by decide⟩, _, _, rfl, rfl, _, rfl, a, _, _, _, rfl, rfl, SqL.of upd_same, rfl, _, _, rfl, rfl, .inl ⟨_, rfl, _, _, rfl, rfl, (show (2147483399 : Int) ≠ 0 by decide), ?_⟩⟩
      exact ⟨_, rfl, _, _, rfl, rfl, ⟨by decide, by decide⟩, .inl ⟨_, rfl, _, rfl, _, _, rfl, rfl, (show m ≠ 0 by omega), q _ _ (rest _).1 (rest _).2 But.upd ⟨_, _, _, _, upd_same⟩⟩⟩
  · refine ⟨_, rfl, a, _, _, _, rfl, rfl, SqL.of hT, rfl, _, _, rfl, rfl, _, rfl, a, _, _, _, rfl, rfl, hT, rfl, ?_⟩
    refine ⟨_, rfl, a, _, _, _, rfl, rfl, SqL.of upd_same, rfl, _, _, rfl, rfl, .inr ⟨by decide, by decide⟩, _, rfl, a, _, _, _, rfl, rfl, SqL.of upd_same, rfl, _, _, rfl, rfl, .inr ⟨by decide, by decide⟩, _, _, rfl, rfl, _, _, rfl, rfl, .inl ⟨_, rfl, _, _, rfl, rfl, (show (2147483647 : Int) ≠ 0 by decide), ?_⟩⟩
    refine ⟨_, rfl, _, _, rfl, rfl, .inr ⟨by decide, by decide⟩, _, rfl, _, _, rfl, rfl, ⟨by decide, by decide⟩, _, _, rfl, rfl, .inr ⟨by decide, by decide⟩, _, _, rfl, rfl, _, rfl, a, _, _, _, rfl, rfl, SqL.of upd_same, rfl, _, _, rfl, rfl, .inl ⟨_, rfl, _, _, rfl, rfl, (show (2147483399 : Int) ≠ 0 by decide), ?_⟩⟩
    exact ⟨_, rfl, _, _, rfl, rfl, ⟨by decide, by decide⟩, .inl ⟨_, rfl, _, rfl, _, _, rfl, rfl, (show m ≠ 0 by omega), q _ _ (rest _).1 (rest _).2 But.upd ⟨_, _, _, _, upd_same⟩⟩⟩
/-! ### dances, fractions -/
theorem six_letters {r : Int} (h0 : 0 ≤ r) (h1 : r < 6) : ∃ c, atI (("TTUURR" : Str)).cps.toList r = some c ∧ (c = 84 ∨ c = 85 ∨ c = 82) := by
  have e : (("TTUURR" : Str)).cps.toList = [84, 84, 85, 85, 82, 82] := by decide +kernel
  rw [e]
  obtain ⟨c, hc, m⟩ := atI_mk (xs := [84, 84, 85, 85, 82, 82]) h0 h1
  refine ⟨c, hc, ?_⟩
  simp at m
  omega
theorem four_sizes {r : Int} (h0 : 0 ≤ r) (h1 : r < 4) : ∃ z : Int, atI [V.int 1, .int 1, .int 3, .int 9] r = some (.int z) ∧ 1 ≤ z ∧ z ≤ 9 := by
  obtain ⟨c, hc, m⟩ := atI_mk (xs := [V.int 1, .int 1, .int 3, .int 9]) h0 h1
  simp at m
  rcases m with rfl | rfl | rfl
  · exact ⟨1, hc, by decide, by decide⟩
  · exact ⟨3, hc, by decide, by decide⟩
  · exact ⟨9, hc, by decide, by decide⟩
theorem e_empty : (("" : Str)) = S [] := by decide +kernel
theorem sizeLine_big : 16777216 ≤ sizeLine := by rw [sizeLine_eq]; decide
theorem fits {n : Nat} (h : n ≤ 16777216) : n ≤ sizeLine := Nat.le_trans h sizeLine_big
def spDance : Sp := fun vs H Q _ => ∃ (a : Addr) (m : Int), vs = [.ref a, .int m] ∧ Tape H a ∧ 0 ≤ m ∧ m ≤ 1000 ∧ ∀ l H', Lets l → (l.length : Int) ≤ m → But a H H' → Tape H' a → Q (.str (S l)) H'
theorem ok_dance (F : Fun K "_law_dance" "_law_dance" s_law_dance f fd) (DT : Dfn P w K mg base "_law_take" 1 ["tape", "many"] spTake) (mr : mg "range" = none) : FnOk P w K mg base CX0 2 f fd ["tape", "most"] spDance := by
  refine F.ok sc_law_dance (fun vs H Q E h => ?_) (fun cdv A outer s H vs Q E hr h => ?_)
  · obtain ⟨a, m, rfl, _⟩ := h
    rfl
  obtain ⟨a, m, rfl, hT, h0, h1, q⟩ := h
  refine ⟨_, pss_cons (ps_set (i := 2) sc_law_dance.nd rfl (.inl rfl) pe_str)
    (pss_cons (ps_set (i := 3) sc_law_dance.nd rfl (.inl rfl) (pe_ix ix_list (pe_lst (pa_cons pe_int (pa_cons pe_int (pa_cons pe_int (pa_cons pe_int pa_nil))))) (pe_do DT hr (pa_cons (pv 0) (pa_cons pe_int pa_nil))) (fun _ _ => rfl)))
    (pss_cons (ps_for PassesOwn.never rfl (pi_range1 rfl mr (pa_cons (pe_do DT hr (pa_cons (pv 0) (pa_cons (pe_op op_add (pv 1) pe_int) pa_nil))) pa_nil)) (pg_name (i := 4) sc_law_dance.nd rfl (.inl rfl))
      (pss_one (ps_set (i := 2) sc_law_dance.nd rfl (.inl rfl) (pe_op op_add_str (pv 2) (pe_op op_mul_str (pe_ix ix_str pe_str (pe_do DT hr (pa_cons (pv 0) (pa_cons pe_int pa_nil))) (fun _ _ => rfl))
        (pe_op op_add pe_int (pe_do DT hr (pa_cons (pv 0) (pa_cons (pv 3) pa_nil)))))))))
    (pss_one (ps_ret (pe_slice sl_str (pv 2) po_none (po_some (pv 1))))))), ?_⟩
  refine ⟨(by show 4 ≤ sizeLine; exact fits (by decide)), fun p hp => ?_⟩
  have np := hT.ne hp
  refine ⟨_, rfl, a, 4, rfl, hT.same (same_new hp _), by decide, by decide, fun r H1 r0 r1 b1 t1 => ?_⟩
  obtain ⟨z, hz, z1, z9⟩ := four_sizes r0 r1
  refine ⟨p, _, _, _, rfl, rfl, SqL.of (b1 _ _ np upd_same), hz, ?_⟩
  have B1 : But a H H1 := (But.of (same_new hp _)).trans b1
  refine ⟨_, rfl, _, rfl, _, _, rfl, rfl, a, _, rfl, t1, (show 0 < m + 1 by omega), (show m + 1 < 1073741824 by omega), fun r2 H2 r20 r21 b2 t2 => ?_⟩
  refine ⟨r2, rfl, by omega, by omega, for_range (lo := 0) (n := r2.toNat) (fun i σ H' => ∃ (l : List Nat) (v : Option V), σ = [some (.ref a), some (.int m), some (.str (S l)), some (.int z), v] ∧ Lets l ∧ l.length ≤ 9 * i ∧ But a H H' ∧ Tape H' a) ?_ ?_ ?_⟩
  · exact ⟨[], none, by rw [← e_empty]; rfl, fun _ h => (by cases h), Nat.zero_le _, B1.trans b2, t2⟩
  · rintro i σ H' hi ⟨l, v, rfl, hl, hz2, bt, tp⟩
    refine ⟨_, rfl, _, rfl, a, 6, rfl, tp, by decide, by decide, fun r3 H3 r30 r31 b3 t3 => ?_⟩
    obtain ⟨c, hc, hcl⟩ := six_letters r30 r31
    refine ⟨_, _, c, rfl, rfl, (fits (by decide +kernel)), hc, _, rfl, _, rfl, a, z, rfl, t3, by omega, by omega, fun r4 H4 r40 r41 b4 t4 => ?_⟩
    have hn : (1 + r4).toNat ≤ 9 := by omega
    refine ⟨_, _, rfl, rfl, [c], 1 + r4, rfl, rfl, by omega, by omega, by simp only [List.length_singleton]; omega, _, _, rfl, rfl, ?_, ?_⟩
    · rw [S_len, S_len]
      refine fits ?_
      rw [List.length_flatten, List.map_replicate, List.sum_replicate_nat]
      simp only [List.length_singleton]
      omega
    · refine ⟨l ++ (List.replicate (1 + r4).toNat [c]).flatten, _, by rw [S_app]; rfl, fun x hx => ?_, ?_, (bt.trans b3).trans b4, t4⟩
      · rcases List.mem_append.mp hx with hx | hx
        · exact hl x hx
        · obtain ⟨y, hy, hxy⟩ := List.mem_flatten.mp hx
          rw [(List.mem_replicate.mp hy).2] at hxy
          rw [List.mem_singleton.mp hxy]
          exact hcl
      · rw [List.length_append, List.length_flatten, List.map_replicate, List.sum_replicate_nat]
        simp only [List.length_singleton]
        omega
  · rintro σ H' ⟨l, v, rfl, hl, hz2, bt, tp⟩
    refine ⟨_, rfl, _, rfl, _, rfl, _, rfl, (by rw [S_len]; exact fits (by omega)), ?_⟩
    rw [S_take l h0]
    refine q _ _ (fun x hx => hl x (List.mem_of_mem_take hx)) ?_ bt tp
    rw [List.length_take]
    omega
end
section
variable {P : Program} {w : World} {K : PySem.W.Frag} {mg : Str → Option Value} {base : Heap} {f : Addr} {fd : FuncData}
/-! ### the same data -/
inductive Dt where
  | int (i : Int) | str (z : Str) | non | tup (xs : List Dt) | lst (xs : List Dt)
/-- v stands for d, in at most n levels -/
def Is (H : Hp) : Nat → V → Dt → Prop
  | _, v, .int i => v = .int i
  | _, v, .str z => v = .str z
  | _, v, .non => v = .non
  | 0, _, .tup _ => False
  | 0, _, .lst _ => False
  | n + 1, v, .tup ds => ∃ (a : Addr) (xs : List V), v = .ref a ∧ H a = some (.tup xs) ∧ xs.length = ds.length ∧ ds.length ≤ 1000000 ∧ ∀ (i : Nat) (x : V) (d : Dt), xs[i]? = some x → ds[i]? = some d → Is H n x d
  | n + 1, v, .lst ds => ∃ (a : Addr) (xs : List V), v = .ref a ∧ H a = some (.lst xs) ∧ xs.length = ds.length ∧ ds.length ≤ 1000000 ∧ ∀ (i : Nat) (x : V) (d : Dt), xs[i]? = some x → ds[i]? = some d → Is H n x d
def spSame : Nat → Sp
  | 0 => fun _ _ _ _ => False
  | n + 1 => fun vs H Q _ => ∃ (x y : V) (d : Dt), vs = [x, y] ∧ Is H n x d ∧ Is H n y d ∧ Q (.bl true) H
theorem ok_same {n : Nat} (F : Fun K "_law_same" "_law_same" s_law_same f fd) (DS : Dfn P w K mg base "_law_same" n ["told", "due"] (spSame n)) (mI : mg "isinstance" = none) (mT : mg "tuple" = none) (mL : mg "list" = none) (ml : mg "len" = none) (mr : mg "range" = none)
    (ms : mg "str" = none) (mi : mg "int" = none) (mb : mg "bool" = none) : FnOk P w K mg base CX0 (n + 1) f fd ["told", "due"] (spSame (n + 1)) := by
  refine F.ok sc_law_same (fun vs H Q E h => ?_) (fun cdv A outer s H vs Q E hr h => ?_)
  · obtain ⟨x, y, d, rfl, _⟩ := h
    rfl
  obtain ⟨x, y, d, rfl, hx, hy, q⟩ := h
  have bT : bootBuiltins "tuple" = some (.type "tuple") := by decide +kernel
  have bL : bootBuiltins "list" = some (.type "list") := by decide +kernel
  have bS : bootBuiltins "str" = some (.type "str") := by decide +kernel
  have bI : bootBuiltins "int" = some (.type "int") := by decide +kernel
  have bB : bootBuiltins "bool" = some (.type "bool") := by decide +kernel
  have bi : bootBuiltins "isinstance" = some (.builtin "isinstance") := by decide +kernel
  refine ⟨_, pss_cons (ps_if (PW.pt (pw_or (pt_val (pe_callB call_isi rfl mI bi (pa_cons (pv 1) (pa_cons (pe_bltn (v := .ty "tuple") rfl mT bT rfl) pa_nil)))) (pw_or1 (pt_val (pe_callB call_isi rfl mI bi (pa_cons (pv 1) (pa_cons (pe_bltn (v := .ty "list") rfl mL bL rfl) pa_nil)))))))
      (pss_cons (ps_if (PW.pt (pw_or (pt_cmpR op_ne (pe_callB call_isi rfl mI bi (pa_cons (pv 1) (pa_cons (pe_bltn (v := .ty "tuple") rfl mT bT rfl) pa_nil))) (pe_callB call_isi rfl mI bi (pa_cons (pv 0) (pa_cons (pe_bltn (v := .ty "tuple") rfl mT bT rfl) pa_nil))) (nomark _))
          (pw_or1 (pt_cmpR op_ne (pe_callB call_isi rfl mI bi (pa_cons (pv 1) (pa_cons (pe_bltn (v := .ty "list") rfl mL bL rfl) pa_nil))) (pe_callB call_isi rfl mI bi (pa_cons (pv 0) (pa_cons (pe_bltn (v := .ty "list") rfl mL bL rfl) pa_nil))) (nomark _)))))
        (pss_one (ps_ret pe_bl)) pss_nil)
      (pss_cons (ps_if (pt_cmpR op_ne (pe_callB call_len_seq rfl ml PySem.boot_len (pa_cons (pv 0) pa_nil)) (pe_callB call_len_seq rfl ml PySem.boot_len (pa_cons (pv 1) pa_nil)) (nomark _)) (pss_one (ps_ret pe_bl)) pss_nil)
      (pss_cons (ps_for PassesOwn.never rfl (pi_range1 rfl mr (pa_cons (pe_callB call_len_seq rfl ml PySem.boot_len (pa_cons (pv 1) pa_nil)) pa_nil)) (pg_name (i := 2) sc_law_same.nd rfl (.inl rfl))
        (pss_one (ps_if (pt_not (pt_val (pe_do DS hr (pa_cons (pe_ix ix_seq (pv 0) (pv 2) (fun _ _ => rfl)) (pa_cons (pe_ix ix_seq (pv 1) (pv 2) (fun _ _ => rfl)) pa_nil))))) (pss_one (ps_ret pe_bl)) pss_nil)))
      (pss_one (ps_ret pe_bl))))) pss_nil)
    (pss_cons (ps_if (pt_cmpR op_isN (pv 1) pe_non (nomark _)) (pss_one (ps_ret (pe_cmpR op_isN (pv 0) pe_non (nomark _)))) pss_nil)
    (pss_cons (ps_if (pt_val (pe_callB call_isi rfl mI bi (pa_cons (pv 1) (pa_cons (pe_bltn (v := .ty "str") rfl ms bS rfl) pa_nil))))
      (pss_one (ps_ret (pe_and (pe_callB call_isi rfl mI bi (pa_cons (pv 0) (pa_cons (pe_bltn (v := .ty "str") rfl ms bS rfl) pa_nil))) (pe_one (pe_cmpR op_eq (pv 0) (pv 1) (nomark _)))))) pss_nil)
    (pss_one (ps_ret (pe_and (pe_callB call_isi rfl mI bi (pa_cons (pv 0) (pa_cons (pe_bltn (v := .ty "int") rfl mi bI rfl) pa_nil)))
      (pe_and (pe_not (pe_callB call_isi rfl mI bi (pa_cons (pv 0) (pa_cons (pe_bltn (v := .ty "bool") rfl mb bB rfl) pa_nil)))) (pe_one (pe_cmpR op_eq (pv 0) (pv 1) (nomark _))))))))), ?_⟩
  have isn : ∀ (a b : String) (r : Bool), kitB a b = some r → PySem.W.kitOne K (.type a) (.type b) = some r := fun a b r h => kit_ty h
  cases d with
  | int i =>
    cases (show x = .int i by cases n <;> exact hx)
    cases (show y = .int i by cases n <;> exact hy)
    refine ⟨_, rfl, _, _, _, _, false, rfl, .ty _, .base (.int _), kit_ty (by decide +kernel), _, rfl, iteF ?_⟩
    refine ⟨_, rfl, _, _, _, _, false, rfl, .ty _, .base (.int _), kit_ty (by decide +kernel), _, rfl, iteF ?_⟩
    refine ⟨_, rfl, rfl, _, rfl, iteF ?_⟩
    refine ⟨_, rfl, _, _, _, _, false, rfl, .ty _, .base (.int _), kit_ty (by decide +kernel), _, rfl, iteF ?_⟩
    refine ⟨_, rfl, _, _, _, _, true, rfl, .ty _, .base (.int _), kit_ty (by decide +kernel), _, rfl, iteT ?_⟩
    refine ⟨_, rfl, _, _, _, _, false, rfl, .ty _, .base (.int _), kit_ty (by decide +kernel), _, rfl, _, rfl, iteT ?_⟩
    refine ⟨_, rfl, _, rfl, rfl, ?_⟩
    rw [decide_eq_true rfl]
    exact q
  | str z =>
    cases (show x = .str z by cases n <;> exact hx)
    cases (show y = .str z by cases n <;> exact hy)
    refine ⟨_, rfl, _, _, _, _, false, rfl, .ty _, .base (.str _), kit_ty (by decide +kernel), _, rfl, iteF ?_⟩
    refine ⟨_, rfl, _, _, _, _, false, rfl, .ty _, .base (.str _), kit_ty (by decide +kernel), _, rfl, iteF ?_⟩
    refine ⟨_, rfl, rfl, _, rfl, iteF ?_⟩
    refine ⟨_, rfl, _, _, _, _, true, rfl, .ty _, .base (.str _), kit_ty (by decide +kernel), _, rfl, iteT ?_⟩
    refine ⟨_, rfl, _, _, _, _, true, rfl, .ty _, .base (.str _), kit_ty (by decide +kernel), _, rfl, iteT ?_⟩
    refine ⟨_, rfl, _, rfl, rfl, ?_⟩
    rw [decide_eq_true rfl]
    exact q
  | non =>
    cases (show x = .non by cases n <;> exact hx)
    cases (show y = .non by cases n <;> exact hy)
    refine ⟨_, rfl, _, _, _, _, false, rfl, .ty _, .base .non, kit_ty (by decide +kernel), _, rfl, iteF ?_⟩
    refine ⟨_, rfl, _, _, _, _, false, rfl, .ty _, .base .non, kit_ty (by decide +kernel), _, rfl, iteF ?_⟩
    exact ⟨_, rfl, rfl, _, rfl, iteT ⟨_, rfl, rfl, q⟩⟩
  | tup ds =>
    cases n with
    | zero => exact hx.elim
    | succ n =>
      obtain ⟨a, xs, rfl, ha, la, ln, ka⟩ := hx
      obtain ⟨b, ys, rfl, hb, lb, _, kb⟩ := hy
      refine ⟨_, rfl, _, _, _, _, true, rfl, .ty _, .base (.tup hb), kit_ty (by decide +kernel), _, rfl, iteT ?_⟩
      refine ⟨_, rfl, _, _, _, _, true, rfl, .ty _, .base (.tup hb), kit_ty (by decide +kernel), _, rfl, _, _, _, _, true, rfl, .ty _, .base (.tup ha), kit_ty (by decide +kernel), rfl, _, rfl, iteF ?_⟩
      refine ⟨_, rfl, _, _, _, _, false, rfl, .ty _, .base (.tup hb), kit_ty (by decide +kernel), _, rfl, _, _, _, _, false, rfl, .ty _, .base (.tup ha), kit_ty (by decide +kernel), rfl, _, rfl, iteF ?_⟩
      refine ⟨_, rfl, a, xs, rfl, .inr (SqT.of ha), _, rfl, b, ys, rfl, .inr (SqT.of hb), rfl, _, rfl, ?_⟩
      rw [show (decide (V.int (xs.length : Int) = V.int (ys.length : Int))) = true from decide_eq_true (by rw [la, lb])]
      refine iteF ?_
      refine ⟨_, rfl, b, ys, rfl, .inr (SqT.of hb), (ys.length : Int), rfl, by omega, by omega, for_range (lo := 0) (n := (ys.length : Int).toNat) (fun i σ H' => H' = H ∧ ∃ v, σ = [some (.ref a), some (.ref b), v]) ⟨rfl, none, rfl⟩ ?_ ?_⟩
      · rintro i σ _ hi ⟨rfl, v, rfl⟩
        have hi1 : i < ys.length := by omega
        have hi2 : i < xs.length := by omega
        have hi3 : i < ds.length := by omega
        refine ⟨_, rfl, _, rfl, .inr (.inl ⟨a, xs, _, _, rfl, rfl, SqT.of ha, at_of (j := i) (by omega) (List.getElem?_eq_getElem hi2), ?_⟩)⟩
        refine ⟨_, rfl, _, rfl, .inr (.inl ⟨b, ys, _, _, rfl, rfl, SqT.of hb, at_of (j := i) (by omega) (List.getElem?_eq_getElem hi1), ?_⟩)⟩
        refine ⟨_, _, ds[i], rfl, ka i _ _ (List.getElem?_eq_getElem hi2) (List.getElem?_eq_getElem hi3), kb i _ _ (List.getElem?_eq_getElem hi1) (List.getElem?_eq_getElem hi3), _, rfl, iteF ⟨rfl, _, rfl⟩⟩
      · rintro σ _ ⟨rfl, v, rfl⟩
        exact q
  | lst ds =>
    cases n with
    | zero => exact hx.elim
    | succ n =>
      obtain ⟨a, xs, rfl, ha, la, ln, ka⟩ := hx
      obtain ⟨b, ys, rfl, hb, lb, _, kb⟩ := hy
      refine ⟨_, rfl, _, _, _, _, false, rfl, .ty _, .base (.lst hb), kit_ty (by decide +kernel), _, rfl, iteF ?_⟩
      refine ⟨_, rfl, _, _, _, _, true, rfl, .ty _, .base (.lst hb), kit_ty (by decide +kernel), _, rfl, iteT ?_⟩
      refine ⟨_, rfl, _, _, _, _, false, rfl, .ty _, .base (.lst hb), kit_ty (by decide +kernel), _, rfl, _, _, _, _, false, rfl, .ty _, .base (.lst ha), kit_ty (by decide +kernel), rfl, _, rfl, iteF ?_⟩
      refine ⟨_, rfl, _, _, _, _, true, rfl, .ty _, .base (.lst hb), kit_ty (by decide +kernel), _, rfl, _, _, _, _, true, rfl, .ty _, .base (.lst ha), kit_ty (by decide +kernel), rfl, _, rfl, iteF ?_⟩
      refine ⟨_, rfl, a, xs, rfl, .inl (SqL.of ha), _, rfl, b, ys, rfl, .inl (SqL.of hb), rfl, _, rfl, ?_⟩
      rw [show (decide (V.int (xs.length : Int) = V.int (ys.length : Int))) = true from decide_eq_true (by rw [la, lb])]
      refine iteF ?_
      refine ⟨_, rfl, b, ys, rfl, .inl (SqL.of hb), (ys.length : Int), rfl, by omega, by omega, for_range (lo := 0) (n := (ys.length : Int).toNat) (fun i σ H' => H' = H ∧ ∃ v, σ = [some (.ref a), some (.ref b), v]) ⟨rfl, none, rfl⟩ ?_ ?_⟩
      · rintro i σ _ hi ⟨rfl, v, rfl⟩
        have hi1 : i < ys.length := by omega
        have hi2 : i < xs.length := by omega
        have hi3 : i < ds.length := by omega
        refine ⟨_, rfl, _, rfl, .inl ⟨a, xs, _, _, rfl, rfl, SqL.of ha, at_of (j := i) (by omega) (List.getElem?_eq_getElem hi2), ?_⟩⟩
        refine ⟨_, rfl, _, rfl, .inl ⟨b, ys, _, _, rfl, rfl, SqL.of hb, at_of (j := i) (by omega) (List.getElem?_eq_getElem hi1), ?_⟩⟩
        refine ⟨_, _, ds[i], rfl, ka i _ _ (List.getElem?_eq_getElem hi2) (List.getElem?_eq_getElem hi3), kb i _ _ (List.getElem?_eq_getElem hi1) (List.getElem?_eq_getElem hi3), _, rfl, iteF ⟨rfl, _, rfl⟩⟩
      · rintro σ _ ⟨rfl, v, rfl⟩
        exact q
theorem none_same : FnOk P w K mg base CX0 0 f fd ["told", "due"] (spSame 0) := by
  have no : ∀ vs H Q E, ¬ spSame 0 vs H Q E := fun vs H Q E h => h
  exact ⟨fun vs H Q E h => absurd h (no vs H Q E), fun A outer s H args us vs Q E _ _ _ _ h => absurd h (no vs H Q E)⟩
end
theorem sign_eq {c n : Nat} {z : Str} (e : z = S [n]) : (V.str (S [c]) = V.str z) ↔ c = n := by
  subst e
  constructor
  · intro h
    have := S_inj (V.str.inj h)
    simpa using this
  · rintro rfl; rfl
theorem e_T : (("T" : Str)) = S [84] := by decide +kernel
theorem e_U : (("U" : Str)) = S [85] := by decide +kernel
theorem e_R : (("R" : Str)) = S [82] := by decide +kernel
theorem S_eta (z : Str) : S z.cps.toList = z := by
  cases z
  simp [S]
def tx (l : List Nat) : V := .str (S l)
theorem tx_inj {a b : List Nat} (h : tx a = tx b) : a = b := S_inj (V.str.inj h)
theorem tx_iff {a b : List Nat} : V.str (S a) = V.str (S b) ↔ a = b := ⟨fun h => tx_inj h, fun h => by rw [h]⟩
section
theorem int_is {H : Hp} {n : Nat} {i : Int} : Is H n (.int i) (.int i) := by cases n <;> rfl
theorem str_is {H : Hp} {n : Nat} {z : Str} : Is H n (.str z) (.str z) := by cases n <;> rfl
theorem is_tup {H : Hp} {n : Nat} {a : Addr} {xs : List V} {ds : List Dt} (h : H a = some (.tup xs)) (z : xs.length = ds.length) (m : ds.length ≤ 1000000) (k : ∀ (i : Nat) (x : V) (d : Dt), xs[i]? = some x → ds[i]? = some d → Is H n x d) : Is H (n + 1) (.ref a) (.tup ds) := ⟨a, xs, rfl, h, z, m, k⟩
theorem is_lst {H : Hp} {n : Nat} {a : Addr} {xs : List V} {ds : List Dt} (h : H a = some (.lst xs)) (z : xs.length = ds.length) (m : ds.length ≤ 1000000) (k : ∀ (i : Nat) (x : V) (d : Dt), xs[i]? = some x → ds[i]? = some d → Is H n x d) : Is H (n + 1) (.ref a) (.lst ds) := ⟨a, xs, rfl, h, z, m, k⟩
end
section
variable {P : Program} {w : World} {K : PySem.W.Frag} {mg : Str → Option Value} {base : Heap} {f : Addr} {fd : FuncData}
/-! ### the letters and their opposites -/
def letter (c : Nat) : Bool := c == 84 || c == 85 || c == 82
theorem letter_iff {c : Nat} : letter c = true ↔ (c = 84 ∨ c = 85 ∨ c = 82) := by
  unfold letter
  simp [or_assoc]
def opp (c : Nat) : Nat := if c = 84 then 85 else if c = 85 then 84 else c
/-- the program's table of opposites, at d -/
structure Opp (K : PySem.W.Frag) (w : World) (d : Addr) : Prop where
  dct : ∃ es n, KDict K w d es n
  yes : ∀ c, letter c = true → ∃ u, PySem.W.nsIn K d (S [c]) = some (some u) ∧ RelV (.str (S [opp c])) u
  no : ∀ c, letter c = false → PySem.W.nsIn K d (S [c]) = some none
def spIsDance (Pt : Addr) : Sp := fun vs H Q _ => ∃ l : List Nat, vs = [.str (S l)] ∧ GxR.TabG H Pt ∧ ∀ H', GxR.Tabbed Pt H H' → Q (.bl (l.all letter)) H'
theorem ok_is_dance {c Pt d : Addr} (F : Fun K "is_dance" "is_dance" s_is_dance f fd) (hc : fd.code = .ref c) (TB : GxR.TabB base mg c Pt) (O : Opp K w d) (gO : mg "OPPOSITES" = some (.ref d)) (mA : mg "all" = none) : FnOk P w K mg base CX0 1 f fd ["text"] (spIsDance Pt) := by
  refine okC F hc sc_is_dance (fun vs H Q E h => ?_) (fun A outer s H vs Q E hr h => ?_)
  · obtain ⟨l, rfl, _⟩ := h
    rfl
  obtain ⟨l, rfl, tg, q⟩ := h
  obtain ⟨es, n, D⟩ := O.dct
  have hp : ∀ c, ∃ r, PySem.W.nsIn K d (S [c]) = some r ∧ r.isSome = letter c := fun c => by
    cases e : letter c with
    | true =>
      obtain ⟨u, hu, _⟩ := O.yes c e
      exact ⟨_, hu, rfl⟩
    | false => exact ⟨_, O.no c e, rfl⟩
  refine ⟨_, pss_one (ps_ret (pe_allG (k := 0) hr rfl mA TB rfl ?sc (pv 0) (elt_in (pb := letter) D gO hp rfl rfl rfl) (fun v => rfl))), ?rd⟩
  case sc => exact ⟨rfl, rfl, by decide +kernel, rfl, rfl, fun y hy e => absurd e (by revert y; decide +kernel)⟩
  case rd => exact ⟨_, rfl, S l, rfl, tg, fun H' tb => by rw [S_list]; exact q H' tb⟩
end
section
/-! ### what the head tells: the table of opposites, the law's promise -/
theorem key_is {e : DictEntry} {x : Str} {k : Int} (h : He.keyOf e = some (x, k)) : ∃ t, e.key = .str x t := by
  unfold He.keyOf at h
  split at h
  · rename_i y t q
    obtain ⟨h1, _⟩ := Prod.mk.inj (Option.some.inj h)
    exact ⟨t, by rw [q, h1]⟩
  · cases h
theorem opp_of {K : PySem.W.Frag} {w : World} {a : Addr} (hd : He.dicW K a = some (He.keysIn w.params ["T", "U", "R"])) (hv : He.valsB K a [("T", .str "U"), ("U", .str "T"), ("R", .str "R")] = true) : Opp K w a := by
  obtain ⟨es, n, D⟩ := He.dicW_ok hd
  have v1 := He.valsB_ok hv (q := ("T", .str "U")) (List.mem_cons_self ..)
  have v2 := He.valsB_ok hv (q := ("U", .str "T")) (List.mem_cons_of_mem _ (List.mem_cons_self ..))
  have v3 := He.valsB_ok hv (q := ("R", .str "R")) (List.mem_cons_of_mem _ (List.mem_cons_of_mem _ (List.mem_cons_self ..)))
  refine ⟨⟨es, n, D⟩, fun c hc => ?_, fun c hc => ?_⟩
  · rcases letter_iff.mp hc with rfl | rfl | rfl
    · rw [← e_T, show opp 84 = 85 from rfl, ← e_U]; exact v1
    · rw [← e_U, show opp 85 = 84 from rfl, ← e_T]; exact v2
    · rw [← e_R, show opp 82 = 82 from rfl, ← e_R]; exact v3
  · have lk := D.at_
    unfold He.dicW at hd
    rw [lk] at hd
    have keys : es.toList.map He.keyOf = He.keysIn w.params ["T", "U", "R"] := by
      simp only at hd
      split at hd
      · exact Option.some.inj hd
      · cases hd
    obtain ⟨e1, r1, q1, k1, m1⟩ := List.map_eq_cons_iff.mp keys
    obtain ⟨e2, r2, q2, k2, m2⟩ := List.map_eq_cons_iff.mp m1
    obtain ⟨e3, r3, q3, k3, m3⟩ := List.map_eq_cons_iff.mp m2
    have q4 : r3 = [] := List.map_eq_nil_iff.mp m3
    subst q4
    obtain ⟨t1, k1⟩ := key_is k1
    obtain ⟨t2, k2⟩ := key_is k2
    obtain ⟨t3, k3⟩ := key_is k3
    have no : ∀ {b : Nat} {z : Str}, z = S [b] → letter b = true → ¬ z = S [c] := fun {b z} e hb q => by
      rw [e] at q
      have := S_inj q
      simp at this
      rw [this, hc] at hb
      cases hb
    have n1 := no e_T (by decide)
    have n2 := no e_U (by decide)
    have n3 := no e_R (by decide)
    unfold PySem.W.nsIn
    rw [lk]
    simp only
    rw [q1, q2, q3]
    simp [k1, k2, k3, Value.isStr, DictEntry.refKey, n1, n2, n3]
end
section
/-! ### lines of moves: the mathematics -/
/-- all but the code tables is kept; a table stays one -/
def Sm (H H' : Hp) : Prop := (∀ b o, H b = some o → (∀ ps, o ≠ HO.tbl ps) → H' b = some o) ∧ (∀ P, GxR.TabG H P → GxR.TabG H' P) ∧ ∀ b, H' b = none → H b = none
theorem Sm.refl (H : Hp) : Sm H H := ⟨fun _ _ h _ => h, fun _ h => h, fun _ h => h⟩
theorem Sm.trans {H H1 H2 : Hp} (x : Sm H H1) (y : Sm H1 H2) : Sm H H2 := ⟨fun b o h n => y.1 b o (x.1 b o h n) n, fun P h => y.2.1 P (x.2.1 P h), fun b h => x.2.2 b (y.2.2 b h)⟩
theorem Sm.of {H H' : Hp} (x : Same H H') : Sm H H' := ⟨fun b o h _ => x b o h, fun P ⟨ps, h, k⟩ => ⟨ps, x _ _ h, k⟩, fun b h => by
  cases e : H b with
  | none => rfl
  | some o => rw [x b o e] at h; cases h⟩
theorem Sm.tab {P : Addr} {H H' : Hp} (t : GxR.TabG H P) (x : GxR.Tabbed P H H') : Sm H H' := by
  obtain ⟨qs, hq, _⟩ := t
  refine ⟨fun b o h n => ?_, fun P' t' => ?_, fun b h => ?_⟩
  · have e : b ≠ P := fun z => by rw [z, hq] at h; cases h; exact n _ rfl
    rw [x.2 b e]; exact h
  · by_cases e : P' = P
    · rw [e]; exact x.1
    · obtain ⟨ps, h, k⟩ := t'
      exact ⟨ps, by rw [x.2 P' e]; exact h, k⟩
  · have e : b ≠ P := fun z => by
      obtain ⟨ps, h2, _⟩ := x.1
      rw [z, h2] at h; cases h
    rw [← x.2 b e]; exact h
theorem Sm.lst {H H' : Hp} {b : Addr} {xs : List V} (x : Sm H H') (h : H b = some (.lst xs)) : H' b = some (.lst xs) := x.1 b _ h fun _ z => by cases z
theorem Sm.tup {H H' : Hp} {b : Addr} {xs : List V} (x : Sm H H') (h : H b = some (.tup xs)) : H' b = some (.tup xs) := x.1 b _ h fun _ z => by cases z
theorem tab_but {a P : Addr} {H H' : Hp} {xs : List V} (x : But a H H') (h : H a = some (.lst xs)) (t : GxR.TabG H P) : GxR.TabG H' P := by
  obtain ⟨ps, e, k⟩ := t
  exact ⟨ps, x P _ (fun z => by rw [z, h] at e; cases e) e, k⟩
/-! texts and their signs -/
abbrev lc (z : Str) : List Nat := z.cps.toList
theorem S_lc (z : Str) : S (lc z) = z := by
  cases z
  simp [S, lc]
theorem lc_S (l : List Nat) : lc (S l) = l := S_list l
theorem lc_len (z : Str) : (lc z).length = z.length := by rw [← S_len, S_lc]
def ws (z : Str) : List Str := Txt.split z (S [32])
theorem ws_weight (z : Str) : ((ws z).map (·.length)).sum + (ws z).length ≤ z.length + 1 := PyProof.Rows.split_weight z (S [32]) (by decide)
theorem cnt_nn (c : Nat) : ∀ l : List Nat, 0 ≤ PyProof.Rows.cnt c l
  | [] => by rw [PyProof.Rows.cnt_nil]; exact Int.le_refl _
  | n :: r => by
    have := cnt_nn c r
    rw [PyProof.Rows.cnt_cons]
    split <;> omega
theorem ws_pos (z : Str) : 0 < (ws z).length := by
  have e : ((ws z).length : Int) = 1 + PyProof.Rows.cnt 32 z.cps.toList := PyProof.Rows.split_len z 32
  have := cnt_nn 32 z.cps.toList
  omega
theorem sum_mem {l : List Nat} {k : Nat} (h : k ∈ l) : k ≤ l.sum := by
  induction l with
  | nil => cases h
  | cons a r ih =>
    rw [List.sum_cons]
    rcases List.mem_cons.mp h with e | e
    · omega
    · have := ih e; omega
theorem ws_len {z w : Str} (h : w ∈ ws z) : w.length ≤ z.length := by
  have h1 := ws_weight z
  have h2 := sum_mem (List.mem_map.mpr ⟨w, h, rfl⟩ : w.length ∈ (ws z).map (·.length))
  have h3 : 0 < (ws z).length := List.length_pos_of_mem h
  omega
def dig (c : Nat) : Bool := decide (48 ≤ c) && decide (c ≤ 57)
theorem dig_in (c : Nat) : decide (c ∈ lc "0123456789") = dig c := by
  have e : lc "0123456789" = [48, 49, 50, 51, 52, 53, 54, 55, 56, 57] := by decide +kernel
  rw [e]
  unfold dig
  rw [← Bool.decide_and]
  refine decide_eq_decide.mpr ⟨fun h => ?_, fun h => ?_⟩
  · simp only [List.mem_cons, List.not_mem_nil, or_false] at h
    omega
  · simp only [List.mem_cons, List.not_mem_nil, or_false]
    omega
theorem tur_in (c : Nat) : decide (c ∈ lc "TUR") = letter c := by
  have e : lc "TUR" = [84, 85, 82] := by decide +kernel
  rw [e]
  unfold letter
  rw [Bool.eq_iff_iff]
  simp [or_assoc]
def cnt (l : List Nat) : Bool := !(decide (l = []) || decide (9 < l.length) || decide (l.head? = some 48)) && l.all dig
def okP (l : List Nat) : Bool := decide (l = [48]) || cnt l
def okW (l : List Nat) : Bool := decide (l = [45]) || (!decide (l = []) && l.all letter)
def wd (l : List Nat) : List Nat := if l = [45] then [] else l
abbrev Mt := Int × List Nat × List Nat
def nv (z : Str) : Int := (intText? z).getD 0
/-- what a line stands for -/
def rd (z : Str) : Option Mt := match ws z with
  | [a, b, c] => if okP (lc a) && okW (lc b) && okW (lc c) then some (nv a, wd (lc b), wd (lc c)) else none
  | _ => none
theorem rd_three {z a b c : Str} (h : ws z = [a, b, c]) : rd z = if okP (lc a) && okW (lc b) && okW (lc c) then some (nv a, wd (lc b), wd (lc c)) else none := by
  unfold rd; rw [h]
theorem rd_not {z : Str} (h : (ws z).length ≠ 3) : rd z = none := by
  unfold rd
  split
  · rename_i e
    rw [e] at h
    exact absurd rfl h
  · rfl
theorem rd_empty {z : Str} {a b c : List Nat} (h : ws z = [S a, S b, S c]) (m : [] ∈ [a, b, c]) : rd z = none := by
  rw [rd_three h, lc_S, lc_S, lc_S]
  have p0 : okP [] = false := by decide
  have w0 : okW [] = false := by decide
  simp only [List.mem_cons, List.not_mem_nil, or_false] at m
  rcases m with e | e | e
  · rw [← e, p0]; rfl
  · rw [← e, w0, Bool.and_false]; rfl
  · rw [← e, w0, Bool.and_false]; rfl
theorem rd_all {z : Str} {a b c : List Nat} (h : ws z = [S a, S b, S c]) : rd z = if okP a && okW b && okW c then some (nv (S a), wd b, wd c) else none := by
  rw [rd_three h, lc_S, lc_S, lc_S]
theorem okP_long {a : List Nat} (h : 9 < a.length) : okP a = false := by
  unfold okP cnt
  rw [decide_eq_true h, decide_eq_false (fun e => by rw [e] at h; exact absurd h (by decide) : ¬ a = [48])]
  simp
theorem okP_dig {a : List Nat} (h : a.all dig = false) : okP a = false := by
  unfold okP cnt
  rw [h, Bool.and_false, Bool.or_false, decide_eq_false_iff_not]
  intro e
  rw [e] at h
  exact absurd h (by decide)
theorem okP_zero {a : List Nat} (h : a.head? = some 48) (l : 1 < a.length) : okP a = false := by
  unfold okP cnt
  rw [decide_eq_true h, decide_eq_false (fun e => by rw [e] at l; exact absurd l (by decide) : ¬ a = [48])]
  simp
theorem okP_yes {a : List Nat} (ne : a ≠ []) (l : ¬ 9 < a.length) (d : a.all dig = true) (h : ¬ (a.head? = some 48 ∧ 1 < a.length)) : okP a = true := by
  unfold okP cnt
  rw [decide_eq_false l, decide_eq_false ne, d]
  by_cases e : a.head? = some 48
  · have l1 : ¬ 1 < a.length := fun z => h ⟨e, z⟩
    match a, ne, e, l1 with
    | [x], _, e, _ => cases e; rfl
    | x :: y :: r, _, _, l1 => exact absurd (by simp) l1
  · rw [decide_eq_false e]; simp
theorem okP_int {z : Str} (h : okP (lc z) = true) : intText? z = some (nv z) ∧ z.length ≤ 9 := by
  have key : (lc z).all dig = true ∧ lc z ≠ [] ∧ (lc z).length ≤ 9 := by
    unfold okP at h
    rw [Bool.or_eq_true, decide_eq_true_eq] at h
    rcases h with e | e
    · rw [e]; exact ⟨by decide, by simp, by decide⟩
    · unfold cnt at e
      simp only [Bool.and_eq_true, Bool.not_eq_true', Bool.or_eq_false_iff, decide_eq_false_iff_not] at e
      exact ⟨e.2, e.1.1.1, by omega⟩
  have e : intText? (S (lc z)) = _ := SX.int_S (a := lc z) key.1 key.2.1 (by omega)
  rw [S_lc] at e
  refine ⟨?_, by rw [← lc_len]; exact key.2.2⟩
  unfold nv
  rw [e]; rfl
theorem wd_letters {l : List Nat} (h : okW l = true) : Lets (wd l) := by
  unfold okW at h
  unfold wd
  rw [Bool.or_eq_true, decide_eq_true_eq] at h
  by_cases e : l = [45]
  · rw [if_pos e]; exact fun _ z => by cases z
  · rw [if_neg e]
    rcases h with h | h
    · exact absurd h e
    · rw [Bool.and_eq_true] at h
      exact fun c hc => letter_iff.mp (List.all_eq_true.mp h.2 c hc)
theorem rd_letters {z : Str} {m : Mt} (h : rd z = some m) : Lets m.2.1 ∧ Lets m.2.2 := by
  unfold rd at h
  split at h
  · split at h
    · rename_i e
      cases h
      simp only [Bool.and_eq_true] at e
      exact ⟨wd_letters e.1.2, wd_letters e.2⟩
    · cases h
  · cases h
/-! what stands in the heap -/
def vM (m : Mt) : List V := [.int m.1, .str (S m.2.1), .str (S m.2.2)]
def dM (m : Mt) : Dt := .tup [.int m.1, .str (S m.2.1), .str (S m.2.2)]
def OM (H : Hp) (v : V) : Option Mt → Prop
  | none => v = .non
  | some m => ∃ p, v = .ref p ∧ H p = some (.tup (vM m))
def MsAt (H : Hp) (p : Addr) (ms : List Mt) : Prop := ∃ xs : List Addr, H p = some (.lst (xs.map V.ref)) ∧ xs.length = ms.length ∧ ∀ (i : Nat) (x : Addr) (m : Mt), xs[i]? = some x → ms[i]? = some m → H x = some (.tup (vM m))
theorem MsAt.sm {H H' : Hp} {p : Addr} {ms : List Mt} (h : MsAt H p ms) (x : Sm H H') : MsAt H' p ms := by
  obtain ⟨xs, h1, h2, h3⟩ := h
  exact ⟨xs, x.lst h1, h2, fun i y m a b => x.tup (h3 i y m a b)⟩
theorem is_m {H : Hp} {p : Addr} {m : Mt} (h : H p = some (.tup (vM m))) : Is H 1 (.ref p) (dM m) := by
  refine ⟨p, _, rfl, h, rfl, by show 3 ≤ 1000000; decide, fun i x d a b => ?_⟩
  match i, a, b with
  | 0, a, b => cases a; cases b; exact int_is
  | 1, a, b => cases a; cases b; exact str_is
  | 2, a, b => cases a; cases b; exact str_is
theorem is_ms {H : Hp} {p : Addr} {ms : List Mt} (h : MsAt H p ms) (l : ms.length ≤ 1000000) : Is H 2 (.ref p) (.lst (ms.map dM)) := by
  obtain ⟨xs, h1, h2, h3⟩ := h
  refine ⟨p, _, rfl, h1, by rw [List.length_map, List.length_map]; exact h2, by rw [List.length_map]; exact l, fun i x d a b => ?_⟩
  rw [List.getElem?_map] at a b
  obtain ⟨y, hy, rfl⟩ := Option.map_eq_some_iff.mp a
  obtain ⟨m, hm, rfl⟩ := Option.map_eq_some_iff.mp b
  exact is_m (h3 i y m hy hm)
/-! lines that are written -/
def sg (l : List Nat) : List Nat := if l = [] then [45] else l
def lineOf (m : Mt) : Str := Txt.join (S [32]) [toString m.1, S (sg m.2.1), S (sg m.2.2)]
structure FitM (m : Mt) : Prop where
  lo : 0 ≤ m.1
  hi : m.1 < 1000000000
  o : m.2.1.length ≤ 6
  n : m.2.2.length ≤ 6
/-! signs -/
def okS (z : Str) : Prop := ∀ c ∈ lc z, c < 128
theorem okS_S {l : List Nat} (h : ∀ c ∈ l, c < 128) : okS (S l) := by unfold okS; rw [lc_S]; exact h
theorem lc_app (a b : Str) : lc (a ++ b) = lc a ++ lc b := by
  rw [← S_lc a, ← S_lc b, S_app, lc_S, lc_S, lc_S]
theorem join_signs2 (y : Str) : ∀ (ps : List Str) (c : Nat), c ∈ lc (Str.join y ps) → (∃ p ∈ ps, c ∈ lc p) ∨ c ∈ lc y
  | [], c, h => by
    have e : lc (Str.join y []) = [] := by rfl
    rw [e] at h; cases h
  | [a], c, h => by
    have e : Str.join y [a] = a := by simp [Str.join]
    rw [e] at h; exact .inl ⟨a, List.mem_cons_self, h⟩
  | a :: b :: r, c, h => by
    have e : Str.join y (a :: b :: r) = a ++ y ++ Str.join y (b :: r) := by simp [Str.join]
    rw [e, lc_app, lc_app, List.mem_append, List.mem_append] at h
    rcases h with (h | h) | h
    · exact .inl ⟨a, List.mem_cons_self, h⟩
    · exact .inr h
    · rcases join_signs2 y (b :: r) c h with ⟨p, h1, h2⟩ | h
      · exact .inl ⟨p, List.mem_cons_of_mem _ h1, h2⟩
      · exact .inr h
theorem join_holds (y : Str) : ∀ (ps : List Str) (p : Str) (c : Nat), p ∈ ps → c ∈ lc p → c ∈ lc (Str.join y ps)
  | [a], p, c, h, hc => by
    have e : Str.join y [a] = a := by simp [Str.join]
    rw [List.mem_singleton] at h
    rw [e, ← h]; exact hc
  | a :: b :: r, p, c, h, hc => by
    have e : Str.join y (a :: b :: r) = a ++ y ++ Str.join y (b :: r) := by simp [Str.join]
    rw [e, lc_app, lc_app, List.mem_append, List.mem_append]
    rcases List.mem_cons.mp h with h | h
    · rw [h] at hc; exact .inl (.inl hc)
    · exact .inr (join_holds y (b :: r) p c h hc)
theorem ws_ok {z w : Str} (h : okS z) (m : w ∈ ws z) : okS w := fun c hc => by
  have e := StrLaws.join_split z (S [32])
  refine h c ?_
  rw [← e]
  exact join_holds _ _ w c m hc
theorem join_ok {ps : List Str} (h : ∀ p ∈ ps, okS p) : okS (Txt.join (S [32]) ps) := fun c hc => by
  have e : Txt.join (S [32]) ps = Str.join (S [32]) ps := StrLaws.glued_eq_join _ ps
  rw [e] at hc
  rcases join_signs2 _ ps c hc with ⟨p, h1, h2⟩ | h1
  · exact h p h1 c h2
  · rw [lc_S, List.mem_singleton] at h1
    omega
theorem strOk_of {z : Str} (h : okS z) : PyData.strOk z = true := by
  unfold PyData.strOk
  rw [← Array.all_toList]
  exact List.all_eq_true.mpr fun c hc => decide_eq_true (Nat.lt_of_lt_of_le (h c hc) (by decide))
end
/-! ### ad list comprehension out of which an exception of ad call leaves -/
section
open PySem.Spec PyProof.Rows
variable {Mo : Model} {Ar : Around} {E : Value → Shared → Prop} {s : Shared} {ev : Env}
/-- compPost, with the frame told where an error leaves -/
def postF (Mo : Model) (Ar : Around) (E : Value → Shared → Prop) (fr : Option Addr) (use : Option (Value → Sem Unit)) (R : Value → Shared → Prop) (ac : Value) (Cc : Addr) (rr : Result) (z' : Shared) : Prop :=
  match rr with
  | .ok _ => compPost Mo Ar E use R ac Cc rr z'
  | .error xv => ∃ mp, z'.heap.Ns Cc mp ∧ ∀ k', Heap.SameBut Cc z'.heap k' → ∀ cev : Env, cev.locals = Cc → cev.frame = fr → wpAny Mo Ar (passOn "comprehension.variables-let-go" xv cev : Sem Value) (fun _ _ => False) E { z' with heap := k' }
theorem comprehension_F {ee : Expr} {scp : Scope} {ps : Pos} {mkAcc fst : Sem Value} {gq : Comprehension} {gqs : List Comprehension} {clo_ : List (Str × Addr)} {use : Option (Value → Sem Unit)}
    {R : Value → Shared → Prop} {fr : Option Addr}
    (cla : clausesOf ee = gq :: gqs) (fold : ∀ xv, foldedSetIterable gq.iter ev xv = pure xv) (clo : closureFor scp ev = pure clo_)
    (kin : scp.kind = .function) (nam : ∀ xv ∈ scp.names, xv.2 = .local → scp.names.lookup xv.1 = some .local)
    (hq : wpAny Mo Ar fst (fun xv za => wpAny Mo Ar (pyIter xv) (fun itr zb => wpAny Mo Ar mkAcc (fun ac zc =>
      wpAny Mo Ar (newFunctionEnv scp ev.globals clo_ [] ev.qual none .none (some ev)) (fun cev zd => cev.frame = fr ∧
        codeAny Mo Ar (.compStart ee 0 itr ac { cev with scope := relabel scp ev }) (postF Mo Ar E fr use R ac cev.locals) zd) E zc) E zb) E za) E s) :
    wpAny Mo Ar (comprehension ee scp ev ps mkAcc false fst use) R E s := by
  unfold comprehension
  rw [clo, cla]
  refine wpAny_bind (wpAny_mono hq (fun xv za ka => wpAny_bind (wpAny_standAt (wpAny_bind (wpAny_of_eq (fold xv) (wpAny_bind (wpAny_holding (wpAny_mono ka (fun itr zb kb =>
    wpAny_standIf (wpAny_bind (wpAny_mono kb (fun ac zc kc => wpAny_bind (wpAny_pure (wpAny_bind (wpAny_mono kc (fun cev zd kd => ?_) fun _ _ k' => k')))) fun _ _ k' => k')))
      fun _ _ k' => k'))))))) fun _ _ k' => k')
  dsimp only
  obtain ⟨frm, kd⟩ := kd
  have hva : ∀ xv ∈ (scp.names.filter fun xv => (xv.2 == .local || xv.2 == .cell) && xv.1 != (".0" : Str)).reverse, xv.2 = .local →
      Env.kindOf { cev with scope := relabel scp ev } xv.1 = some .local := fun xv hxx len2 => lookup_relabel_local (nam xv (List.mem_filter.mp (List.mem_reverse.mp hxx)).1 len2)
  have hvb : ∀ xv ∈ (scp.names.filter fun xv => (xv.2 == .local || xv.2 == .cell) && xv.1 != (".0" : Str)).reverse.drop 1 ++ (scp.names.filter fun xv => (xv.2 == .local || xv.2 == .cell) && xv.1 != (".0" : Str)).reverse.take 1,
      xv.2 = .local → Env.kindOf { cev with scope := relabel scp ev } xv.1 = some .local := fun xv hxx len2 => by
    rcases List.mem_append.mp hxx with hwb | hwb
    · exact hva xv (List.mem_of_mem_drop hwb) len2
    · exact hva xv (List.mem_of_mem_take hwb) len2
  refine wpAny_holding (wpAny_bind (wpAny_attempt (wpAny_holding (wpAny_run (codeAny_mono kd fun rr z' hres => ?_)))))
  cases rr with
  | ok fo =>
    cases use with
    | none =>
      obtain ⟨mp, hns, hres⟩ := hres
      exact wpAny_bind (wpAny_holding (wpAny_comp_letGo (cenv := { cev with scope := relabel scp ev }) kin _ z' mp hva hns fun k' mp' _ hsb => wpAny_pure (hres k' hsb)))
    | some ux =>
      refine wpAny_bind (wpAny_rule (wpAny_bind (wpAny_holding (wpAny_mono hres (fun _ z'' hres2 => ?_) fun _ _ k' => k'))))
      obtain ⟨mp, hns, hres2⟩ := hres2
      exact wpAny_bind (wpAny_comp_letGo (cenv := { cev with scope := relabel scp ev }) kin _ z'' mp hvb hns fun k' mp' _ hsb => wpAny_pure (hres2 k' hsb))
  | error xv =>
    obtain ⟨mp, hns, hres⟩ := hres
    exact wpAny_bind (wpAny_holding (wpAny_comp_letGo (cenv := { cev with scope := relabel scp ev }) kin _ z' mp hva hns fun k' mp' _ hsb => wpAny_mono (hres k' hsb _ rfl frm) (fun _ _ fo => fo.elim) fun _ _ y => y))
end

section
open PySem.Spec PyProof.Rows
variable {X : Cx}
/-- ad call's exception in ad block -/
def xeB (X : Cx) (s : Shared) (H : Hp) (scp : Scope) (cev : Env) (fpp : List Addr) (E : XK) : Value → Shared → Prop := fun ee z' =>
  ∃ pns σ K' za, Inv (X.blk s H scp cev fpp) pns σ K' za ∧ L2N.CX X.prog X.w X.stack K' za E ee z'
abbrev blkE (X : Cx) (E : XK) (s : Shared) (H : Hp) (scp : Scope) (cev : Env) (fpp : List Addr) : Cx := { X.blk s H scp cev fpp with xe := xeB X s H scp cev fpp E }
theorem inv_xe {X : Cx} {pns : List (Addr × Obj)} {σ : L2.St} {H : Hp} {s : Shared} (ee : Value → Shared → Prop) (I : Inv X pns σ H s) : Inv { X with xe := ee } pns σ H s :=
  ⟨⟨I.ok.mod, I.ok.kind, I.ok.glob, I.ok.blt, I.ok.above, I.ok.inj, I.ok.has, I.ok.cab, I.ok.hd, I.ok.frames, I.ok.stk, I.ok.exf, I.ok.bs, I.ok.bsz, I.ok.noex, I.ok.exfs, I.ok.funs, I.ok.frf⟩, I.os, I.bare, I.base, I.loc, I.cell, I.free, I.freeC, I.pin, I.hok, I.len⟩
theorem passesB {s : Shared} {H : Hp} {scp : Scope} {cev : Env} {fpp : List Addr} {E : XK} : Passes (L2N.CX X.prog X.w) (blkE X E s H scp cev fpp) E :=
  fun pns σ K' za _ _ I cc => ⟨pns, σ, K', za, inv_xe (X := blkE X E s H scp cev fpp) (fun _ _ => False) I, cc⟩
end
section
open PySem.Spec PyProof.Rows
variable {X : Cx}
theorem note_frame {ev env' : Env} {ee : Value} (hq : ev.frame = env'.frame) : noteFrame ee ev = noteFrame ee env' := by
  unfold noteFrame PySem.frameOf
  rw [hq]
/-- ad call's exception, with the ground beneath -/
theorem fly_call {X : Cx} {pns : List (Addr × Obj)} {σ : L2.St} {H : Hp} {s z' : Shared} {E : XK} (I : Inv X pns σ H s) {ux : Value} (cc : L2N.CX X.prog X.w X.stack H s E ux z') :
    ∃ (ad : Addr) (B : Heap) (sI : Shared) (K' : Hp) (cls : Value) (dk : Option Addr), ux = .ref ad ∧ Inv X pns σ K' sI ∧ (∀ bb oo, sI.heap.get? bb = some oo → bb ∉ frs X.stack → B.get? bb = some oo) ∧
      (∀ bb oo, sI.heap.get? bb = some oo → z'.heap.get? bb = some oo) ∧ HandSPX.FlyingZ B X.stack ad (L2N.Zn cls dk) z'.heap ∧ K' ad = none ∧ z'.os = sI.os ∧ AllBare z'.gens ∧ E cls dk K' := by
  obtain ⟨ad, B, K', cls, dk, rfl, fly, hko, un, noa, os, bare2, hee⟩ := cc
  obtain ⟨G, in1, in2⟩ := restrict z'.heap fun bb => (B.get? bb).isSome || decide (bb ∈ frs X.stack)
  have stays : B.StaysIn z'.heap := fly.1
  have fromB : ∀ bb oo, B.get? bb = some oo → G.get? bb = some oo := fun bb oo ee => by
    rw [in1 bb (by simp [ee])]
    exact stays bb oo ee
  have fromF : ∀ bb, bb ∈ frs X.stack → G.get? bb = z'.heap.get? bb := fun bb hbb => in1 bb (by simp [hbb])
  have outG : ∀ bb oo, G.get? bb = some oo → z'.heap.get? bb = some oo ∧ ((B.get? bb).isSome = true ∨ bb ∈ frs X.stack) := fun bb oo ee => by
    cases q : ((B.get? bb).isSome || decide (bb ∈ frs X.stack)) with
    | false => rw [in2 bb q] at ee; cases ee
    | true =>
      rw [in1 bb q] at ee
      exact ⟨ee, by simpa [Bool.or_eq_true] using q⟩
  refine ⟨ad, B, { s with heap := G, gens := z'.gens, drawn := z'.drawn, toks := z'.toks }, K', cls, dk, rfl, ?_, fun bb oo ee hbb => ?_, fun bb oo ee => (outG bb oo ee).1, fly, noa, os, bare2, hee⟩
  · refine I.call (ch := []) ⟨fun bb oo ee nn hbb _ => fromB bb oo (un.keep bb oo ee nn hbb), fun bb oo ee nn hbb _ => ?_, fun bb oo ee nn _ => un.free bb oo ee nn, fun bb oo ee _ => ?_, un.tups, un.frzs, un.tbls⟩ (hko.kept fromB) bare2 (fun _ zz => nomatch zz)
    · obtain ⟨sl, q⟩ := un.slot bb oo ee hbb
      exact ⟨sl, by rw [fromF bb hbb]; exact q⟩
    · by_cases hbb : bb ∈ frs X.stack
      · obtain ⟨sl, q⟩ := un.slot bb oo ee hbb
        exact ⟨_, by rw [fromF bb hbb]; exact q⟩
      · obtain ⟨o', q⟩ := un.there bb oo ee hbb
        exact ⟨o', fromB bb o' q⟩
  · obtain ⟨e', hq⟩ := outG bb oo ee
    rcases hq with hq | hq
    · obtain ⟨o', q⟩ := Option.isSome_iff_exists.mp hq
      have zz := stays bb o' q
      rw [e'] at zz; cases zz
      exact q
    · exact absurd hq hbb
theorem funFrames_but {hq k' B B' : Heap} {Cc : Addr} (sbut : Heap.SameBut Cc hq k') (nB : ∀ bb, B.get? bb = none → B'.get? bb = none) : ∀ {l : List Env}, hq.FunFrames B l → Cc ∉ frs l → k'.FunFrames B' l
  | [], _, _ => trivial
  | ev :: rr, ⟨hk, ⟨L, oo, hf, hns, ho, hd⟩, hres⟩, hC => by
    have ee : frs (ev :: rr) = L :: frs rr := by show List.filterMap _ _ = _; rw [List.filterMap_cons, hf]; rfl
    rw [ee] at hC
    exact ⟨hk, ⟨L, oo, hf, nB _ hns, (sbut.2 L fun zz => hC (zz ▸ List.mem_cons_self)).trans ho, hd⟩, funFrames_but sbut nB hres fun zz => hC (List.mem_cons_of_mem _ zz)⟩
/-- out of the block -/
theorem xeB_out {pns : List (Addr × Obj)} {σ : L2.St} {zd z' : Shared} {Kd : Hp} {scp : Scope} {ce : Env} {fpp : List Addr} {E : XK} {Wm : WX} {use : Option (Value → Sem Unit)} {Rf : Value → Shared → Prop} {ac : Value} {ee : Value}
    (Vd : Inv X pns σ Kd zd) (hst : X.stack = X.env :: X.outer) (hfm : X.env.frame = some X.env.locals) (ece : ce.locals = zd.heap.objs.size) (hcf : ce.frame = X.env.frame)
    (wd : ∀ bb ∈ fpp, FpOk X pns Kd bb ∧ bb < zd.heap.objs.size) (tk : L2N.Takes X Wm) (hW : ∀ cls dk H, E cls dk H → Wm cls dk σ H) (xv : xeB X zd Kd scp ce fpp E ee z') :
    notedBy (model X.prog X.w) X.A ce (fun ee z' => postF (model X.prog X.w) X.A X.xe X.env.frame use Rf ac zd.heap.objs.size (.error ee) z') ee z' := by
  obtain ⟨pins', σ', K', za, I, cc⟩ := xv
  obtain ⟨ad, B, sI, Kg, cls, dk, rfl, Vg, nb, up, fly, noa, os, bare2, hee⟩ := fly_call (X := X.blk zd Kd scp ce fpp) I cc
  have Vh : Inv X pns σ Kg sI := Vd.call' (ch := fpp) Vg.os Vg.base Vg.hok Vg.bare fun bb hbb => ⟨(wd bb hbb).1.2.2.2.1, (wd bb hbb).1.2.1, (wd bb hbb).1.2.2.2.2.1, (wd bb hbb).1.2.2.2.2.2⟩
  have noC : Kg zd.heap.objs.size = none := by
    have zz : Kg ce.locals = none := Vg.free
    rw [ece] at zz
    exact zz
  have fC := Vd.fpOk (Nat.le_refl _) noC
  have frm : X.A.frames = some (X.env :: X.outer) := by rw [Vd.ok.frames, hst]
  have nF : zd.heap.objs.size ∉ frs X.stack := fun hbb => by
    rcases List.mem_cons.mp (Vd.stkSub _ hbb) with zz | zz
    · exact fC.2.1 zz
    · exact fC.2.2.1 zz
  have aC : ad ≠ zd.heap.objs.size := fun zz => by
    obtain ⟨mp, hns, _⟩ := Vg.loc
    have hns : sI.heap.Ns ce.locals mp := hns
    rw [ece] at hns
    obtain ⟨oo, _, _, ho, _⟩ := hns
    have z2 := nb _ oo ho nF
    rw [← zz, fly.2.1] at z2; cases z2
  show wpAny _ X.A (noteFrame (.ref ad) ce) _ _ z'
  rw [note_frame (env' := X.env) hcf]
  have fl' : HandSPX.FlyingZ B (X.env :: X.outer) ad (L2N.Zn cls dk) z'.heap := by rw [← hst]; exact fly
  refine PXN.looks_onZ L2N.Zn.steady frm hfm fl' fun hwh hh up7 => ?_
  obtain ⟨mp, hns, _⟩ := Vg.loc
  have hns : sI.heap.Ns ce.locals mp := hns
  rw [ece] at hns
  refine ⟨mp, up7.ns ((Heap.UpToSlots.of_keeps up).ns hns), fun hwi sbut cev len2 hcf8 => ?_⟩
  obtain ⟨ylb, ylc, yld, yle⟩ := hh
  have sB : (PySem.W.hideAll B [zd.heap.objs.size]).StaysIn hwi := fun bb oo ee => by
    have hbb : bb ≠ zd.heap.objs.size := fun zz => by
      rw [zz, PySem.W.hideAll_none _ (by simp)] at ee; cases ee
    rw [sbut.2 bb hbb]
    exact ylb bb oo (PySem.W.of_hideAll _ ee)
  have nB : ∀ bb, B.get? bb = none → (PySem.W.hideAll B [zd.heap.objs.size]).get? bb = none := fun bb zz => by
    cases q : (PySem.W.hideAll B [zd.heap.objs.size]).get? bb with
    | none => rfl
    | some oo => rw [PySem.W.of_hideAll _ q] at zz; cases zz
  obtain ⟨oC, esC, epC, hoC, hdC, _⟩ := (up7.ns ((Heap.UpToSlots.of_keeps up).ns hns))
  obtain ⟨oe, vs, Tu, oT, ts, ge, hz, hd, hwb, hnT, hTe, hT, hdT, hts⟩ := yle
  have nTC : Tu ≠ zd.heap.objs.size := fun zz => by rw [zz, hoC] at hT; cases hT; rw [hdC] at hdT; cases hdT
  have hh8 : HandSPX.HeldZ (PySem.W.hideAll B [zd.heap.objs.size]) (X.env :: X.outer) ad (L2N.Zn cls dk) X.env.locals hwi :=
    ⟨sB, nB _ ylc, funFrames_but sbut nB yld (by rw [← hst]; exact nF), oe, vs, Tu, oT, ts, (sbut.2 ad aC).trans ge, hz, hd, hwb, nB _ hnT, hTe, (sbut.2 Tu nTC).trans hT, hdT, hts⟩
  unfold PySem.passOn
  refine wpAny_bind (wpAny_field ((sbut.2 ad aC).trans ge) hd hwb ?_)
  rw [if_neg (show ¬ ((Value.ref Tu == Value.none) = true) from by simp)]
  rw [hcf8, hfm]
  refine wpAny_bind (HandSPX.setFlight_onZ hh8 fun hwj hh9 up9 => wpAny_throw (tk _ _ ?_))
  have Vi : Inv X pns σ Kg { sI with heap := PySem.W.hideAll sI.heap [zd.heap.objs.size] } :=
    Vh.turned (t' := sI.toks) (it := zd.heap.objs.size) (fun bb oo hbb ee => PySem.W.hideAll_get _ ee (by simpa using hbb)) fC.1 fC.2.1 fC.2.2.2.1 fC.2.2.2.2.1 fC.2.2.2.2.2
  refine ⟨ad, PySem.W.hideAll B [zd.heap.objs.size], _, pns, σ, Kg, cls, dk, rfl, Vi, fun bb oo ee hbb => ?_, fun bb oo ee hnf => ?_, .inr (.inr (by rw [hst]; exact hh9)), noa, os, bare2, hW _ _ _ hee⟩
  · have hbC : bb ≠ zd.heap.objs.size := fun zz => by rw [zz, PySem.W.hideAll_none _ (by simp)] at ee; cases ee
    exact PySem.W.hideAll_get _ (nb bb oo (PySem.W.of_hideAll _ ee) hbb) (by simpa using hbC)
  · have hbC : bb ≠ zd.heap.objs.size := fun zz => by rw [zz, PySem.W.hideAll_none _ (by simp)] at ee; cases ee
    obtain ⟨sl, q⟩ := up7 bb oo (up bb oo (PySem.W.of_hideAll _ ee)) hnf
    obtain ⟨sl2, quc⟩ := up9 bb _ ((sbut.2 bb hbC).trans q) hnf
    exact ⟨sl2, quc⟩
end
section
open PySem.Spec PyProof.Rows
variable {X : Cx}
theorem lc_coreE {W0 : WX} {E : XK} {pns : List (Addr × Obj)} {s : Shared} {σ : L2.St} {H : Hp} {R : VK} {el tgt itx : Expr} {cond : List Expr} {scp : Scope} {mine : List (Str × Nat)} {ps ps' : Pos} {wii : TI} {gq : TG} {tst : TT} {tel : TE} {Rf : Value → Shared → Prop}
    (hst : X.stack = X.env :: X.outer) (hfm : X.env.frame = some X.env.locals) (tk : L2N.Takes X W0) (hW : ∀ cls dk H, E cls dk H → W0 cls dk σ H)
    (cm : X.calm = true) (nd : X.N.Nodup) (I : Inv X pns σ H s) (pit : PI X tgt itx wii) (bok : BlkOk X.N X.env.scope scp mine)
    (gg : ∀ (s : Shared) (H : Hp) (Cc : Addr) (clo_ : List (Str × Addr)) (fpp : List Addr), PG (blkE X E s H scp (compEnvC scp clo_ Cc X.env) fpp) tgt gq) (gt : ∀ (s : Shared) (H : Hp) (Cc : Addr) (clo_ : List (Str × Addr)) (fpp : List Addr), PTs (blkE X E s H scp (compEnvC scp clo_ Cc X.env) fpp) cond tst)
    (ge : ∀ (s : Shared) (H : Hp) (Cc : Addr) (clo_ : List (Str × Addr)) (fpp : List Addr), PE (blkE X E s H scp (compEnvC scp clo_ Cc X.env) fpp) el tel) (fold : ∀ xv, foldedSetIterable itx X.env xv = pure xv)
    (hq : tLc wii gq tst tel (mine.map (·.2)) σ H R)
    (fin2 : ∀ Dd Cc z' mp K', Inv X pns σ K' z' → R (.ref Dd) K' → z'.heap.Ns Cc mp → FpOk X pns K' Cc → postF (model X.prog X.w) X.A X.xe X.env.frame none Rf (.ref Dd) Cc (.ok .next) z') :
    wpAny (model X.prog X.w) X.A (comprehension (.ListComp el [⟨tgt, itx, cond, 0⟩] scp ps) scp X.env ps' (newList []) false (eval itx X.env) none) Rf X.xe s := by
  have fre : ∀ y ∈ scp.names, y.2 = .free → ∃ cc, X.env.cells.lookup y.1 = some cc := fun y hy ee => by
    rcases bok.free y hy ee with kk | kk
    · exact I.ok.has _ (.inl kk)
    · exact I.ok.has _ (.inr kk)
  refine comprehension_F (use := none) (fr := X.env.frame) rfl fold (closure_ok fre) bok.kind (fun y hy ee => by rw [bok.uniq y hy, ee])
    (thn (pit.run pns s σ H _ I hq) fun xw zb hxx => thn hxx fun itv zc hwc => ?_)
  obtain ⟨itr, fpp, tn, Jt, Kc, ee, Vc, Tu, tuc, wc, q⟩ := hwc
  subst ee
  refine wpAny_newObj_type (newEnv_comp ?_) (by show (0 : Nat) ≤ sizeLine; decide)
  generalize eD : zc.heap.objs.size = Dd
  have nD : Kc Dd = none := Vc.hok.fresh (Nat.le_of_eq eD)
  obtain ⟨Wm, ⟨mma, wma⟩, tur⟩ := q Dd nD
  -- the new list
  generalize ez : ({ zc with heap := zc.heap.push { cls := .type "list", data := .seq ([] : List Value).toArray } } : Shared) = zd
  have Vd : Inv X pns σ (upd Kc Dd (.lst [])) zd := by
    rw [← ez]
    refine Vc.laid (t' := zc.toks) (fun bb oo ee => Heap.get?_push_of_some _ ee) (Nat.le_of_eq eD) ⟨Nat.zero_le _, [], 0, .nil, ?_⟩
    rw [← eD]
    exact (Heap.get?_push_size _ rfl)
  have hwd : zd.heap = zc.heap.push { cls := .type "list", data := .seq ([] : List Value).toArray } := by rw [← ez]
  have below : ∀ bb ∈ fpp, bb < zc.heap.objs.size := fun bb hbb => by
    obtain ⟨oo, ee, _⟩ := Tu.obj _ _ tuc bb hbb
    exact Heap.lt_size ee
  have wd : ∀ bb ∈ fpp, FpOk X pns (upd Kc Dd (.lst [])) bb ∧ bb < zd.heap.objs.size := fun bb hbb => by
    have lt_ := below bb hbb
    refine ⟨⟨?_, (wc bb hbb).2⟩, by rw [hwd, Heap.size_push]; exact Nat.lt_succ_of_lt lt_⟩
    rw [upd_ne (by rw [← eD]; exact Nat.ne_of_lt lt_)]
    exact (wc bb hbb).1
  have tud : tn 0 zd.heap := Tu.keep _ _ _ tuc fun bb _ oo ee => by rw [hwd]; exact Heap.get?_push_of_some _ ee
  have Ve := block_start Vd bok nd wd
  have Ve := inv_xe (xeB X zd (upd Kc Dd (.lst [])) scp (compEnvC scp (cellsFrom (zd.heap.objs.size + 1) scp.names (cloFrom X.env.cells scp.names [])) zd.heap.objs.size X.env) fpp E) Ve
  have pgt := gg zd (upd Kc Dd (.lst [])) zd.heap.objs.size (cellsFrom (zd.heap.objs.size + 1) scp.names (cloFrom X.env.cells scp.names [])) fpp
  have ptt := gt zd (upd Kc Dd (.lst [])) zd.heap.objs.size (cellsFrom (zd.heap.objs.size + 1) scp.names (cloFrom X.env.cells scp.names [])) fpp
  have pel := ge zd (upd Kc Dd (.lst [])) zd.heap.objs.size (cellsFrom (zd.heap.objs.size + 1) scp.names (cloFrom X.env.cells scp.names [])) fpp
  refine ⟨rfl, ?_⟩
  show codeAny _ _ (.compStart (.ListComp el [⟨tgt, itx, cond, 0⟩] scp ps) 0 (.ref itr) (.ref Dd) (compEnvC scp (cellsFrom (zd.heap.objs.size + 1) scp.names (cloFrom X.env.cells scp.names [])) zd.heap.objs.size X.env)) (postF (model X.prog X.w) X.A X.xe X.env.frame none Rf (.ref Dd) zd.heap.objs.size) { zd with heap := pushCells (zd.heap.push { cls := .type "dict", data := .dict #[] }) scp.names }
  have nof : ∀ bb ∈ fpp, (upd Kc Dd (.lst [])) bb = none := fun bb hbb => (wd bb hbb).1.1
  generalize ece : compEnvC scp (cellsFrom (zd.heap.objs.size + 1) scp.names (cloFrom X.env.cells scp.names [])) zd.heap.objs.size X.env = ce at Ve pgt ptt pel ⊢
  have lce : ce.locals = zd.heap.objs.size := by subst ece; rfl
  have fce : ce.frame = X.env.frame := by subst ece; rfl
  generalize eK : upd Kc Dd (.lst []) = Kd at Vd Ve pgt ptt pel wma nof wd
  generalize eu : ({ zd with heap := pushCells (zd.heap.push { cls := .type "dict", data := .dict #[] }) scp.names } : Shared) = ze at Ve ⊢
  have tue : tn 0 ze.heap := Tu.keep _ _ _ tud fun bb _ oo ee => by rw [← eu]; exact pushCells_keeps _ _ _ _ (Heap.get?_push_of_some _ ee)
  have stay : ∀ {σ' : L2.St} {K' : Hp} {z' : Shared}, Inv (blkE X E zd Kd scp ce fpp) [] σ' K' z' → (∀ bb ∈ fpp, K' bb = none) → ∀ bb ∈ fpp, FpOk (blkE X E zd Kd scp ce fpp) [] K' bb := fun {σ' K' z'} V' hns bb hbb =>
    ⟨hns bb hbb, (V'.ok.exf bb hbb).1, V'.ok.exfs bb hbb, .inl hbb, fun xv cc ee => (V'.ok.exf bb hbb).2 xv cc ee, fun pp hpp => absurd (show pp ∈ ([] : List (Addr × Obj)) ++ [] from hpp) (by simp)⟩
  have lp : codeAny (model X.prog X.w) X.A (.compLoop (.ListComp el [⟨tgt, itx, cond, 0⟩] scp ps) 0 (.ref itr) (.ref Dd) ce) (postF (model X.prog X.w) X.A X.xe X.env.frame none Rf (.ref Dd) zd.heap.objs.size) ze := by
    refine compLoop_any (fun nn z' => ∃ ii K', Inv (blkE X E zd Kd scp ce fpp) [] (wipe σ (mine.map (·.2))) K' z' ∧ tn ii z'.heap ∧ (∀ bb ∈ fpp, K' bb = none) ∧ Wm ii nn K') ?_ mma ⟨0, Kd, Ve, tue, nof, wma⟩
    rintro nn zf ⟨ii, Kf, Vf, tuf, nnf, wmf⟩
    rcases tur ii nn Kf wmf with ⟨stops, qend⟩ | ⟨goes, Nex, hNex, stp_⟩
    · have dn := Tu.done (blkE X E zd Kd scp ce fpp) rfl rfl rfl cm ii [] zf _ Kf (fun _ _ => False) Vf (stay Vf nnf) tuf stops
      refine thnF dn fun rr zg ⟨hres, Vg⟩ => ?_
      subst hres
      -- back in the def's context
      have Vh : Inv X pns σ Kf zg := Vd.call' (ch := fpp) Vg.os Vg.base Vg.hok Vg.bare fun bb hbb => ⟨(wd bb hbb).1.2.2.2.1, (wd bb hbb).1.2.1, (wd bb hbb).1.2.2.2.2.1, (wd bb hbb).1.2.2.2.2.2⟩
      have noC : Kf zd.heap.objs.size = none := by
        have zz : Kf ce.locals = none := Vg.free
        rw [lce] at zz
        exact zz
      obtain ⟨mp, hns, _⟩ := Vg.loc
      have hns : zg.heap.Ns ce.locals mp := hns
      rw [lce] at hns
      exact fin2 Dd zd.heap.objs.size zg mp Kf Vh qend hns (Vd.fpOk (Nat.le_refl _) noC)
    · have itm := Tu.item (blkE X E zd Kd scp ce fpp) rfl rfl rfl cm ii [] zf _ Kf (fun _ _ => False) Vf (stay Vf nnf) tuf goes
      refine thnF itm fun rr zg ⟨ux, hres, hwg⟩ => ?_
      subst hres
      refine thnF hwg fun _ zh ⟨xv, Kh, Vh, rlh, ylh, tuh, nnh⟩ => ?_
      have Vh' := Vh.pinned (stay Vh nnh) (Tu.obj _ _ tuh)
      refine wpAny_mono (pgt.run _ zh _ Kh xv ux _ Vh' rlh (stp_ xv Kh ylh)) (fun _ zi ⟨τi, Ki, Vi, hwh, qui⟩ => ?_) fun _ _ q => xeB_out Vd hst hfm lce fce wd tk hW q
      refine wpAny_mono (ptt.run _ zi τi Ki _ Vi qui) (fun bb zj ⟨Kj, Vj, quj⟩ => ?_) fun _ _ q => xeB_out Vd hst hfm lce fce wd tk hW q
      -- the turn's end
      have done_ : ∀ {z' : Shared} {K' : Hp}, Inv (blkE X E zd Kd scp ce fpp) ([] ++ pinsAt fpp zh.heap) τi K' z' → Nex K' → ∃ mp, mp < nn ∧ ∃ ii K', Inv (blkE X E zd Kd scp ce fpp) [] (wipe σ (mine.map (·.2))) K' z' ∧ tn ii z'.heap ∧ (∀ bb ∈ fpp, K' bb = none) ∧ Wm ii mp K' := fun {z' K'} V' nex => by
        obtain ⟨mp', hmm, wmm⟩ := hNex K' nex
        have pn2 : ∀ bb ∈ fpp, ∀ oo, zh.heap.get? bb = some oo → z'.heap.get? bb = some oo ∧ K' bb = none := fun bb hbb oo ee =>
          let zz := V'.pin (bb, oo) (List.mem_append_right _ (List.mem_append_right _ (mem_pinsAt hbb ee)))
          ⟨zz.1, zz.2.1⟩
        have len2 : (wipe σ (mine.map (·.2))).length = τi.length := by rw [← hwh, wipe_length]
        refine ⟨mp', hmm, ii + 1, K', (V'.unpinned (pins := [])).weak len2 (fun jx vx ee => ?_), Tu.keep _ _ _ tuh fun bb hbb oo ee => (pn2 bb hbb oo ee).1, fun bb hbb => ?_, wmm⟩
        · rw [← hwh] at ee
          exact (wipe_some ee).1
        · obtain ⟨oo, ee, _⟩ := Tu.obj _ _ tuh bb hbb
          exact (pn2 bb hbb oo ee).2
      cases bb with
      | false =>
        simp only [Bool.false_eq_true, if_false] at quj ⊢
        exact done_ Vj quj
      | true =>
        simp only [if_true] at quj ⊢
        refine wpAny_mono (pel.run _ zj τi Kj _ Vj quj) (fun zz zk ⟨yv, Kk, Vk, rlk, ac, hD10, hz10, nex⟩ => ?_) fun _ _ q => xeB_out Vd hst hfm lce fce wd tk hW q
        exact app_ok (X := blkE X E zd Kd scp ce fpp) Vk hD10 hz10 rlk fun zl Vl => done_ Vl nex
  exact codeAny_compStart_list lp (Tu.self X.A 0 _ _ _ tue lp)
theorem pe_lcE {W0 : WX} {E : XK} {el tgt itx : Expr} {cond : List Expr} {scp : Scope} {own : List (Str × Nat)} {ps : Pos} {wii : TI} {g : TG} {tt : TT} {tel : TE} (hst : X.stack = X.env :: X.outer) (hfm : X.env.frame = some X.env.locals) (tk : L2N.Takes X W0) (hW : ∀ cls dk σ H, E cls dk H → W0 cls dk σ H) (cm : X.calm = true) (nd : X.N.Nodup) (pit : PI X tgt itx wii) (bok : BlkOk X.N X.env.scope scp own)
    (gg : ∀ (s : Shared) (H : Hp) (Cc : Addr) (clo_ : List (Str × Addr)) (fpp : List Addr), PG (blkE X E s H scp (compEnvC scp clo_ Cc X.env) fpp) tgt g) (gt : ∀ (s : Shared) (H : Hp) (Cc : Addr) (clo_ : List (Str × Addr)) (fpp : List Addr), PTs (blkE X E s H scp (compEnvC scp clo_ Cc X.env) fpp) cond tt)
    (ge : ∀ (s : Shared) (H : Hp) (Cc : Addr) (clo_ : List (Str × Addr)) (fpp : List Addr), PE (blkE X E s H scp (compEnvC scp clo_ Cc X.env) fpp) el tel) (fold : ∀ xv, foldedSetIterable itx X.env xv = pure xv := by intro _; rfl) :
    PE X (.ListComp el [⟨tgt, itx, cond, 0⟩] scp ps) (tLc wii g tt tel (own.map (·.2))) := by
  refine ⟨fun pns s σ H R I hq => ?_⟩
  rw [eval_ListComp]
  refine lc_coreE hst hfm tk (fun cc dk H => hW cc dk σ H) cm nd I pit bok gg gt ge fold hq fun Dd Cc z' mp K' V' q hns fo => ⟨mp, hns, fun k'' sbut => ?_⟩
  obtain ⟨wa, wb, wc, wd, we, wf⟩ := fo
  exact ⟨.ref Dd, K', V'.turned (t' := z'.toks) (fun bb oo hbb ee => (sbut.2 bb hbb).trans ee) wa wb wd we wf, rfl, q⟩
end
section
open GxR
variable {X : Cx}
/-- x in D, D a text that the top has written -/
theorem elt_inS {scope : Scope} {x y : Str} {pb : Nat → Bool} {Z : Str} {tz : Tok} {p1 p2 p3 : Pos} (gy : X.mg y = some (.str Z tz)) (hp : ∀ c, decide (c ∈ lc Z) = pb c)
    (hk : scope.kind = .function) (hl : scope.names.lookup x = some .local) (hy : scope.names.lookup y = some .globalImplicit) (hd : (x == ("__debug__" : Str)) = false := by decide) (hd2 : (y == ("__debug__" : Str)) = false := by decide) :
    EltG X scope x (.Compare (.Name x p1) [.In] [.Name y p2] p3) pb := by
  intro cenv A' E' c t z m ok hs hg hb hn hm
  have kd : cenv.scope.kind = .function := by rw [hs]; exact hk
  refine wpAny_Compare1 (wpAny_Name (wpAny_loadName_local kd (show cenv.scope.names.lookup x = some .local by rw [hs]; exact hl) hn hm ?_) hd)
  refine Calls.Name_function_global kd (show cenv.scope.names.lookup y = some .globalImplicit by rw [hs]; exact hy) (Calls.loadGlobal_global (by rw [hg, ok.glob]; exact ok.mod.glob.keeps hb) gy ?_) hd2
  refine PyProof.Rows.in_str ?_
  refine ⟨?_, keeps_refl z⟩
  rw [← hp c]
  exact congrArg Value.bool (PySem.StrLaws.found_one Z c)
end
section
variable {X : Cx} {K : PySem.W.Frag} {a b o e : Expr} {rest : List Expr} {ta tb to te : TE} {pos : Pos}
theorem pe_orTK (hK : X.K = K) (ha : PE X a ta) (hb : PE X (.BoolOp .Or (b :: rest) pos) tb) : PE X (.BoolOp .Or (a :: b :: rest) pos) (tOrT K ta tb) := by
  subst hK
  exact pe_orT ha hb
def rJoin (K : PySem.W.Frag) : V → List V → Hp → VK → Prop := fun x xs H Q => ∃ (s : Str) (l : Addr) (ps : List Str), x = .str s ∧ xs = [.ref l] ∧ SqL K H l (ps.map V.str) ∧ (ps.map (·.length)).sum + ps.length * s.length ≤ 16777216 ∧ Q (.str (Txt.join s ps)) H
theorem pe_joinK {apos pos : Pos} (hK : X.K = K) (ho : PE X o to) (he : PE X e te) (hs : starEach [e] X.env = [(false, eval e X.env)] := by rfl) (hbase : attributeBase o "join" X.env (eval o X.env) = eval o X.env := by rfl) (hline : (apos.endLine == pos.line) = true := by rfl) :
    PE X (.Call (.Attribute o "join" apos) [e] [] pos) (tM1 (rJoin K) to te) := by
  subst hK
  refine pe_m1 F.slot_str_join F.type_str_join (fun pins s σ H x xs v us Q I rx rs h => ?_) ho he hs hbase hline
  obtain ⟨z, l, ps, e1, e2, h3, h4, h5⟩ := h
  exact mt_join pins s σ H x xs v us Q I rx rs ⟨z, l, ps, e1, e2, .inl h3, h4, h5⟩
end
theorem none_back {a p : Addr} {H H' : Hp} (x : But a H H') (ne : p ≠ a) (h : H' p = none) : H p = none := by
  cases e : H p with
  | none => rfl
  | some o => rw [x p o ne e] at h; cases h
theorem small_log {i : Int} (h0 : 0 ≤ i) (h : i < 1000000000) : i.natAbs.log2 < 1920 := by
  by_cases e : i.natAbs = 0
  · rw [e]; decide
  · have := (Nat.log2_lt e (k := 30)).mpr (by have : (2 : Nat) ^ 30 = 1073741824 := rfl; omega)
    omega
theorem e_sp : ((" " : Str)) = S [32] := by decide +kernel
theorem e_min : (("-" : Str)) = S [45] := by decide +kernel
def dashS (z : Str) : Str := if lc z = [] then S [45] else z
theorem num_lc {i : Int} (h : 0 ≤ i) : Str.ofString (toString i) = S (TL.numL i.toNat) := by
  obtain ⟨n, rfl⟩ := Int.eq_ofNat_of_zero_le h
  exact SX.num_S n
theorem num_len {i : Int} (h : 0 ≤ i) (h2 : i < 1000000000) : (Str.ofString (toString i)).length ≤ 9 := by
  rw [num_lc h, S_len]
  exact TL.numL_len (by decide) (by have : (10 : Nat) ^ 9 = 1000000000 := rfl; omega)
theorem dash_S (l : List Nat) : dashS (S l) = S (sg l) := by
  unfold dashS sg
  rw [lc_S]
  split <;> rfl
theorem dash_num {i : Int} (h : 0 ≤ i) : dashS (Str.ofString (toString i)) = Str.ofString (toString i) := by
  rw [num_lc h]
  unfold dashS
  rw [lc_S, if_neg (TL.numL_ne _)]
theorem sg_len (l : List Nat) : (sg l).length ≤ l.length + 1 := by
  unfold sg
  split
  · rename_i e; rw [e]; decide
  · omega
def lineW (m : Mt) : List Str := [Str.ofString (toString m.1), S m.2.1, S m.2.2]
theorem lineW_dash {m : Mt} (h : FitM m) : Txt.join (S [32]) ((lineW m).map dashS) = lineOf m := by
  unfold lineW lineOf
  rw [List.map_cons, List.map_cons, List.map_cons, List.map_nil, dash_num h.lo, dash_S, dash_S]
theorem line_sum {m : Mt} (h : FitM m) : ([Str.ofString (toString m.1), S (sg m.2.1), S (sg m.2.2)].map (·.length)).sum ≤ 23 := by
  have a := num_len h.lo h.hi
  have b := sg_len m.2.1
  have c := sg_len m.2.2
  have d := h.o
  have e := h.n
  simp only [List.map_cons, List.map_nil, List.sum_cons, List.sum_nil, S_len]
  omega
theorem line_len {m : Mt} (h : FitM m) : (lineOf m).length ≤ 108 := by
  have := PyProof.Rows.len_join_le (sep := S [32]) (ys := [Str.ofString (toString m.1), S (sg m.2.1), S (sg m.2.2)]) (n := 26) (by have := line_sum h; show _ + 3 ≤ 27; omega) (by decide)
  exact this
theorem or_if (l : List Nat) {A B : Prop} (h1 : l ≠ [] → A) (h2 : l = [] → B) : if (((S l).length : Int) != 0) = true then A else B := by
  rw [S_len]
  refine ite2 (fun c => h1 fun z => ?_) (fun c => h2 ?_)
  · rw [z] at c; exact absurd c (by decide)
  · cases l with
    | nil => rfl
    | cons a r => exact absurd (by simp; omega) c
theorem eqV_str (a b : List Nat) : eqV (.str (S a)) (.str (S b)) = decide (a = b) := by
  show (S a == S b) = _
  by_cases h : a = b
  · subst h
    rw [decide_eq_true rfl]
    exact beq_self_eq_true _
  · rw [decide_eq_false h]
    exact beq_eq_false_iff_ne.mpr fun z => h (S_inj z)
theorem inV_strs (w : List Nat) (ws : List (List Nat)) : inV (.str (S w)) (ws.map tx) = decide (w ∈ ws) := by
  unfold inV
  induction ws with
  | nil => simp
  | cons a r ih =>
    rw [List.map_cons, List.any_cons, ih]
    show (eqV (.str (S a)) (.str (S w)) || _) = _
    rw [eqV_str, Bool.eq_iff_iff]
    simp only [Bool.or_eq_true, decide_eq_true_eq, List.mem_cons]
    constructor
    · rintro (h | h)
      · exact .inl h.symm
      · exact .inr h
    · rintro (h | h)
      · exact .inl h.symm
      · exact .inr h
theorem flat_strs (ws : List (List Nat)) : (ws.map tx).all flatV = true := by
  rw [List.all_eq_true]
  intro x hx
  obtain ⟨w, _, rfl⟩ := List.mem_map.mp hx
  rfl
theorem Sm.updNew {H G : Hp} {D : Addr} {o : HO} (s : Sm H G) (n : H D = none) : Sm H (upd G D o) := by
  refine ⟨fun b u h k => ?_, fun P t => ?_, fun b h => ?_⟩
  · rw [upd_ne (ne_of_none h n)]; exact s.1 b u h k
  · obtain ⟨ps, e, _⟩ := id t
    obtain ⟨qs, e2, k2⟩ := s.2.1 P t
    exact ⟨qs, by rw [upd_ne (ne_of_none e n)]; exact e2, k2⟩
  · by_cases e : b = D
    · rw [e]; exact n
    · rw [upd_ne e] at h; exact s.2.2 b h
theorem lineW_map {m : Mt} (h : FitM m) : (lineW m).map dashS = [Str.ofString (toString m.1), S (sg m.2.1), S (sg m.2.2)] := by
  unfold lineW
  rw [List.map_cons, List.map_cons, List.map_cons, List.map_nil, dash_num h.lo, dash_S, dash_S]
theorem three_S {w : List Str} (h : w.length = 3) : ∃ a b c : List Nat, w = [S a, S b, S c] := by
  match w, h with
  | [a, b, c], _ => exact ⟨lc a, lc b, lc c, by rw [S_lc, S_lc, S_lc]⟩
theorem e_zero : Str.ofString "0" = S [48] := by decide +kernel
theorem eq_tx (l m : List Nat) : decide (V.str (S l) = V.str (S m)) = decide (l = m) := decide_eq_decide.mpr tx_iff
theorem at_dash (z : Str) : atI [V.str z, V.str (Str.ofString "-")] (if decide (V.str z = V.str (Str.ofString "")) = true then 1 else 0) = some (V.str (dashS z)) := by
  have e : (V.str z = V.str (Str.ofString "")) ↔ lc z = [] := by
    rw [show Str.ofString "" = S [] from e_empty]
    constructor
    · intro h
      have := V.str.inj h
      rw [this, lc_S]
    · intro h
      rw [← S_lc z, h]
  unfold dashS
  by_cases c : lc z = []
  · rw [if_pos (decide_eq_true (e.mpr c)), if_pos c]
    exact at_of (j := 1) rfl rfl
  · rw [if_neg (by rw [decide_eq_true_eq]; exact fun h => c (e.mp h)), if_neg c]
    exact at_of (j := 0) rfl rfl
theorem pick_sign {l : List Nat} {r : Int} (h : ∀ c ∈ l, c < 128) (r0 : 0 ≤ r) (r1 : r < (l.length : Int)) : ∃ c, atI l r = some c ∧ c < 128 := by
  obtain ⟨n, rfl⟩ := Int.eq_ofNat_of_zero_le r0
  have hn : n < l.length := by omega
  exact ⟨l[n], atI_nat (List.getElem?_eq_getElem hn), h _ (List.getElem_mem hn)⟩
theorem three_of {α : Type} {l : List α} (h : l.length = 3) : ∃ a b c, l = [a, b, c] := by
  match l, h with
  | [a, b, c], _ => exact ⟨a, b, c, rfl⟩
theorem wmap_tx (w : List Str) : w.map V.str = (w.map lc).map tx := by
  rw [List.map_map]
  refine List.map_congr_left fun z _ => ?_
  show V.str z = V.str (S (lc z))
  rw [S_lc]
theorem cut_take {xs : List V} {k : Int} (h : 0 ≤ k) (h2 : k.toNat ≤ xs.length) : cutV xs none (some k) = xs.take k.toNat := by
  obtain ⟨n, rfl⟩ := Int.eq_ofNat_of_zero_le h
  unfold cutV
  have e1 : HT.sIx xs.length 0 none = 0 := rfl
  rw [e1, HT.sIx_nat, Int.toNat_natCast, Nat.min_eq_left (by simpa using h2)]
  simp
theorem cut_drop {xs : List V} {k : Int} (h : 0 ≤ k) (h2 : k.toNat ≤ xs.length) : cutV xs (some k) none = xs.drop k.toNat := by
  obtain ⟨n, rfl⟩ := Int.eq_ofNat_of_zero_le h
  unfold cutV
  have e1 : HT.sIx xs.length xs.length none = xs.length := rfl
  rw [e1, HT.sIx_nat, Int.toNat_natCast, Nat.min_eq_left (by simpa using h2), List.take_of_length_le]
  rw [List.length_drop]
  exact Nat.le_refl _
theorem cut_two {a b c : V} : cutV [a, b, c] (some 1) none = [b, c] := by
  rw [cut_drop (by decide) (by show 1 ≤ 3; decide)]
  rfl
def wsum (ys : List Str) : Nat := (ys.map (·.length)).sum + ys.length
theorem wsum_app (a b : List Str) : wsum (a ++ b) = wsum a + wsum b := by
  unfold wsum
  rw [List.map_append, List.sum_append, List.length_append]
  omega
theorem wsum_one (a : Str) : wsum [a] = a.length + 1 := by simp [wsum]
theorem wsum_cut (W : List Str) (n : Nat) : wsum W = wsum (W.take n) + wsum (W.drop n) := by rw [← wsum_app, List.take_append_drop]
theorem wsum_next {W : List Str} {n : Nat} (h : n < W.length) : wsum (W.drop n) = W[n].length + 1 + wsum (W.drop (n + 1)) := by
  rw [List.drop_eq_getElem_cons h, show W[n] :: W.drop (n + 1) = [W[n]] ++ W.drop (n + 1) from rfl, wsum_app, wsum_one]
theorem join_of {ys : List Str} {n : Nat} (h : wsum ys ≤ n + 1) : (Txt.join (S [32]) ys).length ≤ 4 * (n + 1) := PyProof.Rows.len_join_le (sep := S [32]) h (by decide)
theorem join_fits {ys : List Str} {n : Nat} (h : wsum ys ≤ n) (k : n ≤ 16777216) : (ys.map (·.length)).sum + ys.length * (Str.ofString " ").length ≤ 16777216 := by
  rw [show (Str.ofString " ").length = 1 by decide +kernel, Nat.mul_one]
  exact Nat.le_trans h k
def okV : V → Bool
  | .str z => decide (z.length ≤ 20) && (lc z).all fun c => decide (c < 128)
  | _ => false
theorem pick_str {xs : List V} {r : Int} (h : xs.all okV = true) (r0 : 0 ≤ r) (r1 : r < (xs.length : Int)) : ∃ z, atI xs r = some (.str z) ∧ z.length ≤ 20 ∧ okS z := by
  obtain ⟨n, rfl⟩ := Int.eq_ofNat_of_zero_le r0
  have hn : n < xs.length := by omega
  have k := List.all_eq_true.mp h _ (List.getElem_mem hn)
  have e := atI_nat (xs := xs) (List.getElem?_eq_getElem hn)
  generalize xs[n] = v at k e
  cases v with
  | str z =>
    have k2 : (decide (z.length ≤ 20) && (lc z).all fun c => decide (c < 128)) = true := k
    rw [Bool.and_eq_true, decide_eq_true_eq] at k2
    exact ⟨z, e, k2.1, fun c hc => of_decide_eq_true (List.all_eq_true.mp k2.2 c hc)⟩
  | _ => exact absurd (show false = true from k) (by decide)
section
/-! ### lines and moves as data -/
theorem units65 {k : Nat} {A : Around} (r : Room k A) : A.units + 65 < cLine := by have := r.un; omega
theorem noPass {X : Cx} : Passes (L2N.CX X.prog X.w) X (fun _ _ _ => False) := fun _ _ _ _ _ _ _ ⟨_, _, _, _, _, _, _, _, _, _, _, _, h⟩ => h.elim
def pm (m : Mt) : PyData := .tuple [.int m.1, .str (S m.2.1), .str (S m.2.2)]
def pd : Option Mt → PyData
  | none => .none
  | some m => pm m
theorem lets_ok {l : List Nat} (h : Lets l) : PyData.strOk (S l) = true := strOk_of (okS_S fun c hc => by rcases h c hc with e | e | e <;> omega)
theorem pm_flat {m : Mt} (h1 : Lets m.2.1) (h2 : Lets m.2.2) : (pm m).canLay0 = true ∧ (pm m).depth = 1 := by
  refine ⟨?_, by simp [pm, PyData.depth, PyData.depthAll]⟩
  simp [pm, PyData.canLay0, PyData.canLayAll0, lets_ok h1, lets_ok h2]
theorem all_flat : ∀ (ds : List PyData), (∀ d ∈ ds, d.canLay0 = true ∧ d.depth ≤ 1) → PyData.canLayAll0 ds = true ∧ PyData.depthAll ds ≤ 1
  | [], _ => by simp [PyData.canLayAll0, PyData.depthAll]
  | d :: r, h => by
    obtain ⟨a, b⟩ := all_flat r fun x hx => h x (List.mem_cons_of_mem _ hx)
    obtain ⟨c, e⟩ := h d List.mem_cons_self
    refine ⟨by simp [PyData.canLayAll0, a, c], ?_⟩
    simp only [PyData.depthAll]
    omega
theorem list_shaped {ds : List PyData} (h : ∀ d ∈ ds, d.canLay0 = true ∧ d.depth ≤ 1) : SeqAt.shaped (.list ds) = true := by
  obtain ⟨a, b⟩ := all_flat ds h
  unfold SeqAt.shaped
  rw [Bool.and_eq_true, decide_eq_true_eq]
  refine ⟨by simp [PyData.canLay0, a], ?_⟩
  simp only [PyData.depth]
  omega
theorem list_self {ds : List PyData} (h : ∀ d ∈ ds, d.canLay0 = true ∧ d.depth ≤ 1) : PyData.eqv (.list ds) (.list ds) = true := by
  refine SeqAt.eqv_refl (.list ds) ?_
  simp [PyData.canLay0, (all_flat ds h).1]
theorem strs_flat {zs : List Str} (h : ∀ z ∈ zs, okS z) : ∀ d ∈ zs.map PyData.str, d.canLay0 = true ∧ d.depth ≤ 1 := fun d hd => by
  obtain ⟨z, hz, rfl⟩ := List.mem_map.mp hd
  exact ⟨by simp [PyData.canLay0, strOk_of (h z hz)], by simp [PyData.depth]⟩
theorem dp_m {K : PySem.W.Frag} {H : Hp} {p : Addr} {m : Mt} (h : H p = some (.tup (vM m))) : Dp K H (.ref p) (pm m) := .tup (SqT.of h) (.cons (.int _) (.cons (.str _) (.cons (.str _) .nil)))
theorem dp_o {K : PySem.W.Frag} {H : Hp} {v : V} {o : Option Mt} (h : OM H v o) : Dp K H v (pd o) := by
  cases o with
  | none => rw [show v = .non from h]; exact .non
  | some m =>
    obtain ⟨p, rfl, hp⟩ := h
    exact dp_m hp
theorem dp_rest {K : PySem.W.Frag} {H : Hp} : ∀ zs : List Str, DpAll K H (zs.map V.str) (zs.map PyData.str)
  | [] => .nil
  | z :: r => .cons (.str z) (dp_rest r)
theorem dp_all {K : PySem.W.Frag} {H : Hp} : ∀ (vs : List V) (os : List (Option Mt)), vs.length = os.length → (∀ (i : Nat) (v : V) (o : Option Mt), vs[i]? = some v → os[i]? = some o → OM H v o) → DpAll K H vs (os.map pd)
  | [], [], _, _ => .nil
  | v :: vs, o :: os, l, h => .cons (dp_o (h 0 v o rfl rfl)) (dp_all vs os (by simpa using l) fun i w u a b => h (i + 1) w u a b)
theorem dp_strs {K : PySem.W.Frag} {H : Hp} {a : Addr} {zs : List Str} (h : H a = some (.lst (zs.map V.str))) : Dp K H (.ref a) (.list (zs.map PyData.str)) := by
  exact .lst (SqL.of h) (dp_rest zs)
/-- what is due, in the heap -/
def DueAt (H : Hp) (D : Addr) (os : List (Option Mt)) : Prop := ∃ vs : List V, H D = some (.lst vs) ∧ vs.length = os.length ∧ ∀ (i : Nat) (v : V) (o : Option Mt), vs[i]? = some v → os[i]? = some o → OM H v o
theorem OM.sm {H H' : Hp} {v : V} {o : Option Mt} (h : OM H v o) (x : Sm H H') : OM H' v o := by
  cases o with
  | none => exact h
  | some m => obtain ⟨p, e, hp⟩ := h; exact ⟨p, e, x.tup hp⟩
theorem DueAt.sm {H H' : Hp} {D : Addr} {os : List (Option Mt)} (h : DueAt H D os) (x : Sm H H') : DueAt H' D os := by
  obtain ⟨vs, h1, h2, h3⟩ := h
  exact ⟨vs, x.lst h1, h2, fun i v o a b => (h3 i v o a b).sm x⟩
theorem DueAt.dp {K : PySem.W.Frag} {H : Hp} {D : Addr} {os : List (Option Mt)} (h : DueAt H D os) : Dp K H (.ref D) (.list (os.map pd)) := by
  obtain ⟨vs, h1, h2, h3⟩ := h
  exact .lst (SqL.of h1) (dp_all vs os h2 h3)
theorem DueAt.ms {H : Hp} {D : Addr} {ms : List Mt} (h : DueAt H D (ms.map some)) : MsAt H D ms := by
  obtain ⟨vs, h1, h2, h3⟩ := h
  rw [List.length_map] at h2
  have e : ∀ (i : Nat) (m : Mt), ms[i]? = some m → ∃ p, vs[i]? = some (.ref p) ∧ H p = some (.tup (vM m)) := fun i m hm => by
    have hi : i < vs.length := by rw [h2]; exact (List.getElem?_eq_some_iff.mp hm).1
    obtain ⟨p, e1, e2⟩ := h3 i vs[i] (some m) (List.getElem?_eq_getElem hi) (by rw [List.getElem?_map, hm]; rfl)
    exact ⟨p, by rw [List.getElem?_eq_getElem hi, e1], e2⟩
  have ex : vs = (vs.map fun v => match v with | .ref p => p | _ => 0).map V.ref := by
    refine List.ext_getElem? fun i => ?_
    rw [List.map_map, List.getElem?_map]
    by_cases hi : i < ms.length
    · obtain ⟨p, e1, _⟩ := e i ms[i] (List.getElem?_eq_getElem hi)
      rw [e1]; rfl
    · rw [List.getElem?_eq_none (by omega)]; rfl
  refine ⟨vs.map fun v => match v with | .ref p => p | _ => 0, by rw [← ex]; exact h1, by rw [List.length_map]; exact h2, fun i x m hx hm => ?_⟩
  obtain ⟨p, e1, e2⟩ := e i m hm
  rw [List.getElem?_map, e1] at hx
  cases hx
  exact e2
theorem o_flat {zs : List Str} : ∀ d ∈ (zs.map rd).map pd, d.canLay0 = true ∧ d.depth ≤ 1 := fun d hd => by
  obtain ⟨o, ho, rfl⟩ := List.mem_map.mp hd
  obtain ⟨z, hz, e⟩ := List.mem_map.mp ho
  cases o with
  | none => exact ⟨by simp [pd, PyData.canLay0], by simp [pd, PyData.depth]⟩
  | some m =>
    have k := rd_letters e
    have f := pm_flat k.1 k.2
    exact ⟨f.1, by show (pm m).depth ≤ 1; omega⟩
theorem none_in (os : List (Option Mt)) : ((os.map pd).any fun z => PyData.eqv z .none) = decide (none ∈ os) := by
  induction os with
  | nil => rfl
  | cons o r ih =>
    rw [List.map_cons, List.any_cons, ih, Bool.eq_iff_iff]
    cases o with
    | none => simp [pd, PyData.eqv]
    | some m => simp [pd, pm, PyData.eqv]
theorem somes {os : List (Option Mt)} (h : none ∉ os) : ∃ ms : List Mt, os = ms.map some := by
  induction os with
  | nil => exact ⟨[], rfl⟩
  | cons o r ih =>
    obtain ⟨ms, e⟩ := ih fun z => h (List.mem_cons_of_mem _ z)
    cases o with
    | none => exact absurd List.mem_cons_self h
    | some m => exact ⟨m :: ms, by rw [e]; rfl⟩
theorem m_flat {ms : List Mt} (h : ∀ m ∈ ms, Lets m.2.1 ∧ Lets m.2.2) : ∀ d ∈ (ms.map some).map pd, d.canLay0 = true ∧ d.depth ≤ 1 := fun d hd => by
  obtain ⟨o, ho, rfl⟩ := List.mem_map.mp hd
  obtain ⟨m, hm, rfl⟩ := List.mem_map.mp ho
  have k := h m hm
  have f := pm_flat k.1 k.2
  exact ⟨f.1, by show (pm m).depth ≤ 1; omega⟩
theorem MsAt.due {H : Hp} {D : Addr} {ms : List Mt} (h : MsAt H D ms) : DueAt H D (ms.map some) := by
  obtain ⟨xs, h1, h2, h3⟩ := h
  refine ⟨_, h1, by rw [List.length_map, List.length_map, h2], fun i v o a b => ?_⟩
  rw [List.getElem?_map] at a b
  obtain ⟨x, hx, rfl⟩ := Option.map_eq_some_iff.mp a
  obtain ⟨m, hm, rfl⟩ := Option.map_eq_some_iff.mp b
  exact ⟨x, rfl, h3 i x m hx hm⟩
end
section
theorem Sm.seq {K : PySem.W.Frag} {H H' : Hp} {a : Addr} {xs : List V} (x : Sm H H') (h : SqL K H a xs) : SqL K H' a xs := by
  rcases h with (h | ⟨o, h⟩) | h
  · exact .inl (.inl (x.lst h))
  · exact .inl (.inr ⟨o, x.1 _ _ h fun _ z => by cases z⟩)
  · exact .inr h
theorem Sm.but {a : Addr} {H G G' : Hp} (s : Sm H G) (x : But a G G') (n : H a = none) : Sm H G' := by
  refine ⟨fun b o h k => x b o (ne_of_none h n) (s.1 b o h k), fun P t => ?_, fun b h => ?_⟩
  · obtain ⟨ps, e, _⟩ := id t
    obtain ⟨qs, e2, k2⟩ := s.2.1 P t
    exact ⟨qs, x _ _ (ne_of_none e n) e2, k2⟩
  · by_cases e : b = a
    · rw [e]; exact n
    · exact s.2.2 b (none_back x e h)
theorem is_strs {H : Hp} {p : Addr} {zs : List Str} (h : H p = some (.lst (zs.map V.str))) (l : zs.length ≤ 1000000) : Is H 2 (.ref p) (.lst (zs.map Dt.str)) := by
  refine ⟨p, _, rfl, h, by rw [List.length_map, List.length_map], by rw [List.length_map]; exact l, fun i x d a b => ?_⟩
  rw [List.getElem?_map] at a b
  obtain ⟨y, hy, rfl⟩ := Option.map_eq_some_iff.mp a
  rw [hy] at b
  cases b
  exact str_is
theorem line_ok {m : Mt} (f : FitM m) (h1 : Lets m.2.1) (h2 : Lets m.2.2) : okS (lineOf m) := by
  have lt : ∀ l : List Nat, Lets l → okS (S (sg l)) := fun l h => okS_S fun c hc => by
    unfold sg at hc
    split at hc
    · rw [List.mem_singleton.mp hc]; decide
    · rcases h c hc with e | e | e <;> omega
  refine join_ok fun p hp => ?_
  simp only [List.mem_cons, List.not_mem_nil, or_false] at hp
  rcases hp with e | e | e
  · rw [e, num_lc f.lo]
    exact okS_S fun c hc => by have := TL.numL_digits _ c hc; omega
  · rw [e]; exact lt _ h1
  · rw [e]; exact lt _ h2
def bnd : Nat → Nat
  | 0 => 108
  | 1 => 884
  | _ => 7092
def spLaw28 (K : PySem.W.Frag) (P1 P2 : Addr) : Sp := fun vs H Q _ => ∃ (a : Addr) (ns : List Int), vs = [.ref a] ∧ SqL K H a (ns.map V.int) ∧ ns.length ≤ 63 ∧ GxR.TabG H P1 ∧ GxR.TabG H P2 ∧ ∀ H', Q (.bl true) H'
end
section
theorem msPush {G : Hp} {D p : Addr} {ms : List Mt} {m : Mt} {xs : List Addr} (h1 : G D = some (.lst (xs.map V.ref))) (h2 : xs.length = ms.length) (h3 : ∀ (i : Nat) (x : Addr) (m : Mt), xs[i]? = some x → ms[i]? = some m → G x = some (.tup (vM m))) (hp : G p = some (.tup (vM m))) :
    MsAt (upd G D (.lst (xs.map V.ref ++ [V.ref p]))) D (ms ++ [m]) := by
  have up : ∀ (x : Addr) (u : List V), G x = some (.tup u) → upd G D (.lst (xs.map V.ref ++ [V.ref p])) x = some (.tup u) := fun x u h => by rw [upd_ne (fun z => by rw [z, h1] at h; cases h)]; exact h
  refine ⟨xs ++ [p], by rw [upd_same, List.map_append]; rfl, by rw [List.length_append, List.length_append, h2]; rfl, fun i x m2 hx hm => ?_⟩
  by_cases c : i < xs.length
  · rw [List.getElem?_append_left c] at hx
    rw [List.getElem?_append_left (by omega)] at hm
    exact up _ _ (h3 i x m2 hx hm)
  · rw [List.getElem?_append_right (by omega)] at hx
    rw [List.getElem?_append_right (by omega), ← h2] at hm
    have e0 : i - xs.length = 0 := by
      cases k : i - xs.length with
      | zero => rfl
      | succ n => rw [k] at hx; cases hx
    rw [e0] at hx hm
    cases hx
    cases hm
    exact up _ _ hp
theorem spoil_list {zs : List Str} {j : Nat} {z : Str} {n : Nat} (hj : j < 2) (h : ∀ y ∈ zs, y.length ≤ bnd j ∧ okS y) (l : z.length ≤ bnd (j + 1)) (ok : okS z) : (∀ y ∈ zs ++ [z], y.length ≤ bnd (j + 1) ∧ okS y) ∧ ∀ y ∈ zs.set n z, y.length ≤ bnd (j + 1) ∧ okS y := by
  have up : bnd j ≤ bnd (j + 1) := by
    match j, hj with
    | 0, _ => decide
    | 1, _ => decide
  refine ⟨fun y hy => ?_, fun y hy => ?_⟩
  · rcases List.mem_append.mp hy with e | e
    · exact ⟨Nat.le_trans (h y e).1 up, (h y e).2⟩
    · rw [List.mem_singleton.mp e]; exact ⟨l, ok⟩
  · rcases List.mem_or_eq_of_mem_set hy with e | e
    · exact ⟨Nat.le_trans (h y e).1 up, (h y e).2⟩
    · rw [e]; exact ⟨l, ok⟩
end
section
theorem bnd_le : ∀ n, bnd n ≤ 7092
  | 0 => by decide
  | 1 => by decide
  | _ + 2 => Nat.le_refl _
theorem tape_upd {H : Hp} {a p : Addr} {o : HO} (t : Tape H a) (n : p ≠ a) : Tape (upd H p o) a := by
  obtain ⟨x, c, y, b, h⟩ := t
  exact ⟨x, c, y, b, by rw [upd_ne (fun z => n z.symm)]; exact h⟩
end
section
theorem ixN_nat28 {n k : Nat} (h : k < n) : ixN n (k : Int) = some k := by
  unfold ixN
  rw [if_pos (by omega), if_pos (by omega)]
  rfl
theorem ixN_to {n : Nat} {i : Int} (h0 : 0 ≤ i) (h : i < (n : Int)) : ixN n i = some i.toNat := by
  obtain ⟨k, rfl⟩ := Int.eq_ofNat_of_zero_le h0
  exact ixN_nat28 (by omega)
end
section
def spCount (P2 : Addr) : Sp := fun vs H Q _ => ∃ l : List Nat, vs = [.str (S l)] ∧ GxR.TabG H P2 ∧ l.length ≤ 10000000 ∧ ∀ H', Sm H H' → Q (.bl (cnt l)) H'
def spLet (C P1 : Addr) : Sp := fun vs H Q E => ∃ l : List Nat, vs = [.str (S l)] ∧ GxR.TabG H P1 ∧ l.length ≤ 10000000 ∧ (okW l = true → ∀ H', Sm H H' → Q (.str (S (wd l))) H') ∧ (okW l = false → ∀ H', Sm H H' → E (.ref C) none H')
def spMoveOf (C P1 P2 : Addr) : Sp := fun vs H Q E => ∃ z : Str, vs = [.str z] ∧ GxR.TabG H P1 ∧ GxR.TabG H P2 ∧ z.length ≤ 1000000 ∧
  (∀ m, rd z = some m → ∀ p H', Sm H H' → H p = none → H' p = some (.tup (vM m)) → Q (.ref p) H') ∧ (rd z = none → ∀ H', Sm H H' → E (.ref C) none H')
def spReadM (C P1 P2 : Addr) : Sp := fun vs H Q E => ∃ (a : Addr) (zs : List Str), vs = [.ref a] ∧ H a = some (.lst (zs.map V.str)) ∧ GxR.TabG H P1 ∧ GxR.TabG H P2 ∧ zs.length ≤ 1000 ∧ (∀ z ∈ zs, z.length ≤ 1000000) ∧
  (∀ ms, zs.map rd = ms.map some → ∀ p H', Sm H H' → H p = none → MsAt H' p ms → Q (.ref p) H') ∧ (none ∈ zs.map rd → ∀ H', Sm H H' → E (.ref C) none H')
def spTuple : Sp := fun vs H Q _ => ∃ z : Str, vs = [.str z] ∧ z.length ≤ 1000000 ∧ ∀ v H', Same H H' → OM H' v (rd z) → Q v H'
def spRefM (P1 P2 : Addr) : Sp := fun vs H Q _ => ∃ (a : Addr) (zs : List Str), vs = [.ref a] ∧ H a = some (.lst (zs.map V.str)) ∧ GxR.TabG H P1 ∧ GxR.TabG H P2 ∧ zs.length ≤ 1000 ∧ (∀ z ∈ zs, z.length ≤ 1000000) ∧ none ∈ zs.map rd ∧ ∀ H', Sm H H' → Q (.bl true) H'
def spReads (P1 P2 : Addr) : Sp := fun vs H Q _ => ∃ (a : Addr) (zs : List Str), vs = [.ref a] ∧ H a = some (.lst (zs.map V.str)) ∧ GxR.TabG H P1 ∧ GxR.TabG H P2 ∧ zs.length ≤ 1000 ∧ (∀ z ∈ zs, z.length ≤ 1000000 ∧ okS z) ∧ ∀ H', Sm H H' → Q (.bl true) H'
def spDrawn28 : Sp := fun vs H Q _ => ∃ a : Addr, vs = [.ref a] ∧ Tape H a ∧ ∀ m p H', FitM m → Lets m.2.1 → Lets m.2.2 → H p = none → H' p = some (.tup (vM m)) → But a H H' → Tape H' a → Q (.ref p) H'
def spLine : Sp := fun vs H Q _ => ∃ (p : Addr) (m : Mt), vs = [.ref p] ∧ H p = some (.tup (vM m)) ∧ FitM m ∧ ∀ H', Same H H' → Q (.str (lineOf m)) H'
def spWrite : Sp := fun vs H Q _ => ∃ (a : Addr) (ms : List Mt), vs = [.ref a] ∧ MsAt H a ms ∧ ms.length ≤ 1000 ∧ (∀ m ∈ ms, FitM m) ∧ ∀ p H', Same H H' → H p = none → H' p = some (.lst (ms.map fun m => .str (lineOf m))) → Q (.ref p) H'
def spSpoilt28 : Sp := fun vs H Q _ => ∃ (a : Addr) (z : Str), vs = [.ref a, .str z] ∧ Tape H a ∧ z.length ≤ 10000 ∧ okS z ∧ ∀ z' H', z'.length ≤ 8 * z.length + 20 → okS z' → But a H H' → Tape H' a → Q (.str z') H'
end
section
variable {P : Program} {w : World} {K : PySem.W.Frag} {mg : Str → Option Value} {base : Heap} {f : Addr} {fd : FuncData}
theorem ok__law_drawn (F : Fun K "_law_drawn" "_law_drawn" s_law_drawn f fd) (D_take : Dfn P w K mg base "_law_take" 2 ["tape", "many"] spTake) (D_dance : Dfn P w K mg base "_law_dance" 2 ["tape", "most"] spDance)  : FnOk P w K mg base CX0 3 f fd ["tape"] spDrawn28 := by
  refine F.ok sc_law_drawn (fun vs H Q E h => ?_) (fun cdv A outer s H vs Q E hr h => ?_)
  · obtain ⟨a, rfl, tp, q⟩ := h
    rfl
  obtain ⟨a, rfl, tp, q⟩ := h
  refine ⟨_, (pss_cons (ps_set (i := 1) sc_law_drawn.nd rfl (.inl rfl) (pe_ix ix_list (pe_lst (pa_cons pe_int (pa_cons pe_int (pa_cons pe_int (pa_cons pe_int (pa_cons (pe_do D_take hr (pa_cons (pv 0) (pa_cons pe_int pa_nil))) pa_nil)))))) (pe_do D_take hr (pa_cons (pv 0) (pa_cons pe_int pa_nil))) (fun _ _ => rfl)))
    (pss_one (ps_ret (pe_tup (pa_cons (pv 1) (pa_cons (pe_do D_dance hr (pa_cons (pv 0) (pa_cons pe_int pa_nil))) (pa_cons (pe_do D_dance hr (pa_cons (pv 0) (pa_cons pe_int pa_nil))) pa_nil))))))), ?_⟩
  refine ⟨_, rfl, a, 1000000000, rfl, tp, by decide, by decide, fun r H1 r0 r1 b1 t1 => ⟨fits (by show 5 ≤ 16777216; decide), fun lp hlp => ?_⟩⟩
  have nl := t1.ne hlp
  refine ⟨_, rfl, a, 5, rfl, t1.same (same_new hlp _), by decide, by decide, fun k H2 k0 k1 b2 t2 => ?_⟩
  have pick : ∃ v : Int, atI [V.int 0, V.int 7, V.int 10, V.int 999999999, V.int r] k = some (.int v) ∧ 0 ≤ v ∧ v < 1000000000 := by
    obtain e | e | e | e | e : k = (0 : Nat) ∨ k = (1 : Nat) ∨ k = (2 : Nat) ∨ k = (3 : Nat) ∨ k = (4 : Nat) := by omega
    · exact ⟨0, at_of e rfl, by decide, by decide⟩
    · exact ⟨7, at_of e rfl, by decide, by decide⟩
    · exact ⟨10, at_of e rfl, by decide, by decide⟩
    · exact ⟨999999999, at_of e rfl, by decide, by decide⟩
    · exact ⟨r, at_of e rfl, r0, r1⟩
  obtain ⟨v, hv, v0, v1⟩ := pick
  refine ⟨lp, _, k, .int v, rfl, rfl, SqL.of (b2 _ _ nl upd_same), hv, ?_⟩
  refine ⟨_, rfl, _, rfl, a, 6, rfl, t2, by decide, by decide, fun l1 H3 L1 n1 b3 t3 => ⟨_, rfl, a, 6, rfl, t3, by decide, by decide, fun l2 H4 L2 n2 b4 t4 => ?_⟩⟩
  refine ⟨fits (by show 3 ≤ 16777216; decide), fun p hp => ?_⟩
  have np := t4.ne hp
  have B : But a H H4 := ((b1.trans (But.of (same_new hlp _))).trans b2).trans (b3.trans b4)
  exact q (v, l1, l2) p _ ⟨v0, v1, by show l1.length ≤ 6; omega, by show l2.length ≤ 6; omega⟩ L1 L2 (none_back B np hp) upd_same (B.trans (But.of (same_new hp _))) (t4.same (same_new hp _))
end
section
variable {P : Program} {w : World} {K : PySem.W.Frag} {mg : Str → Option Value} {base : Heap} {f : Addr} {fd : FuncData}
theorem ok__law_line (F : Fun K "_law_line" "_law_line" s_law_line f fd) (y_str : mg "str" = none) (y_int : mg "int" = none)  : FnOk P w K mg base CX0 1 f fd ["move"] spLine := by
  refine F.ok sc_law_line (fun vs H Q E h => ?_) (fun cdv A outer s H vs Q E hr h => ?_)
  · obtain ⟨p, m, rfl, hp, hf, q⟩ := h
    rfl
  obtain ⟨p, m, rfl, hp, hf, q⟩ := h
  refine ⟨_, (pss_cons (ps_set (i := 1) sc_law_line.nd rfl (.inl rfl) (pe_lst (pa_cons (pe_callTy call_str_int rfl y_str (by decide +kernel) (pa_cons (pe_ix ix_tup (pv 0) pe_int (fun _ _ => rfl)) pa_nil)) (pa_cons (pe_ix ix_tup (pv 0) pe_int (fun _ _ => rfl)) (pa_cons (pe_ix ix_tup (pv 0) pe_int (fun _ _ => rfl)) pa_nil)))))
    (pss_one (ps_ret (pe_join pe_str (pe_lc (own := [("word", 2)]) (g := (gName 2)) (tt := tYes) (by rfl) sc_law_line.nd (pi_list (pv 1)) (blkOk_by (own := [("word", 2)]) (N := ["move", "words", "word"]) (sc := defScope s_law_line) (by decide +kernel)) (fun _ _ _ _ _ => pg_name (i := 2) sc_law_line.nd rfl (Or.inl rfl)) (fun _ _ _ _ _ => pts_nil) (fun _ _ _ _ _ => (pe_ix (r := rIxL K) ix_list (pe_lst (pa_cons (pv 2) (pa_cons pe_str pa_nil))) (pe_callTy call_int1 rfl y_int (by decide +kernel) (pa_cons (pe_cmpR op_eq (pv 2) pe_str (nomark _)) pa_nil)) (fun _ _ => rfl)))))))), ?_⟩
  refine ⟨_, rfl, p, _, _, _, rfl, rfl, SqT.of hp, rfl, _, rfl, small_log hf.lo hf.hi, _, rfl, p, _, _, _, rfl, rfl, SqT.of hp, rfl, _, rfl, p, _, _, _, rfl, rfl, SqT.of hp, rfl, fits (by show 3 ≤ 16777216; decide), fun wp hwp => ?_⟩
  have s1 := same_new hwp (.lst [V.str (Str.ofString (toString m.1)), V.str (S m.2.1), V.str (S m.2.2)])
  generalize hG1 : upd H wp (.lst [V.str (Str.ofString (toString m.1)), V.str (S m.2.1), V.str (S m.2.2)]) = G1 at s1
  have hw : G1 wp = some (.lst ((lineW m).map V.str)) := by rw [← hG1, upd_same]; rfl
  refine ⟨⟨_, rfl⟩, _, rfl, wp, rfl, ⟨_, SqL.of hw⟩, fun D hD => lc_list (xs := (lineW m).map V.str) (fun i G => Same G1 G ∧ G D = some (.lst (((lineW m).take i).map fun z => V.str (dashS z)))) ⟨same_new hD _, upd_same⟩ (fun i G hi s => SqL.of (s.1 _ _ hw)) ?_ ?_⟩
  · rintro i x G hx ⟨sG, hG⟩
    rw [List.getElem?_map] at hx
    obtain ⟨z, hz, rfl⟩ := Option.map_eq_some_iff.mp hx
    refine ⟨rfl, ?_⟩
    refine ⟨_, rfl, fits (by show 2 ≤ 16777216; decide), fun q2 hq2 => ⟨_, rfl, rfl, .inr ⟨_, rfl, q2, _, _, _, rfl, rfl, SqL.of upd_same, at_dash z, ?_⟩⟩⟩
    refine ⟨_, (same_new hq2 _) _ _ hG, Nat.lt_of_lt_of_le (by rw [List.length_map, List.length_take]; show min i 3 < 16777216; omega) sizeLine_big, fun b o hb => ?_, ?_⟩
    · rw [upd_ne (ne_of_none hb hD)]
      exact (same_new hq2 _) _ _ (sG _ _ hb)
    · rw [upd_same, List.take_add_one, hz, List.map_append]
      rfl
  · rintro G ⟨sG, hG⟩
    rw [List.length_map, List.take_length] at hG
    have ls := line_sum hf
    have e1 : (Str.ofString " ").length = 1 := by decide +kernel
    refine ⟨_, D, (lineW m).map dashS, rfl, rfl, .inl (SqL.of (by rw [List.map_map]; exact hG)), ?_, ?_⟩
    · rw [e1]
      rw [lineW_map hf]
      show _ + 3 * 1 ≤ _
      omega
    · rw [show Str.ofString " " = S [32] from e_sp, lineW_dash hf]
      exact q G (s1.trans sG)
end
section
variable {P : Program} {w : World} {K : PySem.W.Frag} {mg : Str → Option Value} {base : Heap} {f : Addr} {fd : FuncData}
theorem ok__law_tuple (F : Fun K "_law_tuple" "_law_tuple" s_law_tuple f fd) (y_len : mg "len" = none) (y_int : mg "int" = none)  : FnOk P w K mg base CX0 1 f fd ["line"] spTuple := by
  refine F.ok sc_law_tuple (fun vs H Q E h => ?_) (fun cdv A outer s H vs Q E hr h => ?_)
  · obtain ⟨z, rfl, hz, q⟩ := h
    rfl
  obtain ⟨z, rfl, hz, q⟩ := h
  refine ⟨_, (pss_cons (ps_set (i := 1) sc_law_tuple.nd rfl (.inl rfl) (pe_split (pv 0) pe_str))
    (pss_cons (ps_if (PW.pt (pw_or (pt_cmpR op_ne (pe_callB call_len_seq rfl y_len PySem.boot_len (pa_cons (pv 1) pa_nil)) pe_int (nomark _)) (pw_or1 (pt_cmpR op_in_seq pe_str (pv 1) (by rfl))))) (pss_one (ps_ret pe_non)) pss_nil)
    (pss_cons (ps_if (PW.pt (pw_or (pt_cmpR op_gt (pe_callB call_len_str rfl y_len PySem.boot_len (pa_cons (pe_ix ix_list (pv 1) pe_int (fun _ _ => rfl)) pa_nil)) pe_int (nomark _)) (pw_or1 (pt_cmpR op_gt (pe_callB call_len_seq rfl y_len PySem.boot_len (pa_cons (pe_lc (own := [("char", 4)]) (g := (gName 4)) (by rfl) sc_law_tuple.nd (pi_str (pe_ix ix_list (pv 1) pe_int (fun _ _ => rfl))) (blkOk_by (own := [("char", 4)]) (N := ["line", "words", "letters", "word", "char"]) (sc := defScope s_law_tuple) (by decide +kernel)) (fun _ _ _ _ _ => pg_name (i := 4) sc_law_tuple.nd rfl (Or.inl rfl)) (fun _ _ _ _ _ => (pts_one (pt_cmpR op_notIn_sign (pv 4) pe_str rfl))) (fun _ _ _ _ _ => (pv 4))) pa_nil)) pe_int (nomark _))))) (pss_one (ps_ret pe_non)) pss_nil)
    (pss_cons (ps_if (PW.pt (pw_and (pt_cmpR op_eq (pe_ix ix_str (pe_ix ix_list (pv 1) pe_int (fun _ _ => rfl)) pe_int (fun _ _ => rfl)) pe_str (nomark _)) (pw_and1 (pt_cmpR op_gt (pe_callB call_len_str rfl y_len PySem.boot_len (pa_cons (pe_ix ix_list (pv 1) pe_int (fun _ _ => rfl)) pa_nil)) pe_int (nomark _))))) (pss_one (ps_ret pe_non)) pss_nil)
    (pss_cons (ps_set (i := 2) sc_law_tuple.nd rfl (.inl rfl) (pe_lst pa_nil))
    (pss_cons (ps_for PassesOwn.never rfl (pi_list (pe_slice sl_list (pv 1) (po_some pe_int) po_none)) (pg_name (i := 3) sc_law_tuple.nd rfl (.inl rfl))
    (pss_cons (ps_if (pt_cmpR op_eq (pv 3) pe_str (nomark _)) (pss_one (ps_set (i := 3) sc_law_tuple.nd rfl (.inl rfl) pe_str)) (pss_one (ps_if (pt_cmpR op_gt (pe_callB call_len_seq rfl y_len PySem.boot_len (pa_cons (pe_lc (own := [("char", 4)]) (g := (gName 4)) (by rfl) sc_law_tuple.nd (pi_str (pv 3)) (blkOk_by (own := [("char", 4)]) (N := ["line", "words", "letters", "word", "char"]) (sc := defScope s_law_tuple) (by decide +kernel)) (fun _ _ _ _ _ => pg_name (i := 4) sc_law_tuple.nd rfl (Or.inl rfl)) (fun _ _ _ _ _ => (pts_one (pt_cmpR op_notIn_sign (pv 4) pe_str rfl))) (fun _ _ _ _ _ => (pv 4))) pa_nil)) pe_int (nomark _)) (pss_one (ps_ret pe_non)) pss_nil)))
    (pss_one (ps_expr (pe_bm PySem.F.plainAttrs_list PySem.F.slot_list_append PySem.F.type_list_append mt_append (pv 2) (pa_cons (pv 3) pa_nil))))))
    (pss_one (ps_ret (pe_tup (pa_cons (pe_callTy call_int_str rfl y_int (by decide +kernel) (pa_cons (pe_ix ix_list (pv 1) pe_int (fun _ _ => rfl)) pa_nil)) (pa_cons (pe_ix ix_list (pv 2) pe_int (fun _ _ => rfl)) (pa_cons (pe_ix ix_list (pv 2) pe_int (fun _ _ => rfl)) pa_nil)))))))))))), ?_⟩
  refine ⟨_, rfl, ⟨_, rfl⟩, z, _, rfl, rfl, rfl, fits (by omega), fun wp hwp => ?_⟩
  rw [show Txt.split z (Str.ofString " ") = ws z by unfold ws; rw [← e_sp]]
  have s1 := same_new hwp (.lst ((ws z).map V.str))
  generalize hG1 : upd H wp (.lst ((ws z).map V.str)) = G1 at s1
  have hw : G1 wp = some (.lst ((ws z).map V.str)) := by rw [← hG1, upd_same]
  have wl := ws_weight z
  refine ⟨_, rfl, wp, _, rfl, .inl (SqL.of hw), rfl, _, rfl, ?_⟩
  rw [List.length_map, show decide (V.int ((ws z).length : Int) = V.int 3) = decide ((ws z).length = 3) from decide_eq_decide.mpr ⟨fun e => by have := V.int.inj e; omega, fun e => by rw [e]; rfl⟩]
  by_cases h3 : (ws z).length = 3
  case neg =>
    rw [decide_eq_false h3]
    exact iteT (iteT (q _ G1 s1 (by rw [rd_not h3]; rfl)))
  obtain ⟨a, b, c, hws⟩ := three_S h3
  have al : a.length ≤ z.length := by rw [← S_len]; exact ws_len (by rw [hws]; simp)
  have bl : b.length ≤ z.length := by rw [← S_len]; exact ws_len (by rw [hws]; simp)
  have cl : c.length ≤ z.length := by rw [← S_len]; exact ws_len (by rw [hws]; simp)
  rw [decide_eq_true h3]
  refine iteF ?_
  rw [hws] at hw
  have hw2 : G1 wp = some (.lst ([a, b, c].map tx)) := hw
  refine ⟨_, rfl, wp, _, rfl, .inl (SqL.of hw2), rfl, flat_strs _, ?_⟩
  rw [show Str.ofString "" = S [] from e_empty]
  refine ⟨_, rfl, ?_⟩
  rw [show (if false = true then !(inV (V.str (S [])) ([a, b, c].map tx)) else inV (V.str (S [])) ([a, b, c].map tx)) = decide ([] ∈ [a, b, c]) from inV_strs _ _]
  refine ite2 (fun c0 => q _ G1 s1 (by rw [rd_empty hws (of_decide_eq_true c0)]; rfl)) (fun c0 => ?_)
  have ne : [] ∉ [a, b, c] := fun h => c0 (decide_eq_true h)
  have at0 : atI [V.str (S a), V.str (S b), V.str (S c)] (0 : Int) = some (V.str (S a)) := at_of (j := 0) rfl rfl
  refine ⟨_, rfl, wp, _, _, _, rfl, rfl, SqL.of hw, at0, _, rfl, by rw [S_len]; exact fits (by omega), _, _, rfl, rfl, _, rfl, ?_⟩
  rw [S_len]
  refine ite2 (fun c1 => iteT (q _ G1 s1 (by rw [rd_all hws, okP_long (by have := of_decide_eq_true c1; omega)]; rfl))) (fun c1 => ?_)
  have c1' : ¬ 9 < a.length := fun h => c1 (decide_eq_true (by omega))
  refine ⟨_, rfl, wp, _, _, _, rfl, rfl, SqL.of hw, at0, _, rfl, fun D hD => lc_str (l := a) (fun i G => Same G1 G ∧ G D = some (.lst (((a.take i).filter fun c => !dig c).map fun c => V.str (S [c])))) ⟨same_new hD _, upd_same⟩ ?_ ?_⟩
  · rintro i ch G hc ⟨sG, hG⟩
    refine ⟨rfl, ?_⟩
    refine ⟨_, rfl, ch, _, rfl, rfl, _, rfl, ?_⟩
    rw [show decide (ch ∈ (Str.ofString "0123456789").cps.toList) = dig ch from dig_in ch]
    have tk : a.take (i + 1) = a.take i ++ [ch] := by rw [List.take_add_one, hc]; rfl
    cases hd : dig ch
    · refine iteT ⟨_, rfl, _, hG, Nat.lt_of_lt_of_le (by rw [List.length_map]; have := List.length_filter_le (fun c => !dig c) (a.take i); rw [List.length_take] at this; omega) sizeLine_big, fun b o hb => ?_, ?_⟩
      · rw [upd_ne (ne_of_none hb hD)]; exact sG _ _ hb
      · rw [upd_same, tk, List.filter_append, List.map_append, List.filter_cons_of_pos (by rw [hd]; rfl)]; rfl
    · refine iteF ⟨sG, ?_⟩
      rw [tk, List.filter_append, List.filter_cons_of_neg (by rw [hd]; decide), hG, List.filter_nil, List.append_nil]
  rintro G ⟨sG, hG⟩
  rw [List.take_length] at hG
  refine ⟨D, _, rfl, .inl (SqL.of hG), _, _, rfl, rfl, _, rfl, ?_⟩
  rw [List.length_map]
  have S1 := s1.trans sG
  refine ite2 (fun c2 => q _ G S1 ?_) (fun c2 => ?_)
  · have k : a.all dig = false := by
      cases e : a.all dig with
      | false => rfl
      | true =>
        have : a.filter (fun c => !dig c) = [] := List.filter_eq_nil_iff.mpr fun x hx => by rw [List.all_eq_true.mp e x hx]; decide
        rw [this] at c2
        exact absurd c2 (by decide)
    rw [rd_all hws, okP_dig k]; rfl
  have da : a.all dig = true := by
    rw [List.all_eq_true]
    intro x hx
    cases e : dig x with
    | true => rfl
    | false =>
      have : x ∈ a.filter (fun c => !dig c) := List.mem_filter.mpr ⟨hx, by rw [e]; rfl⟩
      exact absurd (decide_eq_true (by have := List.length_pos_of_mem this; omega)) c2
  have ane : a ≠ [] := fun e => ne (by rw [e]; simp)
  obtain ⟨a0, r, rfl⟩ : ∃ a0 r, a = a0 :: r := by
    cases a with
    | nil => exact absurd rfl ane
    | cons a0 r => exact ⟨a0, r, rfl⟩
  have hwG := sG _ _ hw
  refine ⟨_, rfl, wp, _, _, _, rfl, rfl, SqL.of hwG, at0, S (a0 :: r), _, a0, rfl, rfl, by rw [S_len]; exact fits (by omega), by rw [S_list]; exact atI_nat (j := 0) rfl, rfl, _, rfl, ?_⟩
  rw [show decide (V.str ⟨#[a0]⟩ = V.str "0") = decide (a0 = 48) from decide_eq_decide.mpr (sign_eq (c := a0) (n := 48) (by decide +kernel))]
  refine ite2 (fun c3 => ?A) (fun c3 => ?B)
  case' A =>
    refine ⟨_, rfl, wp, _, _, _, rfl, rfl, SqL.of hwG, at0, _, rfl, by rw [S_len]; exact fits (by omega), _, _, rfl, rfl, _, rfl, ?_⟩
    rw [S_len]
    refine ite2 (fun c4 => q _ G S1 (by rw [rd_all hws, okP_zero (by rw [of_decide_eq_true c3]; rfl) (by have := of_decide_eq_true c4; omega)]; rfl)) (fun c4 => ?_)
    have hP : okP (a0 :: r) = true := okP_yes ane c1' da fun h => c4 (decide_eq_true (by omega))
  case' B =>
    refine iteF ?_
    have hP : okP (a0 :: r) = true := okP_yes ane c1' da fun h => c3 (decide_eq_true (Option.some.inj h.1))
  all_goals
    refine ⟨fits (by decide), fun lp hlp => ?_⟩
    have s2 := same_new hlp (.lst [])
    have S2 := S1.trans s2
    have hwL := s2 _ _ hwG
    generalize hG2 : upd G lp (.lst []) = G2 at s2 S2 hwL
    have hlp2 : G2 lp = some (.lst []) := by rw [← hG2, upd_same]
    have nwl : wp ≠ lp := fun z => by rw [z, hlp2] at hwL; cases hwL
    have hl0 : H lp = none := (Sm.of S1).2.2 lp hlp
    refine ⟨_, rfl, _, rfl, wp, _, rfl, SqL.of hwL, fun sp hsp => ?_⟩
    have ecut : cutV (List.map V.str [S (a0 :: r), S b, S c]) (some 1) none = [V.str (S b), V.str (S c)] := cut_two
    rw [ecut]
    have s3 := same_new hsp (.lst [V.str (S b), V.str (S c)])
    have S3 := S2.trans s3
    have hwL3 := s3 _ _ hwL
    have hlp3 := s3 _ _ hlp2
    generalize hG3 : upd G2 sp (.lst [V.str (S b), V.str (S c)]) = G3 at s3 S3 hwL3 hlp3
    have hsp3 : G3 sp = some (.lst [V.str (S b), V.str (S c)]) := by rw [← hG3, upd_same]
    have nsl : sp ≠ lp := fun z => by rw [z, hlp2] at hsp; cases hsp
    refine ⟨sp, rfl, ⟨_, SqL.of hsp3⟩, for_list (K := K) (a := sp) (xs := [V.str (S b), V.str (S c)]) (fun i σ G => ∃ x3 x4 : Option V, σ = [some (.str z), some (.ref wp), some (.ref lp), x3, x4] ∧ But lp G3 G ∧ G lp = some (.lst (([b, c].take i).map fun w => V.str (S (wd w)))) ∧ ∀ w ∈ [b, c].take i, okW w = true) ⟨_, _, rfl, But.refl _ _, hlp3, fun w h => by cases h⟩ (fun i σ G hi h => ?_) ?_ ?_⟩
    · obtain ⟨x3, x4, _, bG, _⟩ := h
      exact SqL.of (bG _ _ nsl hsp3)
    · rintro i x σ G hx ⟨x3, x4, rfl, bG, hL, hok⟩
      obtain ⟨w, rfl, hwi⟩ : ∃ w, x = V.str (S w) ∧ [b, c][i]? = some w := by
        match i, hx with
        | 0, hx => cases hx; exact ⟨b, rfl, rfl⟩
        | 1, hx => cases hx; exact ⟨c, rfl, rfl⟩
      have hi2 : i < 2 := (List.getElem?_eq_some_iff.mp hwi).1
      have wm := List.mem_of_getElem? hwi
      have wne : w ≠ [] := fun e => ne (by rw [e] at wm; exact List.mem_cons_of_mem _ wm)
      have wlen : w.length ≤ z.length := by
        simp only [List.mem_cons, List.not_mem_nil, or_false] at wm
        rcases wm with e | e <;> rw [e] <;> assumption
      have tk : [b, c].take (i + 1) = [b, c].take i ++ [w] := by rw [List.take_add_one, hwi]; rfl
      have SG : Same H G := bG.same S3 hl0
      refine ⟨_, rfl, rfl, _, rfl, ?_⟩
      rw [show Str.ofString "-" = S [45] from e_min, eq_tx]
      refine ite2 (fun c5 => ?_) (fun c5 => ?_)
      · have ew : w = [45] := of_decide_eq_true c5
        refine ⟨_, rfl, .inl ⟨rfl, _, SqL.of hL⟩, _, rfl, lp, _, _, rfl, rfl, hL, Nat.lt_of_lt_of_le (by rw [List.length_map, List.length_take]; omega) sizeLine_big, ?_⟩
        refine ⟨_, _, rfl, bG.trans But.upd, by rw [upd_same, tk, List.map_append, ew]; exact congrArg (fun s => some (HO.lst (_ ++ [V.str s]))) e_empty, fun y hy => ?_⟩
        rw [tk] at hy
        rcases List.mem_append.mp hy with h | h
        · exact hok y h
        · rw [List.mem_singleton.mp h, ew]; rfl
      · have nw : w ≠ [45] := by simpa using c5
        refine ⟨_, rfl, _, rfl, fun D2 hD2 => lc_str (l := w) (fun i G' => Same G G' ∧ G' D2 = some (.lst (((w.take i).filter fun c => !letter c).map fun c => V.str (S [c])))) ⟨same_new hD2 _, upd_same⟩ ?_ ?_⟩
        · rintro i ch G' hc ⟨sG', hG'⟩
          refine ⟨rfl, ?_⟩
          refine ⟨_, rfl, ch, _, rfl, rfl, _, rfl, ?_⟩
          rw [show decide (ch ∈ (Str.ofString "TUR").cps.toList) = letter ch from tur_in ch]
          have tk : w.take (i + 1) = w.take i ++ [ch] := by rw [List.take_add_one, hc]; rfl
          cases hd : letter ch
          · refine iteT ⟨_, rfl, _, hG', Nat.lt_of_lt_of_le (by rw [List.length_map]; have := List.length_filter_le (fun c => !letter c) (w.take i); rw [List.length_take] at this; omega) sizeLine_big, fun b o hb => ?_, ?_⟩
            · rw [upd_ne (ne_of_none hb hD2)]; exact sG' _ _ hb
            · rw [upd_same, tk, List.filter_append, List.map_append, List.filter_cons_of_pos (by rw [hd]; rfl)]; rfl
          · refine iteF ⟨sG', ?_⟩
            rw [tk, List.filter_append, List.filter_cons_of_neg (by rw [hd]; decide), hG', List.filter_nil, List.append_nil]
        rintro G' ⟨sG', hG'⟩
        rw [List.take_length] at hG'
        refine ⟨D2, _, rfl, .inl (SqL.of hG'), _, _, rfl, rfl, _, rfl, ?_⟩
        rw [List.length_map]
        refine ite2 (fun c6 => q _ G' (SG.trans sG') ?_) (fun c6 => ?_)
        · have k : okW w = false := by
            unfold okW
            rw [decide_eq_false nw, decide_eq_false wne]
            cases e : w.all letter with
            | false => rfl
            | true =>
              have : w.filter (fun c => !letter c) = [] := List.filter_eq_nil_iff.mpr fun x hx => by rw [List.all_eq_true.mp e x hx]; decide
              rw [this] at c6
              exact absurd c6 (by decide)
          rw [rd_all hws]
          simp only [List.mem_cons, List.not_mem_nil, or_false] at wm
          rcases wm with e | e <;> rw [e] at k <;> rw [k] <;> simp <;> rfl
        have da2 : okW w = true := by
          unfold okW
          rw [decide_eq_false nw, decide_eq_false wne, show w.all letter = true from ?_]
          · rfl
          rw [List.all_eq_true]
          intro x hx
          cases e : letter x with
          | true => rfl
          | false =>
            have : x ∈ w.filter (fun c => !letter c) := List.mem_filter.mpr ⟨hx, by rw [e]; rfl⟩
            exact absurd (decide_eq_true (by have := List.length_pos_of_mem this; omega)) c6
        have hL' := sG' _ _ hL
        refine ⟨_, rfl, .inl ⟨rfl, _, SqL.of hL'⟩, _, rfl, lp, _, _, rfl, rfl, hL', Nat.lt_of_lt_of_le (by rw [List.length_map, List.length_take]; omega) sizeLine_big, ?_⟩
        refine ⟨_, _, rfl, (bG.trans (But.of sG')).trans But.upd, by rw [upd_same, tk, List.map_append, List.map_cons, List.map_nil, show wd w = w from if_neg nw], fun y hy => ?_⟩
        rw [tk] at hy
        rcases List.mem_append.mp hy with h | h
        · exact hok y h
        · rw [List.mem_singleton.mp h]; exact da2
    · rintro σ G ⟨x3, x4, rfl, bG, hL, hok⟩
      have SG : Same H G := bG.same S3 hl0
      have hL : G lp = some (.lst [V.str (S (wd b)), V.str (S (wd c))]) := hL
      have hi := okP_int (z := S (a0 :: r)) (by rw [lc_S]; exact hP)
      refine ⟨_, rfl, wp, _, _, _, rfl, rfl, SqL.of (bG _ _ nwl hwL3), at0, S (a0 :: r), _, rfl, hi.1, by have := hi.2; omega, _, rfl, lp, _, _, _, rfl, rfl, SqL.of hL, at_of (j := 0) rfl rfl, _, rfl, lp, _, _, _, rfl, rfl, SqL.of hL, at_of (j := 1) rfl rfl, fits (by show 3 ≤ 16777216; decide), fun p hp => ?_⟩
      refine q (.ref p) _ (SG.trans (same_new hp _)) ?_
      rw [rd_all hws, hP, hok b (by simp), hok c (by simp)]
      exact ⟨p, rfl, upd_same⟩
end
section
variable {P : Program} {w : World} {K : PySem.W.Frag} {mg : Str → Option Value} {base : Heap} {f : Addr} {fd : FuncData}
theorem ok__law_spoilt (F : Fun K "_law_spoilt" "_law_spoilt" s_law_spoilt f fd) (D_take : Dfn P w K mg base "_law_take" 1 ["tape", "many"] spTake) (y_len : mg "len" = none)  : FnOk P w K mg base CX0 2 f fd ["tape", "line"] spSpoilt28 := by
  refine F.ok sc_law_spoilt (fun vs H Q E h => ?_) (fun cdv A outer s H vs Q E hr h => ?_)
  · obtain ⟨a, z, rfl, tp, hz, ok, q⟩ := h
    rfl
  obtain ⟨a, z, rfl, tp, hz, ok, q⟩ := h
  refine ⟨_, (pss_cons (ps_set (i := 2) sc_law_spoilt.nd rfl (.inl rfl) (pe_do D_take hr (pa_cons (pv 0) (pa_cons (pe_op op_add (pe_callB call_len_str rfl y_len PySem.boot_len (pa_cons (pv 1) pa_nil)) pe_int) pa_nil))))
    (pss_cons (ps_set (i := 3) sc_law_spoilt.nd rfl (.inl rfl) (pe_ix ix_str pe_str (pe_do D_take hr (pa_cons (pv 0) (pa_cons pe_int pa_nil))) (fun _ _ => rfl)))
    (pss_cons (ps_set (i := 4) sc_law_spoilt.nd rfl (.inl rfl) (pe_split (pv 1) pe_str))
    (pss_cons (ps_set (i := 5) sc_law_spoilt.nd rfl (.inl rfl) (pe_do D_take hr (pa_cons (pv 0) (pa_cons (pe_callB call_len_seq rfl y_len PySem.boot_len (pa_cons (pv 4) pa_nil)) pa_nil))))
    (pss_cons (ps_set (i := 6) sc_law_spoilt.nd rfl (.inl rfl) (pe_do D_take hr (pa_cons (pv 0) (pa_cons pe_int pa_nil))))
    (pss_cons (ps_if (pt_cmpR op_eq (pv 6) pe_int (nomark _)) (pss_one (ps_ret (pe_op op_add_str (pe_op op_add_str (pe_slice sl_str (pv 1) po_none (po_some (pv 2))) (pv 3)) (pe_slice sl_str (pv 1) (po_some (pv 2)) po_none)))) pss_nil)
    (pss_cons (ps_if (pt_cmpR op_eq (pv 6) pe_int (nomark _)) (pss_one (ps_ret (pe_op op_add_str (pe_op op_add_str (pe_slice sl_str (pv 1) po_none (po_some (pv 2))) (pv 3)) (pe_slice sl_str (pv 1) (po_some (pe_op op_add (pv 2) pe_int)) po_none)))) pss_nil)
    (pss_cons (ps_if (pt_cmpR op_eq (pv 6) pe_int (nomark _)) (pss_one (ps_ret (pe_op op_add_str (pe_slice sl_str (pv 1) po_none (po_some (pv 2))) (pe_slice sl_str (pv 1) (po_some (pe_op op_add (pv 2) pe_int)) po_none)))) pss_nil)
    (pss_cons (ps_if (pt_cmpR op_eq (pv 6) pe_int (nomark _)) (pss_one (ps_ret (pe_join pe_str (pe_op op_cat (pe_slice sl_list (pv 4) po_none (po_some (pv 5))) (pe_slice sl_list (pv 4) (po_some (pe_op op_add (pv 5) pe_int)) po_none))))) pss_nil)
    (pss_cons (ps_if (pt_cmpR op_eq (pv 6) pe_int (nomark _)) (pss_one (ps_ret (pe_join pe_str (pe_op op_cat (pe_op op_cat (pe_slice sl_list (pv 4) po_none (po_some (pv 5))) (pe_lst (pa_cons (pe_ix ix_list (pv 4) (pv 5) (fun _ _ => rfl)) pa_nil))) (pe_slice sl_list (pv 4) (po_some (pv 5)) po_none))))) pss_nil)
    (pss_cons (ps_set (i := 7) sc_law_spoilt.nd rfl (.inl rfl) (pe_lst (pa_cons pe_str (pa_cons pe_str (pa_cons pe_str (pa_cons pe_str (pa_cons pe_str (pa_cons pe_str (pa_cons pe_str (pa_cons pe_str (pa_cons pe_str (pa_cons pe_str pa_nil))))))))))))
    (pss_cons (ps_set (i := 7) sc_law_spoilt.nd rfl (.inl rfl) (pe_op op_cat (pv 7) (pe_lst (pa_cons pe_str (pa_cons pe_str (pa_cons pe_str (pa_cons pe_str (pa_cons pe_str (pa_cons pe_str pa_nil)))))))))
    (pss_one (ps_ret (pe_ix ix_list (pv 7) (pe_do D_take hr (pa_cons (pv 0) (pa_cons pe_int pa_nil))) (fun _ _ => rfl)))))))))))))))), ?_⟩
  refine ⟨_, rfl, _, rfl, _, rfl, fits (by omega), _, _, rfl, rfl, a, _, rfl, tp, by omega, by omega, fun sp H1 s0 s1 b1 t1 => ?_⟩
  refine ⟨_, rfl, a, 13, rfl, t1, by decide, by decide, fun r H2 r0 r1 b2 t2 => ?_⟩
  obtain ⟨c, hc, c128⟩ := pick_sign (l := lc (Str.ofString "TUR-- 019tV_S")) (r := r) (by decide +kernel) r0 (by rw [show (lc (Str.ofString "TUR-- 019tV_S")).length = 13 by decide +kernel]; exact r1)
  refine ⟨_, r, c, rfl, rfl, fits (by decide +kernel), hc, ?_⟩
  refine ⟨_, rfl, ⟨_, rfl⟩, z, _, rfl, rfl, rfl, fits (by omega), fun wp hwp => ?_⟩
  rw [show Txt.split z (Str.ofString " ") = ws z by unfold ws; rw [← e_sp]]
  have b3 := same_new hwp (.lst ((ws z).map V.str))
  generalize hG1 : upd H2 wp (.lst ((ws z).map V.str)) = G1 at b3
  have hw : G1 wp = some (.lst ((ws z).map V.str)) := by rw [← hG1, upd_same]
  have wl := ws_weight z
  have t3 := t2.same b3
  have nw := t2.ne hwp
  have wpos := ws_pos z
  refine ⟨_, rfl, _, rfl, wp, _, rfl, .inl (SqL.of hw), a, _, rfl, t3, by rw [List.length_map]; omega, by rw [List.length_map]; omega, fun w G2 w0 w1 b4 t4 => ?_⟩
  refine ⟨_, rfl, a, 6, rfl, t4, by decide, by decide, fun ch G3 ch0 ch1 b5 t5 => ?_⟩
  have B : But a H G3 := ((b1.trans b2).trans (But.of b3)).trans (b4.trans b5)
  have hw3 := b5 _ _ nw (b4 _ _ nw hw)
  rw [List.length_map] at w1
  obtain ⟨l, rfl⟩ : ∃ l, z = S l := ⟨lc z, (S_lc z).symm⟩
  rw [S_len] at hz s1 wl
  have okl : ∀ x ∈ l, x < 128 := by have := ok; unfold okS at this; rw [lc_S] at this; exact this
  have out : ∀ m : List Nat, m.length ≤ 8 * l.length + 20 → (∀ x ∈ m, x < 128) → Q (.str (S m)) G3 := fun m h1 h2 => q (S m) G3 (by rw [S_len, S_len]; exact h1) (okS_S h2) B t5
  have out2 : ∀ (y : Str) (G' : Hp), Same G3 G' → y.length ≤ 8 * l.length + 20 → okS y → Q (.str y) G' := fun y G' s h1 h2 => q y G' (by rw [S_len]; exact h1) h2 (B.trans (But.of s)) (t5.same s)
  have wcnt : (ws (S l)).length ≤ 10001 := by
    have h1 := ws_weight (S l)
    rw [S_len] at h1
    omega
  have wl2 : wsum (ws (S l)) ≤ l.length + 1 := wl
  have wlt : w.toNat < (ws (S l)).length := by omega
  have ew1 : (w + 1).toNat = w.toNat + 1 := by omega
  have cutW := wsum_cut (ws (S l)) w.toNat
  have nextW := wsum_next wlt
  have small : wsum ((ws (S l)).take w.toNat ++ (ws (S l)).drop (w + 1).toNat) ≤ l.length + 1 := by rw [wsum_app, ew1]; omega
  have ctk : ∀ n, ∀ x ∈ l.take n, x < 128 := fun n x hx => okl x (List.mem_of_mem_take hx)
  have cdr : ∀ n, ∀ x ∈ l.drop n, x < 128 := fun n x hx => okl x (List.mem_of_mem_drop hx)
  have hc1 : ∀ x ∈ [c], x < 128 := fun x hx => by rw [List.mem_singleton.mp hx]; exact c128
  have ec : (⟨#[c]⟩ : Str) = S [c] := rfl
  refine ⟨_, rfl, rfl, _, rfl, ite2 (fun e0 => ?_) (fun e0 => ?_)⟩
  · refine ⟨_, rfl, _, rfl, _, rfl, _, rfl, by rw [S_len]; exact fits (by omega), ?_⟩
    rw [S_take l s0]
    refine ⟨_, rfl, _, _, rfl, rfl, by rw [S_len]; exact fits (by have := List.length_take_le sp.toNat l; show _ + 1 ≤ _; omega), ?_⟩
    rw [ec, S_app]
    refine ⟨_, rfl, _, rfl, _, rfl, _, rfl, by rw [S_len]; exact fits (by omega), ?_⟩
    rw [S_drop l s0]
    refine ⟨_, _, rfl, rfl, by rw [S_len, S_len, List.length_append, List.length_take, List.length_drop]; exact fits (by show _ + 1 + _ ≤ _; omega), ?_⟩
    rw [S_app]
    exact out _ (by rw [List.length_append, List.length_append, List.length_take, List.length_drop]; show _ + 1 + _ ≤ _; omega) fun x hx => by
      rcases List.mem_append.mp hx with h | h
      · rcases List.mem_append.mp h with h | h
        · exact ctk _ x h
        · exact hc1 x h
      · exact cdr _ x h
  refine ⟨_, rfl, rfl, _, rfl, ite2 (fun e1 => ?_) (fun e1 => ?_)⟩
  · refine ⟨_, rfl, _, rfl, _, rfl, _, rfl, by rw [S_len]; exact fits (by omega), ?_⟩
    rw [S_take l s0]
    refine ⟨_, rfl, _, _, rfl, rfl, by rw [S_len]; exact fits (by have := List.length_take_le sp.toNat l; show _ + 1 ≤ _; omega), ?_⟩
    rw [ec, S_app]
    refine ⟨_, rfl, _, rfl, _, _, rfl, rfl, _, rfl, _, rfl, by rw [S_len]; exact fits (by omega), ?_⟩
    rw [S_drop l (show 0 ≤ sp + 1 by omega)]
    refine ⟨_, _, rfl, rfl, by rw [S_len, S_len, List.length_append, List.length_take, List.length_drop]; exact fits (by show _ + 1 + _ ≤ _; omega), ?_⟩
    rw [S_app]
    exact out _ (by rw [List.length_append, List.length_append, List.length_take, List.length_drop]; show _ + 1 + _ ≤ _; omega) fun x hx => by
      rcases List.mem_append.mp hx with h | h
      · rcases List.mem_append.mp h with h | h
        · exact ctk _ x h
        · exact hc1 x h
      · exact cdr _ x h
  refine ⟨_, rfl, rfl, _, rfl, ite2 (fun e2 => ?_) (fun e2 => ?_)⟩
  · refine ⟨_, rfl, _, rfl, _, rfl, _, rfl, by rw [S_len]; exact fits (by omega), ?_⟩
    rw [S_take l s0]
    refine ⟨_, rfl, _, rfl, _, _, rfl, rfl, _, rfl, _, rfl, by rw [S_len]; exact fits (by omega), ?_⟩
    rw [S_drop l (show 0 ≤ sp + 1 by omega)]
    refine ⟨_, _, rfl, rfl, by rw [S_len, S_len, List.length_take, List.length_drop]; exact fits (by omega), ?_⟩
    rw [S_app]
    exact out _ (by rw [List.length_append, List.length_take, List.length_drop]; omega) fun x hx => by
      rcases List.mem_append.mp hx with h | h
      · exact ctk _ x h
      · exact cdr _ x h
  refine ⟨_, rfl, rfl, _, rfl, ite2 (fun e3 => ?_) (fun e3 => ?_)⟩
  · refine ⟨⟨_, rfl⟩, _, rfl, _, rfl, _, rfl, wp, _, rfl, SqL.of hw3, fun p1 hp1 => ?_⟩
    rw [cut_take w0 (by rw [List.length_map]; omega), ← List.map_take]
    have u1 := same_new hp1 (.lst (((ws (S l)).take w.toNat).map V.str))
    generalize hF1 : upd G3 p1 (.lst (((ws (S l)).take w.toNat).map V.str)) = F1 at u1
    have h1 : F1 p1 = some (.lst (((ws (S l)).take w.toNat).map V.str)) := by rw [← hF1, upd_same]
    refine ⟨_, rfl, _, rfl, _, _, rfl, rfl, _, rfl, wp, _, rfl, SqL.of (u1 _ _ hw3), fun p2 hp2 => ?_⟩
    rw [cut_drop (by omega) (by rw [List.length_map]; omega), ← List.map_drop]
    have u2 := same_new hp2 (.lst (((ws (S l)).drop (w + 1).toNat).map V.str))
    generalize hF2 : upd F1 p2 (.lst (((ws (S l)).drop (w + 1).toNat).map V.str)) = F2 at u2
    have h2 : F2 p2 = some (.lst (((ws (S l)).drop (w + 1).toNat).map V.str)) := by rw [← hF2, upd_same]
    refine ⟨p1, p2, _, _, rfl, rfl, u2 _ _ h1, h2, fits (by rw [List.length_map, List.length_map, List.length_take, List.length_drop]; omega), fun p3 hp3 => ?_⟩
    refine ⟨_, p3, (ws (S l)).take w.toNat ++ (ws (S l)).drop (w + 1).toNat, rfl, rfl, .inl (SqL.of (by rw [upd_same, List.map_append])), ?_, ?_⟩
    · exact join_fits small (by omega)
    · rw [show Str.ofString " " = S [32] from e_sp]
      exact out2 _ _ ((u1.trans u2).trans (same_new hp3 _)) (by have := join_of (n := l.length) (Nat.le_trans small (by omega)); omega) (join_ok fun y hy => by
        rcases List.mem_append.mp hy with h | h
        · exact ws_ok ok (List.mem_of_mem_take h)
        · exact ws_ok ok (List.mem_of_mem_drop h))
  refine ⟨_, rfl, rfl, _, rfl, ite2 (fun e4 => ?_) (fun e4 => ?_)⟩
  · refine ⟨⟨_, rfl⟩, _, rfl, _, rfl, _, rfl, wp, _, rfl, SqL.of hw3, fun p1 hp1 => ?_⟩
    rw [cut_take w0 (by rw [List.length_map]; omega), ← List.map_take]
    have u1 := same_new hp1 (.lst (((ws (S l)).take w.toNat).map V.str))
    generalize hF1 : upd G3 p1 (.lst (((ws (S l)).take w.toNat).map V.str)) = F1 at u1
    have h1 : F1 p1 = some (.lst (((ws (S l)).take w.toNat).map V.str)) := by rw [← hF1, upd_same]
    have atw : atI ((ws (S l)).map V.str) w = some (V.str (ws (S l))[w.toNat]) := at_of (j := w.toNat) (by omega) (by rw [List.getElem?_map, List.getElem?_eq_getElem wlt]; rfl)
    refine ⟨_, rfl, _, rfl, wp, _, _, _, rfl, rfl, SqL.of (u1 _ _ hw3), atw, fits (by show 1 ≤ 16777216; decide), fun p2 hp2 => ?_⟩
    have u2 := same_new hp2 (.lst [V.str (ws (S l))[w.toNat]])
    generalize hF2 : upd F1 p2 (.lst [V.str (ws (S l))[w.toNat]]) = F2 at u2
    have h2 : F2 p2 = some (.lst [V.str (ws (S l))[w.toNat]]) := by rw [← hF2, upd_same]
    refine ⟨p1, p2, _, _, rfl, rfl, u2 _ _ h1, h2, fits (by rw [List.length_map, List.length_take]; show _ + 1 ≤ _; omega), fun p3 hp3 => ?_⟩
    have u3 := same_new hp3 (.lst (((ws (S l)).take w.toNat).map V.str ++ [V.str (ws (S l))[w.toNat]]))
    generalize hF3 : upd F2 p3 (.lst (((ws (S l)).take w.toNat).map V.str ++ [V.str (ws (S l))[w.toNat]])) = F3 at u3
    have h3 : F3 p3 = some (.lst (((ws (S l)).take w.toNat).map V.str ++ [V.str (ws (S l))[w.toNat]])) := by rw [← hF3, upd_same]
    refine ⟨_, rfl, _, rfl, _, rfl, wp, _, rfl, SqL.of (u3 _ _ (u2 _ _ (u1 _ _ hw3))), fun p4 hp4 => ?_⟩
    rw [cut_drop w0 (by rw [List.length_map]; omega), ← List.map_drop]
    have u4 := same_new hp4 (.lst (((ws (S l)).drop w.toNat).map V.str))
    generalize hF4 : upd F3 p4 (.lst (((ws (S l)).drop w.toNat).map V.str)) = F4 at u4
    have h4 : F4 p4 = some (.lst (((ws (S l)).drop w.toNat).map V.str)) := by rw [← hF4, upd_same]
    have small2 : wsum ((ws (S l)).take w.toNat ++ [(ws (S l))[w.toNat]] ++ (ws (S l)).drop w.toNat) ≤ 2 * l.length + 2 := by rw [wsum_app, wsum_app, wsum_one]; omega
    refine ⟨p3, p4, _, _, rfl, rfl, u4 _ _ h3, h4, fits (by rw [List.length_append, List.length_map, List.length_map, List.length_take, List.length_drop]; show _ + 1 + _ ≤ _; omega), fun p5 hp5 => ?_⟩
    refine ⟨_, p5, (ws (S l)).take w.toNat ++ [(ws (S l))[w.toNat]] ++ (ws (S l)).drop w.toNat, rfl, rfl, .inl (SqL.of (by rw [upd_same, List.map_append, List.map_append]; rfl)), ?_, ?_⟩
    · exact join_fits small2 (by omega)
    · rw [show Str.ofString " " = S [32] from e_sp]
      exact out2 _ _ ((((u1.trans u2).trans u3).trans u4).trans (same_new hp5 _)) (by have := join_of (n := 2 * l.length + 1) small2; omega) (join_ok fun y hy => by
        rcases List.mem_append.mp hy with h | h
        · rcases List.mem_append.mp h with h | h
          · exact ws_ok ok (List.mem_of_mem_take h)
          · rw [List.mem_singleton.mp h]; exact ws_ok ok (List.getElem_mem wlt)
        · exact ws_ok ok (List.mem_of_mem_drop h))
  refine ⟨fits (by show 10 ≤ 16777216; decide), fun p1 hp1 => ?_⟩
  refine ⟨_, rfl, fits (by show 6 ≤ 16777216; decide), fun p2 hp2 => ?_⟩
  refine ⟨p1, p2, _, _, rfl, rfl, (same_new hp2 _) _ _ upd_same, upd_same, fits (by show 16 ≤ 16777216; decide), fun p3 hp3 => ?_⟩
  have key : ∀ (F3 : Hp) (xs : List V), F3 p3 = some (.lst xs) → Same G3 F3 → xs.all okV = true → (xs.length : Int) = 16 → ∀ r, 0 ≤ r → r < 16 → ∀ G4, But a F3 G4 → Tape G4 a → ∃ v, G4 p3 = some (.lst xs) ∧ atI xs r = some v ∧ Q v G4 := fun F3 xs hx u ha hl r r0 r1 G4 b6 t6 => by
    obtain ⟨y, hy, y20, yok⟩ := pick_str ha r0 (by omega)
    have np : p3 ≠ a := ((t5.same (same_new hp1 _)).same (same_new hp2 _)).ne hp3
    exact ⟨_, b6 _ _ np hx, hy, q y G4 (by rw [S_len]; omega) yok ((B.trans (But.of u)).trans b6) t6⟩
  refine ⟨_, rfl, _, rfl, a, 16, rfl, ((t5.same (same_new hp1 _)).same (same_new hp2 _)).same (same_new hp3 _), by decide, by decide, fun r G4 r0 r1 b6 t6 => ?_⟩
  obtain ⟨v, h1, h2, h3⟩ := key _ _ upd_same (((same_new hp1 _).trans (same_new hp2 _)).trans (same_new hp3 _)) (by decide +kernel) rfl r r0 r1 G4 b6 t6
  exact ⟨p3, _, r, v, rfl, rfl, SqL.of h1, h2, h3⟩
end
section
variable {P : Program} {w : World} {K : PySem.W.Frag} {mg : Str → Option Value} {base : Heap} {f : Addr} {fd : FuncData}
theorem ok_is_count (F : Fun K "is_count" "is_count" s_is_count f fd) (y_len : mg "len" = none) {c Pc : Addr} {tM tD : Tok} (hc : fd.code = .ref c) (TB : GxR.TabB base mg c Pc) (gM : mg "MOST_DIGITS" = some (.int 9 tM)) (gD : mg "DIGITS" = some (.str "0123456789" tD)) (y_all : mg "all" = none) : FnOk P w K mg base CX0 1 f fd ["digits"] (spCount Pc) := by
  refine okC F hc sc_is_count (fun vs H Q E h => ?_) (fun A outer s H vs Q E hr h => ?_)
  · obtain ⟨l, rfl, tg, hl, q⟩ := h
    rfl
  obtain ⟨l, rfl, tg, hl, q⟩ := h
  refine ⟨_, (pss_cons (ps_if (PW.pt (pw_or (pt_cmpR op_eq (pv 0) pe_str (nomark _)) (pw_or (pt_cmpR op_gt (pe_callB call_len_str rfl y_len PySem.boot_len (pa_cons (pv 0) pa_nil)) (pe_glob (v := .int 9) rfl gM ⟨_, rfl⟩) (nomark _)) (pw_or1 (pt_cmpR op_eq (pe_ix ix_str (pv 0) pe_int (fun _ _ => rfl)) pe_str (nomark _)))))) (pss_one (ps_ret pe_bl)) pss_nil)
    (pss_one (ps_ret (pe_allG (k := 0) hr rfl y_all TB rfl ⟨rfl, rfl, by decide +kernel, rfl, rfl, fun y hy e => absurd e (by revert y; decide +kernel)⟩ (pv 0) (elt_inS (pb := dig) gD dig_in rfl rfl rfl) (fun v => rfl))))), ?_⟩
  have ee : (decide (V.str (S l) = V.str "")) = decide (l = []) := by rw [e_empty]; exact decide_eq_decide.mpr tx_iff
  refine ⟨_, rfl, rfl, _, rfl, ?_⟩
  rw [ee]
  refine ite2 (fun c => iteT ?_) (fun c => ?_)
  · have e : cnt l = false := by unfold cnt; rw [c]; rfl
    rw [e] at q
    exact q H (Sm.refl H)
  refine ⟨_, rfl, _, rfl, by rw [S_len]; exact fits (by omega), _, _, rfl, rfl, _, rfl, ?_⟩
  rw [S_len]
  refine ite2 (fun c2 => iteT ?_) (fun c2 => ?_)
  · have k : (9 : Int) < (l.length : Int) := of_decide_eq_true c2
    have e : cnt l = false := by unfold cnt; rw [decide_eq_true (show 9 < l.length by omega)]; simp
    rw [e] at q
    exact q H (Sm.refl H)
  have c' : l ≠ [] := by simpa using c
  have k2 : ¬ 9 < l.length := fun z => c2 (decide_eq_true (by omega))
  obtain ⟨a, r, rfl⟩ : ∃ a r, l = a :: r := by
    cases l with
    | nil => exact absurd rfl c'
    | cons a r => exact ⟨a, r, rfl⟩
  refine ⟨_, rfl, S (a :: r), _, a, rfl, rfl, by rw [S_len]; exact fits (by omega), by rw [S_list]; exact atI_nat (j := 0) rfl, rfl, _, rfl, ?_⟩
  rw [show decide (V.str ⟨#[a]⟩ = V.str "0") = decide (a = 48) from decide_eq_decide.mpr (sign_eq (c := a) (n := 48) (by decide +kernel))]
  have e : cnt (a :: r) = (!decide (a = 48) && (a :: r).all dig) := by
    unfold cnt
    rw [decide_eq_false c', decide_eq_false k2]
    simp
  refine ite2 (fun c3 => ?_) (fun c3 => ?_)
  · rw [e, c3] at q
    exact q H (Sm.refl H)
  · rw [e, show decide (a = 48) = false by simpa using c3] at q
    exact ⟨_, rfl, S (a :: r), rfl, tg, fun H' tb => by rw [S_list]; exact q H' (Sm.tab tg tb)⟩
end
section
variable {P : Program} {w : World} {K : PySem.W.Frag} {mg : Str → Option Value} {base : Heap} {f : Addr} {fd : FuncData}
theorem ok_lettersX (F : Fun K "letters_of" "letters_of" s_letters_of f fd)  {C P1 : Addr} {tL : Tok} (EC : Err K mg "BadText" C) (gL : mg "NO_LETTERS" = some (.str "-" tL)) (D_isd : Dfn P w K mg base "is_dance" 1 ["text"] (spIsDance P1)) : FnOk P w K mg base (L2N.CX P w) 2 f fd ["word"] (spLet C P1) := by
  refine okX F sc_letters_of (fun vs H Q E h => ?_) (fun cdv A outer s H vs Q E hr h => ?_)
  · obtain ⟨l, rfl, tg, hl, q, qE⟩ := h
    rfl
  obtain ⟨l, rfl, tg, hl, q, qE⟩ := h
  refine ⟨_, (pss_cons (ps_if (pt_cmpR op_eq (pv 0) (pe_glob (v := .str "-") rfl gL ⟨_, rfl⟩) (nomark _)) (pss_one (ps_ret pe_str)) pss_nil)
    (pss_cons (ps_if (PW.pt (pw_or (pt_cmpR op_eq (pv 0) pe_str (nomark _)) (pw_or1 (pt_not (pt_val (pe_do D_isd hr (pa_cons (pv 0) pa_nil))))))) (pss_one (L2N.ps_raise rfl (L2N.takes_of rfl rfl rfl rfl) (L2N.pmk_own PySem.F.excBase_ValueError EC.x EC.g EC.k (raises_own EC.b EC.t) rfl))) pss_nil)
    (pss_one (ps_ret (pv 0))))), ?_⟩
  have e1 : (decide (V.str (S l) = V.str "-")) = decide (l = [45]) := by rw [show (("-" : Str)) = S [45] by decide +kernel]; exact decide_eq_decide.mpr tx_iff
  have ee : (decide (V.str (S l) = V.str "")) = decide (l = []) := by rw [e_empty]; exact decide_eq_decide.mpr tx_iff
  refine ⟨_, rfl, rfl, _, rfl, ?_⟩
  rw [e1]
  refine ite2 (fun c => ?_) (fun c => ?_)
  · have k : l = [45] := of_decide_eq_true c
    subst k
    exact q rfl H (Sm.refl H)
  have k : l ≠ [45] := by simpa using c
  refine ⟨_, rfl, rfl, _, rfl, ?_⟩
  rw [ee]
  have eW : okW l = (!decide (l = []) && l.all letter) := by unfold okW; rw [decide_eq_false k]; rfl
  refine ite2 (fun c2 => iteT ?_) (fun c2 => ?_)
  · exact qE (by rw [eW, c2]; rfl) H (Sm.refl H)
  have k2 : decide (l = []) = false := by simpa using c2
  rw [k2] at eW
  refine ⟨_, rfl, l, rfl, tg, fun H' tb => ?_⟩
  have sm := Sm.tab tg tb
  refine ⟨_, rfl, ?_⟩
  cases e : l.all letter with
  | false => exact qE (by rw [eW, e]; rfl) H' sm
  | true =>
    have := q (by rw [eW, e]; rfl) H' sm
    rw [show wd l = l from if_neg k] at this
    exact iteF ⟨_, rfl, this⟩
end
section
variable {P : Program} {w : World} {K : PySem.W.Frag} {mg : Str → Option Value} {base : Heap} {f : Addr} {fd : FuncData}
theorem ok_moveX (F : Fun K "move_of" "move_of" s_move_of f fd) (y_len : mg "len" = none) (y_int : mg "int" = none) {C P1 P2 g : Addr} {gd : FuncData} (EC : Err K mg "BadText" C) (G : FnOk P w K mg base (L2N.CX P w) 2 g gd ["word"] (spLet C P1)) (mG : mg "letters_of" = some (.ref g)) (kG : PySem.W.keepIn K (.ref g) = true) (bG : Binds K gd ["word"] []) (D_cnt : Dfn P w K mg base "is_count" 1 ["digits"] (spCount P2)) : FnOk P w K mg base (L2N.CX P w) 3 f fd ["line"] (spMoveOf C P1 P2) := by
  refine okX F sc_move_of (fun vs H Q E h => ?_) (fun cdv A outer s H vs Q E hr h => ?_)
  · obtain ⟨z, rfl, t1, t2, hz, q, qE⟩ := h
    rfl
  obtain ⟨z, rfl, t1, t2, hz, q, qE⟩ := h
  refine ⟨_, (pss_cons (ps_set (i := 1) sc_move_of.nd rfl (.inl rfl) (pe_split (pv 0) pe_str))
    (pss_cons (ps_if (pt_cmpR op_ne (pe_callB call_len_seq rfl y_len PySem.boot_len (pa_cons (pv 1) pa_nil)) pe_int (nomark _)) (pss_one (L2N.ps_raise rfl (L2N.takes_of rfl rfl rfl rfl) (L2N.pmk_own PySem.F.excBase_ValueError EC.x EC.g EC.k (raises_own EC.b EC.t) rfl))) pss_nil)
    (pss_cons (ps_asg (pv 1) (pg_lst (by rfl) (pgs_cons (pg_name (i := 2) sc_move_of.nd rfl (.inl rfl)) (pgs_cons (pg_name (i := 3) sc_move_of.nd rfl (.inl rfl)) (pgs_cons (pg_name (i := 4) sc_move_of.nd rfl (.inl rfl)) pgs_nil)))))
    (pss_cons (ps_if (PW.pt (pw_and (pt_cmpR op_ne (pv 2) pe_str (nomark _)) (pw_and1 (pt_not (pt_val (pe_do (D_cnt.mono (by decide)) hr (pa_cons (pv 2) pa_nil))))))) (pss_one (L2N.ps_raise rfl (L2N.takes_of rfl rfl rfl rfl) (L2N.pmk_own PySem.F.excBase_ValueError EC.x EC.g EC.k (raises_own EC.b EC.t) rfl))) pss_nil)
    (pss_one (ps_ret (pe_tup (pa_cons (pe_callTy call_int_str rfl y_int (by decide +kernel) (pa_cons (pv 2) pa_nil)) (pa_cons (pe_call G hr rfl mG kG bG .nil (L2N.passes_call (L2N.takes_of rfl rfl rfl rfl) (fun _ _ _ _ h => h)) (pa_cons (pv 3) pa_nil)) (pa_cons (pe_call G hr rfl mG kG bG .nil (L2N.passes_call (L2N.takes_of rfl rfl rfl rfl) (fun _ _ _ _ h => h)) (pa_cons (pv 4) pa_nil)) pa_nil)))))))))), ?_⟩
  refine ⟨_, rfl, ⟨_, rfl⟩, z, _, rfl, rfl, rfl, fits (by omega), fun wp hwp => ?_⟩
  rw [show Txt.split z (Str.ofString " ") = ws z by unfold ws; rw [← e_sp]]
  have s1 := same_new hwp (.lst ((ws z).map V.str))
  generalize hG1 : upd H wp (.lst ((ws z).map V.str)) = G1 at s1
  have hw : G1 wp = some (.lst ((ws z).map V.str)) := by rw [← hG1, upd_same]
  have wl := ws_weight z
  refine ⟨_, rfl, wp, _, rfl, .inl (SqL.of hw), rfl, _, rfl, ?_⟩
  rw [List.length_map, show decide (V.int ((ws z).length : Int) = V.int 3) = decide ((ws z).length = 3) from decide_eq_decide.mpr ⟨fun e => by have := V.int.inj e; omega, fun e => by rw [e]; rfl⟩]
  by_cases h3 : (ws z).length = 3
  case neg =>
    rw [decide_eq_false h3]
    exact iteT (qE (rd_not h3) G1 (Sm.of s1))
  obtain ⟨a, b, c, hws⟩ := three_S h3
  have al : a.length ≤ z.length := by rw [← S_len]; exact ws_len (by rw [hws]; simp)
  have bl : b.length ≤ z.length := by rw [← S_len]; exact ws_len (by rw [hws]; simp)
  have cl : c.length ≤ z.length := by rw [← S_len]; exact ws_len (by rw [hws]; simp)
  rw [decide_eq_true h3]
  refine iteF ?_
  rw [hws] at hw
  have hrd := rd_all hws
  have S1 := Sm.of s1
  refine ⟨_, rfl, wp, _, rfl, SqL.of hw, rfl, _, _, rfl, _, _, rfl, _, _, rfl, rfl, ?_⟩
  refine ⟨_, rfl, rfl, _, rfl, ?_⟩
  rw [show Str.ofString "0" = S [48] from e_zero, eq_tx]
  refine ite2 (fun c0 => ?A) (fun c0 => ?B)
  case' A =>
    refine ⟨_, rfl, a, rfl, S1.2.1 _ t2, by omega, fun G2 s2 => ⟨_, rfl, ?_⟩⟩
    have eP : okP a = cnt a := by unfold okP; rw [show decide (a = [48]) = false by simpa using c0]; rfl
    cases hc : cnt a
    · exact iteT (qE (by rw [hrd, eP, hc]; rfl) G2 (S1.trans s2))
    refine iteF ?_
    have hP : okP a = true := by rw [eP, hc]
  case' B =>
    refine iteF ?_
    have hP : okP a = true := by unfold okP; rw [show decide (a = [48]) = true by simpa using c0]; rfl
    obtain ⟨G2, s2, e2⟩ : ∃ G2, Sm G1 G2 ∧ G1 = G2 := ⟨G1, Sm.refl _, rfl⟩
    rw [e2]
  all_goals
    have S2 := S1.trans s2
    have hi := okP_int (z := S a) (by rw [lc_S]; exact hP)
    refine ⟨_, rfl, S a, _, rfl, hi.1, by have := hi.2; omega, _, rfl, b, rfl, S2.2.1 _ t1, by omega, fun hb G3 s3 => ?_, fun hb G3 s3 => qE (by rw [hrd, hb, Bool.and_false]; rfl) G3 (S2.trans s3)⟩
    have S3 := S2.trans s3
    refine ⟨_, rfl, c, rfl, S3.2.1 _ t1, by omega, fun hc2 G4 s4 => ?_, fun hc2 G4 s4 => qE (by rw [hrd, hc2, Bool.and_false]; rfl) G4 (S3.trans s4)⟩
    have S4 := S3.trans s4
    refine ⟨fits (by show 3 ≤ 16777216; decide), fun p hp => ?_⟩
    exact q _ (by rw [hrd, hP, hb, hc2]; rfl) p _ (S4.trans (Sm.of (same_new hp _))) (S4.2.2 p hp) upd_same
end
section
variable {P : Program} {w : World} {K : PySem.W.Frag} {mg : Str → Option Value} {base : Heap} {f : Addr} {fd : FuncData}
theorem ok_readX (F : Fun K "read_moves" "read_moves" s_read_moves f fd)  {C P1 P2 g : Addr} {gd : FuncData} (G : FnOk P w K mg base (L2N.CX P w) 3 g gd ["line"] (spMoveOf C P1 P2)) (mG : mg "move_of" = some (.ref g)) (kG : PySem.W.keepIn K (.ref g) = true) (bG : Binds K gd ["line"] []) : FnOk P w K mg base (L2N.CX P w) 4 f fd ["lines"] (spReadM C P1 P2) := by
  refine okX F sc_read_moves (fun vs H Q E h => ?_) (fun cdv A outer s H vs Q E hr h => ?_)
  · obtain ⟨a, zs, rfl, ha, t1, t2, hl, hz, q, qE⟩ := h
    rfl
  obtain ⟨a, zs, rfl, ha, t1, t2, hl, hz, q, qE⟩ := h
  refine ⟨_, (pss_one (ps_ret (pe_lcE (E := E) (W0 := fun cls d _ H => E cls d H) (own := [("line", 1)]) (g := (gName 1)) (tt := tYes) rfl rfl (L2N.takes_of rfl rfl rfl rfl) (fun _ _ _ _ h => h) (by rfl) sc_read_moves.nd (pi_list (pv 0)) (blkOk_by (own := [("line", 1)]) (N := ["lines", "line"]) (sc := defScope s_read_moves) (by decide +kernel)) (fun _ _ _ _ _ => pg_name (i := 1) sc_read_moves.nd rfl (Or.inl rfl)) (fun _ _ _ _ _ => pts_nil) (fun _ _ _ _ _ => (by exact (pe_call (E := E) G hr rfl mG kG bG .nil passesB (pa_cons (pv 1) pa_nil))))))), ?_⟩
  refine ⟨_, rfl, a, rfl, ⟨_, SqL.of ha⟩, fun D hD => lc_list (xs := zs.map V.str) (fun i G => Sm H G ∧ (∃ xs : List Addr, G D = some (.lst (xs.map V.ref)) ∧ xs.length = i ∧ ∀ (j : Nat) (x : Addr), xs[j]? = some x → ∃ m z, zs[j]? = some z ∧ rd z = some m ∧ G x = some (.tup (vM m))) ∧ H D = none) ⟨Sm.of (same_new hD _), ⟨[], upd_same, rfl, fun j x h => by cases h⟩, hD⟩ (fun i G hi s => SqL.of (s.1.lst ha)) ?_ ?_⟩
  · rintro i x G hx ⟨sG, ⟨xs, hG, hxl, hxs⟩, _⟩
    rw [List.getElem?_map] at hx
    obtain ⟨z, hzi, rfl⟩ := Option.map_eq_some_iff.mp hx
    have hzm := List.mem_of_getElem? hzi
    refine ⟨rfl, ?_⟩
    refine ⟨_, rfl, z, rfl, sG.2.1 _ t1, sG.2.1 _ t2, hz z hzm, fun m hm p G' s' np hp => ?_, fun hn G' s' => qE (List.mem_map.mpr ⟨z, hzm, hn⟩) G' (sG.trans s')⟩
    have hGD := s'.lst hG
    have npD : p ≠ D := fun z => by rw [z, hGD] at hp; cases hp
    refine ⟨_, hGD, Nat.lt_of_lt_of_le (by rw [List.length_map]; have := (List.getElem?_eq_some_iff.mp hzi).1; omega) sizeLine_big, (sG.trans s').updNew hD, ⟨xs ++ [p], by rw [upd_same, List.map_append]; rfl, by rw [List.length_append, hxl]; rfl, ?_⟩, hD⟩
    intro j x hj
    by_cases c : j < xs.length
    · rw [List.getElem?_append_left c] at hj
      obtain ⟨m2, z2, e1, e2, e3⟩ := hxs j x hj
      have e4 := s'.tup e3
      exact ⟨m2, z2, e1, e2, by rw [upd_ne (fun z => by rw [z, hGD] at e4; cases e4)]; exact e4⟩
    · rw [List.getElem?_append_right (by omega)] at hj
      have e0 : j - xs.length = 0 := by
        cases k : j - xs.length with
        | zero => rfl
        | succ n => rw [k] at hj; cases hj
      rw [e0] at hj
      cases hj
      have ej : j = i := by omega
      rw [ej]
      exact ⟨m, z, hzi, hm, by rw [upd_ne npD]; exact hp⟩
  · rintro G ⟨sG, ⟨xs, hG, hxl, hxs⟩, _⟩
    rw [List.length_map] at hxl
    have all : ∀ (j : Nat) (z : Str), zs[j]? = some z → ∃ x m, xs[j]? = some x ∧ rd z = some m ∧ G x = some (.tup (vM m)) := fun j z hz => by
      have hj : j < xs.length := by rw [hxl]; exact (List.getElem?_eq_some_iff.mp hz).1
      obtain ⟨m, z2, e1, e2, e3⟩ := hxs j xs[j] (List.getElem?_eq_getElem hj)
      rw [hz] at e1
      cases e1
      exact ⟨_, m, List.getElem?_eq_getElem hj, e2, e3⟩
    refine q (zs.map fun z => (rd z).getD (0, [], [])) ?_ D G sG hD ⟨xs, hG, by rw [List.length_map, hxl], fun j x m hx hm => ?_⟩
    · rw [List.map_map]
      refine List.map_congr_left fun z hz => ?_
      obtain ⟨j, hj⟩ := List.mem_iff_getElem?.mp hz
      obtain ⟨x, m, _, e, _⟩ := all j z hj
      show rd z = some ((rd z).getD _)
      rw [e]; rfl
    · rw [List.getElem?_map] at hm
      obtain ⟨z, hz, rfl⟩ := Option.map_eq_some_iff.mp hm
      obtain ⟨x2, m2, e1, e2, e3⟩ := all j z hz
      rw [hx] at e1
      cases e1
      rw [e2]
      exact e3
end
section
variable {P : Program} {w : World} {K : PySem.W.Frag} {mg : Str → Option Value} {base : Heap} {f : Addr} {fd : FuncData}
theorem ok_write_moves (F : Fun K "write_moves" "write_moves" s_write_moves f fd) (y_str : mg "str" = none) {tL : Tok} (gL : mg "NO_LETTERS" = some (.str "-" tL)) : FnOk P w K mg base CX0 1 f fd ["moves"] spWrite := by
  refine F.ok sc_write_moves (fun vs H Q E h => ?_) (fun cdv A outer s H vs Q E hr h => ?_)
  · obtain ⟨a, ms, rfl, hm, hl, hf, q⟩ := h
    rfl
  obtain ⟨a, ms, rfl, hm, hl, hf, q⟩ := h
  refine ⟨_, (pss_one (ps_ret (pe_lc (own := [("place", 1), ("old", 2), ("new", 3)]) (g := (gTup K 3 (gCons (gName 1) (gCons (gName 2) (gCons (gName 3) gNil))))) (tt := tYes) (by rfl) sc_write_moves.nd (pi_list (pv 0)) (blkOk_by (own := [("place", 1), ("old", 2), ("new", 3)]) (N := ["moves", "place", "old", "new"]) (sc := defScope s_write_moves) (by decide +kernel)) (fun _ _ _ _ _ => pg_tup (by rfl) (pgs_cons (pg_name (i := 1) sc_write_moves.nd rfl (.inl rfl)) (pgs_cons (pg_name (i := 2) sc_write_moves.nd rfl (.inl rfl)) (pgs_cons (pg_name (i := 3) sc_write_moves.nd rfl (.inl rfl)) pgs_nil)))) (fun _ _ _ _ _ => pts_nil) (fun _ _ _ _ _ => (pe_joinK (K := K) rfl pe_str (pe_lst (pa_cons (pe_callTy call_str_int rfl y_str (by decide +kernel) (pa_cons (pv 1) pa_nil)) (pa_cons (pe_orTK (K := K) rfl (pv 2) (pe_one (pe_glob (v := .str "-") rfl gL ⟨_, rfl⟩))) (pa_cons (pe_orTK (K := K) rfl (pv 3) (pe_one (pe_glob (v := .str "-") rfl gL ⟨_, rfl⟩))) pa_nil))))))))), ?_⟩
  obtain ⟨xs, h1, h2, h3⟩ := id hm
  refine ⟨_, rfl, a, rfl, ⟨_, SqL.of h1⟩, fun D hD => lc_list (xs := xs.map V.ref) (fun i G => Same H G ∧ G D = some (.lst ((ms.take i).map fun m => V.str (lineOf m)))) ⟨same_new hD _, upd_same⟩ (fun i G hi s => SqL.of (s.1 _ _ h1)) ?_ ?_⟩
  · rintro i x G hx ⟨sG, hG⟩
    rw [List.getElem?_map] at hx
    obtain ⟨y, hy, rfl⟩ := Option.map_eq_some_iff.mp hx
    have hi : i < ms.length := by rw [← h2]; exact (List.getElem?_eq_some_iff.mp hy).1
    have hmi : ms[i]? = some ms[i] := List.getElem?_eq_getElem hi
    generalize ms[i] = m at hmi
    have hF := hf m (List.mem_of_getElem? hmi)
    have hT := sG _ _ (h3 i y m hy hmi)
    have ho := hF.o
    have hn := hF.n
    refine ⟨y, _, rfl, SqT.of hT, rfl, _, _, rfl, _, _, rfl, _, _, rfl, rfl, rfl, ?_⟩
    have eo1 : m.2.1 ≠ [] → S m.2.1 = S (sg m.2.1) := fun z => by unfold sg; rw [if_neg z]
    have eo2 : m.2.1 = [] → Str.ofString "-" = S (sg m.2.1) := fun z => by unfold sg; rw [if_pos z]; exact e_min
    have en1 : m.2.2 ≠ [] → S m.2.2 = S (sg m.2.2) := fun z => by unfold sg; rw [if_neg z]
    have en2 : m.2.2 = [] → Str.ofString "-" = S (sg m.2.2) := fun z => by unfold sg; rw [if_pos z]; exact e_min
    have fin : ∀ (A B : Str) (q2 : Addr), G q2 = none → A = S (sg m.2.1) → B = S (sg m.2.2) → ([Str.ofString (toString m.1), A, B].map (·.length)).sum + [Str.ofString (toString m.1), A, B].length * (Str.ofString " ").length ≤ 16777216 ∧
        ∃ acc, upd G q2 (.lst [V.str (Str.ofString (toString m.1)), V.str A, V.str B]) D = some (.lst acc) ∧ acc.length < sizeLine ∧ Same H (upd (upd G q2 (.lst [V.str (Str.ofString (toString m.1)), V.str A, V.str B])) D (.lst (acc ++ [V.str (Txt.join (Str.ofString " ") [Str.ofString (toString m.1), A, B])]))) ∧
          upd (upd G q2 (.lst [V.str (Str.ofString (toString m.1)), V.str A, V.str B])) D (.lst (acc ++ [V.str (Txt.join (Str.ofString " ") [Str.ofString (toString m.1), A, B])])) D = some (.lst (((ms.take (i + 1)).map fun m => V.str (lineOf m)))) := by
      rintro A B q2 hq2 rfl rfl
      have ls := line_sum hF
      have e1 : (Str.ofString " ").length = 1 := by decide +kernel
      refine ⟨by rw [e1]; show _ + 3 * 1 ≤ _; omega, _, (same_new hq2 _) _ _ hG, Nat.lt_of_lt_of_le (by rw [List.length_map, List.length_take]; omega) sizeLine_big, fun b o hb => ?_, ?_⟩
      · rw [upd_ne (ne_of_none hb hD)]
        exact (same_new hq2 _) _ _ (sG _ _ hb)
      · rw [upd_same, List.take_add_one, hmi, List.map_append, show Str.ofString " " = S [32] from e_sp]
        rfl
    refine ⟨⟨_, rfl⟩, _, rfl, _, rfl, small_log hF.lo hF.hi, _, rfl, _, ⟨by rw [S_len]; exact fits (by omega), rfl⟩, ?_⟩
    refine or_if _ (fun c1 => ?_) (fun c1 => ?_) <;> refine ⟨_, rfl, _, ⟨by rw [S_len]; exact fits (by omega), rfl⟩, or_if _ (fun c2 => ?_) (fun c2 => ?_)⟩
    all_goals
      refine ⟨fits (by show 3 ≤ 16777216; decide), fun q2 hq2 => ?_⟩
      refine ⟨_, q2, [_, _, _], rfl, rfl, SqL.of upd_same, fin _ _ q2 hq2 ?_ ?_⟩ <;> first | exact eo1 c1 | exact eo2 c1 | exact en1 c2 | exact en2 c2
  · rintro G ⟨sG, hG⟩
    rw [List.length_map, h2, List.take_length] at hG
    exact q D G sG hD hG
end
/-! ### _law_refused -/
abbrev tIsFrefused (K : PySem.W.Frag) (D a : Addr) (cls : Value) (d : Option Addr) (c : V) : TE := tCB (rIsF K D a cls d) (tCons (tVar 1) (tCons (tC c) tNil))
def t_suiterefused (K : PySem.W.Frag) (C B1 B2 B3 : Addr) : Addr → Value → Option Addr → TS := fun a cls d =>
  tSeq (tAsg (tLst (tCons (tIsFrefused K C a cls d (.ref B1)) (tCons (tIsFrefused K C a cls d (.ref B2)) (tCons (tIsFrefused K C a cls d (.ref B3)) tNil)))) (gName 2))
    (tRet (tAndV (tIsFrefused K C a cls d (.ref C)) (tAndV (tIsFrefused K C a cls d (.ty "ValueError")) (tNotV (tCB (rAny K) (tCons (tVar 2) tNil))))))
structure Kin (K : PySem.W.Frag) (C R B1 B2 B3 : Addr) : Prop where
  ex : PySem.W.exmOne K (.ref C) (.ref R) = some true
  kC : PySem.W.kitOne K (.ref C) (.ref C) = some true
  kV : PySem.W.kitOne K (.ref C) (.type "ValueError") = some true
  k1 : PySem.W.kitOne K (.ref C) (.ref B1) = some false
  k2 : PySem.W.kitOne K (.ref C) (.ref B2) = some false
  k3 : PySem.W.kitOne K (.ref C) (.ref B3) = some false
section
variable {P : Program} {w : World} {K : PySem.W.Frag} {mg : Str → Option Value} {base : Heap} {f : Addr} {fd : FuncData}
theorem ok_refused {g C R B1 B2 B3 : Addr} {gd : FuncData} (F : Fun K "_law_refused" "_law_refused" s_law_refused f fd) (G : FnOk P w K mg base (L2N.CX P w) 4 g gd ["lines"] (spReadM C P1 P2)) (mG : mg "read_moves" = some (.ref g)) (kG : PySem.W.keepIn K (.ref g) = true) (bG : Binds K gd ["lines"] [])
    (EC : ExcC K C) (gC : mg "BadText" = some (.ref C)) (gR : mg "RopeError" = some (.ref R)) (g1 : mg "BadMove" = some (.ref B1)) (g2 : mg "NoFraction" = some (.ref B2)) (g3 : mg "NoDance" = some (.ref B3)) (Z : Kin K C R B1 B2 B3)
    (mI : mg "isinstance" = none) (mV : mg "ValueError" = none) (mA : mg "any" = none) : FnOk P w K mg base CX0 5 f fd ["lines"] (spRefM P1 P2) := by
  refine F.ok sc_law_refused (fun vs H Q E h => ?_) (fun cdv A outer s H vs Q E hr h => ?_)
  · obtain ⟨a, zs, rfl, ha, t1, t2, hl, hz, hn, q⟩ := h
    rfl
  obtain ⟨a, zs, rfl, ha, t1, t2, hl, hz, hn, q⟩ := h
  have bi : bootBuiltins "isinstance" = some (.builtin "isinstance") := by decide +kernel
  have bV : bootBuiltins "ValueError" = some (.type "ValueError") := by decide +kernel
  have bA : bootBuiltins "any" = some (.builtin "any") := by decide +kernel
  refine ⟨_, pss_cons (L2N.ps_try_as (i := 1) (tb := fun W => tDrop (tCallS (spReadM C P1 P2) (WE W) (tCons (tVar 0) tNil))) (ts := t_suiterefused K C B1 B2 B3) (Wout := fun _ _ _ _ => False) rfl rfl sc_law_refused.nd rfl rfl ⟨rfl, by decide, Or.inl gR⟩ takes0N
      (fun W pn xe tk _ => pss_one (ps_expr (by exact (pe_callS G hr rfl mG kG bG (fun σ => L2N.passAt tk σ) (by exact (pa_cons (pv 0) pa_nil))))))
      (fun a oe cls d pn hz hf => pss_cons (ps_set (i := 2) sc_law_refused.nd rfl (.inl rfl) (pe_lst (pa_cons (pe_callB (call_isF EC hz hf) rfl mI bi (pa_cons (pv 1) (pa_cons (pe_glob (v := .ref B1) rfl g1 rfl) pa_nil)))
          (pa_cons (pe_callB (call_isF EC hz hf) rfl mI bi (pa_cons (pv 1) (pa_cons (pe_glob (v := .ref B2) rfl g2 rfl) pa_nil))) (pa_cons (pe_callB (call_isF EC hz hf) rfl mI bi (pa_cons (pv 1) (pa_cons (pe_glob (v := .ref B3) rfl g3 rfl) pa_nil))) pa_nil)))))
        (pss_one (ps_ret (pe_and (pe_callB (call_isF EC hz hf) rfl mI bi (pa_cons (pv 1) (pa_cons (pe_glob (v := .ref C) rfl gC rfl) pa_nil)))
          (pe_and (pe_callB (call_isF EC hz hf) rfl mI bi (pa_cons (pv 1) (pa_cons (pe_bltn (v := .ty "ValueError") rfl mV bV rfl) pa_nil))) (pe_one (pe_not (pe_callB (any_hot hz hf) rfl mA bA (pa_cons (pv 2) pa_nil))))))))))
    (pss_one (ps_ret pe_bl)), ?_⟩
  refine ⟨_, rfl, a, zs, rfl, ha, t1, t2, hl, hz, (fun ms e => absurd hn (by rw [e]; simp)), fun _ H1 s1 => ⟨true, Z.ex, fun _ a2 ha2 => ?_, fun z => nomatch z⟩⟩
  have own : ∀ (D : Addr) (u : Value), RelV (.ref D) u → u = .ref D := fun D u r => r
  refine ⟨_, rfl, rfl, rfl, _, _, false, rfl, own B1, Z.k1, _, rfl, rfl, rfl, _, _, false, rfl, own B2, Z.k2, _, rfl, rfl, rfl, _, _, false, rfl, own B3, Z.k3, fits (by show 3 ≤ 16777216; decide), fun p hp => ?_⟩
  refine ⟨_, rfl, rfl, rfl, _, _, true, rfl, own C, Z.kC, _, rfl, iteT ?_⟩
  refine ⟨_, rfl, rfl, rfl, _, _, true, rfl, fun u r => r, Z.kV, _, rfl, iteT ?_⟩
  exact ⟨_, rfl, p, [false, false, false], rfl, SqL.of upd_same, _, rfl, q _ (s1.trans (Sm.of (same_new hp _)))⟩
end
section
variable {P : Program} {w : World} {K : PySem.W.Frag} {mg : Str → Option Value} {base : Heap} {f : Addr} {fd : FuncData}
theorem ok__law_reads (F : Fun K "_law_reads" "_law_reads" s_law_reads f fd) (D__law_tuple : Dfn P w K mg base "_law_tuple" 5 ["line"] spTuple) (D_refused : Dfn P w K mg base "_law_refused" 5 ["lines"] (spRefM P1 P2)) (D_same3 : Dfn P w K mg base "_law_same" 5 ["told", "due"] (spSame 3)) (y_list : mg "list" = none) {C gR : Addr} {gdR : FuncData} (GR : FnOk P w K mg base (L2N.CX P w) 4 gR gdR ["lines"] (spReadM C P1 P2)) (mR : mg "read_moves" = some (.ref gR)) (kR : PySem.W.keepIn K (.ref gR) = true) (bR : Binds K gdR ["lines"] []) : FnOk P w K mg base CX0 6 f fd ["lines"] (spReads P1 P2) := by
  refine F.ok sc_law_reads (fun vs H Q E h => ?_) (fun cdv A outer s H vs Q E hr h => ?_)
  · obtain ⟨a, zs, rfl, ha, t1, t2, hl, hz, q⟩ := h
    rfl
  obtain ⟨a, zs, rfl, ha, t1, t2, hl, hz, q⟩ := h
  refine ⟨_, (pss_cons (ps_setLc (i := 1) (own := [("line", 4)]) (g := (gName 4)) (tt := tYes) (by rfl) sc_law_reads.nd rfl rfl (sw_true rfl rfl rfl (by decide +kernel)) (pi_list (pv 0)) (blkOk_by (own := [("line", 4)]) (N := ["lines", "due", "passed", "told", "line"]) (sc := defScope s_law_reads) (by decide +kernel)) (fun _ _ _ _ _ => pg_name (i := 4) sc_law_reads.nd rfl (Or.inl rfl)) (fun _ _ _ _ _ => pts_nil) (fun _ _ _ _ _ => (pe_do D__law_tuple hr (pa_cons (pv 4) pa_nil))))
    (pss_cons (ps_set (i := 2) sc_law_reads.nd rfl (.inl rfl) (pe_callTy call_list_of rfl y_list (by decide +kernel) (pa_cons (pv 0) pa_nil)))
    (pss_cons (ps_if (pt_cmpR (op_inD (units65 hr)) pe_non (pv 1) (by rfl)) (pss_one (ps_ret (pe_and (pe_do D_refused hr (pa_cons (pv 2) pa_nil)) (pe_one (pe_cmpR (op_eqD hr.units) (pv 2) (pv 0) (nomark _)))))) pss_nil)
    (pss_cons (ps_set (i := 3) sc_law_reads.nd rfl (.inl rfl) (pe_call (E := fun _ _ _ => False) GR (hr.mono (by decide)) rfl mR kR bR .nil noPass (pa_cons (pv 2) pa_nil)))
    (pss_cons (ps_if (PW.pt (pw_or (pt_not (pt_val (pe_do D_same3 hr (pa_cons (pv 3) (pa_cons (pv 1) pa_nil))))) (pw_or1 (pt_cmpR (op_neD hr.units) (pv 2) (pv 0) (nomark _))))) (pss_one (ps_ret pe_bl)) pss_nil)
    (pss_cons (ps_expr (pe_bm PySem.F.plainAttrs_list PySem.F.slot_list_append PySem.F.type_list_append mt_append (pv 3) (pa_cons (pe_tup (pa_cons pe_int (pa_cons pe_str (pa_cons pe_str pa_nil)))) pa_nil)))
    (pss_one (ps_ret (pe_do D_same3 hr (pa_cons (pe_call (E := fun _ _ _ => False) GR (hr.mono (by decide)) rfl mR kR bR .nil noPass (pa_cons (pv 2) pa_nil)) (pa_cons (pv 1) pa_nil))))))))))), ?_⟩
  refine ⟨_, rfl, a, rfl, ⟨_, SqL.of ha⟩, fun D hD => lc_list (xs := zs.map V.str) (fun i G => Same H G ∧ DueAt G D ((zs.take i).map rd)) ⟨same_new hD _, ⟨[], upd_same, rfl, fun i v o h => by cases h⟩⟩ (fun i G hi s => SqL.of (s.1 _ _ ha)) ?_ ?_⟩
  · rintro i x G hx ⟨sG, dG⟩
    rw [List.getElem?_map] at hx
    obtain ⟨z, hzi, rfl⟩ := Option.map_eq_some_iff.mp hx
    have hzm := List.mem_of_getElem? hzi
    have hi : i < zs.length := (List.getElem?_eq_some_iff.mp hzi).1
    refine ⟨rfl, ?_⟩
    refine ⟨_, rfl, z, rfl, (hz z hzm).1, fun v G' s' ho => ?_⟩
    obtain ⟨vs, h1, h2, h3⟩ := dG.sm (Sm.of s')
    rw [List.length_map, List.length_take] at h2
    refine ⟨_, h1, Nat.lt_of_lt_of_le (by omega) sizeLine_big, fun b o hb => ?_, ⟨_, upd_same, ?_, ?_⟩⟩
    · rw [upd_ne (ne_of_none hb hD)]; exact s' _ _ (sG _ _ hb)
    · rw [List.length_append, List.length_map, List.length_take]
      show vs.length + 1 = _
      omega
    · intro j w o hw hj
      have ne : ∀ (p : Addr) (xs : List V), G' p = some (.tup xs) → upd G' D (.lst (vs ++ [v])) p = some (.tup xs) := fun p xs h => by rw [upd_ne (fun z => by rw [z, h1] at h; cases h)]; exact h
      have up : ∀ (w : V) (o : Option Mt), OM G' w o → OM (upd G' D (.lst (vs ++ [v]))) w o := fun w o h => by
        cases o with
        | none => exact h
        | some m => obtain ⟨p, e, hp⟩ := h; exact ⟨p, e, ne _ _ hp⟩
      rw [List.take_add_one, hzi, List.map_append] at hj
      by_cases c : j < vs.length
      · rw [List.getElem?_append_left c] at hw
        rw [List.getElem?_append_left (by rw [List.length_map, List.length_take]; omega)] at hj
        exact up w o (h3 j w o hw hj)
      · rw [List.getElem?_append_right (by omega)] at hw
        rw [List.getElem?_append_right (by rw [List.length_map, List.length_take]; omega), List.length_map, List.length_take, show j - min i zs.length = j - vs.length by omega] at hj
        have e0 : j - vs.length = 0 := by
          cases k : j - vs.length with
          | zero => rfl
          | succ n => rw [k] at hw; cases hw
        rw [e0] at hw hj
        cases hw
        cases hj
        exact up _ _ ho
  rintro G ⟨sG, dG⟩
  rw [List.length_map, List.take_length] at dG
  refine ⟨_, rfl, a, _, rfl, .inl (SqL.of (sG _ _ ha)), fun pp hpp => ?_⟩
  have s1 := same_new hpp (.lst (zs.map V.str))
  generalize hG1 : upd G pp (.lst (zs.map V.str)) = G1 at s1
  have hP : G1 pp = some (.lst (zs.map V.str)) := by rw [← hG1, upd_same]
  have d1 := dG.sm (Sm.of s1)
  have S1 := Sm.of (sG.trans s1)
  have hA := S1.lst ha
  have t11 := S1.2.1 _ t1
  have t21 := S1.2.1 _ t2
  have hz1 : ∀ z ∈ zs, z.length ≤ 1000000 := fun z h => (hz z h).1
  have fl := strs_flat fun z h => (hz z h).2
  refine ⟨_, rfl, .none, _, .non, d1.dp, by decide, list_shaped o_flat, _, rfl, ?_⟩
  rw [none_in]
  refine ite2 (fun c0 => ?_) (fun c0 => ?_)
  · refine ⟨_, rfl, pp, zs, rfl, hP, t11, t21, hl, hz1, of_decide_eq_true c0, fun G2 s2 => ⟨_, rfl, iteT ?_⟩⟩
    refine ⟨_, rfl, _, rfl, _, _, dp_strs (s2.lst hP), dp_strs (s2.lst hA), list_shaped fl, list_shaped fl, ?_⟩
    rw [list_self fl]
    exact q G2 (S1.trans s2)
  obtain ⟨ms, hms⟩ := somes (fun h => c0 (decide_eq_true h))
  have no : none ∉ zs.map rd := by rw [hms]; simp
  rw [hms] at d1
  have m1 := d1.ms
  have lm : ms.length ≤ 1000000 := by
    have := congrArg List.length hms
    rw [List.length_map, List.length_map] at this
    omega
  refine ⟨_, rfl, pp, zs, rfl, hP, t11, t21, hl, hz1, fun ms2 e2 p2 G2 s2 n2 h2 => ?_, fun h => absurd h no⟩
  have em : ms2 = ms := List.map_inj_right (fun _ _ h => Option.some.inj h) |>.mp (e2.symm.trans hms)
  subst em
  refine ⟨_, rfl, _, rfl, _, _, _, rfl, is_ms h2 lm, is_ms (m1.sm s2) lm, _, rfl, iteF ?_⟩
  refine ⟨_, rfl, _, rfl, _, _, dp_strs (s2.lst hP), dp_strs (s2.lst hA), list_shaped fl, list_shaped fl, _, rfl, ?_⟩
  rw [list_self fl]
  refine iteF ?_
  obtain ⟨xs, hx2, hxl, _⟩ := id h2
  refine ⟨_, rfl, .inl ⟨rfl, _, SqL.of hx2⟩, fits (by show 3 ≤ 16777216; decide), fun p3 hp3 => ?_⟩
  have s3 := same_new hp3 (.tup [V.int 0, V.str (Str.ofString ""), V.str (Str.ofString "RR")])
  generalize hG3 : upd G2 p3 (.tup [V.int 0, V.str (Str.ofString ""), V.str (Str.ofString "RR")]) = G3 at s3
  refine ⟨p2, _, _, rfl, rfl, s3 _ _ hx2, Nat.lt_of_lt_of_le (by rw [List.length_map]; have := congrArg List.length hms; rw [List.length_map, List.length_map] at this; omega) sizeLine_big, ?_⟩
  have s4 := (s2.trans (Sm.of s3)).updNew (o := .lst (xs.map V.ref ++ [V.ref p3])) n2
  generalize hG4 : upd G3 p2 (.lst (xs.map V.ref ++ [V.ref p3])) = G4 at s4
  refine ⟨_, rfl, pp, zs, rfl, s4.lst hP, s4.2.1 _ t11, s4.2.1 _ t21, hl, hz1, fun ms3 e3 p5 G5 s5 n5 h5 => ?_, fun h => absurd h no⟩
  have em : ms3 = ms2 := List.map_inj_right (fun _ _ h => Option.some.inj h) |>.mp (e3.symm.trans hms)
  subst em
  exact ⟨_, rfl, _, _, _, rfl, is_ms h5 lm, is_ms (m1.sm (s4.trans s5)) lm, q G5 (S1.trans (s4.trans s5))⟩
end
section
variable {P : Program} {w : World} {K : PySem.W.Frag} {mg : Str → Option Value} {base : Heap} {f : Addr} {fd : FuncData}
theorem ok_law (F : Fun K "law" "law" s_law f fd) (D_tape : Dfn P w K mg base "_law_tape" 6 ["script", "k"] (spTape K)) (D_take : Dfn P w K mg base "_law_take" 6 ["tape", "many"] spTake) (D__law_drawn : Dfn P w K mg base "_law_drawn" 6 ["tape"] spDrawn28) (D__law_line : Dfn P w K mg base "_law_line" 6 ["move"] spLine) (D_write_moves : Dfn P w K mg base "write_moves" 6 ["moves"] spWrite) (D__law_reads : Dfn P w K mg base "_law_reads" 6 ["lines"] (spReads P1 P2)) (D_same3 : Dfn P w K mg base "_law_same" 6 ["told", "due"] (spSame 3)) (D__law_spoilt : Dfn P w K mg base "_law_spoilt" 6 ["tape", "line"] spSpoilt28) (y_range : mg "range" = none) (y_list : mg "list" = none) (y_len : mg "len" = none)  : FnOk P w K mg base CX0 7 f fd ["script"] (spLaw28 K P1 P2) := by
  refine F.ok sc_law (fun vs H Q E h => ?_) (fun cdv A outer s H vs Q E hr h => ?_)
  · obtain ⟨sa, ns, rfl, hS, h63, T1, T2, q⟩ := h
    rfl
  obtain ⟨sa, ns, rfl, hS, h63, T1, T2, q⟩ := h
  refine ⟨_, (pss_cons (ps_set (i := 1) sc_law.nd rfl (.inl rfl) (pe_do D_tape hr (pa_cons (pv 0) (pa_cons pe_int pa_nil))))
    (pss_cons (ps_setLc (i := 3) (own := [("k", 2)]) (g := (gName 2)) (tt := tYes) (by rfl) sc_law.nd rfl rfl (sw_true rfl rfl rfl (by decide +kernel)) (pi_range1 rfl y_range (pa_cons (pe_do D_take hr (pa_cons (pv 1) (pa_cons pe_int pa_nil))) pa_nil)) (blkOk_by (own := [("k", 2)]) (N := ["script", "tape", "k", "moves", "lines", "passed", "told", "changed", "j", "spot", "move"]) (sc := defScope s_law) (by decide +kernel)) (fun _ _ _ _ _ => pg_name (i := 2) sc_law.nd rfl (Or.inl rfl)) (fun _ _ _ _ _ => pts_nil) (fun _ _ _ _ _ => (pe_do D__law_drawn hr (pa_cons (pe_do D_tape hr (pa_cons (pv 0) (pa_cons (pe_op op_add pe_int (pv 2)) pa_nil))) pa_nil))))
    (pss_cons (ps_setLc (i := 4) (own := [("move", 10)]) (g := (gName 10)) (tt := tYes) (by rfl) sc_law.nd rfl rfl (sw_true rfl rfl rfl (by decide +kernel)) (pi_list (pv 3)) (blkOk_by (own := [("move", 10)]) (N := ["script", "tape", "k", "moves", "lines", "passed", "told", "changed", "j", "spot", "move"]) (sc := defScope s_law) (by decide +kernel)) (fun _ _ _ _ _ => pg_name (i := 10) sc_law.nd rfl (Or.inl rfl)) (fun _ _ _ _ _ => pts_nil) (fun _ _ _ _ _ => (pe_do D__law_line hr (pa_cons (pv 10) pa_nil))))
    (pss_cons (ps_set (i := 5) sc_law.nd rfl (.inl rfl) (pe_callTy call_list_of rfl y_list (by decide +kernel) (pa_cons (pv 3) pa_nil)))
    (pss_cons (ps_set (i := 6) sc_law.nd rfl (.inl rfl) (pe_do D_write_moves hr (pa_cons (pv 5) pa_nil)))
    (pss_cons (ps_if (PW.pt (pw_or (pt_not (pt_val (pe_do D_same3 hr (pa_cons (pv 6) (pa_cons (pv 4) pa_nil))))) (pw_or (pt_cmpR (op_neD hr.units) (pv 5) (pv 3) (nomark _)) (pw_or1 (pt_not (pt_val (pe_do D__law_reads hr (pa_cons (pv 4) pa_nil)))))))) (pss_one (ps_ret pe_bl)) pss_nil)
    (pss_cons (ps_expr (pe_bm PySem.F.plainAttrs_list PySem.F.slot_list_append PySem.F.type_list_append mt_append (pv 6) (pa_cons pe_str pa_nil)))
    (pss_cons (ps_if (pt_not (pt_val (pe_do D_same3 hr (pa_cons (pe_do D_write_moves hr (pa_cons (pv 5) pa_nil)) (pa_cons (pv 4) pa_nil))))) (pss_one (ps_ret pe_bl)) pss_nil)
    (pss_cons (ps_for PassesOwn.never rfl (pi_range1 rfl y_range (pa_cons pe_int pa_nil)) (pg_name (i := 2) sc_law.nd rfl (.inl rfl))
    (pss_cons (ps_set (i := 1) sc_law.nd rfl (.inl rfl) (pe_do D_tape hr (pa_cons (pv 0) (pa_cons (pe_op op_add pe_int (pv 2)) pa_nil))))
    (pss_cons (ps_set (i := 7) sc_law.nd rfl (.inl rfl) (pe_callTy call_list_of rfl y_list (by decide +kernel) (pa_cons (pv 4) pa_nil)))
    (pss_cons (ps_for PassesOwn.never rfl (pi_range1 rfl y_range (pa_cons (pe_op op_add pe_int (pe_do D_take hr (pa_cons (pv 1) (pa_cons pe_int pa_nil)))) pa_nil)) (pg_name (i := 8) sc_law.nd rfl (.inl rfl))
    (pss_cons (ps_set (i := 9) sc_law.nd rfl (.inl rfl) (pe_do D_take hr (pa_cons (pv 1) (pa_cons (pe_op op_add (pe_callB call_len_seq rfl y_len PySem.boot_len (pa_cons (pv 7) pa_nil)) pe_int) pa_nil))))
    (pss_one (ps_if (pt_cmpR op_eq (pv 9) (pe_callB call_len_seq rfl y_len PySem.boot_len (pa_cons (pv 7) pa_nil)) (nomark _)) (pss_one (ps_expr (pe_bm PySem.F.plainAttrs_list PySem.F.slot_list_append PySem.F.type_list_append mt_append (pv 7) (pa_cons (pe_do D__law_spoilt hr (pa_cons (pv 1) (pa_cons pe_str pa_nil))) pa_nil)))) (pss_one (ps_asg (pe_do D__law_spoilt hr (pa_cons (pv 1) (pa_cons (pe_ix ix_list (pv 7) (pv 9) (fun _ _ => rfl)) pa_nil))) (pg_sub (pv 7) (pv 9) set_list)))))))
    (pss_one (ps_if (pt_not (pt_val (pe_do D__law_reads hr (pa_cons (pv 7) pa_nil)))) (pss_one (ps_ret pe_bl)) pss_nil))))))
    (pss_one (ps_ret pe_bl))))))))))), ?_⟩
  refine ⟨_, rfl, sa, ns, 0, rfl, hS, by decide, fun tp H1 s1 ntp t1 => ?_⟩
  refine ⟨_, rfl, tp, 10, rfl, t1, by decide, by decide, fun n H2 n0 n1 b2 t2 => ?_⟩
  have S2 : Same H H2 := ((But.of s1).trans b2).same (Same.refl H) ntp
  refine ⟨n, rfl, by omega, by omega, fun D hD => lc_range (lo := 0) (n := n.toNat) (fun i G => Same H2 G ∧ ∃ ms : List Mt, ms.length = i ∧ (∀ m ∈ ms, FitM m ∧ Lets m.2.1 ∧ Lets m.2.2) ∧ MsAt G D ms) ⟨same_new hD _, [], rfl, (fun m h => by cases h), ⟨[], upd_same, rfl, fun i x m h => by cases h⟩⟩ ?_ ?_⟩
  · rintro i G hi ⟨sG, ms, ml, mf, mA⟩
    refine ⟨rfl, ?_⟩
    refine ⟨_, rfl, _, rfl, _, _, rfl, rfl, sa, ns, _, rfl, (Sm.of (S2.trans sG)).seq hS, by omega, fun tp2 G2 s' ntp2 t' => ?_⟩
    refine ⟨tp2, rfl, t', fun m p G3 fm l1 l2 np hp b t3 => ?_⟩
    have SG := ((But.of s').trans b).same (Same.refl G) ntp2
    obtain ⟨xs, h1, h2, h3⟩ := mA.sm (Sm.of SG)
    refine ⟨_, h1, Nat.lt_of_lt_of_le (by rw [List.length_map]; omega) sizeLine_big, fun b o hb => ?_, ms ++ [m], by rw [List.length_append, ml]; rfl, fun x hx => ?_, msPush h1 h2 h3 hp⟩
    · rw [upd_ne (ne_of_none hb hD)]; exact SG _ _ (sG _ _ hb)
    · rcases List.mem_append.mp hx with h | h
      · exact mf x h
      · rw [List.mem_singleton.mp h]; exact ⟨fm, l1, l2⟩
  rintro G ⟨sG, ms, ml, mf, mA⟩
  have lm : ms.length ≤ 9 := by omega
  have S3 := Sm.of (S2.trans sG)
  have fit : ∀ m ∈ ms, FitM m := fun m h => (mf m h).1
  obtain ⟨xs, x1, x2, x3⟩ := id mA
  refine ⟨_, rfl, D, rfl, ⟨_, SqL.of x1⟩, fun D2 hD2 => lc_list (xs := xs.map V.ref) (fun i F => Same G F ∧ F D2 = some (.lst (((ms.take i).map lineOf).map V.str))) ⟨same_new hD2 _, upd_same⟩ (fun i F hi s => SqL.of (s.1 _ _ x1)) ?_ ?_⟩
  · rintro i x F hx ⟨sF, hF⟩
    rw [List.getElem?_map] at hx
    obtain ⟨y, hy, rfl⟩ := Option.map_eq_some_iff.mp hx
    have hi : i < ms.length := by rw [← x2]; exact (List.getElem?_eq_some_iff.mp hy).1
    have hmi : ms[i]? = some ms[i] := List.getElem?_eq_getElem hi
    generalize ms[i] = m at hmi
    refine ⟨rfl, ?_⟩
    refine ⟨_, rfl, y, m, rfl, sF _ _ (x3 i y m hy hmi), fit m (List.mem_of_getElem? hmi), fun F' s' => ?_⟩
    refine ⟨_, s' _ _ hF, Nat.lt_of_lt_of_le (by rw [List.length_map, List.length_map, List.length_take]; omega) sizeLine_big, fun b o hb => ?_, ?_⟩
    · rw [upd_ne (ne_of_none hb hD2)]; exact s' _ _ (sF _ _ hb)
    · rw [upd_same, List.take_add_one, hmi, List.map_append, List.map_append]; rfl
  rintro F ⟨sF, hF⟩
  rw [List.length_map, x2, List.take_length] at hF
  generalize hz : ms.map lineOf = zs at hF
  have lz : zs.length ≤ 9 := by rw [← hz, List.length_map]; exact lm
  have zok : ∀ z ∈ zs, z.length ≤ 108 ∧ okS z := fun z h => by
    rw [← hz] at h
    obtain ⟨m, hm, rfl⟩ := List.mem_map.mp h
    obtain ⟨f, a, b⟩ := mf m hm
    exact ⟨line_len f, line_ok f a b⟩
  have x1F := sF _ _ x1
  refine ⟨_, rfl, D, _, rfl, .inl (SqL.of x1F), fun pp hpp => ?_⟩
  have s4 := same_new hpp (.lst (xs.map V.ref))
  generalize hF1 : upd F pp (.lst (xs.map V.ref)) = F1 at s4
  have hpp1 : F1 pp = some (.lst (xs.map V.ref)) := by rw [← hF1, upd_same]
  have SF := Sm.of (sF.trans s4)
  have mD := mA.sm SF
  have mP : MsAt F1 pp ms := ⟨xs, hpp1, x2, fun i x m a b => (SF.tup (x3 i x m a b))⟩
  have hz1 := s4 _ _ hF
  have S4 := S3.trans SF
  refine ⟨_, rfl, pp, ms, rfl, mP, by omega, fit, fun p2 F2 s5 np2 hp2 => ?_⟩
  have hp2' : F2 p2 = some (.lst (zs.map V.str)) := by rw [hp2, ← hz, List.map_map]; rfl
  have mfl := m_flat (ms := ms) (fun m h => (mf m h).2)
  refine ⟨_, rfl, _, rfl, _, _, _, rfl, is_strs hp2' (by omega), is_strs (s5 _ _ hz1) (by omega), _, rfl, iteF ?_⟩
  refine ⟨_, rfl, _, rfl, _, _, (mP.sm (Sm.of s5)).due.dp, (mD.sm (Sm.of s5)).due.dp, list_shaped mfl, list_shaped mfl, _, rfl, ?_⟩
  rw [list_self mfl]
  refine iteF ?_
  have S5 := S4.trans (Sm.of s5)
  refine ⟨_, rfl, D2, zs, rfl, s5 _ _ hz1, S5.2.1 _ T1, S5.2.1 _ T2, by omega, fun z h => ⟨by have := (zok z h).1; omega, (zok z h).2⟩, fun F3 s6 => ⟨_, rfl, iteF ?_⟩⟩
  refine ⟨_, rfl, .inl ⟨rfl, _, SqL.of (s6.lst hp2')⟩, p2, _, _, rfl, rfl, s6.lst hp2', Nat.lt_of_lt_of_le (by rw [List.length_map]; omega) sizeLine_big, ?_⟩
  have s7 := ((Sm.of s5).trans s6).updNew (o := .lst (zs.map V.str ++ [V.str (Str.ofString "0 - RR")])) np2
  generalize hF4 : upd F3 p2 (.lst (zs.map V.str ++ [V.str (Str.ofString "0 - RR")])) = F4 at s7
  have S7 := S4.trans s7
  refine ⟨_, rfl, pp, ms, rfl, mP.sm s7, by omega, fit, fun p3 F5 s8 np3 hp3 => ?_⟩
  have hp3' : F5 p3 = some (.lst (zs.map V.str)) := by rw [hp3, ← hz, List.map_map]; rfl
  have hz5 := s8 _ _ (s7.lst hz1)
  refine ⟨_, rfl, _, _, _, rfl, is_strs hp3' (by omega), is_strs hz5 (by omega), _, rfl, iteF ?_⟩
  have S8 := S7.trans (Sm.of s8)
  refine ⟨6, rfl, by decide, by decide, for_range (lo := 0) (n := 6) (fun i σ G => ∃ x1 x6 x7 x8 x9 x10 : Option V, σ = [some (.ref sa), x1, x6, some (.ref D), some (.ref D2), some (.ref pp), some (.ref p2), x7, x8, x9, x10] ∧ Sm F5 G) ⟨_, _, _, _, _, _, rfl, Sm.refl _⟩ ?_ ?_⟩
  · rintro i σ G hi ⟨y1, y6, y7, y8, y9, y10, rfl, sG⟩
    refine ⟨_, rfl, _, rfl, _, _, rfl, rfl, sa, ns, _, rfl, (S8.trans sG).seq hS, by omega, fun tq G1 u1 ntq tt => ?_⟩
    have hzG := u1 _ _ (sG.lst hz5)
    refine ⟨_, rfl, D2, _, rfl, .inl (SqL.of hzG), fun cp hcp => ?_⟩
    have u2 := same_new hcp (.lst (zs.map V.str))
    generalize hG2 : upd G1 cp (.lst (zs.map V.str)) = G2 at u2
    have hc0 : G2 cp = some (.lst (zs.map V.str)) := by rw [← hG2, upd_same]
    have tt2 := tt.same u2
    have ncp : cp ≠ tq := tt.ne hcp
    have gcp : G cp = none := (Sm.of u1).2.2 cp hcp
    have U2 := Sm.of (u1.trans u2)
    refine ⟨_, rfl, tq, 2, rfl, tt2, by decide, by decide, fun w G3 w0 w1 b3 t3 => ⟨_, _, rfl, rfl, 1 + w, rfl, by omega, by omega, for_range (lo := 0) (n := (1 + w).toNat) (fun j σ E => ∃ x8 x9 : Option V, σ = [some (.ref sa), some (.ref tq), some (.int (0 + (i : Int))), some (.ref D), some (.ref D2), some (.ref pp), some (.ref p2), some (.ref cp), x8, x9, y10] ∧ Sm G E ∧ Tape E tq ∧ ∃ zt : List Str, E cp = some (.lst (zt.map V.str)) ∧ zt.length ≤ 9 + j ∧ ∀ z ∈ zt, z.length ≤ bnd j ∧ okS z) ⟨_, _, rfl, U2.but b3 ntq, t3, zs, b3 _ _ ncp hc0, by omega, zok⟩ ?_ ?_⟩⟩
    · rintro j σ E hj ⟨x8, x9, rfl, sE, tE, zt, hc, zl, zk⟩
      have j2 : j < 2 := by omega
      refine ⟨_, rfl, _, rfl, cp, _, rfl, .inl (SqL.of hc), _, _, rfl, rfl, tq, _, rfl, tE, by rw [List.length_map]; omega, by rw [List.length_map]; omega, fun sp E1 s0 s1 b4 t4 => ?_⟩
      rw [List.length_map] at s1
      have hc1 := b4 _ _ ncp hc
      have sE1 := sE.but b4 ntq
      refine ⟨_, rfl, _, rfl, cp, _, rfl, .inl (SqL.of hc1), rfl, _, rfl, ite2 (fun c => ?_) (fun c => ?_)⟩
      · refine ⟨_, rfl, .inl ⟨rfl, _, SqL.of hc1⟩, _, rfl, tq, _, rfl, t4, by decide +kernel, by unfold okS; decide +kernel, fun z' E2 l' ok' b5 t5 => ?_⟩
        have hc2 := b5 _ _ ncp hc1
        have lz' : z'.length ≤ bnd (j + 1) := Nat.le_trans l' (by
          have : (8 * (Str.ofString "3 - RR").length + 20) = 68 := by decide +kernel
          rw [this]
          match j, j2 with
          | 0, _ => decide
          | 1, _ => decide)
        refine ⟨cp, _, _, rfl, rfl, hc2, Nat.lt_of_lt_of_le (by rw [List.length_map]; omega) sizeLine_big, ?_⟩
        exact ⟨_, _, rfl, (sE1.but b5 ntq).but But.upd gcp, tape_upd t5 ncp, zt ++ [z'], by rw [upd_same, List.map_append]; rfl, by rw [List.length_append]; show zt.length + 1 ≤ _; omega, (spoil_list (n := 0) j2 zk lz' ok').1⟩
      · have ne : sp ≠ (zt.length : Int) := fun z => c (decide_eq_true (by rw [List.length_map, z]))
        have lt : sp.toNat < zt.length := by omega
        have hat : atI (zt.map V.str) sp = some (V.str zt[sp.toNat]) := at_of (j := sp.toNat) (by omega) (by rw [List.getElem?_map, List.getElem?_eq_getElem lt]; rfl)
        have zk1 := zk zt[sp.toNat] (List.getElem_mem lt)
        have b10 : bnd j ≤ 884 := by
          match j, j2 with
          | 0, _ => decide
          | 1, _ => decide
        refine ⟨_, rfl, _, rfl, _, rfl, cp, _, _, _, rfl, rfl, SqL.of hc1, hat, tq, _, rfl, t4, by omega, zk1.2, fun z' E2 l' ok' b5 t5 => ?_⟩
        have hc2 := b5 _ _ ncp hc1
        have lz' : z'.length ≤ bnd (j + 1) := Nat.le_trans l' (by
          match j, j2 with
          | 0, _ => have h0 : bnd 0 = 108 := rfl; have h1 : bnd (0 + 1) = 884 := rfl; have := zk1.1; omega
          | 1, _ => have h0 : bnd 1 = 884 := rfl; have h1 : bnd (1 + 1) = 7092 := rfl; have := zk1.1; omega)
        refine ⟨_, rfl, _, rfl, cp, _, sp, sp.toNat, rfl, rfl, hc2, ?_, ?_⟩
        · rw [List.length_map]
          exact ixN_to s0 (by omega)
        exact ⟨_, _, rfl, (sE1.but b5 ntq).but But.upd gcp, tape_upd t5 ncp, zt.set sp.toNat z', by rw [upd_same, List.map_set], by rw [List.length_set]; omega, (spoil_list j2 zk lz' ok').2⟩
    · rintro σ E ⟨x8, x9, rfl, sE, tE, zt, hc, zl, zk⟩
      have jb : (1 + w).toNat ≤ 2 := by omega
      refine ⟨_, rfl, cp, zt, rfl, hc, (S8.trans (sG.trans sE)).2.1 _ T1, (S8.trans (sG.trans sE)).2.1 _ T2, by omega, fun z h => ⟨by have := (zk z h).1; have := bnd_le (1 + w).toNat; omega, (zk z h).2⟩, fun E3 s9 => ⟨_, rfl, iteF ?_⟩⟩
      exact ⟨_, _, _, _, _, _, rfl, sG.trans (sE.trans s9)⟩
  · rintro σ G ⟨y1, y6, y7, y8, y9, y10, rfl, sG⟩
    exact q G
end
def d_is_dance : He.DefD := ⟨("is_dance", none), "is_dance", "is_dance", defArgs s_is_dance, defBody s_is_dance, defScope s_is_dance, [], []⟩
def d_is_count : He.DefD := ⟨("is_count", none), "is_count", "is_count", defArgs s_is_count, defBody s_is_count, defScope s_is_count, [], []⟩
def d_write_moves : He.DefD := ⟨("write_moves", none), "write_moves", "write_moves", defArgs s_write_moves, defBody s_write_moves, defScope s_write_moves, [], []⟩
def d_read_moves : He.DefD := ⟨("read_moves", none), "read_moves", "read_moves", defArgs s_read_moves, defBody s_read_moves, defScope s_read_moves, [], []⟩
def d_move_of : He.DefD := ⟨("move_of", none), "move_of", "move_of", defArgs s_move_of, defBody s_move_of, defScope s_move_of, [], []⟩
def d_letters_of : He.DefD := ⟨("letters_of", none), "letters_of", "letters_of", defArgs s_letters_of, defBody s_letters_of, defScope s_letters_of, [], []⟩
def d__law_tape : He.DefD := ⟨("_law_tape", none), "_law_tape", "_law_tape", defArgs s_law_tape, defBody s_law_tape, defScope s_law_tape, [], []⟩
def d__law_take : He.DefD := ⟨("_law_take", none), "_law_take", "_law_take", defArgs s_law_take, defBody s_law_take, defScope s_law_take, [], []⟩
def d__law_dance : He.DefD := ⟨("_law_dance", none), "_law_dance", "_law_dance", defArgs s_law_dance, defBody s_law_dance, defScope s_law_dance, [], []⟩
def d__law_same : He.DefD := ⟨("_law_same", none), "_law_same", "_law_same", defArgs s_law_same, defBody s_law_same, defScope s_law_same, [], []⟩
def d__law_drawn : He.DefD := ⟨("_law_drawn", none), "_law_drawn", "_law_drawn", defArgs s_law_drawn, defBody s_law_drawn, defScope s_law_drawn, [], []⟩
def d__law_line : He.DefD := ⟨("_law_line", none), "_law_line", "_law_line", defArgs s_law_line, defBody s_law_line, defScope s_law_line, [], []⟩
def d__law_tuple : He.DefD := ⟨("_law_tuple", none), "_law_tuple", "_law_tuple", defArgs s_law_tuple, defBody s_law_tuple, defScope s_law_tuple, [], []⟩
def d__law_spoilt : He.DefD := ⟨("_law_spoilt", none), "_law_spoilt", "_law_spoilt", defArgs s_law_spoilt, defBody s_law_spoilt, defScope s_law_spoilt, [], []⟩
def d__law_refused : He.DefD := ⟨("_law_refused", none), "_law_refused", "_law_refused", defArgs s_law_refused, defBody s_law_refused, defScope s_law_refused, [], []⟩
def d__law_reads : He.DefD := ⟨("_law_reads", none), "_law_reads", "_law_reads", defArgs s_law_reads, defBody s_law_reads, defScope s_law_reads, [], []⟩
def d_law : He.DefD := ⟨("law", none), "law", "law", defArgs s_law, defBody s_law, defScope s_law, [], []⟩
def dfs : List He.DefD := [d_is_dance, d_is_count, d_write_moves, d_read_moves, d_move_of, d_letters_of, d__law_tape, d__law_take, d__law_dance, d__law_same, d__law_drawn, d__law_line, d__law_tuple, d__law_spoilt, d__law_refused, d__law_reads, d_law]
def fas : List He.Fa := [.glo "is_dance", .glo "is_count", .glo "write_moves", .glo "read_moves", .glo "move_of", .glo "letters_of", .glo "_law_tape", .glo "_law_take", .glo "_law_dance", .glo "_law_same", .glo "_law_drawn", .glo "_law_line", .glo "_law_tuple", .glo "_law_spoilt", .glo "_law_refused", .glo "_law_reads", .glo "law", .glo "OPPOSITES", .free "len", .free "abs", .free "int", .free "range", .free "isinstance", .free "tuple", .free "list", .free "str", .free "bool", .free "all", .free "any", .free "ValueError", .exc "BadText", .exm "BadText" "RopeError" true, .glo "BadText", .glo "RopeError", .glo "BadMove", .glo "NoFraction", .glo "NoDance", .str "DIGITS" "0123456789", .int "MOST_DIGITS" 9, .str "NO_LETTERS" "-"]
def tbs : List He.Tab := [(fun K => He.ga K "OPPOSITES", ["T", "U", "R"])]
def tfs : List He.Defn := [("is_dance", none), ("is_count", none)]
def exs (K : PySem.W.Frag) : Bool := (He.valsB K (He.ga K "OPPOSITES") [("T", .str "U"), ("U", .str "T"), ("R", .str "R")]) && (PySem.W.hasDictIn K (He.ga K "BadText") && (He.eqO (PySem.W.findIn K (.ref (He.ga K "BadText")) "__getattribute__") (some (some (.builtin "BaseException.__getattribute__"))) && (He.eqO (PySem.W.findIn K (.ref (He.ga K "BadText")) "__getattr__") (some none) && (He.eqO (PySem.W.findIn K (.ref (He.ga K "BadText")) "__class__") (some (some (.builtin "object.__class__"))) && (decide (PySem.W.mroIn K (He.ga K "BadText") (.type "object") = some true) && (He.eqO (PySem.W.specialIn K (.builtin "object.__class__") "__get__") (some (some (.builtin "getset_descriptor.__get__"))) && (decide (PySem.W.takesIn K (.builtin "object.__class__") = some true) && (decide (PySem.W.kitOne K (.ref (He.ga K "BadText")) (.ref (He.ga K "BadText")) = some true) && (decide (PySem.W.kitOne K (.ref (He.ga K "BadText")) (.type "ValueError") = some true) && (decide (PySem.W.kitOne K (.ref (He.ga K "BadText")) (.ref (He.ga K "BadMove")) = some false) && (decide (PySem.W.kitOne K (.ref (He.ga K "BadText")) (.ref (He.ga K "NoFraction")) = some false) && decide (PySem.W.kitOne K (.ref (He.ga K "BadText")) (.ref (He.ga K "NoDance")) = some false))))))))))))
abbrev Rw : PySem.W.OpenRow := PySem.W.OpenLaw.row PySem.Challenge.rw_ropedance_k28_lines_of_moves
abbrev hk : PySem.W.Hook := He.hookX 6 fas dfs tbs tfs exs
def ob (s : PySem.W.SharedT) : He.AlX := He.obsX 6 fas dfs tbs tfs exs (HandSHeadRun.getT s)
theorem ob_eq (s : PySem.W.SharedT) : ob s = hk.obs s.abs := He.obsX_eq (HandSHeadRun.getT_eq s)
theorem head_run (w : World) : HandSHeadRun.RunEq Rw (PySem.W.view Rw.prog [29]) hk ob 6000 ["is_dance", "is_count", "write_moves", "read_moves", "move_of", "letters_of", "_law_tape", "_law_take", "_law_dance", "_law_same", "_law_drawn", "_law_line", "_law_tuple", "_law_spoilt", "_law_refused", "_law_reads", "OPPOSITES", "RopeError", "NoFraction", "BadMove", "BadText", "NoDance", "DIGITS", "MOST_DIGITS", "NO_LETTERS"] w :=
  PySem.W.byRow2 "special-get-raises" (P := fun w => HandSHeadRun.RunEq Rw (PySem.W.view Rw.prog [29]) hk ob 6000 ["is_dance", "is_count", "write_moves", "read_moves", "move_of", "letters_of", "_law_tape", "_law_take", "_law_dance", "_law_same", "_law_drawn", "_law_line", "_law_tuple", "_law_spoilt", "_law_refused", "_law_reads", "OPPOSITES", "RopeError", "NoFraction", "BadMove", "BadText", "NoDance", "DIGITS", "MOST_DIGITS", "NO_LETTERS"] w) (fun w => by intro os; kernel_rfl) (fun w => by intro os; kernel_rfl) w
theorem fun_of {K : PySem.W.Frag} {d : He.DefD} {f : Addr} {fd : FuncData} {st : Stmt} (h : FunD K d.name d.qual d.params d.body d.scope (d.dvs K) (d.kws K) f fd) (ha : d.params = defArgs st) (hb : d.body = defBody st) (hs : d.scope = defScope st) (h0 : d.dfl = []) (h1 : d.kwd = []) : Fun K d.name d.qual st f fd := by
  obtain ⟨oc, od, dV, kV, doc, pm, an, cdv, ct, osl, e, lk, cd, dfl, kw⟩ := h.ex
  have e0 : d.dvs K = [] := by unfold He.DefD.dvs; rw [h0]; rfl
  rw [e0] at dfl
  have ed : dV = .none := by
    rcases dfl with ⟨_, q⟩ | ⟨q, _⟩
    · exact q
    · exact absurd rfl q
  subst ed
  rw [ha, hb, hs] at e
  exact ⟨⟨oc, od, kV, doc, pm, an, cdv, ct, osl, e, lk, cd⟩, h.kp⟩
abbrev spLawK (K : PySem.W.Frag) : Sp := spLaw28 K ((He.cT K ("is_dance", none)).2) ((He.cT K ("is_count", none)).2)
theorem spLaw_from (K : PySem.W.Frag) : ∀ (H : Hp) (a : Addr) (ns : List Int), ns.length ≤ 63 → (∀ z ∈ ns, Builtin.Int.intBits z ≤ 1048576) → (∀ p ∈ tfs.map (He.cT K), H p.2 = some (.tbl #[])) → SqL K H a (ns.map V.int) → spLawK K [.ref a] H (fun v _ => v = .bl true) fun _ _ _ => False :=
  fun H a ns hl _ hT hS => ⟨a, ns, rfl, hS, hl, ⟨#[], hT _ (List.mem_map.mpr ⟨("is_dance", none), List.mem_cons_self .., rfl⟩), trivial⟩, ⟨#[], hT _ (List.mem_map.mpr ⟨("is_count", none), List.mem_cons_of_mem _ (List.mem_cons_self ..), rfl⟩), trivial⟩, fun _ => rfl⟩
theorem all_facts {P : Program} {w : World} {K : PySem.W.Frag} {h : Heap} {mg : Str → Option Value} {fa : Addr} (X : K.In h) (G : h.Ns mainGlobals mg) (hfa : mg ("law" : Str) = some (.ref fa)) (c : He.SaysX fas dfs tbs tfs exs w h K) :
    ∃ fd : FuncData, (∀ (s : Shared) (v : Value), BindsTo s fd ⟨[v], []⟩ [("script", v)]) ∧ ∀ base : Heap, K.In base → base.Ns mainGlobals mg → (∀ p ∈ tfs.map (He.cT K), LamX.TabB base mg p.1 p.2) → FnOk P w K mg base CX0 7 fa fd ["script"] (spLawK K) := by
  have cd := c.t.d
  obtain ⟨fd0, G0⟩ := cd.def_ 0 (d := d_is_dance) rfl
  have F_is_dance : Fun K "is_dance" "is_dance" s_is_dance _ fd0 := fun_of G0 rfl rfl rfl rfl rfl
  have m_is_dance := He.glo_ok X G (cd.fact 0 (f := .glo "is_dance") rfl)
  have b_is_dance := F_is_dance.binds (ps := ["text"]) fun _ _ _ _ _ _ us hl => match us, hl with | [_], _ => rfl
  obtain ⟨fd1, G1⟩ := cd.def_ 1 (d := d_is_count) rfl
  have F_is_count : Fun K "is_count" "is_count" s_is_count _ fd1 := fun_of G1 rfl rfl rfl rfl rfl
  have m_is_count := He.glo_ok X G (cd.fact 1 (f := .glo "is_count") rfl)
  have b_is_count := F_is_count.binds (ps := ["digits"]) fun _ _ _ _ _ _ us hl => match us, hl with | [_], _ => rfl
  obtain ⟨fd2, G2⟩ := cd.def_ 2 (d := d_write_moves) rfl
  have F_write_moves : Fun K "write_moves" "write_moves" s_write_moves _ fd2 := fun_of G2 rfl rfl rfl rfl rfl
  have m_write_moves := He.glo_ok X G (cd.fact 2 (f := .glo "write_moves") rfl)
  have b_write_moves := F_write_moves.binds (ps := ["moves"]) fun _ _ _ _ _ _ us hl => match us, hl with | [_], _ => rfl
  obtain ⟨fd3, G3⟩ := cd.def_ 3 (d := d_read_moves) rfl
  have F_read_moves : Fun K "read_moves" "read_moves" s_read_moves _ fd3 := fun_of G3 rfl rfl rfl rfl rfl
  have m_read_moves := He.glo_ok X G (cd.fact 3 (f := .glo "read_moves") rfl)
  have b_read_moves := F_read_moves.binds (ps := ["lines"]) fun _ _ _ _ _ _ us hl => match us, hl with | [_], _ => rfl
  obtain ⟨fd4, G4⟩ := cd.def_ 4 (d := d_move_of) rfl
  have F_move_of : Fun K "move_of" "move_of" s_move_of _ fd4 := fun_of G4 rfl rfl rfl rfl rfl
  have m_move_of := He.glo_ok X G (cd.fact 4 (f := .glo "move_of") rfl)
  have b_move_of := F_move_of.binds (ps := ["line"]) fun _ _ _ _ _ _ us hl => match us, hl with | [_], _ => rfl
  obtain ⟨fd5, G5⟩ := cd.def_ 5 (d := d_letters_of) rfl
  have F_letters_of : Fun K "letters_of" "letters_of" s_letters_of _ fd5 := fun_of G5 rfl rfl rfl rfl rfl
  have m_letters_of := He.glo_ok X G (cd.fact 5 (f := .glo "letters_of") rfl)
  have b_letters_of := F_letters_of.binds (ps := ["word"]) fun _ _ _ _ _ _ us hl => match us, hl with | [_], _ => rfl
  obtain ⟨fd6, G6⟩ := cd.def_ 6 (d := d__law_tape) rfl
  have F__law_tape : Fun K "_law_tape" "_law_tape" s_law_tape _ fd6 := fun_of G6 rfl rfl rfl rfl rfl
  have m__law_tape := He.glo_ok X G (cd.fact 6 (f := .glo "_law_tape") rfl)
  have b__law_tape := F__law_tape.binds (ps := ["script", "k"]) fun _ _ _ _ _ _ us hl => match us, hl with | [_, _], _ => rfl
  obtain ⟨fd7, G7⟩ := cd.def_ 7 (d := d__law_take) rfl
  have F__law_take : Fun K "_law_take" "_law_take" s_law_take _ fd7 := fun_of G7 rfl rfl rfl rfl rfl
  have m__law_take := He.glo_ok X G (cd.fact 7 (f := .glo "_law_take") rfl)
  have b__law_take := F__law_take.binds (ps := ["tape", "many"]) fun _ _ _ _ _ _ us hl => match us, hl with | [_, _], _ => rfl
  obtain ⟨fd8, G8⟩ := cd.def_ 8 (d := d__law_dance) rfl
  have F__law_dance : Fun K "_law_dance" "_law_dance" s_law_dance _ fd8 := fun_of G8 rfl rfl rfl rfl rfl
  have m__law_dance := He.glo_ok X G (cd.fact 8 (f := .glo "_law_dance") rfl)
  have b__law_dance := F__law_dance.binds (ps := ["tape", "most"]) fun _ _ _ _ _ _ us hl => match us, hl with | [_, _], _ => rfl
  obtain ⟨fd9, G9⟩ := cd.def_ 9 (d := d__law_same) rfl
  have F__law_same : Fun K "_law_same" "_law_same" s_law_same _ fd9 := fun_of G9 rfl rfl rfl rfl rfl
  have m__law_same := He.glo_ok X G (cd.fact 9 (f := .glo "_law_same") rfl)
  have b__law_same := F__law_same.binds (ps := ["told", "due"]) fun _ _ _ _ _ _ us hl => match us, hl with | [_, _], _ => rfl
  obtain ⟨fd10, G10⟩ := cd.def_ 10 (d := d__law_drawn) rfl
  have F__law_drawn : Fun K "_law_drawn" "_law_drawn" s_law_drawn _ fd10 := fun_of G10 rfl rfl rfl rfl rfl
  have m__law_drawn := He.glo_ok X G (cd.fact 10 (f := .glo "_law_drawn") rfl)
  have b__law_drawn := F__law_drawn.binds (ps := ["tape"]) fun _ _ _ _ _ _ us hl => match us, hl with | [_], _ => rfl
  obtain ⟨fd11, G11⟩ := cd.def_ 11 (d := d__law_line) rfl
  have F__law_line : Fun K "_law_line" "_law_line" s_law_line _ fd11 := fun_of G11 rfl rfl rfl rfl rfl
  have m__law_line := He.glo_ok X G (cd.fact 11 (f := .glo "_law_line") rfl)
  have b__law_line := F__law_line.binds (ps := ["move"]) fun _ _ _ _ _ _ us hl => match us, hl with | [_], _ => rfl
  obtain ⟨fd12, G12⟩ := cd.def_ 12 (d := d__law_tuple) rfl
  have F__law_tuple : Fun K "_law_tuple" "_law_tuple" s_law_tuple _ fd12 := fun_of G12 rfl rfl rfl rfl rfl
  have m__law_tuple := He.glo_ok X G (cd.fact 12 (f := .glo "_law_tuple") rfl)
  have b__law_tuple := F__law_tuple.binds (ps := ["line"]) fun _ _ _ _ _ _ us hl => match us, hl with | [_], _ => rfl
  obtain ⟨fd13, G13⟩ := cd.def_ 13 (d := d__law_spoilt) rfl
  have F__law_spoilt : Fun K "_law_spoilt" "_law_spoilt" s_law_spoilt _ fd13 := fun_of G13 rfl rfl rfl rfl rfl
  have m__law_spoilt := He.glo_ok X G (cd.fact 13 (f := .glo "_law_spoilt") rfl)
  have b__law_spoilt := F__law_spoilt.binds (ps := ["tape", "line"]) fun _ _ _ _ _ _ us hl => match us, hl with | [_, _], _ => rfl
  obtain ⟨fd14, G14⟩ := cd.def_ 14 (d := d__law_refused) rfl
  have F__law_refused : Fun K "_law_refused" "_law_refused" s_law_refused _ fd14 := fun_of G14 rfl rfl rfl rfl rfl
  have m__law_refused := He.glo_ok X G (cd.fact 14 (f := .glo "_law_refused") rfl)
  have b__law_refused := F__law_refused.binds (ps := ["lines"]) fun _ _ _ _ _ _ us hl => match us, hl with | [_], _ => rfl
  obtain ⟨fd15, G15⟩ := cd.def_ 15 (d := d__law_reads) rfl
  have F__law_reads : Fun K "_law_reads" "_law_reads" s_law_reads _ fd15 := fun_of G15 rfl rfl rfl rfl rfl
  have m__law_reads := He.glo_ok X G (cd.fact 15 (f := .glo "_law_reads") rfl)
  have b__law_reads := F__law_reads.binds (ps := ["lines"]) fun _ _ _ _ _ _ us hl => match us, hl with | [_], _ => rfl
  obtain ⟨fd16, G16⟩ := cd.def_ 16 (d := d_law) rfl
  have F_law : Fun K "law" "law" s_law _ fd16 := fun_of G16 rfl rfl rfl rfl rfl
  have m_law := He.glo_ok X G (cd.fact 16 (f := .glo "law") rfl)
  have b_law := F_law.binds (ps := ["script"]) fun _ _ _ _ _ _ us hl => match us, hl with | [_], _ => rfl
  have t_OPPOSITES := He.glo_ok X G (cd.fact 17 (f := .glo "OPPOSITES") rfl)
  have y_len := He.free_ok X G (cd.fact 18 (f := .free "len") rfl)
  have y_abs := He.free_ok X G (cd.fact 19 (f := .free "abs") rfl)
  have y_int := He.free_ok X G (cd.fact 20 (f := .free "int") rfl)
  have y_range := He.free_ok X G (cd.fact 21 (f := .free "range") rfl)
  have y_isinstance := He.free_ok X G (cd.fact 22 (f := .free "isinstance") rfl)
  have y_tuple := He.free_ok X G (cd.fact 23 (f := .free "tuple") rfl)
  have y_list := He.free_ok X G (cd.fact 24 (f := .free "list") rfl)
  have y_str := He.free_ok X G (cd.fact 25 (f := .free "str") rfl)
  have y_bool := He.free_ok X G (cd.fact 26 (f := .free "bool") rfl)
  have y_all := He.free_ok X G (cd.fact 27 (f := .free "all") rfl)
  have y_any := He.free_ok X G (cd.fact 28 (f := .free "any") rfl)
  have y_ValueError := He.free_ok X G (cd.fact 29 (f := .free "ValueError") rfl)
  have fa0 := cd.fact 30 (f := .exc "BadText") rfl
  have fa1 := cd.fact 31 (f := .exm "BadText" "RopeError" true) rfl
  have fa2 := cd.fact 32 (f := .glo "BadText") rfl
  have fa3 := cd.fact 33 (f := .glo "RopeError") rfl
  have fa4 := cd.fact 34 (f := .glo "BadMove") rfl
  have fa5 := cd.fact 35 (f := .glo "NoFraction") rfl
  have fa6 := cd.fact 36 (f := .glo "NoDance") rfl
  have fa7 := cd.fact 37 (f := .str "DIGITS" "0123456789") rfl
  have fa8 := cd.fact 38 (f := .int "MOST_DIGITS" 9) rfl
  have fa9 := cd.fact 39 (f := .str "NO_LETTERS" "-") rfl
  have e := hfa.symm.trans m_law
  cases e
  refine ⟨fd16, fun s v => ?_, fun base KB GB TB => ?_⟩
  · obtain ⟨oc, od, kV, doc, pm, an, cdv, ct, osl, e, _⟩ := F_law.ex
    rw [e]
    exact .of_eq rfl
  have mo := c.more
  unfold exs at mo
  obtain ⟨moO, mo⟩ := He.ba mo
  have O : Opp K w (He.ga K "OPPOSITES") := by
    have e : He.obsT fas dfs tbs K = He.valT dfs tbs w := c.t
    have e2 := congrArg (fun z : He.AlT => z.2) e
    have e3 : [He.dicW K (He.ga K "OPPOSITES")] = [some (He.keysIn w.params ["T", "U", "R"])] := e2
    exact opp_of (List.cons.inj e3).1 moO
  obtain ⟨mo1, mo⟩ := He.ba mo
  obtain ⟨mo2, mo⟩ := He.ba mo
  obtain ⟨mo3, mo⟩ := He.ba mo
  obtain ⟨mo4, mo⟩ := He.ba mo
  obtain ⟨mo5, mo⟩ := He.ba mo
  obtain ⟨mo6, mo⟩ := He.ba mo
  obtain ⟨mo7, mo⟩ := He.ba mo
  obtain ⟨mo8, mo⟩ := He.ba mo
  obtain ⟨mo9, mo⟩ := He.ba mo
  obtain ⟨mo10, mo⟩ := He.ba mo
  obtain ⟨mo11, mo12⟩ := He.ba mo
  have ex := He.exc_ok fa0
  have EC : Err K mg "BadText" (He.ga K "BadText") := ⟨He.glo_ok X G fa2, ex.1, ex.2.1, ex.2.2.1, ex.2.2.2, mo1, He.eqO_ok mo2, He.eqO_ok mo3, He.eqO_ok mo4, of_decide_eq_true mo5⟩
  have hsp := He.eqO_ok mo6
  have htk := of_decide_eq_true mo7
  have gR := He.glo_ok X G fa3
  have g1 := He.glo_ok X G fa4
  have g2 := He.glo_ok X G fa5
  have g3 := He.glo_ok X G fa6
  have Z : Kin K (He.ga K "BadText") (He.ga K "RopeError") (He.ga K "BadMove") (He.ga K "NoFraction") (He.ga K "NoDance") := ⟨He.exm_ok fa1, of_decide_eq_true mo8, of_decide_eq_true mo9, of_decide_eq_true mo10, of_decide_eq_true mo11, of_decide_eq_true mo12⟩
  obtain ⟨tD, gD⟩ := He.str_ok X G fa7
  obtain ⟨tM, gM⟩ := He.int_ok X G fa8
  obtain ⟨tL, gL⟩ := He.str_ok X G fa9
  have D_tape : Dfn P w K mg base "_law_tape" 1 _ (spTape K) := ⟨_, _, ok_tape F__law_tape y_len y_abs y_int, m__law_tape, F__law_tape.kp, b__law_tape⟩
  have D_take : Dfn P w K mg base "_law_take" 1 _ spTake := ⟨_, _, ok_take F__law_take y_int, m__law_take, F__law_take.kp, b__law_take⟩
  have D_dance : Dfn P w K mg base "_law_dance" 2 _ spDance := ⟨_, _, ok_dance F__law_dance D_take y_range, m__law_dance, F__law_dance.kp, b__law_dance⟩
  have D_same0 : Dfn P w K mg base "_law_same" 0 _ (spSame 0) := ⟨_, _, none_same, m__law_same, F__law_same.kp, b__law_same⟩
  have D_same1 : Dfn P w K mg base "_law_same" 1 _ (spSame 1) := ⟨_, _, ok_same F__law_same D_same0 y_isinstance y_tuple y_list y_len y_range y_str y_int y_bool, m__law_same, F__law_same.kp, b__law_same⟩
  have D_same0 : Dfn P w K mg base "_law_same" 0 _ (spSame 0) := ⟨_, _, none_same, m__law_same, F__law_same.kp, b__law_same⟩
  have D_same1 : Dfn P w K mg base "_law_same" 1 _ (spSame 1) := ⟨_, _, ok_same F__law_same D_same0 y_isinstance y_tuple y_list y_len y_range y_str y_int y_bool, m__law_same, F__law_same.kp, b__law_same⟩
  have D_same2 : Dfn P w K mg base "_law_same" 2 _ (spSame 2) := ⟨_, _, ok_same F__law_same D_same1 y_isinstance y_tuple y_list y_len y_range y_str y_int y_bool, m__law_same, F__law_same.kp, b__law_same⟩
  have D_same0 : Dfn P w K mg base "_law_same" 0 _ (spSame 0) := ⟨_, _, none_same, m__law_same, F__law_same.kp, b__law_same⟩
  have D_same1 : Dfn P w K mg base "_law_same" 1 _ (spSame 1) := ⟨_, _, ok_same F__law_same D_same0 y_isinstance y_tuple y_list y_len y_range y_str y_int y_bool, m__law_same, F__law_same.kp, b__law_same⟩
  have D_same2 : Dfn P w K mg base "_law_same" 2 _ (spSame 2) := ⟨_, _, ok_same F__law_same D_same1 y_isinstance y_tuple y_list y_len y_range y_str y_int y_bool, m__law_same, F__law_same.kp, b__law_same⟩
  have D_same3 : Dfn P w K mg base "_law_same" 3 _ (spSame 3) := ⟨_, _, ok_same F__law_same D_same2 y_isinstance y_tuple y_list y_len y_range y_str y_int y_bool, m__law_same, F__law_same.kp, b__law_same⟩
  have D__law_drawn : Dfn P w K mg base "_law_drawn" 3 _ spDrawn28 := ⟨_, _, ok__law_drawn F__law_drawn (D_take.mono (by decide)) D_dance , m__law_drawn, F__law_drawn.kp, b__law_drawn⟩
  have D__law_line : Dfn P w K mg base "_law_line" 1 _ spLine := ⟨_, _, ok__law_line F__law_line y_str y_int , m__law_line, F__law_line.kp, b__law_line⟩
  have D__law_tuple : Dfn P w K mg base "_law_tuple" 1 _ spTuple := ⟨_, _, ok__law_tuple F__law_tuple y_len y_int , m__law_tuple, F__law_tuple.kp, b__law_tuple⟩
  have D__law_spoilt : Dfn P w K mg base "_law_spoilt" 2 _ spSpoilt28 := ⟨_, _, ok__law_spoilt F__law_spoilt D_take y_len , m__law_spoilt, F__law_spoilt.kp, b__law_spoilt⟩
  have TBD : GxR.TabB base mg (He.cT K ("is_dance", none)).1 (He.cT K ("is_dance", none)).2 := by
    have t := TB (He.cT K ("is_dance", none)) (List.mem_map.mpr ⟨("is_dance", none), List.mem_cons_self .., rfl⟩)
    exact ⟨t.code, t.bm, t.gP⟩
  have codeD : fd0.code = .ref (He.cT K ("is_dance", none)).1 := by
    obtain ⟨oc, od, kV, doc, pm, an, cdv, ct, osl, e, lk, cdn⟩ := F_is_dance.ex
    obtain ⟨x, hx⟩ := He.codeIn_ref cdn
    have hc : fd0.code = .ref x := by rw [e]; exact hx
    rw [hc]
    exact congrArg Value.ref (He.codeOf_eq (p := ("is_dance", none)) lk hc).symm
  have TBC : GxR.TabB base mg (He.cT K ("is_count", none)).1 (He.cT K ("is_count", none)).2 := by
    have t := TB (He.cT K ("is_count", none)) (List.mem_map.mpr ⟨("is_count", none), List.mem_cons_of_mem _ (List.mem_cons_self ..), rfl⟩)
    exact ⟨t.code, t.bm, t.gP⟩
  have codeC : fd1.code = .ref (He.cT K ("is_count", none)).1 := by
    obtain ⟨oc, od, kV, doc, pm, an, cdv, ct, osl, e, lk, cdn⟩ := F_is_count.ex
    obtain ⟨x, hx⟩ := He.codeIn_ref cdn
    have hc : fd1.code = .ref x := by rw [e]; exact hx
    rw [hc]
    exact congrArg Value.ref (He.codeOf_eq (p := ("is_count", none)) lk hc).symm
  have D_is_dance : Dfn P w K mg base "is_dance" 1 _ (spIsDance (He.cT K ("is_dance", none)).2) := ⟨_, _, ok_is_dance F_is_dance codeD TBD O t_OPPOSITES y_all, m_is_dance, F_is_dance.kp, b_is_dance⟩
  have D_is_count : Dfn P w K mg base "is_count" 1 _ (spCount (He.cT K ("is_count", none)).2) := ⟨_, _, ok_is_count F_is_count y_len codeC TBC gM gD y_all, m_is_count, F_is_count.kp, b_is_count⟩
  have GL := ok_lettersX (P := P) (w := w) (base := base) F_letters_of  EC gL D_is_dance
  have GM := ok_moveX (P := P) (w := w) (base := base) F_move_of y_len y_int EC GL m_letters_of F_letters_of.kp b_letters_of D_is_count
  have GR := ok_readX (P := P) (w := w) (base := base) F_read_moves  GM m_move_of F_move_of.kp b_move_of
  have D_write_moves : Dfn P w K mg base "write_moves" 1 _ spWrite := ⟨_, _, ok_write_moves F_write_moves y_str gL, m_write_moves, F_write_moves.kp, b_write_moves⟩
  have D_refused : Dfn P w K mg base "_law_refused" 5 _ (spRefM ((He.cT K ("is_dance", none)).2) ((He.cT K ("is_count", none)).2)) := ⟨_, _, ok_refused F__law_refused GR m_read_moves F_read_moves.kp b_read_moves (EC.c hsp htk) EC.g gR g1 g2 g3 Z y_isinstance y_ValueError y_any, m__law_refused, F__law_refused.kp, b__law_refused⟩
  have D__law_reads : Dfn P w K mg base "_law_reads" 6 _ (spReads ((He.cT K ("is_dance", none)).2) ((He.cT K ("is_count", none)).2)) := ⟨_, _, ok__law_reads F__law_reads (D__law_tuple.mono (by decide)) D_refused (D_same3.mono (by decide)) y_list GR m_read_moves F_read_moves.kp b_read_moves, m__law_reads, F__law_reads.kp, b__law_reads⟩
  exact ok_law F_law (D_tape.mono (by decide)) (D_take.mono (by decide)) (D__law_drawn.mono (by decide)) (D__law_line.mono (by decide)) (D_write_moves.mono (by decide)) D__law_reads (D_same3.mono (by decide)) (D__law_spoilt.mono (by decide)) y_range y_list y_len
end Rope
open PySem PySem.W PySem.Calls PyProof.Rows
set_option maxRecDepth 100000 in
set_option maxHeartbeats 0 in
theorem PySem.Challenge.cw_ropedance_k28_lines_of_moves_holds : PySem.Challenge.rw_ropedance_k28_lines_of_moves.Holds := by
  w_on; o_law
  refine HandSHeadRun.head_any (r := OpenLaw.row PySem.Challenge.rw_ropedance_k28_lines_of_moves) (q := view (OpenLaw.row PySem.Challenge.rw_ropedance_k28_lines_of_moves).prog [29]) (H := Rope.hk) (ob := Rope.ob) (M := 6000) (loose := ["is_dance", "is_count", "write_moves", "read_moves", "move_of", "letters_of", "_law_tape", "_law_take", "_law_dance", "_law_same", "_law_drawn", "_law_line", "_law_tuple", "_law_spoilt", "_law_refused", "_law_reads", "OPPOSITES", "RopeError", "NoFraction", "BadMove", "BadText", "NoDance", "DIGITS", "MOST_DIGITS", "NO_LETTERS"]) (d := HandSHeadRun.topDef (OpenLaw.row PySem.Challenge.rw_ropedance_k28_lines_of_moves).prog 29) (kwd := []) Rope.ob_eq
    (by kernel_rfl) (fun s => by kernel_rfl) Rope.head_run (by kernel_rfl) (by kernel_rfl) (by kernel_rfl) (by rfl) (by first | assumption | decide +kernel) (by decide +kernel) ⟨rfl, rfl, rfl, rfl, rfl, by decide +kernel⟩ ?hw ?hc
  case hw => w_witness2
  case hc =>
    refine LamX.walk_ofTsE (l := PySem.Challenge.rw_ropedance_k28_lines_of_moves) (n := 63) (k := 7) (x := "script") (CX := fun _ => L2.CX0) rfl (by decide) (by kernel_rfl) ⟨rfl, by decide, by decide⟩ ?F (fun _ _ _ _ _ z => z)
    intro w mg fa h Y G hmg0
    obtain ⟨K, KX, c⟩ := Y
    have hmg : mg ("law" : PySem.Str) = some (.ref fa) := by
      have e : (HandSHeadRun.topDef (OpenLaw.row PySem.Challenge.rw_ropedance_k28_lines_of_moves).prog 29).name = ("law" : PySem.Str) := by kernel_rfl
      rw [← e]
      exact hmg0
    obtain ⟨fd, hb, hF⟩ := Rope.all_facts (P := (PySem.Challenge.rw_ropedance_k28_lines_of_moves).prog) (w := w) KX G hmg c
    refine ⟨K, KX, fd, Rope.tfs.map (He.cT K), Rope.spLawK K, fun p hp => ?_, fun p hp => ?_, fun p hp => ?_, hb, Rope.spLaw_from K, hF⟩
    · obtain ⟨x, hx, rfl⟩ := List.mem_map.mp hp
      exact c.empty x hx
    · obtain ⟨x, hx, rfl⟩ := List.mem_map.mp hp
      exact c.out x hx
    · obtain ⟨x, hx, rfl⟩ := List.mem_map.mp hp
      exact PySem.W.codeHd_of_K KX (c.hd x hx)
