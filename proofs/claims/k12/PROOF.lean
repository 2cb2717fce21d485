import PyProof.Rows.All
import Wide.All
import OpenK.AllK
import Wide.FinOn
import PyProof.StrBlock2
import HandS.ForMost
import HandS.Wide
import HandS.IsInst
import HandS.Exc
import HandS.ExcOwn
import HandS.ExcCtx
import HandS.ExcIs
import HandS.Hot
import HandS.WordsExc
import HandS.Gcd
import HandS.AnyAll
import HandS.Style
import HandS.More
import PyProof.GenCompT
import PyProof.WalksPairs
import HandS.SetFor
import HandS.TupLe
import HandS.Deep
import HandS.HeadHook4
import HandS.HeadEnd
import HandS.HeadWalk
import HandS.Head0
import HandS.Head1
import HandS.Head2
import HandS.Head3
import PySem.Challenge.RW_ropedance_k12_whole_readings
set_option Elab.async false
set_option linter.all false
set_option maxRecDepth 100000
set_option maxHeartbeats 4000000
namespace Rope
open PySem L2


/-! ### texts as lists of codes -/
def S (l : List Nat) : Str := ⟨l.toArray⟩
theorem S_len (l : List Nat) : (S l).length = l.length := by simp [S, Str.length]
theorem S_list (l : List Nat) : (S l).cps.toList = l := by simp [S]
theorem S_size (l : List Nat) : (S l).cps.size = l.length := by simp [S]
theorem S_get (l : List Nat) (i : Nat) : (S l).cps[i]? = l[i]? := by simp [S]
theorem S_inj {l m : List Nat} (h : S l = S m) : l = m := by
  have := congrArg (fun z : Str => z.cps.toList) h
  simpa [S] using this
theorem S_app (l m : List Nat) : S l ++ S m = S (l ++ m) := by
  show Str.append (S l) (S m) = S (l ++ m)
  simp [Str.append, S]
theorem S_mul (l : List Nat) (n : Int) : Txt.mul (S l) n = S (List.replicate n.toNat l).flatten := by
  unfold Txt.mul
  by_cases h1 : n < 1
  · rw [if_pos h1]
    have : n.toNat = 0 := by omega
    rw [this]
    rfl
  · rw [if_neg h1]
    by_cases h2 : (n == 1 || (S l).length == 0) = true
    · rw [if_pos h2]
      simp only [Bool.or_eq_true, beq_iff_eq] at h2
      rcases h2 with h2 | h2
      · subst h2
        show S l = S (List.replicate 1 l).flatten
        simp
      · rw [S_len] at h2
        have : l = [] := List.eq_nil_of_length_eq_zero h2
        subst this
        simp
    · rw [if_neg h2]
      have aux : ∀ (k : Nat) (a : Array Nat), ((List.replicate k (S l).cps).foldl (· ++ ·) a).toList = a.toList ++ (List.replicate k l).flatten := by
        intro k
        induction k with
        | zero => intro a; simp
        | succ k ih =>
          intro a
          rw [List.replicate_succ, List.foldl_cons, ih, List.replicate_succ, List.flatten_cons, Array.toList_append, List.append_assoc, S_list]
      have := aux n.toNat #[]
      unfold S
      congr 1
      apply Array.toList_inj.mp
      rw [show S l = (⟨l.toArray⟩ : Str) from rfl] at this
      rw [this]
      simp
theorem S_cut (l : List Nat) (lo hi : Option Int) : cutS (S l) lo hi = S ((l.drop (HT.sIx l.length 0 lo)).take (HT.sIx l.length l.length hi - HT.sIx l.length 0 lo)) := by
  unfold cutS
  rw [S_len, S_list]
  rfl
theorem S_take (l : List Nat) {m : Int} (h : 0 ≤ m) : cutS (S l) none (some m) = S (l.take m.toNat) := by
  obtain ⟨k, rfl⟩ := Int.eq_ofNat_of_zero_le h
  rw [S_cut, HT.sIx_none, HT.sIx_nat, List.drop_zero, Nat.sub_zero, Int.toNat_natCast]
  congr 1
  by_cases h2 : k ≤ l.length
  · rw [Nat.min_eq_left h2]
  · rw [Nat.min_eq_right (by omega), List.take_of_length_le (Nat.le_refl _), List.take_of_length_le (by omega)]
theorem S_drop (l : List Nat) {m : Int} (h : 0 ≤ m) : cutS (S l) (some m) none = S (l.drop m.toNat) := by
  obtain ⟨k, rfl⟩ := Int.eq_ofNat_of_zero_le h
  rw [S_cut, HT.sIx_none, HT.sIx_nat, Int.toNat_natCast]
  congr 1
  rw [List.take_of_length_le (by simp)]
  by_cases h2 : k ≤ l.length
  · rw [Nat.min_eq_left h2]
  · rw [Nat.min_eq_right (by omega), List.drop_length, List.drop_eq_nil_of_le (by omega)]
/-- a text times an int -/
theorem op_mul_str {X : Cx} : OpR X (binaryOp .Mult) (fun x y H Q => ∃ (l : List Nat) (n : Int), x = .str (S l) ∧ y = .int n ∧ 0 ≤ n ∧ n < 2 ^ 62 ∧ l.length * n.toNat ≤ 16777215 ∧ Q (.str (S (List.replicate n.toNat l).flatten)) H) := by
  intro pins s σ H x y v u Q I rx ry h
  obtain ⟨l, n, rfl, rfl, h0, h1, h2, q⟩ := h
  obtain ⟨t, rfl⟩ := rx
  obtain ⟨t', rfl⟩ := ry
  have e1 : decide (n < -(2 ^ 63 : Int)) = false := decide_eq_false (by omega)
  have e2 : decide (n ≥ 2 ^ 63) = false := decide_eq_false (by omega)
  refine SB.mul ⟨by rw [e1, e2]; rfl, fun z1 z2 => ?_, fun z1 z2 => ?_⟩ fun t' k => ⟨.str _, H, I.tok _, ⟨_, rfl⟩, by rw [S_mul]; exact q⟩
  · rw [S_len]
    have h3 : (l.length : Int) * n ≤ 16777215 := by
      have : ((l.length * n.toNat : Nat) : Int) ≤ 16777215 := Int.ofNat_le.mpr h2
      rw [Int.natCast_mul, Int.toNat_of_nonneg h0] at this
      exact this
    have hn : 0 < n := by omega
    intro hc
    have hc' : (2 ^ 63 - 1) / n < (l.length : Int) := hc
    have := (Int.ediv_lt_iff_lt_mul hn).mp hc'
    omega
  · rw [S_len]
    unfold Builtin.Str.tooLong
    rw [sizeLine_eq]
    exact decide_eq_false (by omega)
/-! ### the calls: a fraction by a letter -/
def called (v : Int × Int) (c : Nat) : Int × Int :=
  if c = 84 then (v.1 + v.2, v.2) else if c = 85 then (v.1 - v.2, v.2) else if 0 < v.1 then (0 - v.2, v.1) else if v.1 < 0 then (v.2, 0 - v.1) else (1, 0)
def run (v : Int × Int) (l : List Nat) : Int × Int := l.foldl called v
theorem run_nil (v : Int × Int) : run v [] = v := rfl
theorem run_app (v : Int × Int) (l m : List Nat) : run v (l ++ m) = run (run v l) m := List.foldl_append
theorem run_take {l : List Nat} {i c : Nat} (v : Int × Int) (h : l[i]? = some c) : run v (l.take (i + 1)) = called (run v (l.take i)) c := by
  rw [List.take_add_one, h, run_app]
  rfl
/-- what a fraction of the laws keeps: q positive or infinite, no common divisor -/
def Good (v : Int × Int) : Prop := (0 < v.2 ∨ v = (1, 0)) ∧ Int.gcd v.1 v.2 = 1
theorem Good.zero : Good (0, 1) := ⟨.inl (by decide), by decide⟩
theorem gcd_add' (p q : Int) : Int.gcd (p + q) q = Int.gcd p q := by
  have := Int.gcd_add_mul_right_left p q 1
  simpa using this
theorem Good.called {v : Int × Int} (h : Good v) (c : Nat) : Good (called v c) := by
  obtain ⟨p, q⟩ := v
  obtain ⟨h1, h2⟩ := h
  simp only at h1 h2
  unfold Rope.called
  by_cases c1 : c = 84
  · rw [if_pos c1]
    refine ⟨?_, ?_⟩
    · rcases h1 with h1 | h1
      · exact .inl h1
      · cases h1; exact .inr rfl
    · show Int.gcd (p + q) q = 1
      rw [gcd_add']; exact h2
  rw [if_neg c1]
  by_cases c2 : c = 85
  · rw [if_pos c2]
    refine ⟨?_, ?_⟩
    · rcases h1 with h1 | h1
      · exact .inl h1
      · cases h1; exact .inr rfl
    · show Int.gcd (p - q) q = 1
      have := gcd_add' (p - q) q
      rw [Int.sub_add_cancel] at this
      rw [← this]; exact h2
  rw [if_neg c2]
  by_cases c3 : 0 < p
  · rw [if_pos (show 0 < (p, q).1 from c3)]
    refine ⟨.inl c3, ?_⟩
    show Int.gcd (0 - q) p = 1
    rw [Int.zero_sub, Int.neg_gcd, Int.gcd_comm]; exact h2
  rw [if_neg (show ¬ 0 < (p, q).1 from c3)]
  by_cases c4 : p < 0
  · rw [if_pos (show (p, q).1 < 0 from c4)]
    refine ⟨.inl (by show 0 < 0 - p; omega), ?_⟩
    show Int.gcd q (0 - p) = 1
    rw [Int.zero_sub, Int.gcd_neg, Int.gcd_comm]; exact h2
  rw [if_neg (show ¬ (p, q).1 < 0 from c4)]
  exact ⟨.inr rfl, by decide⟩
theorem good_run : ∀ (l : List Nat) {v : Int × Int}, Good v → Good (run v l)
  | [], _, h => h
  | c :: r, _, h => good_run r (h.called c)
/-- its size grows by a bit a letter -/
theorem called_size {v : Int × Int} {n : Nat} (h1 : v.1.natAbs ≤ n) (h2 : v.2.natAbs ≤ n) (h0 : 1 ≤ n) (c : Nat) : (called v c).1.natAbs ≤ 2 * n ∧ (called v c).2.natAbs ≤ 2 * n := by
  unfold called
  repeat' split
  all_goals simp only
  all_goals omega
theorem run_size : ∀ (l : List Nat) {v : Int × Int} {n : Nat}, v.1.natAbs ≤ n → v.2.natAbs ≤ n → 1 ≤ n → (run v l).1.natAbs ≤ 2 ^ l.length * n ∧ (run v l).2.natAbs ≤ 2 ^ l.length * n
  | [], v, n, h1, h2, _ => by simpa [run] using ⟨h1, h2⟩
  | c :: r, v, n, h1, h2, h0 => by
    have q := called_size h1 h2 h0 c
    have ih := run_size r q.1 q.2 (by omega)
    have e : 2 ^ (c :: r).length * n = 2 ^ r.length * (2 * n) := by
      rw [List.length_cons, Nat.pow_succ, Nat.mul_assoc]
    rw [e]
    exact ih
/-! ### the divisor -/
theorem gcd_step (x y : Int) : Nat.gcd y.natAbs (x.fmod y).natAbs = Nat.gcd x.natAbs y.natAbs := by
  show Int.gcd y (x.fmod y) = Int.gcd x y
  have e : x.fmod y = x + y * (-(x.fdiv y)) := by
    have := Int.fmod_def x y
    rw [this, Int.mul_neg]
    rfl
  rw [e, Int.gcd_add_mul_left_right, Int.gcd_comm]
theorem fmod_less {x y : Int} (h : y ≠ 0) : (x.fmod y).natAbs < y.natAbs := by
  by_cases h0 : 0 < y
  · rw [Int.fmod_eq_emod_of_nonneg x (by omega)]
    have h1 := Int.emod_nonneg x h
    have h2 := Int.emod_lt_of_pos x h0
    omega
  · have e : x.fmod y = -((-x).fmod (-y)) := by
      have := Int.neg_fmod_neg (a := x) (b := y)
      omega
    rw [e, Int.fmod_eq_emod_of_nonneg _ (by omega)]
    have h1 := Int.emod_nonneg (-x) (b := -y) (by omega)
    have h2 := Int.emod_lt_of_pos (-x) (b := -y) (by omega)
    omega
/-- for letter in text -/
theorem for_str {l : List Nat} {g : TG} {tb : TS} {D : Ends} {σ : L2.St} {H : Hp} (Pv : Nat → L2.St → Hp → Prop) (h0 : Pv 0 σ H)
    (hs : ∀ i c σ H, l[i]? = some c → Pv i σ H → g (.str (S [c])) σ H fun σ2 H2 => tb { D with nx := Pv (i + 1), ct := Pv (i + 1), bk := D.nx } σ2 H2) (hd : ∀ σ H, Pv l.length σ H → D.nx σ H) :
    ∃ W : Nat → Nat → L2.St → Hp → Prop, (∃ m, W 0 m σ H) ∧ ∀ i m σ H, W i m σ H →
      ((Its (S l)).stop i H ∧ D.nx σ H) ∨ ((Its (S l)).go i H ∧ ∃ N : L2.St → Hp → Prop, (∀ σ' H', N σ' H' → ∃ m', m' < m ∧ W (i + 1) m' σ' H') ∧ ∀ x H', (Its (S l)).yld i H x H' → g x σ H' fun σ2 H2 => tb { D with nx := N, ct := N, bk := D.nx } σ2 H2) := by
  refine ⟨fun i m σ H => m = l.length - i ∧ i ≤ l.length ∧ Pv i σ H, ⟨l.length, by simp, Nat.zero_le _, h0⟩, ?_⟩
  rintro i m σ H ⟨rfl, hi, p⟩
  by_cases hlt : i < l.length
  · refine .inr ⟨by show i < (S l).cps.size; rw [S_size]; exact hlt, Pv (i + 1), fun σ' H' p' => ⟨l.length - (i + 1), by omega, rfl, hlt, p'⟩, fun x H' y => ?_⟩
    obtain ⟨e, c, hc, rfl⟩ := y
    subst e
    rw [S_get] at hc
    exact hs i c σ _ hc p
  · have e : i = l.length := by omega
    subst e
    exact .inl ⟨by show (S l).cps.size ≤ l.length; rw [S_size]; exact Nat.le_refl _, hd σ H p⟩

section
open PySem.F HotX
variable {prog : Program} {w : World} {A : Around} {E : Value → Shared → Prop} {s : Shared}
/-- the end of a list's walk while an exception is handled -/
theorem list_end_hot {it l x1 : Addr} {i : Nat} {items : Array Value} {Q : Option Value → Shared → Prop} (hot : HotAt A x1 s.heap) (hne : x1 ≠ it)
    (hit : s.heap.IsListIter it l i) (hl : s.heap.IsList l items) (hx : items[i]? = none)
    (hQ : ∀ h', Heap.ExtBut it s.heap h' → Q none { s with heap := h' }) : wpAny (model prog w) A (pyNext (.ref it)) Q E s := by
  obtain ⟨io, iAt, _, iDat⟩ := id hit
  obtain ⟨lo, lAt, _, ln, lDat⟩ := hl
  obtain ⟨he, xo, xv, xAt, xDat, xCtx⟩ := hot
  have typ := hit.typeIs
  unfold pyNext
  refine wpAny_bind (wpAny_attempt (wpAny_callSpecial?_slot (name := Str.ofString "__next__") typ slot_listiter_next (wpAny_call_entry slot_listiter_next typ entry_listiter_next ?body (args_listiter_next _))))
  -- the list, the place, the items: nothing is left
  show wpAny _ _ (field (.ref it) 0 >>= _) _ _ s; refine wpAny_bind (wpAny_field iAt iDat (x := .ref l) rfl ?_)
  show wpAny _ _ (if (Value.ref l == Value.none) = true then _ else _) _ _ s; rw [if_neg (show ¬ ((Value.ref l == Value.none) = true) from Bool.false_ne_true)]
  show wpAny _ _ (field (.ref it) 1 >>= _) _ _ s; refine wpAny_bind (wpAny_field iAt iDat (x := .int i 0) rfl ?_)
  show wpAny _ _ (seqItems? (.ref l) >>= _) _ _ s; refine wpAny_bind (wpAny_seqItems lAt lDat ?_); simp only [Int.toNat_natCast, hx]
  refine wpAny_bind (wpAny_rule (wpAny_bind (wpAny_setField iAt iDat (by simp) ?stop)))
  -- StopIteration is made and raised on top of the one that is handled
  show wpAny _ _ (newExc (.type "StopIteration") [] >>= _) _ _ _; refine wpAny_bind ?_; simp only [newExc, newTuple]
  refine wpAny_bind (wpAny_newObj_type (wpAny_bind (m := firstArgMember _ _) (wpAny_of_eq (a := Value.none) (by first | rfl | (simp only [firstArgMember]; rfl)) (wpAny_newObj_type ?_ (by size_fits)))) (by size_fits))
  have kept := (Heap.get?_update_other s.heap (Obj.mapFields (·.setIfInBounds 0 .none)) hne.symm).trans xAt
  have far := Heap.lt_size (Heap.get?_push_of_some { cls := .type "tuple", data := .seq #[] } kept)
  refine raiseNew_hot ⟨he, xo, xv, Heap.get?_push_of_some _ (Heap.get?_push_of_some _ kept), xDat, xCtx⟩ (Nat.ne_of_lt far) (Heap.get?_push_size _ rfl) rfl (by first | (simp; done) | (simp; omega) | (simp only [Array.size_append]; simp; omega)) ?_
  refine wpAny_bind (wpAny_isInstance (T := "StopIteration") (b := true) ⟨_, Heap.get?_update_self _ (Heap.get?_push_size _ rfl) rfl, rfl⟩ isSubtype_stop (wpAny_pure (hQ _ fun c u hc e => ?_)))
  have e2 := (Heap.SameBut.update s.heap it (Obj.mapFields (·.setIfInBounds 0 .none))).extBut c u hc e
  have e3 := Heap.get?_push_of_some { cls := .type "tuple", data := .seq #[] } e2
  exact (Heap.get?_update_other _ _ (Nat.ne_of_gt (Heap.lt_size e3))).trans (Heap.get?_push_of_some _ e3)
end
/-- a list walked while an exception is handled -/
theorem walks_list_hot {prog : Program} {w : World} {A : Around} {x1 : Addr} {o1 : Obj} {vs1 : Array Value} (hh : A.handled = some (.ref x1)) (d1 : o1.data = .fields vs1) (c1 : vs1[2]? = some .none) (I ax : Addr) (hne : ax ≠ I) (h1I : x1 ≠ I) (items : Array Value) :
    Walks prog w A I [I, ax, x1] [I] items.size (fun i v => items[i]? = some v) (fun i h => h.IsListIter I ax i ∧ h.IsList ax items ∧ h.get? x1 = some o1) where
  sub := fun b hb => by simp at hb; simp [hb]
  frame := fun _ _ _ st hk => ⟨st.1.at fun o e => hk I (by simp) o e, st.2.1.at fun o e => hk ax (by simp) o e, hk x1 (by simp) _ st.2.2⟩
  item := fun i s Q E hi st hQ => by
    exact wpAny_pyNext_list_item st.1 st.2.1 (x := items[i]) (by simp [hi]) fun h' hit' hs' => hQ _ h' s.toks (by simp [hi]) ⟨hit', st.2.1.extBut hs'.extBut hne, hs'.extBut x1 _ h1I st.2.2⟩ fun b o hb e => hs'.extBut b o (fun h => hb (by simp [h])) e
  done := fun s Q E st hQ => list_end_hot ⟨hh, o1, vs1, st.2.2, d1, c1⟩ h1I st.1 st.2.1 (by simp) fun h' he' => hQ h' s.toks fun b o hb e => he' b o (fun h => hb (by simp [h])) e
  self := fun _ _ _ _ st hQ => wpAny_pyIter_listiter st.1 hQ
section
variable {X : Cx} {a : Addr} {oe : Obj} {cls : Value} {d : Option Addr} {pn : List (Addr × Obj)}
/-- any(list of bools) within an except suite -/
theorem any_hot (hz : L2N.Zn cls d oe) (hf : ∃ vs, oe.data = .fields vs) : CallR (X.suite a ((a, oe) :: pn)) (.builtin "any") (rAny X.K) := fun pins s σ H vs us Q I r ⟨b, bs, ev, hs, q⟩ => by
  subst ev
  obtain ⟨its, rv, hl, _⟩ := Inv.list I hs
  obtain ⟨fv, hd⟩ := hf
  have here := (I.pin (a, oe) (List.mem_append_left _ List.mem_cons_self)).1
  have lt := Heap.lt_size here
  rw [Vals.ref1 r]
  have items := rv.bls
  refine call_any_walk (iter_any hl.isList fun z ez st ne => ?_); subst ez
  refine ⟨_, _, _, _, _, _, _, rfl, walks_list_hot (A := (X.suite a ((a, oe) :: pn)).A.in1) (x1 := a) (o1 := oe) rfl hd (hz.2.2 fv hd) _ b ne (Nat.ne_of_lt lt) its.toArray, ⟨st.1, st.2, Heap.get?_push_of_some _ here⟩, truth_bools items, fun h' tk hk => ?_⟩
  have all : ∀ c u, s.heap.get? c = some u → h'.get? c = some u := fun c u e => hk c u (fun m => by
    rw [List.mem_singleton.mp m] at e
    exact Nat.lt_irrefl _ (Heap.lt_size e)) (Heap.get?_push_of_some _ e)
  refine ⟨.bl (bs.any id), H, I.kept all, ?_, q⟩
  show Value.bool ((List.range its.toArray.size).any fun i => bs.getD i false) = .bool (bs.any id)
  rw [← any_range, items, List.size_toArray, List.length_map]
/-- isinstance(e, c) of the error that the suite holds -/
def rIsF (K : PySem.W.Frag) (D a : Addr) (cls : Value) (d : Option Addr) : List V → Hp → VK → Prop := fun xs H Q => cls = .ref D ∧ d = none ∧ rIsE K D a xs H Q
theorem call_isF {D : Addr} (C : ExcC X.K D) (hz : L2N.Zn cls d oe) (hf : ∃ vs, oe.data = .fields vs) : CallR (X.suite a ((a, oe) :: pn)) (.builtin "isinstance") (rIsF X.K D a cls d) := by
  intro pins s σ H xs us Q I r h
  obtain ⟨rfl, rfl, h⟩ := h
  exact call_isE C hz.zc hf pins s σ H xs us Q I r h
end
theorem takes0N {X : Cx} : L2N.Takes X (fun _ _ _ _ => False) := fun _ _ ⟨_, _, _, _, _, _, _, _, _, _, _, _, _, _, _, _, no⟩ => False.elim no
theorem okX {P : Program} {w : World} {K : PySem.W.Frag} {mg : Str → Option Value} {base : Heap} {x qual : Str} {st : Stmt} {f : Addr} {fd : FuncData} {N ps : List Str} {k : Nat} {sp : Sp} (F : Fun K x qual st f fd) (S : FnScope N ps (defScope st)) (len : ∀ vs H Q E, sp vs H Q E → vs.length = ps.length)
    (hbody : ∀ (cdv : Value) (A : Around) (outer : List Env) (s : Shared) (H : Hp) (vs : List V) (Q : VK) (E : XK), Room k (A.deeper (PyProof.Rows.envOfC qual (defScope st) s.heap.objs.size f cdv)) → sp vs H Q E →
      ∃ t, PSs (cxOf (L2N.CX P w) P w K mg base N qual (defScope st) f cdv A outer s H E) (defBody st) t ∧ t { nx := fun _ H' => Q .non H', rt := Q } (start N vs) H) : FnOk P w K mg base (L2N.CX P w) (k + 1) f fd ps sp := by
  obtain ⟨_, _, _, _, _, _, cdv, _, _, rfl, lk, hcd⟩ := F.ex
  exact fn_of lk hcd S len (hbody cdv)
/-! ### an error class of the program -/
structure Err (K : PySem.W.Frag) (mg : Str → Option Value) (x : Str) (C : Addr) : Prop where
  g : mg x = some (.ref C)
  x : PySem.W.excIn K C [.type "ValueError", .type "Exception", .type "BaseException", .type "object"] "ValueError.__new__" = true
  k : PySem.W.keepIn K (.ref C) = true
  b : PySem.W.subIn K (.ref C) (.type "BaseException") = some true
  t : PySem.W.typeIn K (.ref C) = some (.type "type")
  hd : PySem.W.hasDictIn K C = true
  hg : PySem.W.findIn K (.ref C) "__getattribute__" = some (some (.builtin "BaseException.__getattribute__"))
  hk : PySem.W.findIn K (.ref C) "__getattr__" = some none
  ha : PySem.W.findIn K (.ref C) "__class__" = some (some (.builtin "object.__class__"))
  hm : PySem.W.mroIn K C (.type "object") = some true
theorem Err.c {K : PySem.W.Frag} {mg : Str → Option Value} {x : Str} {C : Addr} (e : Err K mg x C) (hn : PySem.W.specialIn K (.builtin "object.__class__") "__get__" = some (some (.builtin "getset_descriptor.__get__"))) (ht : PySem.W.takesIn K (.builtin "object.__class__") = some true) : ExcC K C :=
  ⟨e.hg, e.hk, e.b, e.hd, e.ha, hn, ht, e.hm⟩
/-- // of great ints, of any sign -/
theorem op_fdivWN {X : Cx} : OpR X (binaryOp .FloorDiv) (rI (fun _ j => j ≠ 0 ∧ j.natAbs.log2 < 9000) fun i j => .int (i.fdiv j)) := opI fun i j _ _ _ _ _ hc q =>
  PyProof.Rows.floordiv_int hc.1 q (.inl (PyProof.noPylong_of_log2 hc.2))

/-! ### text[::-1] -/
theorem rev_pick (l : List Nat) (t : Tok) (a : Tok) : sliceMade (S l) t none none (some (-1, a)) = Made.str (S l.reverse) := by
  have hs : slicePicked (S l) none none (some (-1, a)) = (List.range l.length).reverse := by
    show sliceRange (((S l).length : Int) - 1) (-1) (-1) = _
    rw [S_len, PySem.W.krv_sliceRange, PySem.W.krv_range]
  have hf : ((List.range l.length).reverse.filterMap ((S l).cps[·]?)) = l.reverse := by
    rw [List.filterMap_reverse]
    congr 1
    have : ∀ m : List Nat, (List.range m.length).filterMap (fun i => m[i]?) = m := fun m => by
      induction m with
      | nil => rfl
      | cons c r ih =>
        rw [List.length_cons, List.range_succ_eq_map, List.filterMap_cons, List.filterMap_map]
        show c :: (List.range r.length).filterMap (fun i => r[i]?) = c :: r
        rw [ih]
    have h2 : (fun i => (S l).cps[i]?) = fun i => l[i]? := funext fun i => S_get l i
    rw [h2]
    exact this l
  unfold sliceMade
  rw [hs, hf]
  rfl
def tRevS (te : TE) : TE := fun σ H Q => te σ H fun x H1 => ∃ l : List Nat, x = .str (S l) ∧ l.length ≤ 16777216 ∧ Q (.str (S l.reverse)) H1
theorem pe_revS {X : Cx} {e : Expr} {te : TE} {k : Nat} {p1 p2 p3 pos : Pos} (he : PE X e te) : PE X (.Subscript e (.Slice none none (some (.UnaryOp .USub (.Constant (.int 1) k p1) p2)) p3) pos) (tRevS te) := by
  constructor
  intro pins s σ H Q I hyp
  apply PyProof.Rows.Subscript_
  refine thn (he.run pins s σ H _ I hyp) fun v s1 ⟨x, H1, I1, r1, l, ex, hl, q⟩ => ?_
  subst ex
  obtain ⟨tk, rfl⟩ := r1
  have minus : PO X (some (.UnaryOp .USub (.Constant (.int 1) k p1) p2)) (tPart (tUn (rU fun i => .int (-i)) (tC (.int 1)))) := po_some (pe_un un_neg pe_int)
  apply wpAny_Slice
  refine thn (po_none.run pins s1 σ H1 (fun o G => o = none ∧ G = H1) I1 ⟨rfl, rfl⟩) fun v1 s2 ⟨o1, G1, J1, a1, b1, c1⟩ => ?_
  subst b1; subst c1
  refine thn (po_none.run pins s2 σ G1 (fun o G => o = none ∧ G = G1) J1 ⟨rfl, rfl⟩) fun v2 s3 ⟨o2, G2, J2, a2, b2, c2⟩ => ?_
  subst b2; subst c2
  refine thn (minus.run pins s3 σ G2 (fun o G => o = some (-1) ∧ G = G2) J2 ⟨1, rfl, -1, rfl, rfl, rfl⟩) fun v3 s4 ⟨o3, G3, J3, a3, b3, c3⟩ => ?_
  subst b3; subst c3
  obtain ⟨y1, rfl, g1⟩ := IsPart.raw a1
  obtain ⟨y2, rfl, g2⟩ := IsPart.raw a2
  obtain ⟨y3, rfl, g3⟩ := IsPart.raw a3
  cases y1 with
  | some z => cases g1
  | none =>
  cases y2 with
  | some z => cases g2
  | none =>
  cases y3 with
  | none => cases g3
  | some z =>
  obtain ⟨z1, z2⟩ := z
  have ez : z1 = -1 := Option.some.inj g3
  subst ez
  show wpAny (model X.prog X.w) X.A (PyProof.Rows.subscriptTail e (.Slice none none (some (.UnaryOp .USub (.Constant (.int 1) k p1) p2)) p3) (.str (S l) tk) (.ref s4.heap.objs.size)) (EP X pins σ Q) X.xe { s4 with heap := s4.heap.push { cls := .type "slice", data := .fields #[partValue none, partValue none, partValue (some (-1, z2))] } }
  refine PyProof.Rows.tail_any (ops := [.str (S l) tk, .ref s4.heap.objs.size]) (typeIs_str _ _ _) PySem.F.slot_str_getitem.lookup ?_ (by with_unfolding_all rfl)
  refine wpAny_getItem_str_slice (l := none) (u := none) (st := some (-1, z2)) ⟨_, Heap.get?_push_size _ rfl, rfl, rfl⟩ (by rfl) ?_
  rw [rev_pick]
  exact ⟨by rw [S_len, List.length_reverse, sizeLine_eq]; exact hl, .str _, _, J3.kept (t' := s4.toks + 1) fun b ob w => Heap.get?_push_of_some _ w, ⟨_, rfl⟩, q⟩
/-! ### all(test for x in text), where the test may read what the top has written -/
section
open GxR
variable {X : Cx} {pins : List (Addr × Obj)} {σ : L2.St} {H : Hp} {s : Shared}
def EltG (X : Cx) (scope : Scope) (x : Str) (elt : Expr) (pb : Nat → Bool) : Prop :=
  ∀ (cenv : Env) (A' : Around) (E' : Value → Shared → Prop) (c : Nat) (t : Tok) (z : Shared) (m : Str → Option Value), X.Ok → cenv.scope = scope → cenv.globals = X.env.globals → (∀ b o, X.base.get? b = some o → z.heap.get? b = some o) →
    z.heap.Ns cenv.locals m → m x = some (.str ⟨#[c]⟩ t) → wpAny (model X.prog X.w) A' (eval elt cenv) (fun y z' => y = .bool (pb c) ∧ Keeps z z') E' z
theorem tbl_not {H : Hp} {P : Addr} {ps : Array Value} (hP : H P = some (.tbl ps)) {b : Addr} (h : H b = none) : b ≠ P := fun z => by rw [z, hP] at h; cases h
theorem gen_go {c P : Addr} {elt : Expr} {x : Str} {scope : Scope} {pb : Nat → Bool} {k : Nat} {Q' : Value → Shared → Prop} {a : Str} {o : Obj} {St : Nat → Heap → Prop} {ps : Array Value}
    (hr : Room k X.A) (TB : TabB X.base X.mg c P) (sc : GenS X.env scope x) (hel : EltG X scope x elt pb) (J : L2.Inv X pins σ H s) (hP : H P = some (.tbl ps)) (atP : s.heap.get? P = some { cls := .none, data := .fields ps }) (ltP : P < s.heap.objs.size)
    (W : ∀ A' : Around, A'.handled = none → Walks X.prog X.w A' s.heap.objs.size [s.heap.objs.size] [s.heap.objs.size] a.cps.size (SignAt a) St) (st0 : St 0 (s.heap.push o)) (code : Value) (h3 : Heap) (tk : Nat) (ps' more : Array Value) (em : ps' = ps ++ more)
    (hx : Heap.ExtBut P (s.heap.push o) h3) (hsz : (s.heap.push o).objs.size ≤ h3.objs.size) (h3P : h3.get? P = some { cls := .none, data := .fields ps' }) (ok' : TriplesOk ps'.toList) (lim : (s.heap.push o).NoLimit) (hQ : ∀ g z, Ready X pins σ H P a pb g z → Q' (.ref g) z) :
    wpAny (model X.prog X.w) X.A (builtinsFor X.env.globals X.env.builtins) (fun bi s₄ =>
      ∃ Ia fp wr n₀ Pf St₀ pz F, Value.ref s.heap.objs.size = .ref Ia ∧ (∀ A' : Around, A'.handled = none → Walks X.prog X.w A' Ia fp wr n₀ Pf St₀) ∧ St₀ 0 s₄.heap ∧ (∀ b ∈ fp, b < s₄.heap.objs.size) ∧ s₄.heap.NoLimit ∧ cStatics ∉ wr ∧
        (∀ href : Heap, (∀ b u, s₄.heap.get? b = some u → href.get? b = some u) → QuietGen X.prog X.w (genEnv scope (cloFrom X.env.cells scope.names []) s₄.heap.objs.size code bi X.env) x [] elt (List.range s₄.heap.objs.size) wr Pf pz F href) ∧
        (∀ g h₅ tk gs, gs.bare = true → s₄.heap.objs.size < g → h₅.objs.size = g + 1 → (∀ b u, s₄.heap.get? b = some u → h₅.get? b = some u) →
          WalksS X.prog X.w X.A.in4 g (g :: s₄.heap.objs.size :: List.range s₄.heap.objs.size) (s₄.heap.objs.size :: wr) (GenOnlyQ s₄.gens.size) (passing pz n₀ 0).length (fun j y => ∃ i, (passing pz n₀ 0)[j]? = some i ∧ F i y) (GenAt X.prog X.w X.A.in4 g s₄.gens.size s₄.heap.objs.size (List.range s₄.heap.objs.size) wr pz n₀ F) →
          GenAt X.prog X.w X.A.in4 g s₄.gens.size s₄.heap.objs.size (List.range s₄.heap.objs.size) wr pz n₀ F 0 { s₄ with gens := s₄.gens.push gs, toks := tk, heap := h₅ } → Q' (.ref g) { s₄ with gens := s₄.gens.push gs, toks := tk, heap := h₅ })) X.xe { s with heap := h3, toks := tk } := by
  obtain ⟨bm, ob, q1, q2, q3, q4, q5, q6, q7, q8⟩ := TB.bm
  obtain ⟨cm, cns, cnn⟩ := J.nolimit
  have cP : cStatics ≠ P := fun z => by
    obtain ⟨o2, es, ep, g1, g2, _⟩ := cns
    rw [z, atP] at g1
    cases g1
    cases g2
  have cL : cStatics < s.heap.objs.size := cns.lt
  have big : (s.heap.push o).objs.size = s.heap.objs.size + 1 := Heap.size_push ..
  have kept : ∀ b u, b ≠ P → s.heap.get? b = some u → h3.get? b = some u := fun b u n e => hx b u n (Heap.get?_push_of_some _ e)
  have bases : ∀ b u, X.base.get? b = some u → h3.get? b = some u := fun b u e => kept b u (tbl_not hP (J.bs b u e).2) (J.bk b u e)
  refine wpAny_builtinsFor (m := X.mg) (by rw [J.ok.glob]; exact J.mod.glob.keeps bases) q1 q2 (bases _ _ q5) q6 q7 q8 ?_
  refine ⟨s.heap.objs.size, [s.heap.objs.size], [s.heap.objs.size], a.cps.size, SignAt a, St, fun _ => true, fun i y => ∃ cc, a.cps[i]? = some cc ∧ y = .bool (pb cc), rfl, W, ?_, ?_, lim.extBut hx cP, ?_, ?_, ?_⟩
  · refine (W X.A hr.hd).frame _ _ _ st0 fun b hb u e => hx b u ?_ e
    rw [List.mem_singleton.mp hb]
    exact Nat.ne_of_gt ltP
  · intro b hb
    rw [List.mem_singleton.mp hb]
    exact Nat.lt_of_lt_of_le (by rw [big]; exact Nat.lt_succ_self _) hsz
  · rw [List.mem_singleton]
    exact Nat.ne_of_lt cL
  · intro href hh
    refine ⟨fun A' E' i v s₂ m₂ _ _ _ _ _ => ?_, fun A' E' i v s₂ m₂ _ hv _ hn hm hk => ?_⟩
    · rw [List.forIn_nil]
      exact wpAny_pure ⟨rfl, keeps_refl s₂⟩
    · obtain ⟨cc, u, hcc, rfl⟩ := hv
      refine wpAny_mono (hel _ A' E' cc u s₂ m₂ J.ok rfl rfl (fun b w e => ?_) hn hm) (fun y z r => ⟨⟨cc, hcc, r.1⟩, r.2⟩) fun _ _ e => e
      have lb := Heap.lt_size (J.bk b w e)
      exact hk b (List.mem_range.mpr (Nat.lt_of_lt_of_le (Nat.lt_of_lt_of_le lb (by rw [big]; exact Nat.le_succ _)) hsz)) (by rw [List.mem_singleton]; exact Nat.ne_of_lt lb) w (hh b w (bases b w e))
  · intro g h5 tk5 gs bare _ _ _ W5 at5
    have W6 := W5
    simp only [GxR.passing_true, List.length_range] at W6
    refine hQ g _ ⟨_, _, _, _, _, W6.in4_1, at5, fun j y sj Qj Ej hy hq => ?_, fun z mv => ?_⟩
    · obtain ⟨i, hi, cc, hcc, rfl⟩ := hy
      obtain ⟨_, ei⟩ := List.getElem?_eq_some_iff.mp hi
      rw [List.getElem_range] at ei
      subst ei
      have hq' : Qj (trF pb a.cps.toList j) sj := hq
      rw [trF_some (show a.cps.toList[j]? = some cc by rw [Array.getElem?_toList]; exact hcc)] at hq'
      exact wpAny_truthy_bool hq'
    · have off : ∀ b u, s.heap.get? b = some u → b ∉ h3.objs.size :: [s.heap.objs.size] := fun b u e hb => by
        have l1 := Heap.lt_size e
        have l2 : s.heap.objs.size < h3.objs.size := Nat.lt_of_lt_of_le (by rw [big]; exact Nat.lt_succ_self _) hsz
        rcases List.mem_cons.mp hb with r | r
        · rw [r] at l1; exact absurd (Nat.lt_trans l1 l2) (Nat.lt_irrefl _)
        · rw [List.mem_singleton.mp r] at l1; exact absurd l1 (Nat.lt_irrefl _)
      have five : ∀ b u, h3.get? b = some u → h5.get? b = some u := by assumption
      have L := inv_tab (more := more) (h' := z.heap) (g' := z.gens) (d' := z.drawn) (t' := z.toks) J hP (fun b u n e => mv.heap b u (off b u e) (five b u (kept b u n e))) (by rw [← em]; exact mv.heap P _ (off P _ atP) (five P _ h3P)) (PyProof.Rows.AllBare.movedS (J.bare.push bare) mv)
      rw [sh_eta s z mv.os] at L
      exact ⟨upd H P (.tbl (ps ++ more)), ⟨⟨ps ++ more, upd_same, by rw [← em]; exact ok'⟩, fun b n => upd_ne n⟩, L⟩
theorem gen_signs {c P : Addr} {elt iter : Expr} {x : Str} {px gpos : Pos} {scope : Scope} {pb : Nat → Bool} {te : TE} {k : Nat} {Q' : Value → Shared → Prop} {R : Str → Hp → Prop}
    (hr : Room k X.A) (TB : TabB X.base X.mg c P) (hcode : X.env.code = .ref c) (sc : GenS X.env scope x) (hi : PE X iter te) (hel : EltG X scope x elt pb) (hs : ∀ v, genFold iter X.env v = pure v)
    (I : L2.Inv X pins σ H s) (h : te σ H fun v G => ∃ a : Str, v = .str a ∧ TabG G P ∧ R a G) (hQ : ∀ a G g z, R a G → Ready X pins σ G P a pb g z → Q' (.ref g) z) :
    wpAny (model X.prog X.w) X.A (eval (.GeneratorExp elt [⟨.Name x px, iter, [], 0⟩] scope gpos) X.env) Q' X.xe s := by
  have room : X.A.depth < recursionLimit := by have := hr.dp; omega
  refine wpAny_GeneratorExp_walksQ hr.hd sc.co (closure_ok sc.free) sc.cell sc.dot sc.loc sc.kind room (thn (hi.run pins s σ H _ I h) fun u s1 ⟨v, G, J, rv, a, ev, ⟨ps, hP, ok⟩, hR⟩ => ?_) hs
  subst ev
  obtain ⟨t, rfl⟩ := id rv
  refine wpAny_pyIter_str fun o St W st0 => ?_
  -- the table, the sizes, what is kept
  have atP : s1.heap.get? P = some { cls := .none, data := .fields ps } := J.hok P _ hP
  have ltP : P < s1.heap.objs.size := Heap.lt_size atP
  have atP' : (s1.heap.push o).get? P = some { cls := .none, data := .fields ps } := Heap.get?_push_of_some _ atP
  have cd : PySem.W.CodeHd (s1.heap.push o) c P := TB.code.keeps fun b w e => Heap.get?_push_of_some _ (J.bk b w e)
  have lim : (s1.heap.push o).NoLimit := J.nolimit.push o
  have next : ∀ (code : Value) (h3 : Heap) (tk : Nat) (ps' more : Array Value), ps' = ps ++ more → Heap.ExtBut P (s1.heap.push o) h3 → (s1.heap.push o).objs.size ≤ h3.objs.size → h3.get? P = some { cls := .none, data := .fields ps' } → TriplesOk ps'.toList → _ :=
    fun code h3 tk ps' more em hx hsz h3P ok' => gen_go (elt := elt) hr TB sc hel J hP atP ltP W st0 code h3 tk ps' more em hx hsz h3P ok' lim fun g z rd => hQ a G g z hR rd
  refine ⟨lim, ?_⟩
  cases hf : codeAmong gpos ps.toList with
  | some cv => exact wpAny_genexprCode_hit hcode (cd.code atP' ok) hf (next cv (s1.heap.push o) s1.toks ps #[] (by simp) (Heap.ExtBut.refl _ _) (Nat.le_refl _) atP' ok)
  | none =>
    refine wpAny_genexprCodeX hcode (cd.code atP' ok) (cd.tab atP') hf fun c' h' tk hx hge hlt hco' _ htab' _ => ?_
    obtain ⟨o1, vs, f1, tf, fl, tg, inF, tx, tt, op, _, _, _, _, _, _, _, _, _, htr, _⟩ := hco'
    exact next _ h' tk _ _ rfl hx (Nat.le_trans hge (Nat.le_of_lt hlt)) htab'.2 htr
theorem pe_allG {c P : Addr} {elt iter : Expr} {x : Str} {px p pos gpos : Pos} {scope : Scope} {pb : Nat → Bool} {te : TE} {k : Nat} (hr : Room k X.A) (hg : Gl X "all") (hm : X.mg "all" = none) (TB : TabB X.base X.mg c P) (hcode : X.env.code = .ref c)
    (sc : GenS X.env scope x) (hi : PE X iter te) (hel : EltG X scope x elt pb) (hs : ∀ v, genFold iter X.env v = pure v)
    (he : starEach [.GeneratorExp elt [⟨.Name x px, iter, [], 0⟩] scope gpos] X.env = (false, eval (.GeneratorExp elt [⟨.Name x px, iter, [], 0⟩] scope gpos) X.env) :: starEach [] X.env := by rfl) :
    PE X (.Call (.Name "all" p) [.GeneratorExp elt [⟨.Name x px, iter, [], 0⟩] scope gpos] [] pos) (tAllS P pb te) := by
  constructor
  intro pins s σ H Q I hyp
  have hb : bootBuiltins "all" = some (.builtin "all") := by decide +kernel
  refine wpAny_Call_Name_kw (ld_blt I hg hm hb (PyProof.Rows.callWith_builtin1 ?_ he (by rfl)))
  rw [he]
  show wpAny _ _ (spliced ((false, eval (.GeneratorExp elt [⟨.Name x px, iter, [], 0⟩] scope gpos) X.env) :: backTo pos (starEach [] X.env))) _ _ s
  refine Calls.spliced_cons (gen_signs (R := fun a G => ∀ G', Tabbed P G G' → Q (.bl (a.cps.toList.all pb)) G') hr TB hcode sc hi hel hs I hyp fun a G g z hR rd => Calls.spliced_nil ?_)
  obtain ⟨fp, wr, Gs, F, St, W, st, tr, done⟩ := rd
  refine call_all_walkS (W.self 0 _ _ _ st ⟨g, fp, wr, Gs, _, F, St, _, rfl, W, st, tr, fun z' mv => ?_⟩)
  obtain ⟨G', tb, L⟩ := done z' mv
  refine ⟨.bl _, G', L, rfl, ?_⟩
  rw [all_signs a pb]
  exact hR G' tb
/-- x in D, D a dict that the top has written -/
theorem elt_in {scope : Scope} {x y : Str} {pb : Nat → Bool} {d : Addr} {es : Array DictEntry} {n : Nat} {p1 p2 p3 : Pos} (D : KDict X.K X.w d es n) (gy : X.mg y = some (.ref d)) (hp : ∀ c, ∃ r, PySem.W.nsIn X.K d (S [c]) = some r ∧ r.isSome = pb c)
    (hk : scope.kind = .function) (hl : scope.names.lookup x = some .local) (hy : scope.names.lookup y = some .globalImplicit) (hd : (x == ("__debug__" : Str)) = false := by decide) (hd2 : (y == ("__debug__" : Str)) = false := by decide) :
    EltG X scope x (.Compare (.Name x p1) [.In] [.Name y p2] p3) pb := by
  intro cenv A' E' c t z m ok hs hg hb hn hm
  have kind : cenv.scope.kind = .function := by rw [hs]; exact hk
  refine wpAny_Compare1 (wpAny_Name (wpAny_loadName_local kind (show cenv.scope.names.lookup x = some .local by rw [hs]; exact hl) hn hm ?_) hd)
  refine Calls.Name_function_global kind (show cenv.scope.names.lookup y = some .globalImplicit by rw [hs]; exact hy) (Calls.loadGlobal_global (by rw [hg, ok.glob]; exact ok.mod.glob.keeps hb) gy ?_) hd2
  obtain ⟨r, e1, e2⟩ := hp c
  refine wpAny_in_of (PySem.strKind_is X.prog X.w (S [c]) t) D.low (PySem.W.mapOf_K (prog := X.prog) (ok.mod.kin.keeps hb) D.at_ D.lit) ?_
  rw [PySem.W.find_K D.at_ e1, e2]
  exact ⟨rfl, keeps_tok _ _⟩
end
/-! ### ''.join of texts, comprehensions over a text -/
theorem join_empty (ys : List (List Nat)) : Txt.join (S []) (ys.map S) = S ys.flatten := by
  have go : ∀ (zs : List (List Nat)) (a : Array Nat), ((zs.map S).foldl (fun acc p => acc ++ (S []).cps ++ p.cps) a).toList = a.toList ++ zs.flatten := by
    intro zs
    induction zs with
    | nil => intro a; simp
    | cons z r ih =>
      intro a
      rw [List.map_cons, List.foldl_cons, ih]
      simp [S]
  show Builtin.Str.glued (S []) (ys.map S) = _
  unfold Builtin.Str.glued
  cases ys with
  | nil => rfl
  | cons y r =>
    have := go r (S y).cps
    show (⟨(r.map S).foldl (fun acc p => acc ++ (S []).cps ++ p.cps) (S y).cps⟩ : Str) = _
    unfold S at this ⊢
    congr 1
    apply Array.toList_inj.mp
    rw [this]
    simp
theorem join_signs (l : List Nat) : Txt.join (S []) (l.map fun c => S [c]) = S l := by
  have := join_empty (l.map fun c => [c])
  rw [List.map_map] at this
  rw [show (l.map fun c => S [c]) = l.map (S ∘ fun c => [c]) from rfl, this]
  congr 1
  induction l with
  | nil => rfl
  | cons c r ih => rw [List.map_cons, List.flatten_cons, ih (join_empty _ |>.trans rfl |> fun h => by rw [List.map_map] at h; exact h)]; rfl
theorem sum_ones (l : List Nat) : ((l.map fun c => S [c]).map (·.length)).sum = l.length := by
  induction l with
  | nil => rfl
  | cons c r ih =>
    rw [List.map_cons, List.map_cons, List.sum_cons, ih, S_len, List.length_cons]
    show 1 + r.length = r.length + 1
    omega
theorem lc_str {l : List Nat} {g : TG} {tt : TT} {te : TE} {vs : List Nat} {σ : L2.St} {H1 : Hp} {D : Addr} {Qd : Hp → Prop} (Pv : Nat → Hp → Prop) (h0 : Pv 0 (upd H1 D (.lst [])))
    (hs : ∀ i c H, l[i]? = some c → Pv i H → g (.str (S [c])) (wipe σ vs) H fun σ2 H2 => wipe σ2 vs = wipe σ vs ∧ tt σ2 H2 fun b H3 =>
      if b = true then te σ2 H3 fun y H4 => ∃ acc, H4 D = some (.lst acc) ∧ acc.length < sizeLine ∧ Pv (i + 1) (upd H4 D (.lst (acc ++ [y]))) else Pv (i + 1) H3) (hd : ∀ H, Pv l.length H → Qd H) :
    ∃ W : Nat → Nat → Hp → Prop, (∃ m, W 0 m (upd H1 D (.lst []))) ∧ ∀ i m H, W i m H →
      ((Its (S l)).stop i H ∧ Qd H) ∨ ((Its (S l)).go i H ∧ ∃ Nx : Hp → Prop, (∀ H', Nx H' → ∃ m', m' < m ∧ W (i + 1) m' H') ∧ ∀ x H', (Its (S l)).yld i H x H' → g x (wipe σ vs) H' fun σ2 H2 => wipe σ2 vs = wipe σ vs ∧ tt σ2 H2 fun b H3 =>
        if b = true then te σ2 H3 fun y H4 => ∃ acc, H4 D = some (.lst acc) ∧ acc.length < sizeLine ∧ Nx (upd H4 D (.lst (acc ++ [y]))) else Nx H3) := by
  refine ⟨fun i m H => m = l.length - i ∧ i ≤ l.length ∧ Pv i H, ⟨l.length, by simp, Nat.zero_le _, h0⟩, ?_⟩
  rintro i m H ⟨rfl, hi, p⟩
  by_cases hlt : i < l.length
  · refine .inr ⟨by show i < (S l).cps.size; rw [S_size]; exact hlt, Pv (i + 1), fun H' p' => ⟨l.length - (i + 1), by omega, rfl, hlt, p'⟩, fun x H' y => ?_⟩
    obtain ⟨e, c, hc, rfl⟩ := y
    subst e
    rw [S_get] at hc
    exact hs i c _ hc p
  · have e : i = l.length := by omega
    subst e
    exact .inl ⟨by show (S l).cps.size ≤ l.length; rw [S_size]; exact Nat.le_refl _, hd H p⟩
/-- a def whose code object is told -/
theorem okC {P : Program} {w : World} {K : PySem.W.Frag} {mg : Str → Option Value} {base : Heap} {x qual : Str} {st : Stmt} {f c : Addr} {fd : FuncData} {N ps : List Str} {k : Nat} {sp : Sp} (F : Fun K x qual st f fd) (hc : fd.code = .ref c) (S : FnScope N ps (defScope st)) (len : ∀ vs H Q E, sp vs H Q E → vs.length = ps.length)
    (body : ∀ (A : Around) (outer : List Env) (s : Shared) (H : Hp) (vs : List V) (Q : VK) (E : XK), Room k (A.deeper (PyProof.Rows.envOfC qual (defScope st) s.heap.objs.size f (.ref c))) → sp vs H Q E →
      ∃ t, PSs (cxOf CX0 P w K mg base N qual (defScope st) f (.ref c) A outer s H E).nox (defBody st) t ∧ t { nx := fun _ H' => Q .non H', rt := Q } (start N vs) H) : FnOk P w K mg base CX0 (k + 1) f fd ps sp := by
  obtain ⟨_, _, _, _, _, _, cdv, _, _, rfl, lk, hcd⟩ := F.ex
  have e : cdv = .ref c := hc
  subst e
  refine fn_of lk hcd S len fun A outer s H vs Q E hr h => ?_
  obtain ⟨t, a, b⟩ := body A outer s H vs Q E hr h
  exact ⟨t, a.nox, b⟩

/-! ### a generator expression with three names as its target, over a list of tuples -/
section
variable {prog : Program} {w : World}
abbrev gx3 (elt iter : Expr) (xa xb xc : Str) (pa pb pc pt : Pos) (kt : Nat) (scope : Scope) (pos : Pos) : Expr := .GeneratorExp elt [⟨.Tuple [.Name xa pa, .Name xb pb, .Name xc pc] kt pt, iter, [], 0⟩] scope pos
/-- the element, once the three names are bound -/
def Quiet3 (prog : Program) (w : World) (cenv : Env) (xa xb xc : Str) (elt : Expr) (fp wr : List Addr) (Pt : Nat → Array Value → Prop) (F : Nat → Value → Prop) (href : Heap) : Prop :=
  ∀ (A1 : Around) (E1 : Value → Shared → Prop) (i : Nat) (u v x : Value) (z : Shared) (m : Str → Option Value), A1.handled = none → Pt i #[u, v, x] → z.heap.Ns cenv.locals m → m xa = some u → m xb = some v → m xc = some x →
    (∀ b ∈ fp, b ∉ wr → ∀ o, href.get? b = some o → z.heap.get? b = some o) → wpAny (model prog w) A1 (eval elt cenv) (fun y z' => F i y ∧ Keeps z z') E1 z
abbrev Ends3 (C : Addr) (wr : List Addr) : GenEnd := fun n s₀ r s₁ => r = .ok .next ∧ (n = 0 ∧ GenSince C wr s₀ s₁)
theorem loop3 {A : Around} {elt iter : Expr} {xa xb xc : Str} {pa pb pc pt : Pos} {kt : Nat} {scope : Scope} {pos : Pos} {I : Addr} {fp wr : List Addr} {N : Nat} {Pt : Nat → Array Value → Prop} {St : Nat → Heap → Prop} {Mid : Nat → Addr → Heap → Prop} {cenv : Env}
    (hA : A.handled = none) (W : ∀ A1 : Around, A1.handled = none → WalksU prog w A1 I fp wr N Pt St Mid) (three : ∀ i vs, Pt i vs → ∃ u v x, vs = #[u, v, x]) (nab : xa ≠ xb) (nac : xa ≠ xc) (nbc : xb ≠ xc) (F : Nat → Value → Prop) (href : Heap)
    (ka : cenv.kindOf xa = some .local) (kb : cenv.kindOf xb = some .local) (kc : cenv.kindOf xc = some .local) (hp : (cenv.scope.kind == .class || (cenv.scope.kind == .module && cenv.locals != cenv.globals)) = false)
    (hco : cenv.scope.isCoroutine = false) (out : cenv.locals ∉ fp) (hq : Quiet3 prog w cenv xa xb xc elt fp wr Pt F href) :
    ∀ (k i : Nat) (s₀ s : Shared) (m : Str → Option Value), N - i = k → i ≤ N → St i s.heap → s.heap.Ns cenv.locals m → GenSince cenv.locals wr s₀ s → (∀ b ∈ fp, b ∉ wr → ∀ o, href.get? b = some o → s.heap.get? b = some o) →
      Seg (model prog w) A (Ends3 cenv.locals wr) (genProto cenv.locals fp wr (fun _ => true) N F) (passing (fun _ => true) N i).length s₀
        (.compLoop (gx3 elt iter xa xb xc pa pb pc pt kt scope pos) 0 (.ref I) .none cenv) ((model prog w).den (.compLoop (gx3 elt iter xa xb xc pa pb pc pt kt scope pos) 0 (.ref I) .none cenv)) [] s := by
  have hA1 : (A.over (.compLoop (gx3 elt iter xa xb xc pa pb pc pt kt scope pos) 0 (.ref I) .none cenv) []).handled = none := hA
  have outw : cenv.locals ∉ wr := fun z => out ((W A hA).sub _ z)
  intro k
  induction k with
  | zero =>
    intro i s₀ s m hk hi st ns since kept
    obtain rfl : i = N := by omega
    show Seg _ A _ _ _ s₀ _ ((compTurn (gx3 elt iter xa xb xc pa pb pc pt kt scope pos) 0 (.ref I) .none cenv).onRaise (leaving cenv)) [] s
    rw [compTurn_gen, Sem.onRaise_eq_wrap]
    refine seg_bind_wrap (wpAny_standAt (seg_bind_wrap ((W _ hA1).done s _ _ st fun h1 t1 kh => ?_)))
    refine seg_end (.ok .next) ⟨rfl, ?_, since.step fun b o _ hw e => kh b o hw e⟩
    rw [passing_end]
    rfl
  | succ k ih =>
    intro i s₀ s m hk hi st ns since kept
    have lt : i < N := by omega
    show Seg _ A _ _ _ s₀ _ ((compTurn (gx3 elt iter xa xb xc pa pb pc pt kt scope pos) 0 (.ref I) .none cenv).onRaise (leaving cenv)) [] s
    rw [compTurn_gen, Sem.onRaise_eq_wrap]
    refine seg_bind_wrap (wpAny_standAt (seg_bind_wrap ((W _ hA1).item i s _ _ lt st fun T vs h1 t1 pt1 tup mid kh => ?_)))
    obtain ⟨u, v, x, rfl⟩ := three i vs pt1
    have apart := (W _ hA1).apart i T _ mid
    refine seg_bind_wrap ((W _ hA1).go _ _ _ i T _ _ _ mid fun h2 st2 k2 => ?_)
    have tup2 : h2.IsTuple T #[u, v, x] := by
      obtain ⟨o, e, r⟩ := tup
      exact ⟨o, k2 _ o apart e, r⟩
    refine seg_bind_wrap (wpAny_assign_Tuple hA1 tup2 rfl rfl fun h3 e3 => ?_)
    have k3 : ∀ b o, h2.get? b = some o → h3.get? b = some o := fun b o e => e3 b o (Nat.ne_of_lt (Heap.lt_size e)) e
    have ns3 : h3.Ns cenv.locals m := ns.at' fun o e => k3 _ o (k2 _ o outw (kh _ o outw e))
    show wpAny _ _ (do holding [v, x] (assign (.Name xa pa) cenv u); do holding [x] (assign (.Name xb pb) cenv v); do holding [] (assign (.Name xc pc) cenv x); pure ()) _ _ _
    refine wpAny_bind (wpAny_holding (wpAny_assign_Name (wpAny_storeName_local ka ns3 (fun h4 ns4 s4 => ?_) hp)))
    refine wpAny_bind (wpAny_holding (wpAny_assign_Name (wpAny_storeName_local kb ns4 (fun h5 ns5 s5 => ?_) hp)))
    refine wpAny_bind (wpAny_holding (wpAny_assign_Name (wpAny_storeName_local kc ns5 (fun h6 ns6 s6 => wpAny_pure ?_) hp)))
    have k6 : ∀ b o, b ≠ cenv.locals → h3.get? b = some o → h6.get? b = some o := fun b o n e => Heap.SameBut.extBut s6 b o n (Heap.SameBut.extBut s5 b o n (Heap.SameBut.extBut s4 b o n e))
    have all6 : ∀ b o, b ≠ cenv.locals → b ∉ wr → s.heap.get? b = some o → h6.get? b = some o := fun b o n nw e => k6 b o n (k3 b o (k2 b o nw (kh b o nw e)))
    have st6 : St (i + 1) h6 := (W A hA).frame _ _ _ st2 fun b hb o e => k6 b o (fun z => out (z ▸ hb)) (k3 b o e)
    have kept6 : ∀ b ∈ fp, b ∉ wr → ∀ o, href.get? b = some o → h6.get? b = some o := fun b hb nw o e => all6 b o (fun z => out (z ▸ hb)) nw (kept b hb nw o e)
    refine seg_bind_wrap (wpAny_of_eq (a := true) List.forIn_nil ?_)
    rw [passing_true lt rfl, List.length_cons]
    simp only [if_true]
    have yo : ∀ y, yieldOut cenv y = yieldValue y := fun y => by simp only [yieldOut, hco, Bool.false_eq_true, if_false]
    simp only [yo]
    rw [Sem.bind_eq_wrap', Sem.bind_eq_wrap', Sem.wrap_wrap, Sem.wrap_wrap]
    refine seg_wrap (wpAny_mono (hq _ _ i u v x _ _ hA1 pt1 ns6 (by simp [nab, nac]) (by simp [nbc]) (by simp) kept6) (fun y z hy => ?_) fun _ _ e => e)
    obtain ⟨fy, h7, t7, rfl, k7⟩ := hy
    refine seg_at (seg_yield rfl rfl rfl ⟨⟨i, passing_here lt rfl, fy⟩, ?_, fun z hz => ?_⟩)
    · exact since.step fun b o n nw e => k7 b o (all6 b o n nw e)
    · refine seg_again rfl (ih (i + 1) z z _ (by omega) lt ?_ ((ns6.at' fun o e => k7 _ o e).at' fun o e => hz _ (List.mem_cons_self ..) o e) (GenSince.refl _ _ _) ?_)
      · exact (W A hA).frame _ _ _ st6 fun b hb o e => hz b (List.mem_cons_of_mem _ hb) o (k7 b o e)
      · exact fun b hb nw o e => hz b (List.mem_cons_of_mem _ hb) o (k7 b o (kept6 b hb nw o e))
theorem start3 {A : Around} {elt iter : Expr} {xa xb xc : Str} {pa pb pc pt : Pos} {kt : Nat} {scope : Scope} {pos : Pos} {I : Addr} {fp wr : List Addr} {N : Nat} {Pt : Nat → Array Value → Prop} {St : Nat → Heap → Prop} {Mid : Nat → Addr → Heap → Prop} {cenv : Env}
    (hA : A.handled = none) (W : ∀ A1 : Around, A1.handled = none → WalksU prog w A1 I fp wr N Pt St Mid) (three : ∀ i vs, Pt i vs → ∃ u v x, vs = #[u, v, x]) (nab : xa ≠ xb) (nac : xa ≠ xc) (nbc : xb ≠ xc) (F : Nat → Value → Prop) (href : Heap)
    (ka : cenv.kindOf xa = some .local) (kb : cenv.kindOf xb = some .local) (kc : cenv.kindOf xc = some .local) (hp : (cenv.scope.kind == .class || (cenv.scope.kind == .module && cenv.locals != cenv.globals)) = false)
    (hco : cenv.scope.isCoroutine = false) (out : cenv.locals ∉ fp) (hq : Quiet3 prog w cenv xa xb xc elt fp wr Pt F href)
    (s₀ s : Shared) (m : Str → Option Value) (st : St 0 s.heap) (ns : s.heap.Ns cenv.locals m) (since : GenSince cenv.locals wr s₀ s) (kept : ∀ b ∈ fp, b ∉ wr → ∀ o, href.get? b = some o → s.heap.get? b = some o) :
    Seg (model prog w) A (Ends3 cenv.locals wr) (genProto cenv.locals fp wr (fun _ => true) N F) (passing (fun _ => true) N 0).length s₀
      (.compStart (gx3 elt iter xa xb xc pa pb pc pt kt scope pos) 0 (.ref I) .none cenv) ((model prog w).den (.compStart (gx3 elt iter xa xb xc pa pb pc pt kt scope pos) 0 (.ref I) .none cenv)) [] s := by
  have hA1 : (A.over (.compStart (gx3 elt iter xa xb xc pa pb pc pt kt scope pos) 0 (.ref I) .none cenv) []).handled = none := hA
  have go := loop3 (iter := iter) (pa := pa) (pb := pb) (pc := pc) (pt := pt) (kt := kt) (scope := scope) (pos := pos) hA W three nab nac nbc F href ka kb kc hp hco out hq N 0 s₀ s m (Nat.sub_zero _) (Nat.zero_le _) st ns since kept
  show Seg _ A _ _ _ s₀ _ ((compStart (gx3 elt iter xa xb xc pa pb pc pt kt scope pos) 0 (.ref I) .none cenv).onRaise (leaving cenv)) [] s
  unfold compStart
  rw [Sem.onRaise_eq_wrap]
  show Seg _ A _ _ _ s₀ _ ((ask >>= _).wrap _ _ _ _) [] s
  refine seg_bind_wrap (wpAny_askSetting ?_)
  split
  · exact seg_again rfl go
  · first
      | exact seg_bind_wrap (wpAny_rule (seg_bind_wrap (wpAny_standAt (seg_bind_wrap ((W _ hA1).self 0 s _ _ st (seg_again rfl go))))))
      | (refine seg_bind_wrap (wpAny_rule ?_); show Seg _ A _ _ _ s₀ _ ((standAt iter.pos >>= _).wrap _ _ _ _) [] s; exact seg_bind_wrap (wpAny_standAt (seg_bind_wrap ((W _ hA1).self 0 s _ _ st (seg_again rfl go)))))
/-- what is asked once the iterator, the code and the built-ins are there -/
def Post3 (prog : Program) (w : World) (A : Around) (env : Env) (elt : Expr) (xa xb xc : Str) (scope : Scope) (cl : List (Str × Addr)) (Q : Value → Shared → Prop) (it code : Value) (bi : Addr) (z : Shared) : Prop :=
  ∃ (I : Addr) (fp wr : List Addr) (N : Nat) (Pt : Nat → Array Value → Prop) (St : Nat → Heap → Prop) (Mid : Nat → Addr → Heap → Prop) (F : Nat → Value → Prop), it = .ref I ∧ (∀ A1 : Around, A1.handled = none → WalksU prog w A1 I fp wr N Pt St Mid) ∧ (∀ i vs, Pt i vs → ∃ u v x, vs = #[u, v, x]) ∧ St 0 z.heap ∧ (∀ b ∈ fp, b < z.heap.objs.size) ∧ z.heap.NoLimit ∧ cStatics ∉ wr ∧
    (∀ href : Heap, (∀ b o, z.heap.get? b = some o → href.get? b = some o) → Quiet3 prog w (genEnv scope cl z.heap.objs.size code bi env) xa xb xc elt (List.range z.heap.objs.size) wr Pt F href) ∧
    (∀ g h5 tk gs, gs.bare = true → z.heap.objs.size < g → h5.objs.size = g + 1 → (∀ b o, z.heap.get? b = some o → h5.get? b = some o) →
      WalksS prog w A.in4 g (g :: z.heap.objs.size :: List.range z.heap.objs.size) (z.heap.objs.size :: wr) (GenOnlyQ z.gens.size) (passing (fun _ => true) N 0).length (fun j y => ∃ i, (passing (fun _ => true) N 0)[j]? = some i ∧ F i y) (GenAt prog w A.in4 g z.gens.size z.heap.objs.size (List.range z.heap.objs.size) wr (fun _ => true) N F) →
      GenAt prog w A.in4 g z.gens.size z.heap.objs.size (List.range z.heap.objs.size) wr (fun _ => true) N F 0 { z with gens := z.gens.push gs, toks := tk, heap := h5 } → Q (.ref g) { z with gens := z.gens.push gs, toks := tk, heap := h5 })
theorem walks3 {A : Around} {E : Value → Shared → Prop} {s : Shared} {env : Env} {elt iter : Expr} {xa xb xc : Str} {pa pb pc pt : Pos} {kt : Nat} {scope : Scope} {cl : List (Str × Addr)} {pos : Pos} {Q : Value → Shared → Prop}
    (hA : A.handled = none) (hco : scope.isCoroutine = false) (hcl : closureFor scope env = pure cl) (hcell : ∀ y ∈ scope.names, y.2 ≠ .cell) (hdot : scope.names.lookup (".0" : Str) = some NameKind.local)
    (ka : scope.names.lookup xa = some .local) (kb : scope.names.lookup xb = some .local) (kc : scope.names.lookup xc = some .local) (nab : xa ≠ xb) (nac : xa ≠ xc) (nbc : xb ≠ xc) (hkind : scope.kind = .function) (room : A.depth < recursionLimit)
    (h : wpAny (model prog w) A (eval iter env) (fun xv s1 => wpAny (model prog w) A (pyIter xv) (fun it s2 => s2.heap.NoLimit ∧ wpAny (model prog w) A (genexprCode env pos (env.qual ++ "<genexpr>") scope) (fun code s3 => wpAny (model prog w) A (builtinsFor env.globals env.builtins) (fun bi z => Post3 prog w A env elt xa xb xc scope cl Q it code bi z) E s3) E s2) E s1) E s)
    (hs : ∀ x, genFold iter env x = pure x) : wpAny (model prog w) A (eval (gx3 elt iter xa xb xc pa pb pc pt kt scope pos) env) Q E s := by
  refine wpAny_GeneratorExp_make hco hcl hcell hdot hkind room (wpAny_mono h (fun xv s1 q1 => wpAny_mono q1 (fun it s2 q2 => ⟨q2.1, wpAny_mono q2.2 (fun code s3 q3 => wpAny_mono q3 (fun bi z q4 => ?_) fun _ _ e => e) fun _ _ e => e⟩) fun _ _ e => e) fun _ _ e => e) hs
  obtain ⟨I, fp, wr, N, Pt, St, Mid, F, rfl, W, three, st, fps, lim, cw, hq, hQ⟩ := q4
  have cs : cStatics < z.heap.objs.size := by
    obtain ⟨_, hn, _⟩ := lim
    exact hn.lt
  intro h1 ns1 same1
  have size1 : h1.objs.size = z.heap.objs.size + 1 := by rw [same1.1, Heap.size_push]
  have keep1 : ∀ b o, z.heap.get? b = some o → h1.get? b = some o := fun b o e => Heap.SameBut.extBut same1 b o (Nat.ne_of_lt (Heap.lt_size e)) (Heap.get?_push_of_some _ e)
  have sub : ∀ b ∈ wr, b ∈ List.range z.heap.objs.size := fun b hb => List.mem_range.mpr (fps b ((W A hA).sub b hb))
  have ne1 : h1.objs.size ≠ z.heap.objs.size := by rw [size1]; exact Nat.succ_ne_self _
  have notin : h1.objs.size ∉ List.range z.heap.objs.size := fun hm => by
    have := List.mem_range.mp hm
    omega
  have keep2 : ∀ b o, z.heap.get? b = some o → (h1.push { cls := .type "generator", data := .fields #[.int z.gens.size 0, .str "<genexpr>" (z.toks + 1), .str (env.qual ++ "<genexpr>") (z.toks + 1 + 1)] }).get? b = some o := fun b o e => Heap.get?_push_of_some _ (keep1 b o e)
  have W2 : ∀ A1 : Around, A1.handled = none → WalksU prog w A1 I (List.range z.heap.objs.size) wr N Pt St Mid := fun A1 hA1 => (W A1 hA1).mono_fp fun b hb => List.mem_range.mpr (fps b hb)
  have st2 := (W A hA).frame _ _ _ st fun b _ o e => keep2 b o e
  refine hQ _ _ _ _ rfl (by omega) (by rw [Heap.size_push]) keep2 (WalksS.genexpQ (A := A.in4) hA _ _ _ _ wr (fun _ => true) N F ne1 notin sub room (List.mem_range.mpr cs) (Nat.ne_of_lt cs) cw) ?_
  refine ⟨⟨_, _, _, Heap.get?_push_size _ rfl, rfl, rfl, rfl⟩, lim.keeps keep2, _, Array.getElem?_push_size .., fun y hy => ⟨rfl, ?_⟩⟩
  refine start3 (A := A.in4.in1) (cenv := genEnv scope cl z.heap.objs.size code bi env) hA W2 three nab nac nbc F _ ka kb kc (by simp [genEnv, hkind]) hco (fun hm => Nat.lt_irrefl _ (List.mem_range.mp hm)) (hq _ keep2) y y (fun x => if x = (".0" : Str) then some (.ref I) else none) ?_ ?_ (GenSince.refl _ _ _) fun b hb _ o e => hy b (List.mem_cons_of_mem _ hb) o e
  · exact (W2 A hA).frame _ _ _ st2 fun b hb o e => hy b (List.mem_cons_of_mem _ hb) o e
  · exact Heap.Ns.at' (Heap.Ns.push ns1 _) fun o e => hy _ (List.mem_cons_self ..) o e
end

/-! ### all(test for a, b, c in list of tuples) -/
section
open GxR
theorem vals_refs : ∀ {rs : List Addr} {its : List Value}, Vals (rs.map V.ref) its → its = rs.map Value.ref
  | [], _, h => by cases h; rfl
  | a :: r, _, h => by
    cases h with
    | cons h1 h2 =>
      have e1 : _ = Value.ref a := h1
      rw [e1, vals_refs h2]
      rfl
theorem vals3 {a b c : V} {its : List Value} (h : Vals [a, b, c] its) : ∃ u v x, its = [u, v, x] ∧ RelV a u ∧ RelV b v ∧ RelV c x := by
  cases h with
  | cons h1 r =>
    cases r with
    | cons h2 r =>
      cases r with
      | cons h3 r =>
        cases r
        exact ⟨_, _, _, rfl, h1, h2, h3⟩
variable {X : Cx} {pins : List (Addr × Obj)} {σ : L2.St} {H : Hp} {s : Shared}
structure Sc3 (env : Env) (scope : Scope) (xa xb xc : Str) : Prop where
  kind : scope.kind = .function
  co : scope.isCoroutine = false
  cell : ∀ y ∈ scope.names, y.2 ≠ .cell
  dot : scope.names.lookup (".0" : Str) = some NameKind.local
  a : scope.names.lookup xa = some .local
  b : scope.names.lookup xb = some .local
  c : scope.names.lookup xc = some .local
  ab : xa ≠ xb
  ac : xa ≠ xc
  bc : xb ≠ xc
  free : ∀ y ∈ scope.names, y.2 = .free → ∃ c, env.cells.lookup y.1 = some c
/-- what the element gives for the items qs, in whatever state keeps what stood in s1 -/
def EltT (X : Cx) (s1 : Shared) (P : Addr) (scope : Scope) (xa xb xc : Str) (elt : Expr) (qs : List (V × V × V)) (pb : Nat → Bool) : Prop :=
  ∀ (cenv : Env) (A1 : Around) (E1 : Value → Shared → Prop) (i : Nat) (q : V × V × V) (u v x : Value) (z : Shared) (m : Str → Option Value), cenv.scope = scope → cenv.cells = cloFrom X.env.cells scope.names [] →
    (∀ b o, b ≠ P → s1.heap.get? b = some o → z.heap.get? b = some o) → z.heap.Ns cenv.locals m → m xa = some u → m xb = some v → m xc = some x → qs[i]? = some q → RelV q.1 u → RelV q.2.1 v → RelV q.2.2 x →
    wpAny (model X.prog X.w) A1 (eval elt cenv) (fun y z' => y = .bool (pb i) ∧ Keeps z z') E1 z
def ReadyT (X : Cx) (pins : List (Addr × Obj)) (σ : L2.St) (G : Hp) (P : Addr) (n : Nat) (pb : Nat → Bool) (g : Addr) (z : Shared) : Prop :=
  ∃ (fp wr : List Addr) (Gs : Array GenState → Array GenState → Prop) (F : Nat → Value → Prop) (St : Nat → Shared → Prop), WalksS X.prog X.w X.A.in1 g fp wr Gs n F St ∧ St 0 z ∧ TruthOf X.prog X.w X.A.in1 F pb ∧ ∀ z', Moved wr Gs z z' → ∃ G', Tabbed P G G' ∧ Inv X pins σ G' z'
/-- the tuples at ts hold the triples qs -/
def Trs (G : Hp) (l : Addr) (qs : List (V × V × V)) : Prop := ∃ ts : List Addr, G l = some (.lst (ts.map V.ref)) ∧ ts.length = qs.length ∧ ∀ (i : Nat) (t : Addr) (q : V × V × V), ts[i]? = some t → qs[i]? = some q → G t = some (.tup [q.1, q.2.1, q.2.2])
theorem walks_lt {prog : Program} {w : World} {A : Around} {I : Addr} {fp wr : List Addr} {n : Nat} {Pt : Nat → Array Value → Prop} {St : Nat → Heap → Prop} {Mid : Nat → Addr → Heap → Prop} (W : WalksU prog w A I fp wr n Pt St Mid) : WalksU prog w A I fp wr n (fun j v => j < n ∧ Pt j v) St Mid where
  sub := W.sub
  frame := W.frame
  item := fun i s Q E hi st hQ => W.item i s Q E hi st fun T vs h tk pt => hQ T vs h tk ⟨hi, pt⟩
  go := W.go
  apart := W.apart
  done := W.done
  self := W.self
theorem go3 {c P : Addr} {ps : Array Value} {elt : Expr} {xa xb xc : Str} {scope : Scope} {k : Nat} {Q' : Value → Shared → Prop} {n : Nat} {qs : List (V × V × V)} {pb : Nat → Bool} {fp : List Addr} {vals : Nat → Array Value} {St : Nat → Heap → Prop} {Mid : Nat → Addr → Heap → Prop} {o : Obj}
    (hr : Room k X.A) (TB : TabB X.base X.mg c P) (J : L2.Inv X pins σ H s) (hP : H P = some (.tbl ps)) (atP : s.heap.get? P = some { cls := .none, data := .fields ps }) (ltP : P < s.heap.objs.size) (hel : EltT X s P scope xa xb xc elt qs pb) (en : n = qs.length)
    (W : ∀ A1 : Around, A1.handled = none → WalksU X.prog X.w A1 s.heap.objs.size fp [s.heap.objs.size] n (fun j v => j < n ∧ v = vals j) St Mid) (three : ∀ i, ∃ u v x, vals i = #[u, v, x]) (rel : ∀ (i : Nat) (q : V × V × V) (u v x : Value), qs[i]? = some q → vals i = #[u, v, x] → RelV q.1 u ∧ RelV q.2.1 v ∧ RelV q.2.2 x)
    (st0 : ∀ h : Heap, (∀ b u, b ≠ P → (s.heap.push o).get? b = some u → h.get? b = some u) → St 0 h) (fps : ∀ b ∈ fp, b ≤ s.heap.objs.size) (code : Value) (h3 : Heap) (tk : Nat) (ps' more : Array Value) (em : ps' = ps ++ more)
    (hx : Heap.ExtBut P (s.heap.push o) h3) (hsz : (s.heap.push o).objs.size ≤ h3.objs.size) (h3P : h3.get? P = some { cls := .none, data := .fields ps' }) (ok' : TriplesOk ps'.toList) (lim : (s.heap.push o).NoLimit) (hQ : ∀ g z, ReadyT X pins σ H P n pb g z → Q' (.ref g) z) :
    wpAny (model X.prog X.w) X.A (builtinsFor X.env.globals X.env.builtins) (fun bi z => Post3 X.prog X.w X.A X.env elt xa xb xc scope (cloFrom X.env.cells scope.names []) Q' (.ref s.heap.objs.size) code bi z) X.xe { s with heap := h3, toks := tk } := by
  obtain ⟨bm, ob, q1, q2, q3, q4, q5, q6, q7, q8⟩ := TB.bm
  obtain ⟨cm, cns, cnn⟩ := J.nolimit
  have cP : cStatics ≠ P := fun z => by
    obtain ⟨o2, es, ep, g1, g2, _⟩ := cns
    rw [z, atP] at g1
    cases g1
    cases g2
  have cL : cStatics < s.heap.objs.size := cns.lt
  have big : (s.heap.push o).objs.size = s.heap.objs.size + 1 := Heap.size_push ..
  have kept : ∀ b u, b ≠ P → s.heap.get? b = some u → h3.get? b = some u := fun b u n e => hx b u n (Heap.get?_push_of_some _ e)
  have bases : ∀ b u, X.base.get? b = some u → h3.get? b = some u := fun b u e => kept b u (tbl_not hP (J.bs b u e).2) (J.bk b u e)
  refine wpAny_builtinsFor (m := X.mg) (by rw [J.ok.glob]; exact J.mod.glob.keeps bases) q1 q2 (bases _ _ q5) q6 q7 q8 ?_
  refine ⟨s.heap.objs.size, fp, [s.heap.objs.size], n, _, St, Mid, fun i y => y = .bool (pb i), rfl, W, fun i vs h => ?_, st0 _ hx, fun b hb => ?_, lim.extBut hx cP, ?_, ?_, ?_⟩
  · obtain ⟨u, v, x, e⟩ := three i
    exact ⟨u, v, x, by rw [h.2, e]⟩
  · exact Nat.lt_of_lt_of_le (Nat.lt_succ_of_le (fps b hb)) (by show s.heap.objs.size + 1 ≤ h3.objs.size; rw [← big]; exact hsz)
  · rw [List.mem_singleton]
    exact Nat.ne_of_lt cL
  · intro href hh A1 E1 i u v x z m _ pt ns hu hv hxx kp
    have hi := pt.1
    rw [en] at hi
    have eq := List.getElem?_eq_getElem hi
    obtain ⟨r1, r2, r3⟩ := rel i _ u v x eq pt.2.symm
    refine hel _ A1 E1 i _ u v x z m rfl rfl (fun b w nb e => ?_) ns hu hv hxx eq r1 r2 r3
    have lb := Heap.lt_size e
    exact kp b (List.mem_range.mpr (Nat.lt_of_lt_of_le (Nat.lt_of_lt_of_le lb (by rw [big]; exact Nat.le_succ _)) hsz)) (by rw [List.mem_singleton]; exact Nat.ne_of_lt lb) w (hh b w (kept b w nb e))
  · intro g h5 tk5 gs bare _ _ keep5 W5 at5
    have W6 := W5
    simp only [GxR.passing_true, List.length_range] at W6
    refine hQ g _ ⟨_, _, _, _, _, W6.in4_1, at5, fun j y sj Qj Ej hy hq => ?_, fun z mv => ?_⟩
    · obtain ⟨i, hi, e⟩ := hy
      have ey : y = .bool (pb i) := e
      subst ey
      obtain ⟨_, ei⟩ := List.getElem?_eq_some_iff.mp hi
      rw [List.getElem_range] at ei
      subst ei
      exact wpAny_truthy_bool hq
    · have off : ∀ b u, s.heap.get? b = some u → b ∉ h3.objs.size :: [s.heap.objs.size] := fun b u e hb => by
        have l1 := Heap.lt_size e
        have l2 : s.heap.objs.size < h3.objs.size := Nat.lt_of_lt_of_le (by rw [big]; exact Nat.lt_succ_self _) hsz
        rcases List.mem_cons.mp hb with r | r
        · rw [r] at l1; exact absurd (Nat.lt_trans l1 l2) (Nat.lt_irrefl _)
        · rw [List.mem_singleton.mp r] at l1; exact absurd l1 (Nat.lt_irrefl _)
      have L := inv_tab (more := more) (h' := z.heap) (g' := z.gens) (d' := z.drawn) (t' := z.toks) J hP (fun b u n e => mv.heap b u (off b u e) (keep5 b u (kept b u n e))) (by rw [← em]; exact mv.heap P _ (off P _ atP) (keep5 P _ h3P)) (PyProof.Rows.AllBare.movedS (J.bare.push bare) mv)
      rw [sh_eta s z mv.os] at L
      exact ⟨upd H P (.tbl (ps ++ more)), ⟨⟨ps ++ more, upd_same, by rw [← em]; exact ok'⟩, fun b n => upd_ne n⟩, L⟩
theorem gen3 {c P : Addr} {elt iter : Expr} {xa xb xc : Str} {pa pb' pc pt : Pos} {kt : Nat} {scope : Scope} {gpos : Pos} {te : TE} {k : Nat} {Q' : Value → Shared → Prop} {R : Nat → (Nat → Bool) → Hp → Prop}
    (hr : Room k X.A) (TB : TabB X.base X.mg c P) (hcode : X.env.code = .ref c) (sc : Sc3 X.env scope xa xb xc) (hi : PE X iter te) (hs : ∀ v, genFold iter X.env v = pure v) (I : L2.Inv X pins σ H s)
    (h : te σ H fun v G => ∃ (l : Addr) (qs : List (V × V × V)) (pb : Nat → Bool), v = .ref l ∧ Trs G l qs ∧ TabG G P ∧ (∀ pins1 s1, L2.Inv X pins1 σ G s1 → EltT X s1 P scope xa xb xc elt qs pb) ∧ R qs.length pb G)
    (hQ : ∀ n pb G g z, R n pb G → ReadyT X pins σ G P n pb g z → Q' (.ref g) z) :
    wpAny (model X.prog X.w) X.A (eval (gx3 elt iter xa xb xc pa pb' pc pt kt scope gpos) X.env) Q' X.xe s := by
  have room : X.A.depth < recursionLimit := by have := hr.dp; omega
  refine walks3 hr.hd sc.co (closure_ok sc.free) sc.cell sc.dot sc.a sc.b sc.c sc.ab sc.ac sc.bc sc.kind room (thn (hi.run pins s σ H _ I h) fun u s1 ⟨v, G, J, rv, l, qs, pb, ev, ⟨ts, hl, tz, ht⟩, ⟨ps, hP, ok⟩, hel, hR⟩ => ?_) hs
  subst ev
  cases rv
  obtain ⟨its, ri, pl, _⟩ := J.list (SqL.of hl)
  have eits := vals_refs ri
  subst eits
  refine wpAny_pyIter_list pl.isList ?_
  have key : ∀ i : Nat, ∃ arr : Array Value, (∃ u v x, arr = #[u, v, x]) ∧ ∀ (t : Addr) (q : V × V × V), ts[i]? = some t → qs[i]? = some q → ∃ u v x, arr = #[u, v, x] ∧ RelV q.1 u ∧ RelV q.2.1 v ∧ RelV q.2.2 x ∧ s1.heap.IsTuple t arr := fun i => by
    cases et : ts[i]? with
    | none => exact ⟨#[.none, .none, .none], ⟨_, _, _, rfl⟩, fun t q z _ => by cases z⟩
    | some t =>
      cases eq : qs[i]? with
      | none => exact ⟨#[.none, .none, .none], ⟨_, _, _, rfl⟩, fun t q _ z => by cases z⟩
      | some q =>
        obtain ⟨its, rq, tq, _⟩ := J.tuple (SqT.of (ht i t q et eq))
        obtain ⟨u, v, x, rfl, r1, r2, r3⟩ := vals3 rq
        exact ⟨#[u, v, x], ⟨_, _, _, rfl⟩, fun t' q' z1 z2 => by cases z1; cases z2; exact ⟨u, v, x, rfl, r1, r2, r3, tq⟩⟩
  have ⟨vals, hvals⟩ : ∃ vals : Nat → Array Value, ∀ i, (∃ u v x, vals i = #[u, v, x]) ∧ ∀ (t : Addr) (q : V × V × V), ts[i]? = some t → qs[i]? = some q → ∃ u v x, vals i = #[u, v, x] ∧ RelV q.1 u ∧ RelV q.2.1 v ∧ RelV q.2.2 x ∧ s1.heap.IsTuple t (vals i) := ⟨fun i => Classical.choose (key i), fun i => Classical.choose_spec (key i)⟩
  have isz : (ts.map Value.ref).toArray.size = qs.length := by simp [tz]
  have atT : ∀ j, j < (ts.map Value.ref).toArray.size → ts[j]? = some (ts.getD j 0) := fun j hj => by
    rw [List.getD_eq_getElem?_getD, List.getElem?_eq_getElem (by rw [isz, ← tz] at hj; exact hj)]
    rfl
  have atQ : ∀ j, j < (ts.map Value.ref).toArray.size → ∃ q, qs[j]? = some q := fun j hj => ⟨_, List.getElem?_eq_getElem (by rw [isz] at hj; exact hj)⟩
  have tups : ∀ j, j < (ts.map Value.ref).toArray.size → s1.heap.IsTuple (ts.getD j 0) (vals j) := fun j hj => by
    obtain ⟨q, hq⟩ := atQ j hj
    obtain ⟨_, _, _, _, _, _, _, r⟩ := (hvals j).2 _ q (atT j hj) hq
    exact r
  have lts : ∀ j, j < (ts.map Value.ref).toArray.size → ts.getD j 0 < s1.heap.objs.size := fun j hj => by
    obtain ⟨o, e, _⟩ := tups j hj
    exact Heap.lt_size e
  have ltl : l < s1.heap.objs.size := by
    obtain ⟨o, n, e, _⟩ := pl
    exact Heap.lt_size e
  have atP : s1.heap.get? P = some { cls := .none, data := .fields ps } := J.hok P _ hP
  have ltP : P < s1.heap.objs.size := Heap.lt_size atP
  have big : (s1.heap.push { cls := .type "list_iterator", data := .fields #[.ref l, .int 0 0] }).objs.size = s1.heap.objs.size + 1 := Heap.size_push ..
  have lenT : (ts.map Value.ref).toArray.size = ts.length := by simp
  have W : ∀ A1 : Around, A1.handled = none → WalksU X.prog X.w A1 s1.heap.objs.size (s1.heap.objs.size :: l :: (List.range (ts.map Value.ref).toArray.size).map fun j => ts.getD j 0) [s1.heap.objs.size] (ts.map Value.ref).toArray.size (fun j v => v = vals j) _ _ := fun A1 h1 => WalksU.listOfTuples h1 s1.heap.objs.size l (Nat.ne_of_lt ltl) (ts.map Value.ref).toArray (fun j => ts.getD j 0) vals (fun j hj => by
    have e := atT j hj
    rw [List.getElem?_toArray, List.getElem?_map, e]
    rfl) (fun j hj => Nat.ne_of_lt (lts j hj))
  have W2 := fun A1 h1 => walks_lt (W A1 h1)
  have rel : ∀ (i : Nat) (q : V × V × V) (u v x : Value), qs[i]? = some q → vals i = #[u, v, x] → RelV q.1 u ∧ RelV q.2.1 v ∧ RelV q.2.2 x := fun i q u v x hq e => by
    have hi : i < (ts.map Value.ref).toArray.size := by rw [isz]; exact (List.getElem?_eq_some_iff.mp hq).1
    obtain ⟨u', v', x', e', r1, r2, r3, _⟩ := (hvals i).2 _ q (atT i hi) hq
    rw [e] at e'
    have l3 := congrArg Array.toList e'
    simp only [List.cons.injEq, and_true] at l3
    obtain ⟨rfl, rfl, rfl⟩ := l3
    exact ⟨r1, r2, r3⟩
  have neT : ∀ j, j < (ts.map Value.ref).toArray.size → ts.getD j 0 ≠ P := fun j hj => by
    obtain ⟨q, hq⟩ := atQ j hj
    exact ne_of (ht j _ q (atT j hj) hq) hP (by intro z; cases z)
  have nl : l ≠ P := ne_of hl hP (by intro z; cases z)
  have atP' : (s1.heap.push { cls := .type "list_iterator", data := .fields #[.ref l, .int 0 0] }).get? P = some { cls := .none, data := .fields ps } := Heap.get?_push_of_some _ atP
  have cd : PySem.W.CodeHd (s1.heap.push { cls := .type "list_iterator", data := .fields #[.ref l, .int 0 0] }) c P := TB.code.keeps fun b w e => Heap.get?_push_of_some _ (J.bk b w e)
  have lim : (s1.heap.push { cls := .type "list_iterator", data := .fields #[.ref l, .int 0 0] }).NoLimit := J.nolimit.push _
  have next : ∀ (code : Value) (h3 : Heap) (tk : Nat) (ps' more : Array Value), ps' = ps ++ more → Heap.ExtBut P (s1.heap.push { cls := .type "list_iterator", data := .fields #[.ref l, .int 0 0] }) h3 → (s1.heap.push { cls := .type "list_iterator", data := .fields #[.ref l, .int 0 0] }).objs.size ≤ h3.objs.size → h3.get? P = some { cls := .none, data := .fields ps' } → TriplesOk ps'.toList → _ :=
    fun code h3 tk ps' more em hx hsz h3P ok' => go3 hr TB J hP atP ltP (hel pins s1 J) (isz) W2 (fun i => (hvals i).1) rel
      (fun h kh => ⟨⟨_, kh _ _ (Nat.ne_of_gt ltP) (Heap.get?_push_size _ rfl), rfl, rfl⟩, (by obtain ⟨u, e, r⟩ := pl.isList; exact ⟨u, kh _ _ nl (Heap.get?_push_of_some _ e), r⟩), fun j hj => by
        obtain ⟨u, e, r⟩ := tups j hj
        exact ⟨u, kh _ _ (neT j hj) (Heap.get?_push_of_some _ e), r⟩⟩)
      (fun b hb => by
        rcases List.mem_cons.mp hb with rfl | hb
        · exact Nat.le_refl _
        · rcases List.mem_cons.mp hb with rfl | hb
          · exact Nat.le_of_lt ltl
          · obtain ⟨j, hj, rfl⟩ := List.mem_map.mp hb
            exact Nat.le_of_lt (lts j (List.mem_range.mp hj))) code h3 tk ps' more em hx hsz h3P ok' lim fun g z rd => hQ _ _ G g z hR (by rw [← isz]; exact rd)
  refine ⟨lim, ?_⟩
  cases hf : codeAmong gpos ps.toList with
  | some cv => exact wpAny_genexprCode_hit hcode (cd.code atP' ok) hf (next cv _ s1.toks ps #[] (by simp) (Heap.ExtBut.refl _ _) (Nat.le_refl _) atP' ok)
  | none =>
    refine wpAny_genexprCodeX hcode (cd.code atP' ok) (cd.tab atP') hf fun c' h' tk hx hge hlt hco' _ htab' _ => ?_
    obtain ⟨o1, vs, f1, tf, fl, tg, inF, tx, tt, op, _, _, _, _, _, _, _, _, _, htr, _⟩ := hco'
    exact next _ h' tk _ _ rfl hx (Nat.le_trans hge (Nat.le_of_lt hlt)) htab'.2 htr
/-- the reading of all(elt for a, b, c in iter) -/
def tAll3 (X : Cx) (P : Addr) (scope : Scope) (xa xb xc : Str) (elt : Expr) (te : TE) : TE := fun σ H Q => te σ H fun v G => ∃ (l : Addr) (qs : List (V × V × V)) (pb : Nat → Bool), v = .ref l ∧ Trs G l qs ∧ TabG G P ∧ (∀ pins1 s1, L2.Inv X pins1 σ G s1 → EltT X s1 P scope xa xb xc elt qs pb) ∧ ∀ G', Tabbed P G G' → Q (.bl ((List.range qs.length).all pb)) G'
theorem pe_all3 {c P : Addr} {elt iter : Expr} {xa xb xc : Str} {pa pb' pc pt p pos gpos : Pos} {kt : Nat} {scope : Scope} {te : TE} {k : Nat} (hr : Room k X.A) (hg : Gl X "all") (hm : X.mg "all" = none) (TB : TabB X.base X.mg c P) (hcode : X.env.code = .ref c) (sc : Sc3 X.env scope xa xb xc) (hi : PE X iter te) (hs : ∀ v, genFold iter X.env v = pure v)
    (he : starEach [gx3 elt iter xa xb xc pa pb' pc pt kt scope gpos] X.env = (false, eval (gx3 elt iter xa xb xc pa pb' pc pt kt scope gpos) X.env) :: starEach [] X.env := by rfl) :
    PE X (.Call (.Name "all" p) [gx3 elt iter xa xb xc pa pb' pc pt kt scope gpos] [] pos) (tAll3 X P scope xa xb xc elt te) := by
  constructor
  intro pins s σ H Q I hyp
  have hb : bootBuiltins "all" = some (.builtin "all") := by decide +kernel
  refine wpAny_Call_Name_kw (ld_blt I hg hm hb (PyProof.Rows.callWith_builtin1 ?_ he (by rfl)))
  rw [he]
  show wpAny _ _ (spliced ((false, eval (gx3 elt iter xa xb xc pa pb' pc pt kt scope gpos) X.env) :: backTo pos (starEach [] X.env))) _ _ s
  refine Calls.spliced_cons (gen3 (R := fun n pb G => ∀ G', Tabbed P G G' → Q (.bl ((List.range n).all pb)) G') hr TB hcode sc hi hs I hyp fun n pb G g z hR rd => Calls.spliced_nil ?_)
  obtain ⟨fp, wr, Gs, F, St, W, st, tr, done⟩ := rd
  refine call_all_walkS (W.self 0 _ _ _ st ⟨g, fp, wr, Gs, _, F, St, _, rfl, W, st, tr, fun z' mv => ?_⟩)
  obtain ⟨G', tb, L⟩ := done z' mv
  exact ⟨.bl _, G', L, rfl, hR G' tb⟩
/-! ### the element colours[before] + colours[behind] == 2 * colours[over] -/
theorem lookup_of_mem {c : Addr} {n : Str} : ∀ {L : List (Str × Addr)}, (n, c) ∈ L → ∃ d, L.lookup n = some d ∧ (n, d) ∈ L
  | [], h => by cases h
  | (m, e) :: r, h => by
    by_cases hm : n = m
    · subst hm
      exact ⟨e, by simp, List.mem_cons_self⟩
    · rcases List.mem_cons.mp h with h | h
      · cases h; exact absurd rfl hm
      · obtain ⟨d, h1, h2⟩ := lookup_of_mem h
        refine ⟨d, ?_, List.mem_cons_of_mem _ h2⟩
        rw [List.lookup_cons, show (n == m) = false from beq_eq_false_iff_ne.mpr hm]
        exact h1
theorem clo_lookup {cells : List (Str × Addr)} {names : List (Str × NameKind)} {n : Str} {c : Addr} (h : (n, NameKind.free) ∈ names) (hc : cells.lookup n = some c) : (cloFrom cells names []).lookup n = some c := by
  obtain ⟨d, h1, h2⟩ := lookup_of_mem (cloFrom_has (cells := cells) (acc := []) h)
  rcases cloFrom_mem h2 with h2 | ⟨_, h2⟩
  · cases h2
  · rw [h1, h2, hc]
    rfl
def crossV (c : Nat × Nat × Nat) : V × V × V := (.int (c.1 : Int), .int (c.2.1 : Int), .int (c.2.2 : Int))
def keepB (A : List Int) (c : Nat × Nat × Nat) : Bool := A.getD c.2.1 0 + A.getD c.2.2 0 == 2 * A.getD c.1 0
def keepAt (cs : List (Nat × Nat × Nat)) (A : List Int) (i : Nat) : Bool := match cs[i]? with
  | some c => keepB A c
  | none => false
theorem all_keep (cs : List (Nat × Nat × Nat)) (A : List Int) : (List.range cs.length).all (keepAt cs A) = cs.all (keepB A) := by
  rw [Bool.eq_iff_iff, List.all_eq_true, List.all_eq_true]
  constructor
  · intro h c hc
    obtain ⟨i, hi, e⟩ := List.getElem_of_mem hc
    have := h i (List.mem_range.mpr hi)
    unfold keepAt at this
    rw [List.getElem?_eq_getElem hi, e] at this
    exact this
  · intro h i hi
    have hi' := List.mem_range.mp hi
    unfold keepAt
    rw [List.getElem?_eq_getElem hi']
    exact h _ (List.getElem_mem hi')
theorem vals_ints : ∀ {A : List Int} {its : List Value}, Vals (A.map V.int) its → ∀ i, i < A.length → ∃ t, its[i]? = some (.int (A.getD i 0) t)
  | [], _, _, i, hi => by cases hi
  | a :: r, _, h, i, hi => by
    cases h with
    | cons h1 h2 =>
      obtain ⟨t, rfl⟩ := h1
      cases i with
      | zero => exact ⟨t, rfl⟩
      | succ i => exact vals_ints h2 i (Nat.lt_of_succ_lt_succ hi)
theorem elt_cross {P cp : Addr} {G : Hp} {s1 : Shared} {scope : Scope} {xa xb xc y : Str} {ic : Nat} {A : List Int} {cs : List (Nat × Nat × Nat)} {ps : Array Value} {p1 p2 p3 p4 p5 p6 p7 p8 p9 p10 p11 p12 p13 : Pos} {kk : Nat}
    (J : L2.Inv X pins σ G s1) (hk : scope.kind = .function) (ka : scope.names.lookup xa = some .local) (kb : scope.names.lookup xb = some .local) (kc : scope.names.lookup xc = some .local) (ky : scope.names.lookup y = some .free) (my : (y, NameKind.free) ∈ scope.names)
    (hN : X.N[ic]? = some y) (hy : X.env.kindOf y = some .cell) (hv : X.env.scope.names.lookup y = some .cell) (hσ : σ[ic]? = some (some (.ref cp))) (hG : G cp = some (.lst (A.map V.int))) (hP : G P = some (.tbl ps)) (hz : A.length ≤ 1000000)
    (hin : ∀ (i : Nat) (c : Nat × Nat × Nat), cs[i]? = some c → c.1 < A.length ∧ c.2.1 < A.length ∧ c.2.2 < A.length)
    (da : (xa == ("__debug__" : Str)) = false := by decide) (db : (xb == ("__debug__" : Str)) = false := by decide) (dc : (xc == ("__debug__" : Str)) = false := by decide) (dy : (y == ("__debug__" : Str)) = false := by decide) (cy : (y == ("__classdict__" : Str)) = false := by decide) :
    EltT X s1 P scope xa xb xc (.Compare (.BinOp (.Subscript (.Name y p1) (.Name xb p2) p3) .Add (.Subscript (.Name y p4) (.Name xc p5) p6) p7) [.Eq] [.BinOp (.Constant (.int 2) kk p8) .Mult (.Subscript (.Name y p9) (.Name xa p10) p11) p12] p13) (cs.map crossV) (keepAt cs A) := by
  intro cenv A1 E1 i q u v x z m es ec kept ns hu hv' hx hq r1 r2 r3
  rw [List.getElem?_map] at hq
  cases hc : cs[i]? with
  | none => rw [hc] at hq; cases hq
  | some c =>
    rw [hc] at hq
    cases hq
    obtain ⟨t1, rfl⟩ := r1
    obtain ⟨t2, rfl⟩ := r2
    obtain ⟨t3, rfl⟩ := r3
    obtain ⟨b1, b2, b3⟩ := hin i c hc
    -- the list in its cell
    obtain ⟨m0, _, hl⟩ := J.loc
    obtain ⟨w, rw_, look⟩ := hl ic y (.ref cp) hN hσ (.inr (.inl hv))
    have ew : w = .ref cp := rw_
    subst ew
    obtain ⟨cc, hcc, cell⟩ : ∃ c, X.env.cells.lookup y = some c ∧ s1.heap.IsCell c (some (.ref cp)) := by
      rcases look with ⟨h1, _⟩ | ⟨_, h2⟩
      · rw [hy] at h1; cases h1
      · exact h2
    have ncP : cc ≠ P := fun e => by
      have := J.freeC y cc hcc
      rw [e, hP] at this
      cases this
    have ncp : cp ≠ P := ne_of hG hP (by intro z; cases z)
    obtain ⟨its, ri, pl, _⟩ := J.list (SqL.of hG)
    have get := vals_ints ri
    have cl : cenv.cells.lookup y = some cc := by rw [ec]; exact clo_lookup my hcc
    have kind : cenv.scope.kind = .function := by rw [es]; exact hk
    have cellZ : ∀ z2 : Shared, (∀ b o, z.heap.get? b = some o → z2.heap.get? b = some o) → z2.heap.IsCell cc (some (.ref cp)) := fun z2 k2 => by
      obtain ⟨o, e, r⟩ := cell
      exact ⟨o, k2 _ _ (kept _ _ ncP e), r⟩
    have listZ : ∀ z2 : Shared, (∀ b o, z.heap.get? b = some o → z2.heap.get? b = some o) → z2.heap.IsList cp its.toArray := fun z2 k2 => by
      obtain ⟨o, e, r⟩ := pl.isList
      exact ⟨o, k2 _ _ (kept _ _ ncp e), r⟩
    have item : ∀ (n : Str) (j : Nat) (tj : Tok) (q1 q2 q3 : Pos) (tk : Nat) (Q : Value → Shared → Prop), cenv.kindOf n = some .local → (n == ("__debug__" : Str)) = false → m n = some (.int (j : Int) tj) → j < A.length → (∀ t, Q (.int (A.getD j 0) t) { z with toks := tk }) →
        wpAny (model X.prog X.w) A1 (eval (.Subscript (.Name y q1) (.Name n q2) q3) cenv) Q E1 { z with toks := tk } := fun n j tj q1 q2 q3 tk Q hn hd hm hj hQ => by
      obtain ⟨t, ht⟩ := get j hj
      refine PyProof.Rows.Subscript_ (wpAny_Name (wpAny_loadName_free kind (show cenv.scope.names.lookup y = some .free by rw [es]; exact ky) cl (cellZ _ fun _ _ e => e) ?_ cy) dy)
      refine wpAny_Name (wpAny_loadName_local kind hn ns hm ?_) hd
      exact PyProof.Rows.item_listR (listZ { z with toks := tk } fun _ _ e => e) (by omega) (by omega) (by rw [Int.toNat_natCast]; simpa using ht) (hQ t) rfl
    have kA : cenv.kindOf xa = some .local := by show cenv.scope.names.lookup xa = _; rw [es]; exact ka
    have kB : cenv.kindOf xb = some .local := by show cenv.scope.names.lookup xb = _; rw [es]; exact kb
    have kC : cenv.kindOf xc = some .local := by show cenv.scope.names.lookup xc = _; rw [es]; exact kc
    refine wpAny_Compare1 (wpAny_BinOp (item xb _ _ _ _ _ z.toks _ kB db hv' b2 fun t => item xc _ _ _ _ _ z.toks _ kC dc hx b3 fun t' => PyProof.Rows.add_int ?_))
    refine wpAny_BinOp (wpAny_Constant_int (item xa _ _ _ _ _ _ _ kA da hu b1 fun t'' => PyProof.Rows.mul_int ?_ (IntMulOk.of_left (by decide))))
    refine PyProof.Rows.eq_int ⟨?_, z.heap, _, rfl, fun _ _ e => e⟩
    unfold keepAt
    rw [hc]
    rfl
end
def top (i : Nat) : Stmt := PySem.Challenge.pw_ropedance_k12_whole_readings.main.body.getD i (.Pass ⟨0, 0, 0, 0⟩)
abbrev s_fraction : Stmt := top 5
theorem sc_fraction : FnScope ["p", "q", "divisor"] ["p", "q"] (defScope s_fraction) := ⟨rfl, rfl, rfl, by decide +kernel, rfl, by decide +kernel, by decide +kernel⟩
abbrev s_after : Stmt := top 6
theorem sc_after : FnScope ["fraction", "dance", "p", "q", "letter"] ["fraction", "dance"] (defScope s_after) := ⟨rfl, rfl, rfl, by decide +kernel, rfl, by decide +kernel, by decide +kernel⟩
abbrev s_turned : Stmt := top 7
theorem sc_turned : FnScope ["p", "q"] ["p", "q"] (defScope s_turned) := ⟨rfl, rfl, rfl, by decide +kernel, rfl, by decide +kernel, by decide +kernel⟩
abbrev s_number : Stmt := top 9
theorem sc_number : FnScope ["dance"] ["dance"] (defScope s_number) := ⟨rfl, rfl, rfl, by decide +kernel, rfl, by decide +kernel, by decide +kernel⟩
abbrev s_diagram : Stmt := top 11
theorem sc_diagram : FnScope ["dance", "arc_count", "crossings", "nw", "ne", "sw", "se", "letter"] ["dance"] (defScope s_diagram) := ⟨rfl, rfl, rfl, by decide +kernel, rfl, by decide +kernel, by decide +kernel⟩
abbrev s_is_colouring : Stmt := top 12
theorem sc_is_colouring : FnScope ["dance", "colours", "arc_count", "crossings", "_"] ["dance", "colours"] (defScope s_is_colouring) := ⟨rfl, rfl, rfl, by decide +kernel, rfl, by decide +kernel, by decide +kernel⟩
abbrev s_is_plain : Stmt := top 13
theorem sc_is_plain : FnScope ["colours"] ["colours"] (defScope s_is_plain) := ⟨rfl, rfl, rfl, by decide +kernel, rfl, by decide +kernel, by decide +kernel⟩
abbrev s_colouring : Stmt := top 14
theorem sc_colouring : FnScope ["dance", "first", "second", "crossings", "colours", "over", "before", "_"] ["dance", "first", "second"] (defScope s_colouring) := ⟨rfl, rfl, rfl, by decide +kernel, rfl, by decide +kernel, by decide +kernel⟩
abbrev s_reading : Stmt := top 15
theorem sc_reading : FnScope ["dance", "colours", "nw", "ne", "_", "se"] ["dance", "colours"] (defScope s_reading) := ⟨rfl, rfl, rfl, by decide +kernel, rfl, by decide +kernel, by decide +kernel⟩
abbrev s_law_tape : Stmt := top 17
theorem sc_law_tape : FnScope ["script", "k", "cell"] ["script", "k"] (defScope s_law_tape) := ⟨rfl, rfl, rfl, by decide +kernel, rfl, by decide +kernel, by decide +kernel⟩
abbrev s_law_take : Stmt := top 18
theorem sc_law_take : FnScope ["tape", "many", "got", "mixed"] ["tape", "many"] (defScope s_law_take) := ⟨rfl, rfl, rfl, by decide +kernel, rfl, by decide +kernel, by decide +kernel⟩
abbrev s_law_dance : Stmt := top 19
theorem sc_law_dance : FnScope ["tape", "most", "dance", "size", "k"] ["tape", "most"] (defScope s_law_dance) := ⟨rfl, rfl, rfl, by decide +kernel, rfl, by decide +kernel, by decide +kernel⟩
abbrev s_law_called : Stmt := top 20
theorem sc_law_called : FnScope ["value", "letter", "p", "q"] ["value", "letter"] (defScope s_law_called) := ⟨rfl, rfl, rfl, by decide +kernel, rfl, by decide +kernel, by decide +kernel⟩
abbrev s_law_number : Stmt := top 21
theorem sc_law_number : FnScope ["dance", "value", "letter"] ["dance"] (defScope s_law_number) := ⟨rfl, rfl, rfl, by decide +kernel, rfl, by decide +kernel, by decide +kernel⟩
abbrev s_law_same : Stmt := top 22
theorem sc_law_same : FnScope ["told", "due", "k"] ["told", "due"] (defScope s_law_same) := ⟨rfl, rfl, rfl, by decide +kernel, rfl, by decide +kernel, by decide +kernel⟩
abbrev s_law_integer : Stmt := top 23
theorem sc_law_integer : FnScope ["tape", "size", "whole", "k"] ["tape"] (defScope s_law_integer) := ⟨rfl, rfl, rfl, by decide +kernel, rfl, by decide +kernel, by decide +kernel⟩
abbrev s_law_spoilt : Stmt := top 24
theorem sc_law_spoilt : FnScope ["tape", "colours", "choice", "spot", "other", "changed"] ["tape", "colours"] (defScope s_law_spoilt) := ⟨rfl, rfl, rfl, by decide +kernel, rfl, by decide +kernel, by decide +kernel⟩
abbrev s_law_reads : Stmt := top 25
theorem sc_law_reads : FnScope ["dance", "colours", "due", "one"] ["dance", "colours", "due"] (defScope s_law_reads) := ⟨rfl, rfl, rfl, by decide +kernel, rfl, by decide +kernel, by decide +kernel⟩
abbrev s_law : Stmt := top 26
theorem sc_law : FnScope ["script", "k", "tape", "dance", "due", "lists", "j", "first", "second", "colours", "factor", "odd", "one"] ["script"] (defScope s_law) := ⟨rfl, rfl, rfl, by decide +kernel, rfl, by decide +kernel, by decide +kernel⟩
/-! ### heaps, tapes, pairs -/
/-- all that was tracked is as it was, but what stands at a -/
def But (a : Addr) (H H' : Hp) : Prop := ∀ b o, b ≠ a → H b = some o → H' b = some o
theorem But.refl (a : Addr) (H : Hp) : But a H H := fun _ _ _ h => h
theorem But.trans {a : Addr} {H H1 H2 : Hp} (x : But a H H1) (y : But a H1 H2) : But a H H2 := fun b o n h => y b o n (x b o n h)
theorem But.of {a : Addr} {H H' : Hp} (x : Same H H') : But a H H' := fun b o _ h => x b o h
theorem But.upd {a : Addr} {H : Hp} {o : HO} : But a H (upd H a o) := fun b u n h => by rw [upd_ne n]; exact h
theorem But.same {a : Addr} {H0 H H' : Hp} (x : But a H H') (s : Same H0 H) (n : H0 a = none) : Same H0 H' := fun b o h => x b o (ne_of_none h n) (s b o h)
theorem same_new {H : Hp} {p : Addr} (h : H p = none) (o : HO) : Same H (L2.upd H p o) := fun b u q => by rw [upd_ne (ne_of_none q h)]; exact q
theorem Same.tup {K : PySem.W.Frag} {H H' : Hp} {a : Addr} {xs : List V} (e : Same H H') (h : SqT K H a xs) : SqT K H' a xs := by
  rcases h with (h | ⟨o, h⟩) | h
  · exact .inl (.inl (e _ _ h))
  · exact .inl (.inr ⟨o, e _ _ h⟩)
  · exact .inr h
def Tape (H : Hp) (a : Addr) : Prop := ∃ (t c s : Int) (b : Bool), H a = some (.lst [.int t, .bl b, .int c, .int s])
theorem Tape.same {H H' : Hp} {a : Addr} (t : Tape H a) (s : Same H H') : Tape H' a := by
  obtain ⟨x, c, y, b, h⟩ := t
  exact ⟨x, c, y, b, s _ _ h⟩
theorem Tape.ne {H : Hp} {a p : Addr} (t : Tape H a) (h : H p = none) : p ≠ a := by
  obtain ⟨x, c, y, b, e⟩ := t
  exact fun z => by rw [z, e] at h; cases h
theorem But.tup {K : PySem.W.Frag} {a : Addr} {H H' : Hp} {p : Addr} {xs : List V} (x : But a H H') (t : Tape H a) (h : SqT K H p xs) : SqT K H' p xs := by
  obtain ⟨y, c, z, b, e⟩ := t
  rcases h with (h | ⟨o, h⟩) | h
  · exact .inl (.inl (x _ _ (ne_of h e (by intro q; cases q)) h))
  · exact .inl (.inr ⟨o, x _ _ (ne_of h e (by intro q; cases q)) h⟩)
  · exact .inr h
/-- a dance: the letters T, U, R -/
def Lets (l : List Nat) : Prop := ∀ c ∈ l, c = 84 ∨ c = 85 ∨ c = 82
theorem atI_mk {α : Type} {xs : List α} {k : Int} (h0 : 0 ≤ k) (h1 : k < (xs.length : Int)) : ∃ v, atI xs k = some v ∧ v ∈ xs := by
  obtain ⟨n, rfl⟩ := Int.eq_ofNat_of_zero_le h0
  have h : n < xs.length := by omega
  exact ⟨xs[n], atI_nat (List.getElem?_eq_getElem h), List.getElem_mem h⟩
theorem atI_ints {ns : List Int} {k : Int} (h0 : 0 ≤ k) (h1 : k < (ns.length : Int)) : ∃ v : Int, atI (ns.map V.int) k = some (.int v) := by
  obtain ⟨v, e, m⟩ := atI_mk (xs := ns.map V.int) h0 (by rw [List.length_map]; exact h1)
  obtain ⟨i, _, rfl⟩ := List.mem_map.mp m
  exact ⟨i, e⟩
/-! ### a def of the text with its promise, ready to be called -/
structure Dfn (P : Program) (w : World) (K : PySem.W.Frag) (mg : Str → Option Value) (base : Heap) (x : Str) (k : Nat) (ps : List Str) (sp : Sp) : Prop where
  ex : ∃ (f : Addr) (fd : FuncData), FnOk P w K mg base CX0 k f fd ps sp ∧ mg x = some (.ref f) ∧ PySem.W.keepIn K (.ref f) = true ∧ Binds K fd ps []
theorem pe_do {X : Cx} {x : Str} {j : Nat} {ps : List Str} {sp : Sp} {e : Expr} {es : List Expr} {t : TA} {p pos : Pos} (D : Dfn X.prog X.w X.K X.mg X.base x j ps sp) (hr : Room j X.A)
    (ha : PA X (e :: es) t) (hg : Gl X x := by rfl) (hdb : (x == ("__debug__" : Str)) = false := by decide) (he : starEach (e :: es) X.env = (false, eval e X.env) :: starEach es X.env := by rfl) (hpl : (backTo pos (starEach es X.env)).any (·.1) = false := by rfl) :
    PE X (.Call (.Name x p) (e :: es) [] pos) (tCall sp [] E0 t) := by
  obtain ⟨f, fd, ok, mg, kp, bd⟩ := D.ex
  exact pe_call ok hr hg mg kp bd .nil pass0 ha hdb he hpl
theorem Dfn.mono {P : Program} {w : World} {K : PySem.W.Frag} {mg : Str → Option Value} {base : Heap} {x : Str} {j k : Nat} {ps : List Str} {sp : Sp} (D : Dfn P w K mg base x j ps sp) (h : j ≤ k) : Dfn P w K mg base x k ps sp := by
  obtain ⟨f, fd, ok, mg, kp, bd⟩ := D.ex
  exact ⟨f, fd, ok.mono h, mg, kp, bd⟩
section
variable {P : Program} {w : World} {K : PySem.W.Frag} {mg : Str → Option Value} {base : Heap} {f : Addr} {fd : FuncData}
/-! ### the tape of a law -/
def spTape (K : PySem.W.Frag) : Sp := fun vs H Q _ => ∃ (a : Addr) (ns : List Int) (k : Int), vs = [.ref a, .int k] ∧ SqL K H a (ns.map V.int) ∧ 0 ≤ k ∧ ∀ p H', Same H H' → H p = none → Tape H' p → Q (.ref p) H'
theorem ok_tape (F : Fun K "_law_tape" "_law_tape" s_law_tape f fd) (ml : mg "len" = none) (ma : mg "abs" = none) (mi : mg "int" = none) : FnOk P w K mg base CX0 1 f fd ["script", "k"] (spTape K) := by
  refine F.ok sc_law_tape (fun vs H Q E h => ?_) (fun cdv A outer s H vs Q E hr h => ?_)
  · obtain ⟨a, ns, k, rfl, _⟩ := h
    rfl
  obtain ⟨a, ns, k, rfl, hS, hk, q⟩ := h
  refine ⟨_, pss_cons (ps_set (i := 2) sc_law_tape.nd rfl (.inl rfl) pe_int)
    (pss_cons (ps_if (pt_cmpR op_lt (pv 1) (pe_callB call_len_seq rfl ml PySem.boot_len (pa_cons (pv 0) pa_nil)) (nomark _))
        (pss_one (ps_set (i := 2) sc_law_tape.nd rfl (.inl rfl) (pe_callB call_abs rfl ma (by decide +kernel) (pa_cons (pe_ix ix_list (pv 0) (pv 1) (fun _ _ => rfl)) pa_nil)))) pss_nil)
    (pss_one (ps_ret (pe_lst (pa_cons (pv 2) (pa_cons (pe_cmpR op_ge (pv 2) (pe_op op_pow pe_int pe_int) (nomark _)) (pa_cons pe_int
      (pa_cons (pe_op op_modN (pe_callTy call_int1 rfl mi (by decide +kernel) (pa_cons (pe_op op_add (pe_op op_mul (pv 2) pe_int) (pv 1)) pa_nil)) pe_int) pa_nil)))))))), ?_⟩
  refine ⟨_, rfl, _, rfl, a, _, rfl, .inl hS, _, _, rfl, rfl, _, rfl, ?_⟩
  refine ite2 (fun c => ?_) (fun c => ?_)
  · have c' : k < (((ns.map V.int).length : Nat) : Int) := of_decide_eq_true c
    rw [List.length_map] at c'
    obtain ⟨v, hv⟩ := atI_ints hk c'
    refine ⟨_, rfl, _, rfl, a, _, _, _, rfl, rfl, hS, hv, _, rfl, ?_⟩
    refine ⟨_, rfl, _, rfl, _, _, rfl, rfl, ⟨by decide, by decide, by decide⟩, _, _, rfl, rfl, _, rfl, _, _, rfl, rfl, .inr ⟨by decide, by decide⟩, _, rfl, _, _, rfl, rfl, .inl ⟨_, rfl, _, _, rfl, rfl, (show (2147483647 : Int) ≠ 0 by decide), ?_⟩⟩
    exact ⟨(by show 4 ≤ sizeLine; decide), fun p hp => q p _ (same_new hp _) hp ⟨_, _, _, _, upd_same⟩⟩
  · refine ⟨_, rfl, _, rfl, _, _, rfl, rfl, ⟨by decide, by decide, by decide⟩, _, _, rfl, rfl, _, rfl, _, _, rfl, rfl, .inr ⟨by decide, by decide⟩, _, rfl, _, _, rfl, rfl, .inl ⟨_, rfl, _, _, rfl, rfl, (show (2147483647 : Int) ≠ 0 by decide), ?_⟩⟩
    exact ⟨(by show 4 ≤ sizeLine; decide), fun p hp => q p _ (same_new hp _) hp ⟨_, _, _, _, upd_same⟩⟩
def spTake : Sp := fun vs H Q _ => ∃ (a : Addr) (m : Int), vs = [.ref a, .int m] ∧ Tape H a ∧ 0 < m ∧ m < 1073741824 ∧ ∀ r H', 0 ≤ r → r < m → But a H H' → Tape H' a → Q (.int r) H'
theorem ok_take (F : Fun K "_law_take" "_law_take" s_law_take f fd) (mi : mg "int" = none) : FnOk P w K mg base CX0 1 f fd ["tape", "many"] spTake := by
  refine F.ok sc_law_take (fun vs H Q E h => ?_) (fun cdv A outer s H vs Q E hr h => ?_)
  · obtain ⟨a, m, rfl, _⟩ := h
    rfl
  obtain ⟨a, m, rfl, ⟨t, c, sd, b, hT⟩, h0, h1, q⟩ := h
  refine ⟨_, pss_cons (ps_if (PW.pt (pw_and (pt_val (pe_ix ix_list (pv 0) pe_int (fun _ _ => rfl))) (pw_and1 (pt_cmpR op_gt (pe_ix ix_list (pv 0) pe_int (fun _ _ => rfl)) pe_int (nomark _)))))
      (pss_cons (ps_set (i := 2) sc_law_take.nd rfl (.inl rfl) (pe_op op_modN (pe_callTy call_int1 rfl mi (by decide +kernel) (pa_cons (pe_ix ix_list (pv 0) pe_int (fun _ _ => rfl)) pa_nil)) (pv 1)))
      (pss_cons (ps_asg (pe_op op_fdivN (pe_ix ix_list (pv 0) pe_int (fun _ _ => rfl)) (pv 1)) (pg_sub (pv 0) pe_int set_list))
      (pss_one (ps_ret (pv 2))))) pss_nil)
    (pss_cons (ps_asg (pe_op op_add (pe_ix ix_list (pv 0) pe_int (fun _ _ => rfl)) pe_int) (pg_sub (pv 0) pe_int set_list))
    (pss_cons (ps_set (i := 3) sc_law_take.nd rfl (.inl rfl) (pe_op op_modN (pe_callTy call_int1 rfl mi (by decide +kernel) (pa_cons (pe_op op_add (pe_op op_add (pe_op op_mul (pe_ix ix_list (pv 0) pe_int (fun _ _ => rfl)) pe_int) (pe_op op_mul (pe_ix ix_list (pv 0) pe_int (fun _ _ => rfl)) pe_int)) pe_int) pa_nil)) pe_int))
    (pss_cons (ps_set (i := 3) sc_law_take.nd rfl (.inl rfl) (pe_op op_modN (pe_callTy call_int1 rfl mi (by decide +kernel) (pa_cons (pe_op op_add (pe_op op_add (pe_op op_mul (pv 3) pe_int) (pe_op op_mul (pe_op op_fdivN (pv 3) pe_int) pe_int)) (pe_ix ix_list (pv 0) pe_int (fun _ _ => rfl))) pa_nil)) pe_int))
    (pss_one (ps_ret (pe_op op_modN (pe_callTy call_int1 rfl mi (by decide +kernel) (pa_cons (pe_op op_fdivN (pv 3) pe_int) pa_nil)) (pv 1))))))), ?_⟩
  have rest : ∀ x : Int, 0 ≤ x.fmod m ∧ x.fmod m < m := fun x => by
    rw [Int.fmod_eq_emod_of_nonneg x (Int.le_of_lt h0)]
    exact ⟨Int.emod_nonneg x (by omega), Int.emod_lt_of_pos x h0⟩
  refine ⟨_, rfl, a, _, _, _, rfl, rfl, SqL.of hT, rfl, b, rfl, ?_⟩
  refine ite2 (fun hb => ?_) (fun hb => ?_)
  · refine ⟨_, rfl, a, _, _, _, rfl, rfl, SqL.of hT, rfl, _, _, rfl, rfl, _, rfl, ?_⟩
    refine ite2 (fun hc => ?_) (fun hc => ?_)
    · refine ⟨_, rfl, a, _, _, _, rfl, rfl, SqL.of hT, rfl, .inl ⟨_, rfl, _, rfl, _, _, rfl, rfl, (show m ≠ 0 by omega), ?_⟩⟩
      refine ⟨_, rfl, a, _, _, _, rfl, rfl, SqL.of hT, rfl, _, rfl, _, _, rfl, rfl, (show m ≠ 0 ∧ m.natAbs < 1073741824 by omega), _, rfl, a, _, _, _, rfl, rfl, hT, rfl, ?_⟩
      exact ⟨_, rfl, q _ _ (rest _).1 (rest _).2 But.upd ⟨_, _, _, _, upd_same⟩⟩
    · refine ⟨_, rfl, a, _, _, _, rfl, rfl, SqL.of hT, rfl, _, _, rfl, rfl, _, rfl, a, _, _, _, rfl, rfl, hT, rfl, ?_⟩
      refine ⟨_, rfl, a, _, _, _, rfl, rfl, SqL.of upd_same, rfl, _, _, rfl, rfl, .inr ⟨by decide, by decide⟩, _, rfl, a, _, _, _, rfl, rfl, SqL.of upd_same, rfl, _, _, rfl, rfl, .inr ⟨by decide, by decide⟩, _, _, rfl, rfl, _, _, rfl, rfl, .inl ⟨_, rfl, _, _, rfl, rfl, (show (2147483647 : Int) ≠ 0 by decide), ?_⟩⟩
      refine ⟨_, rfl, _, _, rfl, rfl, .inr ⟨by decide, by decide⟩, _, rfl, _, _, rfl, rfl, ⟨by decide, by decide⟩, _, _, rfl, rfl, .inr ⟨by decide, by decide⟩, _, _, rfl, rfl, _, rfl, a, _, _, _, rfl, rfl, SqL.of upd_same, rfl, _, _, rfl, rfl, .inl ⟨_, rfl, _, _, rfl, rfl, (show (2147483399 : Int) ≠ 0 by decide), ?_⟩⟩
      exact ⟨_, rfl, _, _, rfl, rfl, ⟨by decide, by decide⟩, .inl ⟨_, rfl, _, rfl, _, _, rfl, rfl, (show m ≠ 0 by omega), q _ _ (rest _).1 (rest _).2 But.upd ⟨_, _, _, _, upd_same⟩⟩⟩
  · refine ⟨_, rfl, a, _, _, _, rfl, rfl, SqL.of hT, rfl, _, _, rfl, rfl, _, rfl, a, _, _, _, rfl, rfl, hT, rfl, ?_⟩
    refine ⟨_, rfl, a, _, _, _, rfl, rfl, SqL.of upd_same, rfl, _, _, rfl, rfl, .inr ⟨by decide, by decide⟩, _, rfl, a, _, _, _, rfl, rfl, SqL.of upd_same, rfl, _, _, rfl, rfl, .inr ⟨by decide, by decide⟩, _, _, rfl, rfl, _, _, rfl, rfl, .inl ⟨_, rfl, _, _, rfl, rfl, (show (2147483647 : Int) ≠ 0 by decide), ?_⟩⟩
    refine ⟨_, rfl, _, _, rfl, rfl, .inr ⟨by decide, by decide⟩, _, rfl, _, _, rfl, rfl, ⟨by decide, by decide⟩, _, _, rfl, rfl, .inr ⟨by decide, by decide⟩, _, _, rfl, rfl, _, rfl, a, _, _, _, rfl, rfl, SqL.of upd_same, rfl, _, _, rfl, rfl, .inl ⟨_, rfl, _, _, rfl, rfl, (show (2147483399 : Int) ≠ 0 by decide), ?_⟩⟩
    exact ⟨_, rfl, _, _, rfl, rfl, ⟨by decide, by decide⟩, .inl ⟨_, rfl, _, rfl, _, _, rfl, rfl, (show m ≠ 0 by omega), q _ _ (rest _).1 (rest _).2 But.upd ⟨_, _, _, _, upd_same⟩⟩⟩
/-! ### dances, fractions -/
theorem six_letters {r : Int} (h0 : 0 ≤ r) (h1 : r < 6) : ∃ c, atI (("TTUURR" : Str)).cps.toList r = some c ∧ (c = 84 ∨ c = 85 ∨ c = 82) := by
  have e : (("TTUURR" : Str)).cps.toList = [84, 84, 85, 85, 82, 82] := by decide +kernel
  rw [e]
  obtain ⟨c, hc, m⟩ := atI_mk (xs := [84, 84, 85, 85, 82, 82]) h0 h1
  refine ⟨c, hc, ?_⟩
  simp at m
  omega
theorem four_sizes {r : Int} (h0 : 0 ≤ r) (h1 : r < 4) : ∃ z : Int, atI [V.int 1, .int 1, .int 3, .int 9] r = some (.int z) ∧ 1 ≤ z ∧ z ≤ 9 := by
  obtain ⟨c, hc, m⟩ := atI_mk (xs := [V.int 1, .int 1, .int 3, .int 9]) h0 h1
  simp at m
  rcases m with rfl | rfl | rfl
  · exact ⟨1, hc, by decide, by decide⟩
  · exact ⟨3, hc, by decide, by decide⟩
  · exact ⟨9, hc, by decide, by decide⟩
theorem e_empty : (("" : Str)) = S [] := by decide +kernel
theorem sizeLine_big : 16777216 ≤ sizeLine := by rw [sizeLine_eq]; decide
theorem fits {n : Nat} (h : n ≤ 16777216) : n ≤ sizeLine := Nat.le_trans h sizeLine_big
def spDance : Sp := fun vs H Q _ => ∃ (a : Addr) (m : Int), vs = [.ref a, .int m] ∧ Tape H a ∧ 0 ≤ m ∧ m ≤ 1000 ∧ ∀ l H', Lets l → (l.length : Int) ≤ m → But a H H' → Tape H' a → Q (.str (S l)) H'
theorem ok_dance (F : Fun K "_law_dance" "_law_dance" s_law_dance f fd) (DT : Dfn P w K mg base "_law_take" 1 ["tape", "many"] spTake) (mr : mg "range" = none) : FnOk P w K mg base CX0 2 f fd ["tape", "most"] spDance := by
  refine F.ok sc_law_dance (fun vs H Q E h => ?_) (fun cdv A outer s H vs Q E hr h => ?_)
  · obtain ⟨a, m, rfl, _⟩ := h
    rfl
  obtain ⟨a, m, rfl, hT, h0, h1, q⟩ := h
  refine ⟨_, pss_cons (ps_set (i := 2) sc_law_dance.nd rfl (.inl rfl) pe_str)
    (pss_cons (ps_set (i := 3) sc_law_dance.nd rfl (.inl rfl) (pe_ix ix_list (pe_lst (pa_cons pe_int (pa_cons pe_int (pa_cons pe_int (pa_cons pe_int pa_nil))))) (pe_do DT hr (pa_cons (pv 0) (pa_cons pe_int pa_nil))) (fun _ _ => rfl)))
    (pss_cons (ps_for PassesOwn.never rfl (pi_range1 rfl mr (pa_cons (pe_do DT hr (pa_cons (pv 0) (pa_cons (pe_op op_add (pv 1) pe_int) pa_nil))) pa_nil)) (pg_name (i := 4) sc_law_dance.nd rfl (.inl rfl))
      (pss_one (ps_set (i := 2) sc_law_dance.nd rfl (.inl rfl) (pe_op op_add_str (pv 2) (pe_op op_mul_str (pe_ix ix_str pe_str (pe_do DT hr (pa_cons (pv 0) (pa_cons pe_int pa_nil))) (fun _ _ => rfl))
        (pe_op op_add pe_int (pe_do DT hr (pa_cons (pv 0) (pa_cons (pv 3) pa_nil)))))))))
    (pss_one (ps_ret (pe_slice sl_str (pv 2) po_none (po_some (pv 1))))))), ?_⟩
  refine ⟨(by show 4 ≤ sizeLine; exact fits (by decide)), fun p hp => ?_⟩
  have np := hT.ne hp
  refine ⟨_, rfl, a, 4, rfl, hT.same (same_new hp _), by decide, by decide, fun r H1 r0 r1 b1 t1 => ?_⟩
  obtain ⟨z, hz, z1, z9⟩ := four_sizes r0 r1
  refine ⟨p, _, _, _, rfl, rfl, SqL.of (b1 _ _ np upd_same), hz, ?_⟩
  have B1 : But a H H1 := (But.of (same_new hp _)).trans b1
  refine ⟨_, rfl, _, rfl, _, _, rfl, rfl, a, _, rfl, t1, (show 0 < m + 1 by omega), (show m + 1 < 1073741824 by omega), fun r2 H2 r20 r21 b2 t2 => ?_⟩
  refine ⟨r2, rfl, by omega, by omega, for_range (lo := 0) (n := r2.toNat) (fun i σ H' => ∃ (l : List Nat) (v : Option V), σ = [some (.ref a), some (.int m), some (.str (S l)), some (.int z), v] ∧ Lets l ∧ l.length ≤ 9 * i ∧ But a H H' ∧ Tape H' a) ?_ ?_ ?_⟩
  · exact ⟨[], none, by rw [← e_empty]; rfl, fun _ h => (by cases h), Nat.zero_le _, B1.trans b2, t2⟩
  · rintro i σ H' hi ⟨l, v, rfl, hl, hz2, bt, tp⟩
    refine ⟨_, rfl, _, rfl, a, 6, rfl, tp, by decide, by decide, fun r3 H3 r30 r31 b3 t3 => ?_⟩
    obtain ⟨c, hc, hcl⟩ := six_letters r30 r31
    refine ⟨_, _, c, rfl, rfl, (fits (by decide +kernel)), hc, _, rfl, _, rfl, a, z, rfl, t3, by omega, by omega, fun r4 H4 r40 r41 b4 t4 => ?_⟩
    have hn : (1 + r4).toNat ≤ 9 := by omega
    refine ⟨_, _, rfl, rfl, [c], 1 + r4, rfl, rfl, by omega, by omega, by simp only [List.length_singleton]; omega, _, _, rfl, rfl, ?_, ?_⟩
    · rw [S_len, S_len]
      refine fits ?_
      rw [List.length_flatten, List.map_replicate, List.sum_replicate_nat]
      simp only [List.length_singleton]
      omega
    · refine ⟨l ++ (List.replicate (1 + r4).toNat [c]).flatten, _, by rw [S_app]; rfl, fun x hx => ?_, ?_, (bt.trans b3).trans b4, t4⟩
      · rcases List.mem_append.mp hx with hx | hx
        · exact hl x hx
        · obtain ⟨y, hy, hxy⟩ := List.mem_flatten.mp hx
          rw [(List.mem_replicate.mp hy).2] at hxy
          rw [List.mem_singleton.mp hxy]
          exact hcl
      · rw [List.length_append, List.length_flatten, List.map_replicate, List.sum_replicate_nat]
        simp only [List.length_singleton]
        omega
  · rintro σ H' ⟨l, v, rfl, hl, hz2, bt, tp⟩
    refine ⟨_, rfl, _, rfl, _, rfl, _, rfl, (by rw [S_len]; exact fits (by omega)), ?_⟩
    rw [S_take l h0]
    refine q _ _ (fun x hx => hl x (List.mem_of_mem_take hx)) ?_ bt tp
    rw [List.length_take]
    omega
end
section
variable {P : Program} {w : World} {K : PySem.W.Frag} {mg : Str → Option Value} {base : Heap} {f : Addr} {fd : FuncData}
/-! ### the same data -/
inductive Dt where
  | int (i : Int) | str (z : Str) | non | tup (xs : List Dt) | lst (xs : List Dt)
/-- v stands for d, in at most n levels -/
def Is (H : Hp) : Nat → V → Dt → Prop
  | _, v, .int i => v = .int i
  | _, v, .str z => v = .str z
  | _, v, .non => v = .non
  | 0, _, .tup _ => False
  | 0, _, .lst _ => False
  | n + 1, v, .tup ds => ∃ (a : Addr) (xs : List V), v = .ref a ∧ H a = some (.tup xs) ∧ xs.length = ds.length ∧ ds.length ≤ 1000000 ∧ ∀ (i : Nat) (x : V) (d : Dt), xs[i]? = some x → ds[i]? = some d → Is H n x d
  | n + 1, v, .lst ds => ∃ (a : Addr) (xs : List V), v = .ref a ∧ H a = some (.lst xs) ∧ xs.length = ds.length ∧ ds.length ≤ 1000000 ∧ ∀ (i : Nat) (x : V) (d : Dt), xs[i]? = some x → ds[i]? = some d → Is H n x d
def spSame : Nat → Sp
  | 0 => fun _ _ _ _ => False
  | n + 1 => fun vs H Q _ => ∃ (x y : V) (d : Dt), vs = [x, y] ∧ Is H n x d ∧ Is H n y d ∧ Q (.bl true) H
theorem ok_same {n : Nat} (F : Fun K "_law_same" "_law_same" s_law_same f fd) (DS : Dfn P w K mg base "_law_same" n ["told", "due"] (spSame n)) (mI : mg "isinstance" = none) (mT : mg "tuple" = none) (mL : mg "list" = none) (ml : mg "len" = none) (mr : mg "range" = none)
    (ms : mg "str" = none) (mi : mg "int" = none) (mb : mg "bool" = none) : FnOk P w K mg base CX0 (n + 1) f fd ["told", "due"] (spSame (n + 1)) := by
  refine F.ok sc_law_same (fun vs H Q E h => ?_) (fun cdv A outer s H vs Q E hr h => ?_)
  · obtain ⟨x, y, d, rfl, _⟩ := h
    rfl
  obtain ⟨x, y, d, rfl, hx, hy, q⟩ := h
  have bT : bootBuiltins "tuple" = some (.type "tuple") := by decide +kernel
  have bL : bootBuiltins "list" = some (.type "list") := by decide +kernel
  have bS : bootBuiltins "str" = some (.type "str") := by decide +kernel
  have bI : bootBuiltins "int" = some (.type "int") := by decide +kernel
  have bB : bootBuiltins "bool" = some (.type "bool") := by decide +kernel
  have bi : bootBuiltins "isinstance" = some (.builtin "isinstance") := by decide +kernel
  refine ⟨_, pss_cons (ps_if (PW.pt (pw_or (pt_val (pe_callB call_isi rfl mI bi (pa_cons (pv 1) (pa_cons (pe_bltn (v := .ty "tuple") rfl mT bT rfl) pa_nil)))) (pw_or1 (pt_val (pe_callB call_isi rfl mI bi (pa_cons (pv 1) (pa_cons (pe_bltn (v := .ty "list") rfl mL bL rfl) pa_nil)))))))
      (pss_cons (ps_if (PW.pt (pw_or (pt_cmpR op_ne (pe_callB call_isi rfl mI bi (pa_cons (pv 1) (pa_cons (pe_bltn (v := .ty "tuple") rfl mT bT rfl) pa_nil))) (pe_callB call_isi rfl mI bi (pa_cons (pv 0) (pa_cons (pe_bltn (v := .ty "tuple") rfl mT bT rfl) pa_nil))) (nomark _))
          (pw_or1 (pt_cmpR op_ne (pe_callB call_isi rfl mI bi (pa_cons (pv 1) (pa_cons (pe_bltn (v := .ty "list") rfl mL bL rfl) pa_nil))) (pe_callB call_isi rfl mI bi (pa_cons (pv 0) (pa_cons (pe_bltn (v := .ty "list") rfl mL bL rfl) pa_nil))) (nomark _)))))
        (pss_one (ps_ret pe_bl)) pss_nil)
      (pss_cons (ps_if (pt_cmpR op_ne (pe_callB call_len_seq rfl ml PySem.boot_len (pa_cons (pv 0) pa_nil)) (pe_callB call_len_seq rfl ml PySem.boot_len (pa_cons (pv 1) pa_nil)) (nomark _)) (pss_one (ps_ret pe_bl)) pss_nil)
      (pss_cons (ps_for PassesOwn.never rfl (pi_range1 rfl mr (pa_cons (pe_callB call_len_seq rfl ml PySem.boot_len (pa_cons (pv 1) pa_nil)) pa_nil)) (pg_name (i := 2) sc_law_same.nd rfl (.inl rfl))
        (pss_one (ps_if (pt_not (pt_val (pe_do DS hr (pa_cons (pe_ix ix_seq (pv 0) (pv 2) (fun _ _ => rfl)) (pa_cons (pe_ix ix_seq (pv 1) (pv 2) (fun _ _ => rfl)) pa_nil))))) (pss_one (ps_ret pe_bl)) pss_nil)))
      (pss_one (ps_ret pe_bl))))) pss_nil)
    (pss_cons (ps_if (pt_cmpR op_isN (pv 1) pe_non (nomark _)) (pss_one (ps_ret (pe_cmpR op_isN (pv 0) pe_non (nomark _)))) pss_nil)
    (pss_cons (ps_if (pt_val (pe_callB call_isi rfl mI bi (pa_cons (pv 1) (pa_cons (pe_bltn (v := .ty "str") rfl ms bS rfl) pa_nil))))
      (pss_one (ps_ret (pe_and (pe_callB call_isi rfl mI bi (pa_cons (pv 0) (pa_cons (pe_bltn (v := .ty "str") rfl ms bS rfl) pa_nil))) (pe_one (pe_cmpR op_eq (pv 0) (pv 1) (nomark _)))))) pss_nil)
    (pss_one (ps_ret (pe_and (pe_callB call_isi rfl mI bi (pa_cons (pv 0) (pa_cons (pe_bltn (v := .ty "int") rfl mi bI rfl) pa_nil)))
      (pe_and (pe_not (pe_callB call_isi rfl mI bi (pa_cons (pv 0) (pa_cons (pe_bltn (v := .ty "bool") rfl mb bB rfl) pa_nil)))) (pe_one (pe_cmpR op_eq (pv 0) (pv 1) (nomark _))))))))), ?_⟩
  have isn : ∀ (a b : String) (r : Bool), kitB a b = some r → PySem.W.kitOne K (.type a) (.type b) = some r := fun a b r h => kit_ty h
  cases d with
  | int i =>
    cases (show x = .int i by cases n <;> exact hx)
    cases (show y = .int i by cases n <;> exact hy)
    refine ⟨_, rfl, _, _, _, _, false, rfl, .ty _, .base (.int _), kit_ty (by decide +kernel), _, rfl, iteF ?_⟩
    refine ⟨_, rfl, _, _, _, _, false, rfl, .ty _, .base (.int _), kit_ty (by decide +kernel), _, rfl, iteF ?_⟩
    refine ⟨_, rfl, rfl, _, rfl, iteF ?_⟩
    refine ⟨_, rfl, _, _, _, _, false, rfl, .ty _, .base (.int _), kit_ty (by decide +kernel), _, rfl, iteF ?_⟩
    refine ⟨_, rfl, _, _, _, _, true, rfl, .ty _, .base (.int _), kit_ty (by decide +kernel), _, rfl, iteT ?_⟩
    refine ⟨_, rfl, _, _, _, _, false, rfl, .ty _, .base (.int _), kit_ty (by decide +kernel), _, rfl, _, rfl, iteT ?_⟩
    refine ⟨_, rfl, _, rfl, rfl, ?_⟩
    rw [decide_eq_true rfl]
    exact q
  | str z =>
    cases (show x = .str z by cases n <;> exact hx)
    cases (show y = .str z by cases n <;> exact hy)
    refine ⟨_, rfl, _, _, _, _, false, rfl, .ty _, .base (.str _), kit_ty (by decide +kernel), _, rfl, iteF ?_⟩
    refine ⟨_, rfl, _, _, _, _, false, rfl, .ty _, .base (.str _), kit_ty (by decide +kernel), _, rfl, iteF ?_⟩
    refine ⟨_, rfl, rfl, _, rfl, iteF ?_⟩
    refine ⟨_, rfl, _, _, _, _, true, rfl, .ty _, .base (.str _), kit_ty (by decide +kernel), _, rfl, iteT ?_⟩
    refine ⟨_, rfl, _, _, _, _, true, rfl, .ty _, .base (.str _), kit_ty (by decide +kernel), _, rfl, iteT ?_⟩
    refine ⟨_, rfl, _, rfl, rfl, ?_⟩
    rw [decide_eq_true rfl]
    exact q
  | non =>
    cases (show x = .non by cases n <;> exact hx)
    cases (show y = .non by cases n <;> exact hy)
    refine ⟨_, rfl, _, _, _, _, false, rfl, .ty _, .base .non, kit_ty (by decide +kernel), _, rfl, iteF ?_⟩
    refine ⟨_, rfl, _, _, _, _, false, rfl, .ty _, .base .non, kit_ty (by decide +kernel), _, rfl, iteF ?_⟩
    exact ⟨_, rfl, rfl, _, rfl, iteT ⟨_, rfl, rfl, q⟩⟩
  | tup ds =>
    cases n with
    | zero => exact hx.elim
    | succ n =>
      obtain ⟨a, xs, rfl, ha, la, ln, ka⟩ := hx
      obtain ⟨b, ys, rfl, hb, lb, _, kb⟩ := hy
      refine ⟨_, rfl, _, _, _, _, true, rfl, .ty _, .base (.tup hb), kit_ty (by decide +kernel), _, rfl, iteT ?_⟩
      refine ⟨_, rfl, _, _, _, _, true, rfl, .ty _, .base (.tup hb), kit_ty (by decide +kernel), _, rfl, _, _, _, _, true, rfl, .ty _, .base (.tup ha), kit_ty (by decide +kernel), rfl, _, rfl, iteF ?_⟩
      refine ⟨_, rfl, _, _, _, _, false, rfl, .ty _, .base (.tup hb), kit_ty (by decide +kernel), _, rfl, _, _, _, _, false, rfl, .ty _, .base (.tup ha), kit_ty (by decide +kernel), rfl, _, rfl, iteF ?_⟩
      refine ⟨_, rfl, a, xs, rfl, .inr (SqT.of ha), _, rfl, b, ys, rfl, .inr (SqT.of hb), rfl, _, rfl, ?_⟩
      rw [show (decide (V.int (xs.length : Int) = V.int (ys.length : Int))) = true from decide_eq_true (by rw [la, lb])]
      refine iteF ?_
      refine ⟨_, rfl, b, ys, rfl, .inr (SqT.of hb), (ys.length : Int), rfl, by omega, by omega, for_range (lo := 0) (n := (ys.length : Int).toNat) (fun i σ H' => H' = H ∧ ∃ v, σ = [some (.ref a), some (.ref b), v]) ⟨rfl, none, rfl⟩ ?_ ?_⟩
      · rintro i σ _ hi ⟨rfl, v, rfl⟩
        have hi1 : i < ys.length := by omega
        have hi2 : i < xs.length := by omega
        have hi3 : i < ds.length := by omega
        refine ⟨_, rfl, _, rfl, .inr (.inl ⟨a, xs, _, _, rfl, rfl, SqT.of ha, at_of (j := i) (by omega) (List.getElem?_eq_getElem hi2), ?_⟩)⟩
        refine ⟨_, rfl, _, rfl, .inr (.inl ⟨b, ys, _, _, rfl, rfl, SqT.of hb, at_of (j := i) (by omega) (List.getElem?_eq_getElem hi1), ?_⟩)⟩
        refine ⟨_, _, ds[i], rfl, ka i _ _ (List.getElem?_eq_getElem hi2) (List.getElem?_eq_getElem hi3), kb i _ _ (List.getElem?_eq_getElem hi1) (List.getElem?_eq_getElem hi3), _, rfl, iteF ⟨rfl, _, rfl⟩⟩
      · rintro σ _ ⟨rfl, v, rfl⟩
        exact q
  | lst ds =>
    cases n with
    | zero => exact hx.elim
    | succ n =>
      obtain ⟨a, xs, rfl, ha, la, ln, ka⟩ := hx
      obtain ⟨b, ys, rfl, hb, lb, _, kb⟩ := hy
      refine ⟨_, rfl, _, _, _, _, false, rfl, .ty _, .base (.lst hb), kit_ty (by decide +kernel), _, rfl, iteF ?_⟩
      refine ⟨_, rfl, _, _, _, _, true, rfl, .ty _, .base (.lst hb), kit_ty (by decide +kernel), _, rfl, iteT ?_⟩
      refine ⟨_, rfl, _, _, _, _, false, rfl, .ty _, .base (.lst hb), kit_ty (by decide +kernel), _, rfl, _, _, _, _, false, rfl, .ty _, .base (.lst ha), kit_ty (by decide +kernel), rfl, _, rfl, iteF ?_⟩
      refine ⟨_, rfl, _, _, _, _, true, rfl, .ty _, .base (.lst hb), kit_ty (by decide +kernel), _, rfl, _, _, _, _, true, rfl, .ty _, .base (.lst ha), kit_ty (by decide +kernel), rfl, _, rfl, iteF ?_⟩
      refine ⟨_, rfl, a, xs, rfl, .inl (SqL.of ha), _, rfl, b, ys, rfl, .inl (SqL.of hb), rfl, _, rfl, ?_⟩
      rw [show (decide (V.int (xs.length : Int) = V.int (ys.length : Int))) = true from decide_eq_true (by rw [la, lb])]
      refine iteF ?_
      refine ⟨_, rfl, b, ys, rfl, .inl (SqL.of hb), (ys.length : Int), rfl, by omega, by omega, for_range (lo := 0) (n := (ys.length : Int).toNat) (fun i σ H' => H' = H ∧ ∃ v, σ = [some (.ref a), some (.ref b), v]) ⟨rfl, none, rfl⟩ ?_ ?_⟩
      · rintro i σ _ hi ⟨rfl, v, rfl⟩
        have hi1 : i < ys.length := by omega
        have hi2 : i < xs.length := by omega
        have hi3 : i < ds.length := by omega
        refine ⟨_, rfl, _, rfl, .inl ⟨a, xs, _, _, rfl, rfl, SqL.of ha, at_of (j := i) (by omega) (List.getElem?_eq_getElem hi2), ?_⟩⟩
        refine ⟨_, rfl, _, rfl, .inl ⟨b, ys, _, _, rfl, rfl, SqL.of hb, at_of (j := i) (by omega) (List.getElem?_eq_getElem hi1), ?_⟩⟩
        refine ⟨_, _, ds[i], rfl, ka i _ _ (List.getElem?_eq_getElem hi2) (List.getElem?_eq_getElem hi3), kb i _ _ (List.getElem?_eq_getElem hi1) (List.getElem?_eq_getElem hi3), _, rfl, iteF ⟨rfl, _, rfl⟩⟩
      · rintro σ _ ⟨rfl, v, rfl⟩
        exact q
theorem none_same : FnOk P w K mg base CX0 0 f fd ["told", "due"] (spSame 0) := by
  have no : ∀ vs H Q E, ¬ spSame 0 vs H Q E := fun vs H Q E h => h
  exact ⟨fun vs H Q E h => absurd h (no vs H Q E), fun A outer s H args us vs Q E _ _ _ _ h => absurd h (no vs H Q E)⟩
end
section
variable {P : Program} {w : World} {K : PySem.W.Frag} {mg : Str → Option Value} {base : Heap} {f : Addr} {fd : FuncData}
theorem sign_eq {c n : Nat} {z : Str} (e : z = S [n]) : (V.str (S [c]) = V.str z) ↔ c = n := by
  subst e
  constructor
  · intro h
    have := S_inj (V.str.inj h)
    simpa using this
  · rintro rfl; rfl
theorem e_T : (("T" : Str)) = S [84] := by decide +kernel
theorem e_U : (("U" : Str)) = S [85] := by decide +kernel
theorem e_R : (("R" : Str)) = S [82] := by decide +kernel
def Tup2 (H : Hp) (t : Addr) (v : Int × Int) : Prop := H t = some (.tup [.int v.1, .int v.2])
def spCalled (K : PySem.W.Frag) : Sp := fun vs H Q _ => ∃ (t : Addr) (v : Int × Int) (c : Nat), vs = [.ref t, .str (S [c])] ∧ Tup2 H t v ∧ ∀ t' H', Same H H' → Tup2 H' t' (called v c) → Q (.ref t') H'
theorem ok_called (F : Fun K "_law_called" "_law_called" s_law_called f fd) : FnOk P w K mg base CX0 1 f fd ["value", "letter"] (spCalled K) := by
  refine F.ok sc_law_called (fun vs H Q E h => ?_) (fun cdv A outer s H vs Q E hr h => ?_)
  · obtain ⟨a, m, c, rfl, _⟩ := h
    rfl
  obtain ⟨t, ⟨p, q'⟩, c, rfl, hT, q⟩ := h
  refine ⟨_, pss_cons (ps_asg (pv 0) (pg_tup (by rfl) (pgs_cons (pg_name (i := 2) sc_law_called.nd rfl (.inl rfl)) (pgs_cons (pg_name (i := 3) sc_law_called.nd rfl (.inl rfl)) pgs_nil))))
    (pss_cons (ps_if (pt_cmpR op_eq (pv 1) pe_str (nomark _)) (pss_one (ps_ret (pe_tup (pa_cons (pe_op op_add (pv 2) (pv 3)) (pa_cons (pv 3) pa_nil))))) pss_nil)
    (pss_cons (ps_if (pt_cmpR op_eq (pv 1) pe_str (nomark _)) (pss_one (ps_ret (pe_tup (pa_cons (pe_op op_sub (pv 2) (pv 3)) (pa_cons (pv 3) pa_nil))))) pss_nil)
    (pss_cons (ps_if (pt_cmpR op_gt (pv 2) pe_int (nomark _)) (pss_one (ps_ret (pe_tup (pa_cons (pe_op op_sub pe_int (pv 3)) (pa_cons (pv 2) pa_nil))))) pss_nil)
    (pss_cons (ps_if (pt_cmpR op_lt (pv 2) pe_int (nomark _)) (pss_one (ps_ret (pe_tup (pa_cons (pv 3) (pa_cons (pe_op op_sub pe_int (pv 2)) pa_nil))))) pss_nil)
    (pss_one (ps_ret (pe_tup (pa_cons pe_int (pa_cons pe_int pa_nil))))))))), ?_⟩
  have two : 2 ≤ sizeLine := fits (by decide)
  refine ⟨_, rfl, t, _, rfl, SqT.of hT, rfl, _, _, rfl, _, _, rfl, rfl, ?_⟩
  refine ⟨_, rfl, rfl, _, rfl, ite2 (fun c1 => ?_) (fun c1 => ?_)⟩
  · have k1 : c = 84 := (sign_eq e_T).mp (of_decide_eq_true c1)
    refine ⟨_, rfl, _, rfl, _, _, rfl, rfl, _, rfl, two, fun n hn => q n _ (same_new hn _) ?_⟩
    unfold Tup2 called
    rw [upd_same, if_pos k1]
  have k1 : ¬ c = 84 := fun z => c1 (decide_eq_true ((sign_eq e_T).mpr z))
  refine ⟨_, rfl, rfl, _, rfl, ite2 (fun c2 => ?_) (fun c2 => ?_)⟩
  · have k2 : c = 85 := (sign_eq e_U).mp (of_decide_eq_true c2)
    refine ⟨_, rfl, _, rfl, _, _, rfl, rfl, _, rfl, two, fun n hn => q n _ (same_new hn _) ?_⟩
    unfold Tup2 called
    rw [upd_same, if_neg k1, if_pos k2]
  have k2 : ¬ c = 85 := fun z => c2 (decide_eq_true ((sign_eq e_U).mpr z))
  refine ⟨_, rfl, _, _, rfl, rfl, _, rfl, ite2 (fun c3 => ?_) (fun c3 => ?_)⟩
  · have k3 : 0 < p := of_decide_eq_true c3
    refine ⟨_, rfl, _, _, rfl, rfl, _, rfl, two, fun n hn => q n _ (same_new hn _) ?_⟩
    unfold Tup2 called
    rw [upd_same, if_neg k1, if_neg k2, if_pos k3]
  have k3 : ¬ 0 < p := fun z => c3 (decide_eq_true z)
  refine ⟨_, rfl, _, _, rfl, rfl, _, rfl, ite2 (fun c4 => ?_) (fun c4 => ?_)⟩
  · have k4 : p < 0 := of_decide_eq_true c4
    refine ⟨_, rfl, _, rfl, _, _, rfl, rfl, two, fun n hn => q n _ (same_new hn _) ?_⟩
    unfold Tup2 called
    rw [upd_same, if_neg k1, if_neg k2, if_neg k3, if_pos k4]
  have k4 : ¬ p < 0 := fun z => c4 (decide_eq_true z)
  refine ⟨two, fun n hn => q n _ (same_new hn _) ?_⟩
  unfold Tup2 called
  rw [upd_same, if_neg k1, if_neg k2, if_neg k3, if_neg k4]
theorem Tup2.same {H H' : Hp} {t : Addr} {v : Int × Int} (h : Tup2 H t v) (s : Same H H') : Tup2 H' t v := s _ _ h
theorem Tup2.but {H H' : Hp} {a t : Addr} {v : Int × Int} (h : Tup2 H t v) (s : But a H H') (tp : Tape H a) : Tup2 H' t v := by
  obtain ⟨y, c, z, b, e⟩ := tp
  exact s _ _ (ne_of h e (by intro q; cases q)) h
def spNumber (K : PySem.W.Frag) : Sp := fun vs H Q _ => ∃ l : List Nat, vs = [.str (S l)] ∧ ∀ t' H', Same H H' → Tup2 H' t' (run (0, 1) l) → Q (.ref t') H'
theorem ok_number (F : Fun K "_law_number" "_law_number" s_law_number f fd) (DC : Dfn P w K mg base "_law_called" 1 ["value", "letter"] (spCalled K)) : FnOk P w K mg base CX0 2 f fd ["dance"] (spNumber K) := by
  refine F.ok sc_law_number (fun vs H Q E h => ?_) (fun cdv A outer s H vs Q E hr h => ?_)
  · obtain ⟨l, rfl, _⟩ := h
    rfl
  obtain ⟨l, rfl, q⟩ := h
  refine ⟨_, pss_cons (ps_set (i := 1) sc_law_number.nd rfl (.inl rfl) (pe_tup (pa_cons pe_int (pa_cons pe_int pa_nil))))
    (pss_cons (ps_for PassesOwn.never rfl (pi_str (pv 0)) (pg_name (i := 2) sc_law_number.nd rfl (.inl rfl))
      (pss_one (ps_set (i := 1) sc_law_number.nd rfl (.inl rfl) (pe_do DC hr (pa_cons (pv 1) (pa_cons (pv 2) pa_nil))))))
    (pss_one (ps_ret (pv 1)))), ?_⟩
  refine ⟨fits (by decide), fun p hp => ?_⟩
  refine ⟨_, rfl, _, rfl, for_str (l := l) (fun i σ H' => ∃ (t : Addr) (v : Option V), σ = [some (.str (S l)), some (.ref t), v] ∧ Same H H' ∧ Tup2 H' t (run (0, 1) (l.take i))) ?_ ?_ ?_⟩
  · exact ⟨p, _, rfl, same_new hp _, upd_same⟩
  · rintro i c σ H' hc ⟨t, v, rfl, sm, tt⟩
    refine ⟨_, rfl, _, rfl, t, _, c, rfl, tt, fun t' H2 s2 tt2 => ?_⟩
    exact ⟨t', _, rfl, sm.trans s2, by rw [run_take _ hc]; exact tt2⟩
  · rintro σ H' ⟨t, v, rfl, sm, tt⟩
    rw [List.take_of_length_le (Nat.le_refl _)] at tt
    exact ⟨_, rfl, q t H' sm tt⟩
end
section
variable {P : Program} {w : World} {K : PySem.W.Frag} {mg : Str → Option Value} {base : Heap} {f : Addr} {fd : FuncData}
def spInteger : Sp := fun vs H Q _ => ∃ (a : Addr), vs = [.ref a] ∧ Tape H a ∧ ∀ (z : Int) H', z.natAbs < 2 ^ 100 → But a H H' → Tape H' a → Q (.int z) H'
theorem five_sizes {r : Int} (h0 : 0 ≤ r) (h1 : r < 5) : ∃ z : Int, atI [V.int 3, .int 10, .int 1000, .int (10 ^ (12 : Int).toNat), .int (10 ^ (30 : Int).toNat)] r = some (.int z) ∧ 0 < z ∧ z < 2 ^ 100 := by
  obtain ⟨c, hc, m⟩ := atI_mk (xs := [V.int 3, .int 10, .int 1000, .int (10 ^ (12 : Int).toNat), .int (10 ^ (30 : Int).toNat)]) h0 h1
  simp only [List.mem_cons, List.not_mem_nil, or_false] at m
  rcases m with rfl | rfl | rfl | rfl | rfl
  · exact ⟨3, hc, by decide, by decide⟩
  · exact ⟨10, hc, by decide, by decide⟩
  · exact ⟨1000, hc, by decide, by decide⟩
  · exact ⟨_, hc, by decide, by decide⟩
  · exact ⟨_, hc, by decide, by decide⟩
theorem two_signs {r : Int} (h0 : 0 ≤ r) (h1 : r < 2) : ∃ z : Int, atI [V.int 1, .int (-1)] r = some (.int z) ∧ (z = 1 ∨ z = -1) := by
  obtain ⟨c, hc, m⟩ := atI_mk (xs := [V.int 1, .int (-1)]) h0 h1
  simp only [List.mem_cons, List.not_mem_nil, or_false] at m
  rcases m with rfl | rfl
  · exact ⟨1, hc, .inl rfl⟩
  · exact ⟨-1, hc, .inr rfl⟩
theorem ok_integer (F : Fun K "_law_integer" "_law_integer" s_law_integer f fd) (DT : Dfn P w K mg base "_law_take" 1 ["tape", "many"] spTake) (mr : mg "range" = none) (mi : mg "int" = none) : FnOk P w K mg base CX0 2 f fd ["tape"] spInteger := by
  refine F.ok sc_law_integer (fun vs H Q E h => ?_) (fun cdv A outer s H vs Q E hr h => ?_)
  · obtain ⟨a, rfl, _⟩ := h
    rfl
  obtain ⟨a, rfl, hT, q⟩ := h
  refine ⟨_, pss_cons (ps_set (i := 1) sc_law_integer.nd rfl (.inl rfl) (pe_ix ix_list (pe_lst (pa_cons pe_int (pa_cons pe_int (pa_cons pe_int (pa_cons (pe_op op_pow pe_int pe_int) (pa_cons (pe_op op_pow pe_int pe_int) pa_nil)))))) (pe_do DT hr (pa_cons (pv 0) (pa_cons pe_int pa_nil))) (fun _ _ => rfl)))
    (pss_cons (ps_set (i := 2) sc_law_integer.nd rfl (.inl rfl) pe_int)
    (pss_cons (ps_for PassesOwn.never rfl (pi_range1 rfl mr (pa_cons pe_int pa_nil)) (pg_name (i := 3) sc_law_integer.nd rfl (.inl rfl))
      (pss_one (ps_set (i := 2) sc_law_integer.nd rfl (.inl rfl) (pe_op op_add (pe_op op_mul (pv 2) pe_int) (pe_do DT hr (pa_cons (pv 0) (pa_cons pe_int pa_nil)))))))
    (pss_one (ps_ret (pe_op op_mul (pe_op op_modN (pe_callTy call_int1 rfl mi (by decide +kernel) (pa_cons (pv 2) pa_nil)) (pv 1)) (pe_ix ix_list (pe_lst (pa_cons pe_int (pa_cons (pe_un un_neg pe_int) pa_nil))) (pe_do DT hr (pa_cons (pv 0) (pa_cons pe_int pa_nil))) (fun _ _ => rfl))))))), ?_⟩
  refine ⟨_, _, rfl, rfl, ⟨by decide, by decide, by decide⟩, _, _, rfl, rfl, ⟨by decide, by decide, by decide⟩, fits (by decide), fun p hp => ?_⟩
  have np := hT.ne hp
  refine ⟨_, rfl, a, 5, rfl, hT.same (same_new hp _), by decide, by decide, fun r H1 r0 r1 b1 t1 => ?_⟩
  obtain ⟨z, hz, z0, z1⟩ := five_sizes r0 r1
  refine ⟨p, _, _, _, rfl, rfl, SqL.of (b1 _ _ np upd_same), hz, ?_⟩
  have B1 : But a H H1 := (But.of (same_new hp _)).trans b1
  refine ⟨5, rfl, by decide, by decide, for_range (lo := 0) (n := 5) (fun i σ H' => ∃ (y : Int) (v : Option V), σ = [some (.ref a), some (.int z), some (.int y), v] ∧ But a H H' ∧ Tape H' a) ?_ ?_ ?_⟩
  · exact ⟨0, none, rfl, B1, t1⟩
  · rintro i σ H' hi ⟨y, v, rfl, bt, tp⟩
    refine ⟨_, rfl, _, _, rfl, rfl, .inr ⟨by decide, by decide⟩, _, rfl, a, 1000003, rfl, tp, by decide, by decide, fun r3 H3 r30 r31 b3 t3 => ?_⟩
    exact ⟨_, _, rfl, rfl, _, _, rfl, bt.trans b3, t3⟩
  · rintro σ H' ⟨y, v, rfl, bt, tp⟩
    refine ⟨_, rfl, .inl ⟨_, rfl, _, rfl, _, _, rfl, rfl, (show z ≠ 0 by omega), _, rfl, fits (by decide), fun p2 hp2 => ?_⟩⟩
    have np2 := tp.ne hp2
    refine ⟨_, rfl, a, 2, rfl, tp.same (same_new hp2 _), by decide, by decide, fun r4 H4 r40 r41 b4 t4 => ?_⟩
    obtain ⟨g, hg, g1⟩ := two_signs r40 r41
    refine ⟨p2, _, _, _, rfl, rfl, SqL.of (b4 _ _ np2 upd_same), hg, _, _, rfl, rfl, .inr ⟨by omega, by omega⟩, ?_⟩
    refine q _ _ ?_ ((bt.trans (But.of (same_new hp2 _))).trans b4) t4
    rw [Int.fmod_eq_emod_of_nonneg y (by omega)]
    have h1 := Int.emod_nonneg y (b := z) (by omega)
    have h2 := Int.emod_lt_of_pos y z0
    rw [Int.natAbs_mul]
    have h3 : g.natAbs = 1 := by rcases g1 with rfl | rfl <;> rfl
    rw [h3, Nat.mul_one]
    omega
end
section
variable {P : Program} {w : World} {K : PySem.W.Frag} {mg : Str → Option Value} {base : Heap} {f : Addr} {fd : FuncData}
/-! ### the program: turned, after -/
def spTurned : Sp := fun vs H Q _ => ∃ p q' : Int, vs = [.int p, .int q'] ∧ ∀ t' H', Same H H' → Tup2 H' t' (called (p, q') 82) → Q (.ref t') H'
theorem ok_turned (F : Fun K "turned" "turned" s_turned f fd) : FnOk P w K mg base CX0 1 f fd ["p", "q"] spTurned := by
  refine F.ok sc_turned (fun vs H Q E h => ?_) (fun cdv A outer s H vs Q E hr h => ?_)
  · obtain ⟨p, q', rfl, _⟩ := h
    rfl
  obtain ⟨p, q', rfl, q⟩ := h
  refine ⟨_, pss_cons (ps_if (pt_cmpR op_eq (pv 0) pe_int (nomark _)) (pss_one (ps_ret (pe_tup (pa_cons pe_int (pa_cons pe_int pa_nil))))) pss_nil)
    (pss_cons (ps_if (pt_cmpR op_lt (pv 0) pe_int (nomark _)) (pss_one (ps_ret (pe_tup (pa_cons (pv 1) (pa_cons (pe_un un_neg (pv 0)) pa_nil))))) pss_nil)
    (pss_one (ps_ret (pe_tup (pa_cons (pe_un un_neg (pv 1)) (pa_cons (pv 0) pa_nil)))))), ?_⟩
  have two : 2 ≤ sizeLine := fits (by decide)
  have e1 : ¬ (82 : Nat) = 84 := by decide
  have e2 : ¬ (82 : Nat) = 85 := by decide
  refine ⟨_, rfl, rfl, _, rfl, ite2 (fun c1 => ?_) (fun c1 => ?_)⟩
  · have k1 : p = 0 := V.int.inj (of_decide_eq_true c1)
    subst k1
    refine ⟨two, fun n hn => q n _ (same_new hn _) ?_⟩
    unfold Tup2 called
    rw [upd_same, if_neg e1, if_neg e2, if_neg (show ¬ (0 : Int) < 0 by decide), if_neg (show ¬ (0 : Int) < 0 by decide)]
  have k1 : ¬ p = 0 := fun z => c1 (decide_eq_true (by rw [z]))
  refine ⟨_, rfl, _, _, rfl, rfl, _, rfl, ite2 (fun c2 => ?_) (fun c2 => ?_)⟩
  · have k2 : p < 0 := of_decide_eq_true c2
    refine ⟨_, rfl, _, rfl, _, rfl, two, fun n hn => q n _ (same_new hn _) ?_⟩
    unfold Tup2 called
    rw [upd_same, if_neg e1, if_neg e2, if_neg (show ¬ (0 : Int) < p by omega), if_pos k2, Int.zero_sub]
  have k2 : ¬ p < 0 := fun z => c2 (decide_eq_true z)
  refine ⟨_, rfl, _, rfl, _, rfl, two, fun n hn => q n _ (same_new hn _) ?_⟩
  unfold Tup2 called
  rw [upd_same, if_neg e1, if_neg e2, if_pos (show (0 : Int) < p by omega), Int.zero_sub]
theorem called_other {v : Int × Int} {c : Nat} (h1 : ¬ c = 84) (h2 : ¬ c = 85) : called v c = called v 82 := by
  unfold called
  rw [if_neg h1, if_neg h2, if_neg (show ¬ (82 : Nat) = 84 by decide), if_neg (show ¬ (82 : Nat) = 85 by decide)]
def spAfter : Sp := fun vs H Q _ => ∃ (t : Addr) (v : Int × Int) (l : List Nat), vs = [.ref t, .str (S l)] ∧ Tup2 H t v ∧ ∀ t' H', Same H H' → Tup2 H' t' (run v l) → Q (.ref t') H'
theorem ok_after (F : Fun K "after" "after" s_after f fd) (DT : Dfn P w K mg base "turned" 1 ["p", "q"] spTurned) : FnOk P w K mg base CX0 2 f fd ["fraction", "dance"] spAfter := by
  refine F.ok sc_after (fun vs H Q E h => ?_) (fun cdv A outer s H vs Q E hr h => ?_)
  · obtain ⟨t, v, l, rfl, _⟩ := h
    rfl
  obtain ⟨t, v, l, rfl, hT, q⟩ := h
  refine ⟨_, pss_cons (ps_asg (pv 0) (pg_tup (by rfl) (pgs_cons (pg_name (i := 2) sc_after.nd rfl (.inl rfl)) (pgs_cons (pg_name (i := 3) sc_after.nd rfl (.inl rfl)) pgs_nil))))
    (pss_cons (ps_for PassesOwn.never rfl (pi_str (pv 1)) (pg_name (i := 4) sc_after.nd rfl (.inl rfl))
      (pss_one (ps_if (pt_cmpR op_eq (pv 4) pe_str (nomark _)) (pss_one (ps_aug (i := 2) sc_after.nd rfl (.inl rfl) (pv 3) ip_add))
        (pss_one (ps_if (pt_cmpR op_eq (pv 4) pe_str (nomark _)) (pss_one (ps_aug (i := 2) sc_after.nd rfl (.inl rfl) (pv 3) ip_sub))
          (pss_one (ps_asg (pe_do DT hr (pa_cons (pv 2) (pa_cons (pv 3) pa_nil))) (pg_tup (by rfl) (pgs_cons (pg_name (i := 2) sc_after.nd rfl (.inl rfl)) (pgs_cons (pg_name (i := 3) sc_after.nd rfl (.inl rfl)) pgs_nil))))))))))
    (pss_one (ps_ret (pe_tup (pa_cons (pv 2) (pa_cons (pv 3) pa_nil)))))), ?_⟩
  refine ⟨_, rfl, t, _, rfl, SqT.of hT, rfl, _, _, rfl, _, _, rfl, rfl, ?_⟩
  refine ⟨_, rfl, _, rfl, for_str (l := l) (fun i σ H' => ∃ (x : Option V), σ = [some (.ref t), some (.str (S l)), some (.int (run v (l.take i)).1), some (.int (run v (l.take i)).2), x] ∧ Same H H') ?_ ?_ ?_⟩
  · exact ⟨none, rfl, Same.refl H⟩
  · rintro i c σ H' hc ⟨x, rfl, sm⟩
    have st := run_take v hc
    generalize run v (l.take i) = u at *
    obtain ⟨p, q'⟩ := u
    refine ⟨_, rfl, rfl, _, rfl, ite2 (fun c1 => ?_) (fun c1 => ?_)⟩
    · have k1 : c = 84 := (sign_eq e_T).mp (of_decide_eq_true c1)
      refine ⟨_, rfl, _, rfl, _, _, rfl, rfl, some (.str (S [c])), ?_, sm⟩
      rw [st]
      unfold called
      rw [if_pos k1]
      rfl
    have k1 : ¬ c = 84 := fun z => c1 (decide_eq_true ((sign_eq e_T).mpr z))
    refine ⟨_, rfl, rfl, _, rfl, ite2 (fun c2 => ?_) (fun c2 => ?_)⟩
    · have k2 : c = 85 := (sign_eq e_U).mp (of_decide_eq_true c2)
      refine ⟨_, rfl, _, rfl, _, _, rfl, rfl, some (.str (S [c])), ?_, sm⟩
      rw [st]
      unfold called
      rw [if_neg k1, if_pos k2]
      rfl
    have k2 : ¬ c = 85 := fun z => c2 (decide_eq_true ((sign_eq e_U).mpr z))
    refine ⟨_, rfl, _, rfl, p, q', rfl, fun t' H2 s2 tt => ?_⟩
    refine ⟨t', _, rfl, SqT.of tt, rfl, _, _, rfl, _, _, rfl, rfl, some (.str (S [c])), ?_, sm.trans s2⟩
    rw [st, called_other k1 k2]
    rfl
  · rintro σ H' ⟨x, rfl, sm⟩
    rw [List.take_of_length_le (Nat.le_refl _)]
    exact ⟨_, rfl, _, rfl, fits (by show 2 ≤ 16777216; decide), fun n hn => q n _ (sm.trans (same_new hn _)) upd_same⟩
end
section
theorem int_is {H : Hp} {n : Nat} {i : Int} : Is H n (.int i) (.int i) := by cases n <;> rfl
theorem str_is {H : Hp} {n : Nat} {z : Str} : Is H n (.str z) (.str z) := by cases n <;> rfl
theorem is_tup {H : Hp} {n : Nat} {a : Addr} {xs : List V} {ds : List Dt} (h : H a = some (.tup xs)) (z : xs.length = ds.length) (m : ds.length ≤ 1000000) (k : ∀ (i : Nat) (x : V) (d : Dt), xs[i]? = some x → ds[i]? = some d → Is H n x d) : Is H (n + 1) (.ref a) (.tup ds) := ⟨a, xs, rfl, h, z, m, k⟩
theorem is_lst {H : Hp} {n : Nat} {a : Addr} {xs : List V} {ds : List Dt} (h : H a = some (.lst xs)) (z : xs.length = ds.length) (m : ds.length ≤ 1000000) (k : ∀ (i : Nat) (x : V) (d : Dt), xs[i]? = some x → ds[i]? = some d → Is H n x d) : Is H (n + 1) (.ref a) (.lst ds) := ⟨a, xs, rfl, h, z, m, k⟩
end
theorem S_eta (z : Str) : S z.cps.toList = z := by
  cases z
  simp [S]
def tx (l : List Nat) : V := .str (S l)
theorem tx_inj {a b : List Nat} (h : tx a = tx b) : a = b := S_inj (V.str.inj h)
theorem tx_iff {a b : List Nat} : V.str (S a) = V.str (S b) ↔ a = b := ⟨fun h => tx_inj h, fun h => by rw [h]⟩
section
/-! ### lists of tuples, each by its items -/
def Tl (H : Hp) (p : Addr) (ds : List (List V)) : Prop := ∃ rs : List Addr, H p = some (.lst (rs.map V.ref)) ∧ rs.length = ds.length ∧ ∀ (i : Nat) (r : Addr) (d : List V), rs[i]? = some r → ds[i]? = some d → H r = some (.tup d)
theorem Tl.same {H H' : Hp} {p : Addr} {ds : List (List V)} (h : Tl H p ds) (s : Same H H') : Tl H' p ds := by
  obtain ⟨rs, e, z, k⟩ := h
  exact ⟨rs, s _ _ e, z, fun i r d a b => s _ _ (k i r d a b)⟩
theorem Tl.but {H H' : Hp} {a p : Addr} {ds : List (List V)} {zs : List V} (h : Tl H p ds) (s : But a H H') (ne : p ≠ a) (ha : H a = some (.lst zs)) : Tl H' p ds := by
  obtain ⟨rs, e, z, k⟩ := h
  exact ⟨rs, s _ _ ne e, z, fun i r d x y => s _ _ (ne_of (k i r d x y) ha (by intro q; cases q)) (k i r d x y)⟩
theorem Tl.tape {H H' : Hp} {a p : Addr} {ds : List (List V)} (h : Tl H p ds) (s : But a H H') (ne : p ≠ a) (tp : Tape H a) : Tl H' p ds := by
  obtain ⟨y, c, z, b, e⟩ := tp
  exact h.but s ne e
theorem Tl.nil {H : Hp} {p : Addr} (h : H p = some (.lst [])) : Tl H p [] := ⟨[], h, rfl, fun i r d a _ => by cases a⟩
theorem Tl.lst {H : Hp} {p : Addr} {ds : List (List V)} (h : Tl H p ds) : ∃ xs, H p = some (.lst xs) ∧ xs.length = ds.length := by
  obtain ⟨rs, e, z, k⟩ := h
  exact ⟨_, e, by rw [List.length_map]; exact z⟩
theorem Tl.at {H : Hp} {p : Addr} {ds : List (List V)} (h : Tl H p ds) {i : Nat} {d : List V} (hd : ds[i]? = some d) : ∃ xs r, H p = some (.lst xs) ∧ xs.length = ds.length ∧ xs[i]? = some (.ref r) ∧ H r = some (.tup d) := by
  obtain ⟨rs, e, z, k⟩ := h
  have hi : i < rs.length := by rw [z]; exact (List.getElem?_eq_some_iff.mp hd).1
  refine ⟨_, rs[i], e, by rw [List.length_map]; exact z, by rw [List.getElem?_map, List.getElem?_eq_getElem hi]; rfl, k i _ _ (List.getElem?_eq_getElem hi) hd⟩
/-- a tuple that stands at t is appended -/
theorem Tl.push {H : Hp} {p t : Addr} {ds : List (List V)} {d : List V} (h : Tl H p ds) (ht : H t = some (.tup d)) :
    ∃ xs, H p = some (.lst xs) ∧ xs.length = ds.length ∧ Tl (upd H p (.lst (xs ++ [.ref t]))) p (ds ++ [d]) := by
  obtain ⟨rs, e, z, k⟩ := h
  refine ⟨rs.map V.ref, e, by rw [List.length_map]; exact z, rs ++ [t], by rw [upd_same, List.map_append]; rfl, by rw [List.length_append, List.length_append, z]; rfl, fun i r c' hr hc => ?_⟩
  by_cases hi : i < rs.length
  · rw [List.getElem?_append_left hi] at hr
    rw [List.getElem?_append_left (by omega)] at hc
    have hk := k i r c' hr hc
    rw [upd_ne (ne_of hk e (by intro q; cases q))]
    exact hk
  · rw [List.getElem?_append_right (by omega)] at hr hc
    rw [z] at hr
    by_cases h0 : i - ds.length = 0
    · rw [h0] at hr hc
      cases hr; cases hc
      rw [upd_ne (ne_of ht e (by intro q; cases q))]
      exact ht
    · obtain ⟨m, hm⟩ := Nat.exists_eq_succ_of_ne_zero h0
      rw [hm] at hr
      cases hr
/-- a new list of the same objects: another list at q, its items picked from those at p -/
theorem Tl.pick {H H' : Hp} {p q : Addr} {ds : List (List V)} (h : Tl H p ds) (s : Same H H') (js : List Nat) (hj : ∀ j ∈ js, j < ds.length) {xs : List V} (hp : H p = some (.lst xs)) (hq : H' q = some (.lst (js.filterMap fun j => xs[j]?))) : Tl H' q (js.filterMap fun j => ds[j]?) := by
  obtain ⟨rs, e, z, k⟩ := h
  rw [e] at hp
  cases hp
  refine ⟨js.filterMap fun j => rs[j]?, ?_, ?_, ?_⟩
  · rw [hq, List.map_filterMap]
    congr 3
    funext j
    rw [List.getElem?_map]
  · have : ∀ (js : List Nat), (∀ j ∈ js, j < ds.length) → (js.filterMap fun j => rs[j]?).length = (js.filterMap fun j => ds[j]?).length := by
      intro js
      induction js with
      | nil => intro _; rfl
      | cons j r ih =>
        intro hj
        have h1 := hj j List.mem_cons_self
        rw [List.filterMap_cons, List.filterMap_cons, List.getElem?_eq_getElem h1, List.getElem?_eq_getElem (by omega : j < rs.length)]
        simp only [List.length_cons]
        rw [ih fun x hx => hj x (List.mem_cons_of_mem _ hx)]
    exact this js hj
  · have : ∀ (js : List Nat), (∀ j ∈ js, j < ds.length) → ∀ (i : Nat) (r : Addr) (d : List V), (js.filterMap fun j => rs[j]?)[i]? = some r → (js.filterMap fun j => ds[j]?)[i]? = some d → H' r = some (.tup d) := by
      intro js
      induction js with
      | nil => intro _ i r d hr _; cases hr
      | cons j r ih =>
        intro hj i r d hr hd
        have h1 := hj j List.mem_cons_self
        rw [List.filterMap_cons, List.getElem?_eq_getElem (by omega : j < rs.length)] at hr
        rw [List.filterMap_cons, List.getElem?_eq_getElem h1] at hd
        cases i with
        | zero =>
          cases hr; cases hd
          exact s _ _ (k j _ _ (List.getElem?_eq_getElem (by omega)) (List.getElem?_eq_getElem h1))
        | succ i => exact ih (fun x hx => hj x (List.mem_cons_of_mem _ hx)) i r d hr hd
    exact this js hj
end
section
variable {P : Program} {w : World} {K : PySem.W.Frag} {mg : Str → Option Value} {base : Heap} {f : Addr} {fd : FuncData}
/-! ### diagrams -/
structure Dg where
  n : Nat
  cs : List (Nat × Nat × Nat)
  a : Nat
  b : Nat
  c : Nat
  d : Nat
def dg1 (g : Dg) (c : Nat) : Dg :=
  if c = 82 then ⟨g.n, g.cs, g.c, g.a, g.d, g.b⟩ else if c = 84 then ⟨g.n + 1, g.cs ++ [(g.b, g.d, g.n)], g.a, g.n, g.c, g.b⟩ else ⟨g.n + 1, g.cs ++ [(g.d, g.b, g.n)], g.a, g.d, g.c, g.n⟩
def dg0 : Dg := ⟨2, [], 0, 0, 1, 1⟩
def dg (l : List Nat) : Dg := l.foldl dg1 dg0
theorem dg_take {l : List Nat} {i c : Nat} (h : l[i]? = some c) : dg (l.take (i + 1)) = dg1 (dg (l.take i)) c := by
  unfold dg
  rw [List.take_add_one, h, List.foldl_append]
  rfl
theorem dg_len (l : List Nat) : (dg l).cs.length ≤ l.length := by
  suffices h : ∀ (l : List Nat) (g : Dg), (l.foldl dg1 g).cs.length ≤ g.cs.length + l.length by
    have := h l dg0
    simpa [dg, dg0] using this
  intro l
  induction l with
  | nil => intro g; simp
  | cons c r ih =>
    intro g
    have h1 := ih (dg1 g c)
    have h2 : (dg1 g c).cs.length ≤ g.cs.length + 1 := by
      unfold dg1
      repeat' split
      all_goals simp
    simp only [List.foldl_cons, List.length_cons]
    omega
def t3 (c : Nat × Nat × Nat) : HO := .tup [.int (c.1 : Int), .int (c.2.1 : Int), .int (c.2.2 : Int)]
/-- at p a list of the crossings cs, a tuple each -/
def Crs (H : Hp) (p : Addr) (cs : List (Nat × Nat × Nat)) : Prop := ∃ rs : List Addr, H p = some (.lst (rs.map V.ref)) ∧ rs.length = cs.length ∧ ∀ (i : Nat) (r : Addr) (c : Nat × Nat × Nat), rs[i]? = some r → cs[i]? = some c → H r = some (t3 c)
theorem Crs.same {H H' : Hp} {p : Addr} {cs : List (Nat × Nat × Nat)} (h : Crs H p cs) (s : Same H H') : Crs H' p cs := by
  obtain ⟨rs, e, z, k⟩ := h
  exact ⟨rs, s _ _ e, z, fun i r c a b => s _ _ (k i r c a b)⟩
theorem Crs.but {H H' : Hp} {a p : Addr} {cs : List (Nat × Nat × Nat)} {zs : List V} (h : Crs H p cs) (s : But a H H') (ne : p ≠ a) (ha : H a = some (.lst zs)) : Crs H' p cs := by
  obtain ⟨rs, e, z, k⟩ := h
  exact ⟨rs, s _ _ ne e, z, fun i r c x y => s _ _ (ne_of (k i r c x y) ha (by intro q; cases q)) (k i r c x y)⟩
/-- one more crossing: a new tuple at t, appended -/
theorem Crs.push {H : Hp} {p t : Addr} {cs : List (Nat × Nat × Nat)} (h : Crs H p cs) (ht : H t = none) (c : Nat × Nat × Nat) :
    ∃ xs, upd H t (t3 c) p = some (.lst xs) ∧ xs.length = cs.length ∧ Crs (upd (upd H t (t3 c)) p (.lst (xs ++ [.ref t]))) p (cs ++ [c]) := by
  obtain ⟨rs, e, z, k⟩ := h
  have hpt : p ≠ t := ne_of_none e ht
  refine ⟨rs.map V.ref, by rw [upd_ne hpt]; exact e, by rw [List.length_map]; exact z, rs ++ [t], by rw [upd_same, List.map_append]; rfl, by rw [List.length_append, List.length_append, z]; rfl, fun i r c' hr hc => ?_⟩
  by_cases hi : i < rs.length
  · rw [List.getElem?_append_left hi] at hr
    rw [List.getElem?_append_left (by omega)] at hc
    have hk := k i r c' hr hc
    rw [upd_ne (ne_of hk e (by intro q; cases q)), upd_ne (ne_of_none hk ht)]
    exact hk
  · rw [List.getElem?_append_right (by omega)] at hr hc
    rw [z] at hr
    by_cases h0 : i - cs.length = 0
    · rw [h0] at hr hc
      cases hr; cases hc
      rw [upd_ne (Ne.symm hpt), upd_same]
    · obtain ⟨m, hm⟩ := Nat.exists_eq_succ_of_ne_zero h0
      rw [hm] at hr
      cases hr
def e4 (g : Dg) : HO := .tup [.int (g.a : Int), .int (g.b : Int), .int (g.c : Int), .int (g.d : Int)]
/-- at t a diagram, its list of crossings at p -/
def Diag (H : Hp) (t p : Addr) (g : Dg) : Prop := ∃ e, H t = some (.tup [.int (g.n : Int), .ref p, .ref e]) ∧ H e = some (e4 g) ∧ Crs H p g.cs
theorem Diag.same {H H' : Hp} {t p : Addr} {g : Dg} (h : Diag H t p g) (s : Same H H') : Diag H' t p g := by
  obtain ⟨e, a, b, c⟩ := h
  exact ⟨e, s _ _ a, s _ _ b, c.same s⟩
theorem Diag.but {H H' : Hp} {a t p : Addr} {g : Dg} {zs : List V} (h : Diag H t p g) (s : But a H H') (ne : p ≠ a) (ha : H a = some (.lst zs)) : Diag H' t p g := by
  obtain ⟨e, x, y, c⟩ := h
  exact ⟨e, s _ _ (ne_of x ha (by intro q; cases q)) x, s _ _ (ne_of y ha (by intro q; cases q)) y, c.but s ne ha⟩
def spDiag : Sp := fun vs H Q _ => ∃ l : List Nat, vs = [.str (S l)] ∧ l.length ≤ 1000000 ∧ ∀ (t p : Addr) H', Same H H' → H p = none → Diag H' t p (dg l) → Q (.ref t) H'
end
section
/-! ### colourings -/
def cstep (A : List Int) (c : Nat × Nat × Nat) : List Int := A ++ [2 * A.getD c.1 0 - A.getD c.2.1 0]
def col (cs : List (Nat × Nat × Nat)) (x y : Int) : List Int := cs.foldl cstep [x, y]
theorem col_snoc (cs : List (Nat × Nat × Nat)) (c : Nat × Nat × Nat) (x y : Int) : col (cs ++ [c]) x y = cstep (col cs x y) c := by
  unfold col
  rw [List.foldl_append]
  rfl
theorem col_len (x y : Int) (cs : List (Nat × Nat × Nat)) : (col cs x y).length = cs.length + 2 := by
  suffices h : ∀ (cs : List (Nat × Nat × Nat)) (A : List Int), (cs.foldl cstep A).length = A.length + cs.length by
    have := h cs [x, y]
    unfold col
    rw [this]
    show 2 + _ = _
    omega
  intro cs
  induction cs with
  | nil => intro A; simp
  | cons c r ih =>
    intro A
    rw [List.foldl_cons, ih]
    unfold cstep
    simp only [List.length_append, List.length_cons, List.length_nil]
    omega
theorem getD_left {A B : List Int} {i : Nat} (h : i < A.length) : (A ++ B).getD i 0 = A.getD i 0 := by
  rw [List.getD_eq_getElem?_getD, List.getD_eq_getElem?_getD, List.getElem?_append_left h]
theorem getD_last (A : List Int) (z : Int) : (A ++ [z]).getD A.length 0 = z := by
  rw [List.getD_eq_getElem?_getD, List.getElem?_append_right (Nat.le_refl _), Nat.sub_self]
  rfl
/-- a diagram as the document makes it -/
structure Wf (g : Dg) : Prop where
  n : g.n = g.cs.length + 2
  a : g.a < g.n
  b : g.b < g.n
  c : g.c < g.n
  d : g.d < g.n
  at_ : ∀ (i : Nat) (c : Nat × Nat × Nat), g.cs[i]? = some c → c.2.2 = i + 2 ∧ c.1 < i + 2 ∧ c.2.1 < i + 2
theorem Wf.zero : Wf dg0 := ⟨rfl, by decide, by decide, by decide, by decide, fun i c h => by cases h⟩
theorem wf_push {n : Nat} {cs : List (Nat × Nat × Nat)} {o b : Nat} (hn : n = cs.length + 2) (h : ∀ (i : Nat) (c : Nat × Nat × Nat), cs[i]? = some c → c.2.2 = i + 2 ∧ c.1 < i + 2 ∧ c.2.1 < i + 2) (ho : o < n) (hb : b < n) :
    ∀ (i : Nat) (c : Nat × Nat × Nat), (cs ++ [(o, b, n)])[i]? = some c → c.2.2 = i + 2 ∧ c.1 < i + 2 ∧ c.2.1 < i + 2 := by
  intro i c hc
  by_cases hi : i < cs.length
  · rw [List.getElem?_append_left hi] at hc
    exact h i c hc
  · rw [List.getElem?_append_right (by omega)] at hc
    by_cases h0 : i - cs.length = 0
    · rw [h0] at hc
      cases hc
      exact ⟨by show n = _; omega, by show o < _; omega, by show b < _; omega⟩
    · obtain ⟨m, hm⟩ := Nat.exists_eq_succ_of_ne_zero h0
      rw [hm] at hc
      cases hc
theorem Wf.step {g : Dg} (w : Wf g) (c : Nat) : Wf (dg1 g c) := by
  obtain ⟨n, a, b, cc, d, h⟩ := w
  unfold dg1
  by_cases c1 : c = 82
  · rw [if_pos c1]
    exact ⟨n, cc, a, d, b, h⟩
  rw [if_neg c1]
  by_cases c2 : c = 84
  · rw [if_pos c2]
    exact ⟨by show g.n + 1 = (g.cs ++ [_]).length + 2; rw [List.length_append]; show _ = g.cs.length + 1 + 2; omega, by show g.a < g.n + 1; omega, by show g.n < g.n + 1; omega, by show g.c < g.n + 1; omega, by show g.b < g.n + 1; omega, wf_push n h b d⟩
  · rw [if_neg c2]
    exact ⟨by show g.n + 1 = (g.cs ++ [_]).length + 2; rw [List.length_append]; show _ = g.cs.length + 1 + 2; omega, by show g.a < g.n + 1; omega, by show g.d < g.n + 1; omega, by show g.c < g.n + 1; omega, by show g.n < g.n + 1; omega, wf_push n h d b⟩
theorem wf_run : ∀ (l : List Nat) {g : Dg}, Wf g → Wf (l.foldl dg1 g)
  | [], _, w => w
  | c :: r, _, w => wf_run r (w.step c)
theorem wf_dg (l : List Nat) : Wf (dg l) := wf_run l Wf.zero
/-- the colours at the ends, against the number -/
def EndsAre (g : Dg) (v : Int × Int) (x y : Int) : Prop := ∃ e : Int, (e = 1 ∨ e = -1) ∧
  (col g.cs x y).getD g.b 0 - (col g.cs x y).getD g.a 0 = e * v.1 * (y - x) ∧ (col g.cs x y).getD g.b 0 - (col g.cs x y).getD g.d 0 = e * v.2 * (y - x) ∧
  (col g.cs x y).getD g.a 0 + (col g.cs x y).getD g.d 0 = (col g.cs x y).getD g.b 0 + (col g.cs x y).getD g.c 0
theorem ends_zero (x y : Int) : EndsAre dg0 (0, 1) x y := by
  refine ⟨-1, .inr rfl, ?_, ?_, ?_⟩
  · show x - x = -1 * 0 * (y - x)
    omega
  · show x - y = -1 * 1 * (y - x)
    omega
  · show x + y = x + y
    rfl
theorem ends_step {g : Dg} {v : Int × Int} {x y : Int} (w : Wf g) (gv : Good v) {c : Nat} (hc : c = 84 ∨ c = 85 ∨ c = 82) (h : EndsAre g v x y) : EndsAre (dg1 g c) (called v c) x y := by
  obtain ⟨e, he, h1, h2, h3⟩ := h
  have lA := col_len x y g.cs
  have wn := w.n
  have wa := w.a
  have wb := w.b
  have wc := w.c
  have wd := w.d
  rcases hc with rfl | rfl | rfl
  · have e1 : dg1 g 84 = ⟨g.n + 1, g.cs ++ [(g.b, g.d, g.n)], g.a, g.n, g.c, g.b⟩ := rfl
    have e2 : called v 84 = (v.1 + v.2, v.2) := rfl
    rw [e1, e2]
    refine ⟨e, he, ?_⟩
    show (col (g.cs ++ [(g.b, g.d, g.n)]) x y).getD g.n 0 - (col (g.cs ++ [(g.b, g.d, g.n)]) x y).getD g.a 0 = _ ∧ (col (g.cs ++ [(g.b, g.d, g.n)]) x y).getD g.n 0 - (col (g.cs ++ [(g.b, g.d, g.n)]) x y).getD g.b 0 = _ ∧ (col (g.cs ++ [(g.b, g.d, g.n)]) x y).getD g.a 0 + (col (g.cs ++ [(g.b, g.d, g.n)]) x y).getD g.b 0 = (col (g.cs ++ [(g.b, g.d, g.n)]) x y).getD g.n 0 + (col (g.cs ++ [(g.b, g.d, g.n)]) x y).getD g.c 0
    rw [col_snoc]
    generalize col g.cs x y = A at *
    unfold cstep
    have l1 := getD_last A (2 * A.getD g.b 0 - A.getD g.d 0)
    rw [show A.length = g.n by omega] at l1
    rw [l1, getD_left (show g.a < A.length by omega), getD_left (show g.b < A.length by omega), getD_left (show g.c < A.length by omega)]
    have s : e * (v.1 + v.2) * (y - x) = e * v.1 * (y - x) + e * v.2 * (y - x) := by rw [Int.mul_add, Int.add_mul]
    refine ⟨?_, ?_, ?_⟩
    · show _ = e * (v.1 + v.2) * (y - x)
      rw [s]
      omega
    · show _ = e * v.2 * (y - x)
      omega
    · omega
  · have e1 : dg1 g 85 = ⟨g.n + 1, g.cs ++ [(g.d, g.b, g.n)], g.a, g.d, g.c, g.n⟩ := rfl
    have e2 : called v 85 = (v.1 - v.2, v.2) := rfl
    rw [e1, e2]
    refine ⟨e, he, ?_⟩
    show (col (g.cs ++ [(g.d, g.b, g.n)]) x y).getD g.d 0 - (col (g.cs ++ [(g.d, g.b, g.n)]) x y).getD g.a 0 = _ ∧ (col (g.cs ++ [(g.d, g.b, g.n)]) x y).getD g.d 0 - (col (g.cs ++ [(g.d, g.b, g.n)]) x y).getD g.n 0 = _ ∧ (col (g.cs ++ [(g.d, g.b, g.n)]) x y).getD g.a 0 + (col (g.cs ++ [(g.d, g.b, g.n)]) x y).getD g.n 0 = (col (g.cs ++ [(g.d, g.b, g.n)]) x y).getD g.d 0 + (col (g.cs ++ [(g.d, g.b, g.n)]) x y).getD g.c 0
    rw [col_snoc]
    generalize col g.cs x y = A at *
    unfold cstep
    have l1 := getD_last A (2 * A.getD g.d 0 - A.getD g.b 0)
    rw [show A.length = g.n by omega] at l1
    rw [l1, getD_left (show g.a < A.length by omega), getD_left (show g.d < A.length by omega), getD_left (show g.c < A.length by omega)]
    have s : e * (v.1 - v.2) * (y - x) = e * v.1 * (y - x) - e * v.2 * (y - x) := by rw [Int.mul_sub e v.1 v.2, Int.sub_mul]
    refine ⟨?_, ?_, ?_⟩
    · show _ = e * (v.1 - v.2) * (y - x)
      rw [s]
      omega
    · show _ = e * v.2 * (y - x)
      omega
    · omega
  · have e1 : dg1 g 82 = ⟨g.n, g.cs, g.c, g.a, g.d, g.b⟩ := rfl
    rw [e1]
    unfold called
    rw [if_neg (by decide), if_neg (by decide)]
    by_cases c3 : 0 < v.1
    · rw [if_pos c3]
      refine ⟨-e, by omega, ?_⟩
      show (col g.cs x y).getD g.a 0 - (col g.cs x y).getD g.c 0 = -e * (0 - v.2) * (y - x) ∧ (col g.cs x y).getD g.a 0 - (col g.cs x y).getD g.b 0 = -e * v.1 * (y - x) ∧ (col g.cs x y).getD g.c 0 + (col g.cs x y).getD g.b 0 = (col g.cs x y).getD g.a 0 + (col g.cs x y).getD g.d 0
      have s1 : -e * (0 - v.2) * (y - x) = e * v.2 * (y - x) := by rw [Int.zero_sub, Int.neg_mul_neg]
      have s2 : -e * v.1 * (y - x) = -(e * v.1 * (y - x)) := by rw [Int.neg_mul, Int.neg_mul]
      rw [s1, s2]
      exact ⟨by omega, by omega, by omega⟩
    rw [if_neg c3]
    by_cases c4 : v.1 < 0
    · rw [if_pos c4]
      refine ⟨e, he, ?_⟩
      show (col g.cs x y).getD g.a 0 - (col g.cs x y).getD g.c 0 = e * v.2 * (y - x) ∧ (col g.cs x y).getD g.a 0 - (col g.cs x y).getD g.b 0 = e * (0 - v.1) * (y - x) ∧ (col g.cs x y).getD g.c 0 + (col g.cs x y).getD g.b 0 = (col g.cs x y).getD g.a 0 + (col g.cs x y).getD g.d 0
      have s2 : e * (0 - v.1) * (y - x) = -(e * v.1 * (y - x)) := by rw [Int.zero_sub, Int.mul_neg, Int.neg_mul]
      rw [s2]
      exact ⟨by omega, by omega, by omega⟩
    rw [if_neg c4]
    have z : v.1 = 0 := by omega
    have q1 : v.2 = 1 := by
      have g2 := gv.2
      rw [z, Int.gcd_zero_left] at g2
      rcases gv.1 with h | h
      · omega
      · rw [h] at z; cases z
    refine ⟨e, he, ?_⟩
    show (col g.cs x y).getD g.a 0 - (col g.cs x y).getD g.c 0 = e * 1 * (y - x) ∧ (col g.cs x y).getD g.a 0 - (col g.cs x y).getD g.b 0 = e * 0 * (y - x) ∧ (col g.cs x y).getD g.c 0 + (col g.cs x y).getD g.b 0 = (col g.cs x y).getD g.a 0 + (col g.cs x y).getD g.d 0
    rw [z] at h1
    rw [q1] at h2
    have s3 : e * 0 * (y - x) = 0 := by rw [Int.mul_zero, Int.zero_mul]
    rw [s3] at h1 ⊢
    exact ⟨by omega, by omega, by omega⟩
theorem ends_run : ∀ (l : List Nat) {g : Dg} {v : Int × Int} {x y : Int}, Lets l → Wf g → Good v → EndsAre g v x y → EndsAre (l.foldl dg1 g) (run v l) x y
  | [], _, _, _, _, _, _, _, h => h
  | c :: r, _, _, _, _, hl, w, gv, h => ends_run r (fun x hx => hl x (List.mem_cons_of_mem _ hx)) (w.step c) (gv.called c) (ends_step w gv (hl c List.mem_cons_self) h)
theorem ends_dg {l : List Nat} (hl : Lets l) (x y : Int) : EndsAre (dg l) (run (0, 1) l) x y := ends_run l hl Wf.zero Good.zero (ends_zero x y)
/-- the crossings are kept -/
def Keep (cs : List (Nat × Nat × Nat)) (A : List Int) : Prop := ∀ c ∈ cs, A.getD c.2.1 0 + A.getD c.2.2 0 = 2 * A.getD c.1 0
theorem keep_col {g : Dg} (w : Wf g) (x y : Int) : Keep g.cs (col g.cs x y) := by
  suffices h : ∀ (cs : List (Nat × Nat × Nat)), (∀ (i : Nat) (c : Nat × Nat × Nat), cs[i]? = some c → c.2.2 = i + 2 ∧ c.1 < i + 2 ∧ c.2.1 < i + 2) → Keep cs (col cs x y) from h g.cs w.at_
  intro cs
  suffices h : ∀ (k : Nat) (cs : List (Nat × Nat × Nat)), cs.length = k → (∀ (i : Nat) (c : Nat × Nat × Nat), cs[i]? = some c → c.2.2 = i + 2 ∧ c.1 < i + 2 ∧ c.2.1 < i + 2) → Keep cs (col cs x y) from h _ cs rfl
  intro k
  induction k with
  | zero =>
    intro cs hk _ c hc
    rw [List.eq_nil_of_length_eq_zero hk] at hc
    cases hc
  | succ k ih =>
    intro cs hk hat
    have hne : cs ≠ [] := fun z => by rw [z] at hk; cases hk
    obtain ⟨r, c, rfl⟩ : ∃ r c, cs = r ++ [c] := ⟨cs.dropLast, cs.getLast hne, (List.dropLast_concat_getLast hne).symm⟩
    have hr : r.length = k := by
      rw [List.length_append] at hk
      have : ([c] : List (Nat × Nat × Nat)).length = 1 := rfl
      omega
    have ihr := ih r hr fun i d hd => hat i d (by rw [List.getElem?_append_left (List.getElem?_eq_some_iff.mp hd).1]; exact hd)
    have lr := col_len x y r
    rw [col_snoc]
    intro d hd
    rcases List.mem_append.mp hd with hd | hd
    · obtain ⟨i, hi, e⟩ := List.getElem_of_mem hd
      have := hat i d (by rw [List.getElem?_append_left hi, List.getElem?_eq_getElem hi, e])
      unfold cstep
      rw [getD_left (by omega), getD_left (by omega), getD_left (by omega)]
      exact ihr d hd
    · rw [List.mem_singleton.mp hd]
      have := hat r.length c (by rw [List.getElem?_append_right (Nat.le_refl _), Nat.sub_self]; rfl)
      unfold cstep
      have l1 := getD_last (col r x y) (2 * (col r x y).getD c.1 0 - (col r x y).getD c.2.1 0)
      rw [show (col r x y).length = c.2.2 by omega] at l1
      rw [l1, getD_left (by omega), getD_left (by omega)]
      omega
theorem at_getD {A : List Int} {i : Nat} (h : i < A.length) : atI (A.map V.int) (i : Int) = some (.int (A.getD i 0)) := by
  refine atI_nat (j := i) ?_
  rw [List.getElem?_map, List.getD_eq_getElem?_getD, List.getElem?_eq_getElem h]
  rfl
def spCol : Sp := fun vs H Q _ => ∃ (l : List Nat) (x y : Int), vs = [.str (S l), .int x, .int y] ∧ l.length ≤ 1000000 ∧ ∀ (p : Addr) H', Same H H' → H p = none → H' p = some (.lst ((col (dg l).cs x y).map V.int)) → Q (.ref p) H'
end
section
def due (p q : Int) : Int × Int := if q = 0 then (1, 0) else
  if q < 0 then (p.fdiv (0 - (Int.gcd p q : Int)), q.fdiv (0 - (Int.gcd p q : Int))) else (p.fdiv (Int.gcd p q : Int), q.fdiv (Int.gcd p q : Int))
theorem gcd_size {p q : Int} (h : p ≠ 0 ∨ q ≠ 0) (hp : p.natAbs < 2 ^ 201) (hq : q.natAbs < 2 ^ 201) : 0 < Int.gcd p q ∧ Int.gcd p q < 2 ^ 201 := by
  rcases h with h | h
  · have h1 : 0 < Int.gcd p q := Int.gcd_pos_of_ne_zero_left q h
    have h2 : Int.gcd p q ∣ p.natAbs := Nat.gcd_dvd_left _ _
    have h3 := Nat.le_of_dvd (by omega) h2
    exact ⟨h1, by omega⟩
  · have h1 : 0 < Int.gcd p q := Int.gcd_pos_of_ne_zero_right p h
    have h2 : Int.gcd p q ∣ q.natAbs := Nat.gcd_dvd_right _ _
    have h3 := Nat.le_of_dvd (by omega) h2
    exact ⟨h1, by omega⟩
theorem log_ok {j : Int} (h : j.natAbs < 2 ^ 201) : j.natAbs.log2 < 9000 := Nat.lt_of_lt_of_le (PySem.Flt.log2_lt_of (by decide) h) (by decide)
theorem fdiv_neg_exact {p g : Int} (g0 : g ≠ 0) (h : g ∣ p) : p.fdiv (0 - g) = -(p / g) := by
  obtain ⟨k, rfl⟩ := h
  rw [Int.mul_ediv_cancel_left k g0, Int.zero_sub]
  have e : g * k = (-g) * (-k) := by rw [Int.neg_mul_neg]
  rw [e, Int.mul_fdiv_cancel_left _ (by omega)]
theorem due_good {p q : Int} (h : p ≠ 0 ∨ q ≠ 0) : Good (due p q) := by
  unfold due
  by_cases h0 : q = 0
  · rw [if_pos h0]
    exact ⟨.inr rfl, by decide⟩
  rw [if_neg h0]
  have g0 : 0 < Int.gcd p q := Int.gcd_pos_of_ne_zero_right p h0
  have dp : ((Int.gcd p q : Nat) : Int) ∣ p := Int.gcd_dvd_left p q
  have dq : ((Int.gcd p q : Nat) : Int) ∣ q := Int.gcd_dvd_right p q
  by_cases h1 : q < 0
  · rw [if_pos h1, fdiv_neg_exact (by omega) dp, fdiv_neg_exact (by omega) dq]
    refine ⟨.inl ?_, ?_⟩
    · show 0 < -(q / ((Int.gcd p q : Nat) : Int))
      have : 0 < (-q) / ((Int.gcd p q : Nat) : Int) := Int.ediv_pos_of_pos_of_dvd (by omega) (by omega) (Int.dvd_neg.mpr dq)
      rw [Int.neg_ediv_of_dvd dq] at this
      exact this
    · show Int.gcd (-(p / _)) (-(q / _)) = 1
      rw [Int.neg_gcd, Int.gcd_neg]
      exact Int.gcd_ediv_gcd_ediv_gcd g0
  · rw [if_neg h1, Int.fdiv_eq_ediv_of_nonneg p (by omega), Int.fdiv_eq_ediv_of_nonneg q (by omega)]
    refine ⟨.inl ?_, ?_⟩
    · exact Int.ediv_pos_of_pos_of_dvd (by omega) (by omega) dq
    · exact Int.gcd_ediv_gcd_ediv_gcd g0
theorem due_size {p q : Int} (hp : p.natAbs < 2 ^ 201) (hq : q.natAbs < 2 ^ 201) : (due p q).1.natAbs < 2 ^ 201 ∧ (due p q).2.natAbs < 2 ^ 201 := by
  unfold due
  by_cases h0 : q = 0
  · rw [if_pos h0]
    exact ⟨by decide, by decide⟩
  rw [if_neg h0]
  have g0 : 0 < Int.gcd p q := Int.gcd_pos_of_ne_zero_right p h0
  have dp : ((Int.gcd p q : Nat) : Int) ∣ p := Int.gcd_dvd_left p q
  have dq : ((Int.gcd p q : Nat) : Int) ∣ q := Int.gcd_dvd_right p q
  have a := Int.natAbs_ediv_le_natAbs p (Int.gcd p q)
  have b := Int.natAbs_ediv_le_natAbs q (Int.gcd p q)
  by_cases h1 : q < 0
  · rw [if_pos h1, fdiv_neg_exact (by omega) dp, fdiv_neg_exact (by omega) dq]
    simp only [Int.natAbs_neg]
    exact ⟨by omega, by omega⟩
  · rw [if_neg h1, Int.fdiv_eq_ediv_of_nonneg p (by omega), Int.fdiv_eq_ediv_of_nonneg q (by omega)]
    exact ⟨by omega, by omega⟩
end
section
variable {P : Program} {w : World} {K : PySem.W.Frag} {mg : Str → Option Value} {base : Heap} {f : Addr} {fd : FuncData}
def spFrac : Sp := fun vs H Q _ => ∃ p q' : Int, vs = [.int p, .int q'] ∧ (p ≠ 0 ∨ q' ≠ 0) ∧ p.natAbs < 2 ^ 201 ∧ q'.natAbs < 2 ^ 201 ∧ ∀ t H', Same H H' → Tup2 H' t (due p q') → Q (.ref t) H'
theorem ok_frac (F : Fun K "fraction" "fraction" s_fraction f fd) (mgcd : mg "gcd" = some (.builtin "math.gcd")) : FnOk P w K mg base CX0 1 f fd ["p", "q"] spFrac := by
  refine F.ok sc_fraction (fun vs H Q E h => ?_) (fun cdv A outer s H vs Q E hr h => ?_)
  · obtain ⟨p, q', rfl, _⟩ := h
    rfl
  obtain ⟨p, q', rfl, hn, hp, hq, q⟩ := h
  refine ⟨_, pss_cons (ps_if (PW.pt (pw_and (pt_cmpR op_eq (pv 0) pe_int (nomark _)) (pw_and1 (pt_cmpR op_eq (pv 1) pe_int (nomark _))))) pss_never pss_nil)
    (pss_cons (ps_set (i := 2) sc_fraction.nd rfl (.inl rfl) (pe_callBfun cr_gcd rfl mgcd (pa_cons (pv 0) (pa_cons (pv 1) pa_nil))))
    (pss_cons (ps_if (PW.pt (pw_or (pt_cmpR op_lt (pv 1) pe_int (nomark _)) (pw_or1 (PW.pt (pw_and (pt_cmpR op_eq (pv 1) pe_int (nomark _)) (pw_and1 (pt_cmpR op_lt (pv 0) pe_int (nomark _))))))))
      (pss_one (ps_set (i := 2) sc_fraction.nd rfl (.inl rfl) (pe_un un_neg (pv 2)))) pss_nil)
    (pss_one (ps_ret (pe_tup (pa_cons (pe_op op_fdivWN (pv 0) (pv 2)) (pa_cons (pe_op op_fdivWN (pv 1) (pv 2)) pa_nil))))))), ?_⟩
  have gs := gcd_size hn hp hq
  have two : 2 ≤ sizeLine := fits (by decide)
  have rest : ∀ d : Int, d ≠ 0 → d.natAbs < 2 ^ 201 → (p.fdiv d, q'.fdiv d) = due p q' →
      tRet (tTup (tCons (tOp (rI (fun _ j => j ≠ 0 ∧ j.natAbs.log2 < 9000) fun i j => .int (i.fdiv j)) (tVar 0) (tVar 2)) (tCons (tOp (rI (fun _ j => j ≠ 0 ∧ j.natAbs.log2 < 9000) fun i j => .int (i.fdiv j)) (tVar 1) (tVar 2)) tNil)))
        { nx := fun _ H' => Q .non H', rt := Q } [some (.int p), some (.int q'), some (.int d)] H := fun d d0 ds e => by
    refine ⟨_, rfl, _, rfl, _, _, rfl, rfl, ⟨d0, log_ok ds⟩, _, rfl, _, rfl, _, _, rfl, rfl, ⟨d0, log_ok ds⟩, two, fun n hn => q n _ (same_new hn _) ?_⟩
    rw [← e]
    exact upd_same
  have tail : ∀ (σ : L2.St), σ = [some (V.int p), some (.int q'), none] → tSeq (tAsg (tCB rGcd (tCons (tVar 0) (tCons (tVar 1) tNil))) (gName 2)) (tSeq (tIfS (tOr (tTest (tOp (rI0 fun i j => .bl (decide (i < j))) (tVar 1) (tC (.int 0)))) (tAnd (tTest (tOp rEq (tVar 1) (tC (.int 0)))) (tTest (tOp (rI0 fun i j => .bl (decide (i < j))) (tVar 0) (tC (.int 0))))))
      (tAsg (tUn (rU fun i => .int (-i)) (tVar 2)) (gName 2)) tNext) (tRet (tTup (tCons (tOp (rI (fun _ j => j ≠ 0 ∧ j.natAbs.log2 < 9000) fun i j => .int (i.fdiv j)) (tVar 0) (tVar 2)) (tCons (tOp (rI (fun _ j => j ≠ 0 ∧ j.natAbs.log2 < 9000) fun i j => .int (i.fdiv j)) (tVar 1) (tVar 2)) tNil)))))
        { nx := fun _ H' => Q .non H', rt := Q } σ H := by
    rintro _ rfl
    refine ⟨_, rfl, _, rfl, p, q', rfl, ?_⟩
    have neg : ∀ _ : q' < 0 ∨ (q' = 0 ∧ p < 0), ((p.fdiv (-((Int.gcd p q' : Nat) : Int)), q'.fdiv (-((Int.gcd p q' : Nat) : Int))) : Int × Int) = due p q' := fun hc => by
      unfold due
      rcases hc with hc | ⟨hc, hc2⟩
      · rw [if_neg (by omega), if_pos hc, Int.zero_sub]
      · subst hc
        rw [if_pos rfl]
        have e : -((Int.gcd p 0 : Nat) : Int) = p := by rw [Int.gcd_zero_right]; omega
        rw [e, Int.fdiv_self (by omega), Int.zero_fdiv]
    have pos : ∀ _ : ¬ (q' < 0 ∨ (q' = 0 ∧ p < 0)), ((p.fdiv ((Int.gcd p q' : Nat) : Int), q'.fdiv ((Int.gcd p q' : Nat) : Int)) : Int × Int) = due p q' := fun hc => by
      unfold due
      by_cases h0 : q' = 0
      · subst h0
        rw [if_pos rfl]
        have e : ((Int.gcd p 0 : Nat) : Int) = p := by rw [Int.gcd_zero_right]; omega
        rw [e, Int.fdiv_self (by omega), Int.zero_fdiv]
      · rw [if_neg h0, if_neg (by omega)]
    refine ⟨_, rfl, _, _, rfl, rfl, _, rfl, ite2 (fun c1 => iteT ?_) (fun c1 => ?_)⟩
    · have c1' : q' < 0 := of_decide_eq_true c1
      exact ⟨_, rfl, _, rfl, rest _ (by have := gs.1; show -((Int.gcd p q' : Nat) : Int) ≠ 0; omega) (by have := gs.2; show (-((Int.gcd p q' : Nat) : Int)).natAbs < _; omega) (neg (.inl c1'))⟩
    have c1' : ¬ q' < 0 := fun z => c1 (decide_eq_true z)
    refine ⟨_, rfl, rfl, _, rfl, ite2 (fun c2 => ?_) (fun c2 => iteF ?_)⟩
    · have c2' : q' = 0 := V.int.inj (of_decide_eq_true c2)
      refine ⟨_, rfl, _, _, rfl, rfl, _, rfl, ite2 (fun c3 => ?_) (fun c3 => ?_)⟩
      · have c3' : p < 0 := of_decide_eq_true c3
        exact ⟨_, rfl, _, rfl, rest _ (by have := gs.1; show -((Int.gcd p q' : Nat) : Int) ≠ 0; omega) (by have := gs.2; show (-((Int.gcd p q' : Nat) : Int)).natAbs < _; omega) (neg (.inr ⟨c2', c3'⟩))⟩
      · have c3' : ¬ p < 0 := fun z => c3 (decide_eq_true z)
        exact rest _ (by have := gs.1; show ((Int.gcd p q' : Nat) : Int) ≠ 0; omega) (by have := gs.2; show (((Int.gcd p q' : Nat) : Int)).natAbs < _; omega) (pos (by omega))
    · have c2' : ¬ q' = 0 := fun z => c2 (decide_eq_true (by rw [z]))
      exact rest _ (by have := gs.1; show ((Int.gcd p q' : Nat) : Int) ≠ 0; omega) (by have := gs.2; show (((Int.gcd p q' : Nat) : Int)).natAbs < _; omega) (pos (by omega))
  refine ⟨_, rfl, rfl, _, rfl, ite2 (fun c1 => ?_) (fun c1 => iteF (tail _ rfl))⟩
  have c1' : p = 0 := V.int.inj (of_decide_eq_true c1)
  refine ⟨_, rfl, rfl, _, rfl, ite2 (fun c2 => ?_) (fun c2 => tail _ rfl)⟩
  have c2' : q' = 0 := V.int.inj (of_decide_eq_true c2)
  omega
end
section
/-! ### all is kept but a table of code objects -/
def Bt (P : Addr) (H H' : Hp) : Prop := But P H H' ∧ GxR.TabG H' P
theorem TabG.same {P : Addr} {H H' : Hp} (t : GxR.TabG H P) (s : Same H H') : GxR.TabG H' P := by
  obtain ⟨ps, e, ok⟩ := t
  exact ⟨ps, s _ _ e, ok⟩
theorem Bt.refl {P : Addr} {H : Hp} (t : GxR.TabG H P) : Bt P H H := ⟨But.refl _ _, t⟩
theorem Bt.trans {P : Addr} {H H1 H2 : Hp} (x : Bt P H H1) (y : Bt P H1 H2) : Bt P H H2 := ⟨x.1.trans y.1, y.2⟩
theorem Bt.of {P : Addr} {H H' : Hp} (s : Same H H') (t : GxR.TabG H P) : Bt P H H' := ⟨But.of s, TabG.same t s⟩
theorem Bt.same {P : Addr} {H H1 H2 : Hp} (x : Bt P H H1) (s : Same H1 H2) : Bt P H H2 := x.trans (Bt.of s x.2)
theorem Bt.tabbed {P : Addr} {H H' : Hp} (x : GxR.Tabbed P H H') : Bt P H H' := ⟨fun b o n e => by rw [x.2 b n]; exact e, x.1⟩
theorem Bt.keep {P a : Addr} {H H' : Hp} {o : HO} (x : Bt P H H') (t : GxR.TabG H P) (h : H a = some o) (n : ∀ q, o ≠ .tbl q) : H' a = some o := by
  obtain ⟨ps, e, _⟩ := t
  exact x.1 _ _ (ne_of h e (n ps)) h
theorem Bt.lst {P a : Addr} {H H' : Hp} {xs : List V} (x : Bt P H H') (t : GxR.TabG H P) (h : H a = some (.lst xs)) : H' a = some (.lst xs) := x.keep t h fun q z => by cases z
theorem Bt.tup {P a : Addr} {H H' : Hp} {xs : List V} (x : Bt P H H') (t : GxR.TabG H P) (h : H a = some (.tup xs)) : H' a = some (.tup xs) := x.keep t h fun q z => by cases z
theorem Bt.tape {P a : Addr} {H H' : Hp} (x : Bt P H H') (t : GxR.TabG H P) (h : Tape H a) : Tape H' a := by
  obtain ⟨y, c, z, b, e⟩ := h
  exact ⟨y, c, z, b, x.lst t e⟩
theorem Bt.seq {K : PySem.W.Frag} {P a : Addr} {H H' : Hp} {xs : List V} (x : Bt P H H') (t : GxR.TabG H P) (h : SqL K H a xs) : SqL K H' a xs := by
  rcases h with (h | ⟨o, h⟩) | h
  · exact .inl (.inl (x.lst t h))
  · exact .inl (.inr ⟨o, x.keep t h fun q z => by cases z⟩)
  · exact .inr h
theorem tape_tab {P a : Addr} {H H' : Hp} (tp : Tape H a) (b : But a H H') (t : GxR.TabG H P) : GxR.TabG H' P := by
  obtain ⟨ps, e, ok⟩ := t
  obtain ⟨y, c, z, w, e2⟩ := tp
  exact ⟨ps, b _ _ (ne_of e e2 (by intro q; cases q)) e, ok⟩
/-- the tape is new: what stood before is kept -/
theorem Bt.but {P a : Addr} {H0 H H' : Hp} (x : Bt P H0 H) (b : But a H H') (tp : Tape H a) (n : H0 a = none) : Bt P H0 H' :=
  ⟨fun c o nc e => b _ _ (ne_of_none e n) (x.1 _ _ nc e), tape_tab tp b x.2⟩
theorem Bt.put {P a : Addr} {H0 H : Hp} (x : Bt P H0 H) (n : H0 a = none) (na : a ≠ P) (o : HO) : Bt P H0 (upd H a o) := by
  refine ⟨fun c u nc e => ?_, ?_⟩
  · rw [upd_ne (ne_of_none e n)]
    exact x.1 _ _ nc e
  · obtain ⟨ps, e, ok⟩ := x.2
    exact ⟨ps, by rw [upd_ne na.symm]; exact e, ok⟩
end
section
/-! ### colourings, and what is read from them -/
def isColB (l : List Nat) (A : List Int) : Bool := decide (A.length = (dg l).n) && (dg l).cs.all (keepB A)
def plainB (A : List Int) : Bool := A.all fun x => x == A.getD 0 0
def Bd (A : List Int) (B : Nat) : Prop := ∀ x ∈ A, x.natAbs ≤ B
theorem Bd.at {A : List Int} {B : Nat} (h : Bd A B) (i : Nat) : (A.getD i 0).natAbs ≤ B := by
  rw [List.getD_eq_getElem?_getD]
  cases e : A[i]? with
  | none => exact Nat.zero_le _
  | some x => exact h x (List.mem_of_getElem? e)
theorem Bd.mono {A : List Int} {B C : Nat} (h : Bd A B) (l : B ≤ C) : Bd A C := fun x hx => Nat.le_trans (h x hx) l
theorem keepB_iff {A : List Int} {c : Nat × Nat × Nat} : keepB A c = true ↔ A.getD c.2.1 0 + A.getD c.2.2 0 = 2 * A.getD c.1 0 := by
  unfold keepB
  exact beq_iff_eq
theorem col_unique : ∀ (k : Nat) (cs : List (Nat × Nat × Nat)) (A : List Int), cs.length = k → (∀ (i : Nat) (c : Nat × Nat × Nat), cs[i]? = some c → c.2.2 = i + 2 ∧ c.1 < i + 2 ∧ c.2.1 < i + 2) → A.length = k + 2 → Keep cs A → A = col cs (A.getD 0 0) (A.getD 1 0)
  | 0, cs, A, hk, _, hA, _ => by
    rw [List.eq_nil_of_length_eq_zero hk]
    match A, hA with
    | [x, y], _ => rfl
  | k + 1, cs, A, hk, hat, hA, hkeep => by
    have hne : cs ≠ [] := fun z => by rw [z] at hk; cases hk
    obtain ⟨r, c, rfl⟩ : ∃ r c, cs = r ++ [c] := ⟨cs.dropLast, cs.getLast hne, (List.dropLast_concat_getLast hne).symm⟩
    have hr : r.length = k := by
      rw [List.length_append] at hk
      have : ([c] : List (Nat × Nat × Nat)).length = 1 := rfl
      omega
    have hAne : A ≠ [] := fun z => by rw [z] at hA; cases hA
    obtain ⟨B, z, rfl⟩ : ∃ B z, A = B ++ [z] := ⟨A.dropLast, A.getLast hAne, (List.dropLast_concat_getLast hAne).symm⟩
    have hB : B.length = k + 2 := by
      rw [List.length_append] at hA
      have : ([z] : List Int).length = 1 := rfl
      omega
    have hatr : ∀ (i : Nat) (c : Nat × Nat × Nat), r[i]? = some c → c.2.2 = i + 2 ∧ c.1 < i + 2 ∧ c.2.1 < i + 2 := fun i d hd => hat i d (by rw [List.getElem?_append_left (List.getElem?_eq_some_iff.mp hd).1]; exact hd)
    have hc := hat r.length c (by rw [List.getElem?_append_right (Nat.le_refl _), Nat.sub_self]; rfl)
    have ih := col_unique k r B hr hatr hB fun d hd => by
      obtain ⟨i, hi, e⟩ := List.getElem_of_mem hd
      have hb := hatr i d (by rw [List.getElem?_eq_getElem hi, e])
      have := hkeep d (List.mem_append_left _ hd)
      rw [getD_left (by omega), getD_left (by omega), getD_left (by omega)] at this
      exact this
    have hlast := hkeep c (List.mem_append_right _ List.mem_cons_self)
    have l1 := getD_last B z
    rw [show B.length = c.2.2 by omega] at l1
    rw [l1, getD_left (by omega), getD_left (by omega)] at hlast
    rw [getD_left (by omega), getD_left (by omega), col_snoc, ← ih]
    unfold cstep
    rw [show z = 2 * B.getD c.1 0 - B.getD c.2.1 0 by omega]
theorem col_same (x : Int) : ∀ (cs : List (Nat × Nat × Nat)), (∀ (i : Nat) (c : Nat × Nat × Nat), cs[i]? = some c → c.2.2 = i + 2 ∧ c.1 < i + 2 ∧ c.2.1 < i + 2) → ∀ i, i < cs.length + 2 → (col cs x x).getD i 0 = x := by
  intro cs
  suffices h : ∀ (k : Nat) (cs : List (Nat × Nat × Nat)), cs.length = k → (∀ (i : Nat) (c : Nat × Nat × Nat), cs[i]? = some c → c.2.2 = i + 2 ∧ c.1 < i + 2 ∧ c.2.1 < i + 2) → ∀ i, i < cs.length + 2 → (col cs x x).getD i 0 = x from h _ cs rfl
  intro k
  induction k with
  | zero =>
    intro cs hk _ i hi
    rw [List.eq_nil_of_length_eq_zero hk] at hi ⊢
    match i with
    | 0 => rfl
    | 1 => rfl
    | i + 2 => exact absurd hi (by show ¬ i + 2 < 0 + 2; omega)
  | succ k ih =>
    intro cs hk hat i hi
    have hne : cs ≠ [] := fun z => by rw [z] at hk; cases hk
    obtain ⟨r, c, rfl⟩ : ∃ r c, cs = r ++ [c] := ⟨cs.dropLast, cs.getLast hne, (List.dropLast_concat_getLast hne).symm⟩
    have hr : r.length = k := by
      rw [List.length_append] at hk
      have : ([c] : List (Nat × Nat × Nat)).length = 1 := rfl
      omega
    have hatr : ∀ (i : Nat) (c : Nat × Nat × Nat), r[i]? = some c → c.2.2 = i + 2 ∧ c.1 < i + 2 ∧ c.2.1 < i + 2 := fun i d hd => hat i d (by rw [List.getElem?_append_left (List.getElem?_eq_some_iff.mp hd).1]; exact hd)
    have hc := hat r.length c (by rw [List.getElem?_append_right (Nat.le_refl _), Nat.sub_self]; rfl)
    have ih' := ih r hr hatr
    have lr := col_len x x r
    rw [col_snoc]
    unfold cstep
    by_cases h : i < r.length + 2
    · rw [getD_left (by omega)]
      exact ih' i h
    · rw [List.length_append] at hi
      have : ([c] : List (Nat × Nat × Nat)).length = 1 := rfl
      have e : i = (col r x x).length := by omega
      rw [e, getD_last, ih' _ (by omega), ih' _ (by omega)]
      omega
theorem col_zero (cs : List (Nat × Nat × Nat)) (x y : Int) : (col cs x y).getD 0 0 = x ∧ (col cs x y).getD 1 0 = y := by
  suffices h : ∀ (cs : List (Nat × Nat × Nat)) (A : List Int), 2 ≤ A.length → (cs.foldl cstep A).getD 0 0 = A.getD 0 0 ∧ (cs.foldl cstep A).getD 1 0 = A.getD 1 0 from h cs [x, y] (by show 2 ≤ 2; omega)
  intro cs
  induction cs with
  | nil => intro A _; exact ⟨rfl, rfl⟩
  | cons c r ih =>
    intro A hA
    have := ih (cstep A c) (by unfold cstep; rw [List.length_append]; omega)
    rw [List.foldl_cons, this.1, this.2]
    unfold cstep
    rw [getD_left (by omega), getD_left (by omega)]
    exact ⟨rfl, rfl⟩
/-- a colouring is what its first two colours give -/
theorem isCol_col {l : List Nat} {A : List Int} (h : isColB l A = true) : A = col (dg l).cs (A.getD 0 0) (A.getD 1 0) ∧ A.length = (dg l).n := by
  unfold isColB at h
  rw [Bool.and_eq_true, decide_eq_true_eq, List.all_eq_true] at h
  have w := wf_dg l
  exact ⟨col_unique _ _ A rfl w.at_ (by rw [h.1, w.n]) fun c hc => keepB_iff.mp (h.2 c hc), h.1⟩
theorem plain_iff {l : List Nat} {A : List Int} (h : isColB l A = true) : plainB A = true ↔ A.getD 1 0 = A.getD 0 0 := by
  obtain ⟨e, hl⟩ := isCol_col h
  have w := wf_dg l
  have wn := w.n
  unfold plainB
  rw [List.all_eq_true]
  constructor
  · intro hp
    have h1 : 1 < A.length := by omega
    have : A.getD 1 0 ∈ A := by
      rw [List.getD_eq_getElem?_getD, List.getElem?_eq_getElem h1]
      exact List.getElem_mem h1
    exact beq_iff_eq.mp (hp _ this)
  · intro h10 x hx
    obtain ⟨i, hi, rfl⟩ := List.getElem_of_mem hx
    rw [beq_iff_eq]
    have e2 : A.getD i 0 = A[i] := by
      rw [List.getD_eq_getElem?_getD, List.getElem?_eq_getElem hi]
      rfl
    rw [← e2]
    rw [h10] at e
    have := col_same (A.getD 0 0) (dg l).cs w.at_ i (by omega)
    rw [← e] at this
    exact this
theorem due_ends {v : Int × Int} {e d : Int} (g : Good v) (he : e = 1 ∨ e = -1) (hd : d ≠ 0) : due (e * v.1 * d) (e * v.2 * d) = v := by
  obtain ⟨p, q⟩ := v
  obtain ⟨g1, g2⟩ := g
  have key : ∀ c : Int, c ≠ 0 → due (p * c) (q * c) = (p, q) := fun c hc => by
    unfold due
    by_cases h0 : q = 0
    · rw [if_pos (by rw [h0, Int.zero_mul])]
      rcases g1 with h | h
      · have : (0 : Int) < q := h
        omega
      · exact h.symm
    · have hq : 0 < q := by
        rcases g1 with h | h
        · exact h
        · cases h; exact absurd rfl h0
      have qc : q * c ≠ 0 := Int.mul_ne_zero h0 hc
      rw [if_neg qc]
      have gg : Int.gcd (p * c) (q * c) = c.natAbs := by
        rw [Int.gcd_mul_right, show Int.gcd p q = 1 from g2, Nat.one_mul]
      rw [gg]
      by_cases hneg : q * c < 0
      · rw [if_pos hneg]
        have cn : c < 0 := by
          rcases Int.lt_trichotomy c 0 with h | h | h
          · exact h
          · exact absurd h hc
          · have := Int.mul_pos hq h
            omega
        rw [show (0 : Int) - (c.natAbs : Int) = c by omega, Int.mul_fdiv_cancel _ hc, Int.mul_fdiv_cancel _ hc]
      · rw [if_neg hneg]
        have cp : 0 < c := by
          rcases Int.lt_trichotomy c 0 with h | h | h
          · have := Int.mul_neg_of_pos_of_neg hq h
            omega
          · exact absurd h hc
          · exact h
        rw [show (c.natAbs : Int) = c by omega, Int.mul_fdiv_cancel _ hc, Int.mul_fdiv_cancel _ hc]
  have e1 : e * p * d = p * (e * d) := by rw [Int.mul_comm e p, Int.mul_assoc]
  have e2 : e * q * d = q * (e * d) := by rw [Int.mul_comm e q, Int.mul_assoc]
  show due (e * p * d) (e * q * d) = (p, q)
  rw [e1, e2]
  exact key _ (Int.mul_ne_zero (by omega) hd)
/-- what is read -/
theorem reads {l : List Nat} {A : List Int} (hl : Lets l) (h : isColB l A = true) (hp : plainB A = false) :
    due (A.getD (dg l).b 0 - A.getD (dg l).a 0) (A.getD (dg l).b 0 - A.getD (dg l).d 0) = run (0, 1) l ∧ (A.getD (dg l).b 0 - A.getD (dg l).a 0 ≠ 0 ∨ A.getD (dg l).b 0 - A.getD (dg l).d 0 ≠ 0) := by
  obtain ⟨eA, hlen⟩ := isCol_col h
  have hne : A.getD 1 0 - A.getD 0 0 ≠ 0 := fun z => by
    rw [(plain_iff h).mpr (by omega)] at hp
    cases hp
  obtain ⟨e, he, h1, h2, _⟩ := ends_dg hl (A.getD 0 0) (A.getD 1 0)
  rw [← eA] at h1 h2
  rw [h1, h2]
  have g := good_run l Good.zero
  refine ⟨due_ends g he hne, ?_⟩
  have e0 : e ≠ 0 := by omega
  by_cases q0 : (run (0, 1) l).2 = 0
  · left
    have p1 : (run (0, 1) l).1 = 1 := by
      rcases g.1 with h | h
      · omega
      · rw [h]
    rw [p1, Int.mul_one]
    exact Int.mul_ne_zero e0 hne
  · right
    exact Int.mul_ne_zero (Int.mul_ne_zero e0 q0) hne
def dtR (l : List Nat) (A : List Int) : Dt := if isColB l A = true ∧ plainB A = false then .tup [.int (run (0, 1) l).1, .int (run (0, 1) l).2] else .non
theorem dtR_none {l : List Nat} {A : List Int} (h : isColB l A = false ∨ plainB A = true) : dtR l A = .non := if_neg fun z => by
  rcases h with h | h
  · rw [h] at z; cases z.1
  · rw [h] at z; cases z.2
theorem dtR_some {l : List Nat} {A : List Int} (h : isColB l A = true) (h2 : plainB A = false) : dtR l A = .tup [.int (run (0, 1) l).1, .int (run (0, 1) l).2] := if_pos ⟨h, h2⟩
theorem non_is {H : Hp} {n : Nat} : Is H n .non .non := by cases n <;> rfl
theorem tup2_is {H : Hp} {n : Nat} {t : Addr} {v : Int × Int} (h : Tup2 H t v) : Is H (n + 1) (.ref t) (.tup [.int v.1, .int v.2]) :=
  is_tup h rfl (by show 2 ≤ 1000000; decide) fun i x d hx hd => by
    match i with
    | 0 => cases hx; cases hd; exact int_is
    | 1 => cases hx; cases hd; exact int_is
    | i + 2 => cases hx
theorem dtR_keep {H H' : Hp} {l : List Nat} {A : List Int} {v : V} (h : Is H 1 v (dtR l A)) (s : Same H H') : Is H' 1 v (dtR l A) := by
  by_cases c : isColB l A = true ∧ plainB A = false
  · unfold dtR at h ⊢
    rw [if_pos c] at h ⊢
    obtain ⟨a, xs, e1, e2, e3, e4, e5⟩ := h
    refine ⟨a, xs, e1, s _ _ e2, e3, e4, fun i x d hx hd => ?_⟩
    have := e5 i x d hx hd
    match i with
    | 0 => cases hd; exact this
    | 1 => cases hd; exact this
    | i + 2 => cases hd
  · unfold dtR at h ⊢
    rw [if_neg c] at h ⊢
    exact h
theorem col_bound {B : Nat} {x y : Int} (hx : x.natAbs ≤ B) (hy : y.natAbs ≤ B) : ∀ (cs : List (Nat × Nat × Nat)), Bd (col cs x y) (B * 3 ^ cs.length) := by
  intro cs
  suffices h : ∀ (cs : List (Nat × Nat × Nat)) (A : List Int) (C : Nat), Bd A C → Bd (cs.foldl cstep A) (C * 3 ^ cs.length) from h cs [x, y] B fun z hz => by
    simp only [List.mem_cons, List.not_mem_nil, or_false] at hz
    rcases hz with rfl | rfl
    · exact hx
    · exact hy
  intro cs
  induction cs with
  | nil =>
    intro A C h
    show Bd A (C * 3 ^ 0)
    rw [Nat.pow_zero, Nat.mul_one]
    exact h
  | cons c r ih =>
    intro A C h
    have := ih (cstep A c) (C * 3) fun z hz => by
      unfold cstep at hz
      rcases List.mem_append.mp hz with hz | hz
      · have := h z hz
        omega
      · rw [List.mem_singleton.mp hz]
        have h1 := h.at c.1
        have h2 := h.at c.2.1
        omega
    rw [List.length_cons, Nat.pow_succ, Nat.mul_comm (3 ^ r.length) 3, ← Nat.mul_assoc]
    exact this
/-! ### what the defs promise -/
def spIsCol (Pt : Addr) : Sp := fun vs H Q _ => ∃ (l : List Nat) (cp : Addr) (A : List Int), vs = [.str (S l), .ref cp] ∧ H cp = some (.lst (A.map V.int)) ∧ A.length ≤ 1000 ∧ l.length ≤ 1000 ∧ GxR.TabG H Pt ∧ ∀ H', Bt Pt H H' → Q (.bl (isColB l A)) H'
def spPlain : Sp := fun vs H Q _ => ∃ (cp : Addr) (A : List Int), vs = [.ref cp] ∧ H cp = some (.lst (A.map V.int)) ∧ 0 < A.length ∧ A.length ≤ 1000 ∧ Q (.bl (plainB A)) H
def spReading (Pt : Addr) : Sp := fun vs H Q _ => ∃ (l : List Nat) (cp : Addr) (A : List Int), vs = [.str (S l), .ref cp] ∧ Lets l ∧ H cp = some (.lst (A.map V.int)) ∧ A.length ≤ 1000 ∧ l.length ≤ 1000 ∧ Bd A (2 ^ 199) ∧ GxR.TabG H Pt ∧ ∀ v H', Bt Pt H H' → Is H' 1 v (dtR l A) → Q v H'
def spLawIsCol : Sp := fun vs H Q _ => ∃ (l : List Nat) (cp : Addr) (A : List Int), vs = [.str (S l), .ref cp] ∧ H cp = some (.lst (A.map V.int)) ∧ A.length ≤ 1000 ∧ l.length ≤ 1000 ∧ ∀ H', Same H H' → Q (.bl (isColB l A)) H'
def spLawReading : Sp := fun vs H Q _ => ∃ (l : List Nat) (cp : Addr) (A : List Int), vs = [.str (S l), .ref cp] ∧ Lets l ∧ H cp = some (.lst (A.map V.int)) ∧ A.length ≤ 1000 ∧ l.length ≤ 1000 ∧ Bd A (2 ^ 199) ∧ ∀ v H', Same H H' → Is H' 1 v (dtR l A) → Q v H'
def spColHolds (Pt : Addr) : Sp := fun vs H Q _ => ∃ (l : List Nat) (cp : Addr) (A : List Int), vs = [.str (S l), .ref cp] ∧ Lets l ∧ H cp = some (.lst (A.map V.int)) ∧ A.length ≤ 1000 ∧ l.length ≤ 1000 ∧ Bd A (2 ^ 199) ∧ GxR.TabG H Pt ∧ ∀ H', Bt Pt H H' → Q (.bl true) H'
def spSpoilt : Sp := fun vs H Q _ => ∃ (a cp : Addr) (A : List Int) (B : Nat), vs = [.ref a, .ref cp] ∧ Tape H a ∧ cp ≠ a ∧ H cp = some (.lst (A.map V.int)) ∧ A.length ≤ 1000 ∧ Bd A B ∧ ∀ (p : Addr) (A' : List Int) H', But a H H' → Tape H' a → p ≠ a → H' p = some (.lst (A'.map V.int)) → A'.length ≤ 2 * A.length + 1 → Bd A' (B + 10 ^ 20) → Q (.ref p) H'
end
def spNum : Sp := fun vs H Q _ => ∃ l : List Nat, vs = [.str (S l)] ∧ ∀ t' H', Same H H' → Tup2 H' t' (run (0, 1) l) → Q (.ref t') H'
section
variable {P : Program} {w : World} {K : PySem.W.Frag} {mg : Str → Option Value} {base : Heap} {f : Addr} {fd : FuncData}
theorem ok_num (F : Fun K "number" "number" s_number f fd) (D_after : Dfn P w K mg base "after" 2 ["fraction", "dance"] spAfter)  : FnOk P w K mg base CX0 3 f fd ["dance"] spNum := by
  refine F.ok sc_number (fun vs H Q E h => ?_) (fun cdv A outer s H vs Q E hr h => ?_)
  · obtain ⟨l, rfl, q⟩ := h
    rfl
  obtain ⟨l, rfl, q⟩ := h
  refine ⟨_, (pss_one (ps_ret (pe_do D_after hr (pa_cons (pe_tup (pa_cons pe_int (pa_cons pe_int pa_nil))) (pa_cons (pv 0) pa_nil))))), ?_⟩
  exact ⟨fits (by decide), fun p hp => ⟨_, rfl, p, (0, 1), l, rfl, upd_same, fun t' H' sm tt => q t' H' ((same_new hp _).trans sm) tt⟩⟩
end
section
variable {P : Program} {w : World} {K : PySem.W.Frag} {mg : Str → Option Value} {base : Heap} {f : Addr} {fd : FuncData}
theorem ok_diagram (F : Fun K "diagram" "diagram" s_diagram f fd)   : FnOk P w K mg base CX0 1 f fd ["dance"] spDiag := by
  refine F.ok sc_diagram (fun vs H Q E h => ?_) (fun cdv A outer s H vs Q E hr h => ?_)
  · obtain ⟨l, rfl, hz, q⟩ := h
    rfl
  obtain ⟨l, rfl, hz, q⟩ := h
  refine ⟨_, (pss_cons (ps_set (i := 1) sc_diagram.nd rfl (.inl rfl) pe_int)
    (pss_cons (ps_set (i := 2) sc_diagram.nd rfl (.inl rfl) (pe_lst pa_nil))
    (pss_cons (ps_asg (pe_tup (pa_cons pe_int (pa_cons pe_int (pa_cons pe_int (pa_cons pe_int pa_nil))))) (pg_tup (by rfl) (pgs_cons (pg_name (i := 3) sc_diagram.nd rfl (.inl rfl)) (pgs_cons (pg_name (i := 4) sc_diagram.nd rfl (.inl rfl)) (pgs_cons (pg_name (i := 5) sc_diagram.nd rfl (.inl rfl)) (pgs_cons (pg_name (i := 6) sc_diagram.nd rfl (.inl rfl)) pgs_nil))))))
    (pss_cons (ps_for PassesOwn.never rfl (pi_str (pv 0)) (pg_name (i := 7) sc_diagram.nd rfl (.inl rfl))
    (pss_cons (ps_if (pt_cmpR op_eq (pv 7) pe_str (nomark _)) (pss_cons (ps_asg (pe_tup (pa_cons (pv 5) (pa_cons (pv 3) (pa_cons (pv 6) (pa_cons (pv 4) pa_nil))))) (pg_tup (by rfl) (pgs_cons (pg_name (i := 3) sc_diagram.nd rfl (.inl rfl)) (pgs_cons (pg_name (i := 4) sc_diagram.nd rfl (.inl rfl)) (pgs_cons (pg_name (i := 5) sc_diagram.nd rfl (.inl rfl)) (pgs_cons (pg_name (i := 6) sc_diagram.nd rfl (.inl rfl)) pgs_nil))))))
    (pss_one ps_continue)) pss_nil)
    (pss_cons (ps_if (pt_cmpR op_eq (pv 7) pe_str (nomark _)) (pss_cons (ps_expr (pe_bm PySem.F.plainAttrs_list PySem.F.slot_list_append PySem.F.type_list_append mt_append (pv 2) (pa_cons (pe_tup (pa_cons (pv 4) (pa_cons (pv 6) (pa_cons (pv 1) pa_nil)))) pa_nil)))
    (pss_one (ps_par (i := 4) (j := 6) (by rfl) sc_diagram.nd rfl rfl (by decide) rfl rfl (pa_cons (pv 1) (pa_cons (pv 4) pa_nil)) (by rfl)))) (pss_cons (ps_expr (pe_bm PySem.F.plainAttrs_list PySem.F.slot_list_append PySem.F.type_list_append mt_append (pv 2) (pa_cons (pe_tup (pa_cons (pv 6) (pa_cons (pv 4) (pa_cons (pv 1) pa_nil)))) pa_nil)))
    (pss_one (ps_par (i := 4) (j := 6) (by rfl) sc_diagram.nd rfl rfl (by decide) rfl rfl (pa_cons (pv 6) (pa_cons (pv 1) pa_nil)) (by rfl)))))
    (pss_one (ps_aug (i := 1) sc_diagram.nd rfl (.inl rfl) pe_int ip_add)))))
    (pss_one (ps_ret (pe_tup (pa_cons (pv 1) (pa_cons (pv 2) (pa_cons (pe_tup (pa_cons (pv 3) (pa_cons (pv 4) (pa_cons (pv 5) (pa_cons (pv 6) pa_nil))))) pa_nil)))))))))), ?_⟩
  have sz : 4 ≤ sizeLine := fits (by decide)
  have s3 : 3 ≤ sizeLine := fits (by decide)
  refine ⟨fits (by decide), fun p hp => ⟨sz, fun e0 he0 => ?_⟩⟩
  refine ⟨e0, _, rfl, SqT.of upd_same, rfl, _, _, rfl, _, _, rfl, _, _, rfl, _, _, rfl, rfl, ?_⟩
  refine ⟨_, rfl, _, rfl, for_str (l := l) (fun i σ H' => ∃ (x1 : Option V), σ = [some (.str (S l)), some (.int ((dg (l.take i)).n : Int)), some (.ref p), some (.int ((dg (l.take i)).a : Int)), some (.int ((dg (l.take i)).b : Int)), some (.int ((dg (l.take i)).c : Int)), some (.int ((dg (l.take i)).d : Int)), x1] ∧ Same H H' ∧ Crs H' p (dg (l.take i)).cs) ?_ ?_ ?_⟩
  · refine ⟨_, rfl, (same_new hp _).trans (same_new he0 _), [], ?_, rfl, fun i r c a _ => by cases a⟩
    rw [upd_ne (ne_of_none upd_same he0), upd_same]
    rfl
  · rintro i c σ H1 hc ⟨x1, rfl, sm, cr⟩
    have hi : i < l.length := (List.getElem?_eq_some_iff.mp hc).1
    have dl := dg_len (l.take i)
    rw [List.length_take] at dl
    have st := dg_take hc
    generalize dg (l.take i) = g at *
    refine ⟨_, rfl, rfl, _, rfl, ite2 (fun c1 => ?_) (fun c1 => ?_)⟩
    · have k1 : c = 82 := (sign_eq e_R).mp (of_decide_eq_true c1)
      have e1 : dg1 g c = ⟨g.n, g.cs, g.c, g.a, g.d, g.b⟩ := if_pos k1
      rw [e1] at st
      rw [st]
      refine ⟨_, rfl, _, rfl, _, rfl, _, rfl, sz, fun t ht => ⟨t, _, rfl, SqT.of upd_same, rfl, _, _, rfl, _, _, rfl, _, _, rfl, _, _, rfl, rfl, ?_⟩⟩
      exact ⟨_, rfl, sm.trans (same_new ht _), cr.same (same_new ht _)⟩
    have k1 : ¬ c = 82 := fun z => c1 (decide_eq_true ((sign_eq e_R).mpr z))
    refine ⟨_, rfl, rfl, _, rfl, ite2 (fun c2 => ?_) (fun c2 => ?_)⟩
    · have k2 : c = 84 := (sign_eq e_T).mp (of_decide_eq_true c2)
      have e1 : dg1 g c = ⟨g.n + 1, g.cs ++ [(g.b, g.d, g.n)], g.a, g.n, g.c, g.b⟩ := (if_neg k1).trans (if_pos k2)
      rw [e1] at st
      rw [st]
      obtain ⟨rs, hrs, _⟩ := cr
      refine ⟨_, rfl, .inl ⟨rfl, _, SqL.of hrs⟩, _, rfl, _, rfl, _, rfl, s3, fun t ht => ?_⟩
      obtain ⟨xs, hx, hl, cr'⟩ := Crs.push ⟨rs, hrs, ‹_›⟩ ht (g.b, g.d, g.n)
      refine ⟨p, xs, _, rfl, rfl, hx, Nat.lt_of_lt_of_le (show xs.length < 16777216 by omega) sizeLine_big, ?_⟩
      refine ⟨_, rfl, _, rfl, _, _, rfl, _, rfl, _, _, rfl, rfl, _, rfl, fun b o hb => ?_, cr'⟩
      rw [upd_ne (ne_of_none hb hp), upd_ne (ne_of_none (sm _ _ hb) ht)]
      exact sm _ _ hb
    · have k2 : ¬ c = 84 := fun z => c2 (decide_eq_true ((sign_eq e_T).mpr z))
      have e1 : dg1 g c = ⟨g.n + 1, g.cs ++ [(g.d, g.b, g.n)], g.a, g.d, g.c, g.n⟩ := (if_neg k1).trans (if_neg k2)
      rw [e1] at st
      rw [st]
      obtain ⟨rs, hrs, _⟩ := cr
      refine ⟨_, rfl, .inl ⟨rfl, _, SqL.of hrs⟩, _, rfl, _, rfl, _, rfl, s3, fun t ht => ?_⟩
      obtain ⟨xs, hx, hl, cr'⟩ := Crs.push ⟨rs, hrs, ‹_›⟩ ht (g.d, g.b, g.n)
      refine ⟨p, xs, _, rfl, rfl, hx, Nat.lt_of_lt_of_le (show xs.length < 16777216 by omega) sizeLine_big, ?_⟩
      refine ⟨_, rfl, _, rfl, _, _, rfl, _, rfl, _, _, rfl, rfl, _, rfl, fun b o hb => ?_, cr'⟩
      rw [upd_ne (ne_of_none hb hp), upd_ne (ne_of_none (sm _ _ hb) ht)]
      exact sm _ _ hb
  · rintro σ H1 ⟨x1, rfl, sm, cr⟩
    rw [List.take_of_length_le (Nat.le_refl _)] at cr ⊢
    exact ⟨_, rfl, _, rfl, _, rfl, _, rfl, _, rfl, _, rfl, sz, fun e he => ⟨s3, fun t ht => q t p _ ((sm.trans (same_new he _)).trans (same_new ht _)) hp ⟨e, upd_same, same_new ht _ _ _ upd_same, (cr.same (same_new he _)).same (same_new ht _)⟩⟩⟩
end
section
variable {P : Program} {w : World} {K : PySem.W.Frag} {mg : Str → Option Value} {base : Heap} {f : Addr} {fd : FuncData}
theorem ok_colouring (F : Fun K "colouring" "colouring" s_colouring f fd) (D_diagram : Dfn P w K mg base "diagram" 1 ["dance"] spDiag)  : FnOk P w K mg base CX0 2 f fd ["dance", "first", "second"] spCol := by
  refine F.ok sc_colouring (fun vs H Q E h => ?_) (fun cdv A outer s H vs Q E hr h => ?_)
  · obtain ⟨l, x, y, rfl, hz, q⟩ := h
    rfl
  obtain ⟨l, x, y, rfl, hz, q⟩ := h
  refine ⟨_, (pss_cons (ps_set (i := 3) sc_colouring.nd rfl (.inl rfl) (pe_ix ix_tup (pe_do D_diagram hr (pa_cons (pv 0) pa_nil)) pe_int (fun _ _ => rfl)))
    (pss_cons (ps_set (i := 4) sc_colouring.nd rfl (.inl rfl) (pe_lst (pa_cons (pv 1) (pa_cons (pv 2) pa_nil))))
    (pss_cons (ps_for PassesOwn.never rfl (pi_list (pv 3)) (pg_tup (by rfl) (pgs_cons (pg_name (i := 5) sc_colouring.nd rfl (.inl rfl)) (pgs_cons (pg_name (i := 6) sc_colouring.nd rfl (.inl rfl)) (pgs_cons (pg_name (i := 7) sc_colouring.nd rfl (.inl rfl)) pgs_nil))))
    (pss_one (ps_expr (pe_bm PySem.F.plainAttrs_list PySem.F.slot_list_append PySem.F.type_list_append mt_append (pv 4) (pa_cons (pe_op op_sub (pe_op op_mul pe_int (pe_ix ix_list (pv 4) (pv 5) (fun _ _ => rfl))) (pe_ix ix_list (pv 4) (pv 6) (fun _ _ => rfl))) pa_nil)))))
    (pss_one (ps_ret (pv 4)))))), ?_⟩
  have two : 2 ≤ sizeLine := fits (by decide)
  refine ⟨_, rfl, l, rfl, hz, fun t kp H2 s2 nk dgm => ?_⟩
  obtain ⟨e, ht, he, rs, hrs, zr, kr⟩ := dgm
  refine ⟨t, _, _, _, rfl, rfl, SqT.of ht, rfl, ?_⟩
  refine ⟨_, rfl, _, rfl, two, fun p hp => ?_⟩
  have np : p ≠ kp := (ne_of_none hrs hp).symm
  have wl := wf_dg l
  have dl := dg_len l
  have hrs1 := same_new hp (.lst [V.int x, .int y]) _ _ hrs
  refine ⟨_, rfl, kp, rfl, ⟨_, SqL.of hrs1⟩, for_list (K := K) (a := kp) (xs := rs.map V.ref) (fun i σ G => ∃ (x4 x5 x6 : Option V), σ = [some (.str (S l)), some (.int x), some (.int y), some (.ref kp), some (.ref p), x4, x5, x6] ∧ But p (upd H2 p (.lst [V.int x, .int y])) G ∧ G p = some (.lst ((col ((dg l).cs.take i) x y).map V.int))) ?_ ?_ ?_ ?_⟩
  · exact ⟨_, _, _, rfl, But.refl _ _, upd_same⟩
  · rintro i σ G _ ⟨x4, x5, x6, _, bt, _⟩
    exact SqL.of (bt _ _ np.symm hrs1)
  · rintro i v σ G hv ⟨x4, x5, x6, rfl, bt, hG⟩
    rw [List.getElem?_map] at hv
    cases hr : rs[i]? with
    | none => rw [hr] at hv; cases hv
    | some r =>
      rw [hr] at hv
      cases hv
      have hi : i < (dg l).cs.length := by rw [← zr]; exact (List.getElem?_eq_some_iff.mp hr).1
      have hc : (dg l).cs[i]? = some (dg l).cs[i] := List.getElem?_eq_getElem hi
      generalize (dg l).cs[i] = c at hc
      have tr := same_new hp (.lst [V.int x, .int y]) _ _ (kr i r c hr hc)
      have trG := bt _ _ (ne_of tr (upd_same (H := H2) (a := p)) (by intro z; cases z)) tr
      obtain ⟨b1, b2, b3⟩ := wl.at_ i c hc
      have lA := col_len x y ((dg l).cs.take i)
      rw [List.length_take] at lA
      have lm : ((col ((dg l).cs.take i) x y).map V.int).length < sizeLine := by
        rw [List.length_map]
        exact Nat.lt_of_lt_of_le (show _ < 16777216 by omega) sizeLine_big
      refine ⟨r, _, rfl, SqT.of trG, rfl, _, _, rfl, _, _, rfl, _, _, rfl, rfl, ?_⟩
      refine ⟨_, rfl, .inl ⟨rfl, _, SqL.of hG⟩, _, rfl, _, rfl, p, _, _, _, rfl, rfl, SqL.of hG, at_getD (by omega), _, _, rfl, rfl, .inl ⟨by decide, by decide⟩, _, rfl, _, rfl, p, _, _, _, rfl, rfl, SqL.of hG, at_getD (by omega), _, _, rfl, rfl, p, _, _, rfl, rfl, hG, lm, ?_⟩
      refine ⟨_, _, _, rfl, bt.trans But.upd, ?_⟩
      rw [upd_same, List.take_add_one, hc]
      show _ = some (HO.lst ((col ((dg l).cs.take i ++ [c]) x y).map V.int))
      rw [col_snoc]
      unfold cstep
      rw [List.map_append]
      rfl
  · rintro σ G ⟨x4, x5, x6, rfl, bt, hG⟩
    rw [List.length_map, zr, List.take_of_length_le (Nat.le_refl _)] at hG
    have hp0 : H p = none := by
      cases e : H p with
      | none => rfl
      | some o => have := s2 _ _ e; rw [hp] at this; cases this
    exact ⟨_, rfl, q p G (fun b o hb => bt _ _ (ne_of_none hb hp0) (same_new hp _ _ _ (s2 _ _ hb))) hp0 hG⟩
end
section
variable {P : Program} {w : World} {K : PySem.W.Frag} {mg : Str → Option Value} {base : Heap} {f : Addr} {fd : FuncData}
theorem ok_is_plain (F : Fun K "is_plain" "is_plain" s_is_plain f fd) (y_len : mg "len" = none)  : FnOk P w K mg base CX0 1 f fd ["colours"] spPlain := by
  refine F.ok sc_is_plain (fun vs H Q E h => ?_) (fun cdv A outer s H vs Q E hr h => ?_)
  · obtain ⟨cp, A, rfl, hA, z0, zA, q⟩ := h
    rfl
  obtain ⟨cp, A, rfl, hA, z0, zA, q⟩ := h
  refine ⟨_, (pss_one (ps_ret (pe_cmpR op_eq (pe_bm PySem.F.plainAttrs_list PySem.F.slot_list_count PySem.F.type_list_count mt_lcount (pv 0) (pa_cons (pe_ix ix_list (pv 0) pe_int (fun _ _ => rfl)) pa_nil)) (pe_callB call_len_seq rfl y_len PySem.boot_len (pa_cons (pv 0) pa_nil)) (nomark _)))), ?_⟩
  refine ⟨_, rfl, .inl ⟨rfl, _, SqL.of hA⟩, _, rfl, cp, _, _, _, rfl, rfl, SqL.of hA, at_getD (i := 0) z0, cp, A, _, rfl, rfl, SqL.of hA, _, rfl, cp, _, rfl, .inl (SqL.of hA), rfl, ?_⟩
  have e : decide (V.int ((A.count (A.getD 0 0) : Nat) : Int) = V.int (((A.map V.int).length : Nat) : Int)) = plainB A := by
    rw [Bool.eq_iff_iff, decide_eq_true_eq, List.length_map]
    unfold plainB
    rw [List.all_eq_true]
    constructor
    · intro h x hx
      have h1 : A.count (A.getD 0 0) = A.length := by have := V.int.inj h; omega
      exact beq_iff_eq.mpr (List.count_eq_length.mp h1 x hx).symm
    · intro h
      have h1 : A.count (A.getD 0 0) = A.length := List.count_eq_length.mpr fun x hx => (beq_iff_eq.mp (h x hx)).symm
      rw [h1]
  rw [e]
  exact q
end
section
variable {P : Program} {w : World} {K : PySem.W.Frag} {mg : Str → Option Value} {base : Heap} {f : Addr} {fd : FuncData}
theorem ok_is_colouring {c Pt : Addr} (F : Fun K "is_colouring" "is_colouring" s_is_colouring f fd) (hc : fd.code = .ref c) (TB : GxR.TabB base mg c Pt) (D_diagram : Dfn P w K mg base "diagram" 1 ["dance"] spDiag) (y_all : mg "all" = none) (y_len : mg "len" = none) : FnOk P w K mg base CX0 2 f fd ["dance", "colours"] (spIsCol Pt) := by
  refine okC F hc sc_is_colouring (fun vs H Q E h => ?_) (fun A0 outer s H vs Q E hr h => ?_)
  · obtain ⟨l, cp, A, rfl, _⟩ := h
    rfl
  obtain ⟨l, cp, A, rfl, hA, zA, zl, tg, q⟩ := h
  refine ⟨_, (pss_cons (ps_asg (pe_do D_diagram hr (pa_cons (pv 0) pa_nil)) (pg_tup (by rfl) (pgs_cons (pg_name (i := 2) sc_is_colouring.nd rfl (.inl rfl)) (pgs_cons (pg_name (i := 3) sc_is_colouring.nd rfl (.inl rfl)) (pgs_cons (pg_name (i := 4) sc_is_colouring.nd rfl (.inl rfl)) pgs_nil)))))
    (pss_cons (ps_if (pt_cmpR op_ne (pe_callB call_len_seq rfl y_len PySem.boot_len (pa_cons (pv 1) pa_nil)) (pv 2) (nomark _)) (pss_one (ps_ret pe_bl)) pss_nil)
    (pss_one (ps_ret (pe_all3 (k := 1) hr rfl y_all TB rfl ?sc (pv 3) (fun v => rfl)))))), ?rd⟩
  case sc =>
    refine ⟨rfl, rfl, by decide +kernel, rfl, rfl, rfl, rfl, by decide, by decide, by decide, fun y hy e => ?_⟩
    have hn : y.1 = ("colours" : Str) := by
      revert y
      decide +kernel
    rw [hn]
    exact ⟨_, rfl⟩
  case rd =>
    refine ⟨_, rfl, l, rfl, by omega, fun t kp H1 s1 nk dgm => ?_⟩
    obtain ⟨e, ht, he, rs, hrs, zr, kr⟩ := dgm
    have tg1 := TabG.same tg s1
    have hA1 := s1 _ _ hA
    have w0 := wf_dg l
    refine ⟨t, _, rfl, SqT.of ht, rfl, _, _, rfl, _, _, rfl, _, _, rfl, rfl, ?_⟩
    refine ⟨_, rfl, cp, _, rfl, .inl (SqL.of hA1), _, rfl, rfl, _, rfl, ?_⟩
    have q1 := fun H' b => q H' ((Bt.of s1 tg).trans b)
    by_cases hl : A.length = (dg l).n
    · have e1 : decide (V.int (((A.map V.int).length : Nat) : Int) = V.int (((dg l).n : Nat) : Int)) = true := decide_eq_true (by rw [List.length_map, hl])
      rw [e1]
      refine iteF ⟨_, rfl, kp, (dg l).cs.map crossV, keepAt (dg l).cs A, rfl, ⟨rs, hrs, by rw [List.length_map]; exact zr, fun i t q hi hq => ?_⟩, tg1, fun pins1 s2 J => ?_, fun G' tb => ?_⟩
      · rw [List.getElem?_map] at hq
        cases hcc : (dg l).cs[i]? with
        | none => rw [hcc] at hq; cases hq
        | some c =>
          rw [hcc] at hq
          cases hq
          exact kr i t c hi hcc
      · obtain ⟨ps, hps, _⟩ := tg1
        refine elt_cross (ic := 1) (cp := cp) J rfl rfl rfl rfl rfl (by decide +kernel) rfl rfl rfl rfl hA1 hps (by omega) fun i c hc2 => ?_
        obtain ⟨b1, b2, b3⟩ := w0.at_ i c hc2
        have := (List.getElem?_eq_some_iff.mp hc2).1
        have := w0.n
        exact ⟨by omega, by omega, by omega⟩
      · rw [List.length_map, all_keep]
        have q2 := q1 G' (Bt.tabbed tb)
        unfold isColB at q2
        rw [decide_eq_true hl, Bool.true_and] at q2
        exact q2
    · have e1 : decide (V.int (((A.map V.int).length : Nat) : Int) = V.int (((dg l).n : Nat) : Int)) = false := decide_eq_false fun z => hl (by have := V.int.inj z; rw [List.length_map] at this; omega)
      rw [e1]
      have q2 := q1 H1 (Bt.refl tg1)
      unfold isColB at q2
      rw [decide_eq_false hl, Bool.false_and] at q2
      exact iteT q2
end
section
variable {P : Program} {w : World} {K : PySem.W.Frag} {mg : Str → Option Value} {base : Heap} {f : Addr} {fd : FuncData}
theorem ok_reading (F : Fun K "reading" "reading" s_reading f fd) (D_is_plain : Dfn P w K mg base "is_plain" 2 ["colours"] spPlain) (D_is_colouring : Dfn P w K mg base "is_colouring" 2 ["dance", "colours"] (spIsCol Pt)) (D_diagram : Dfn P w K mg base "diagram" 2 ["dance"] spDiag) (D_fraction : Dfn P w K mg base "fraction" 2 ["p", "q"] spFrac)  : FnOk P w K mg base CX0 3 f fd ["dance", "colours"] (spReading Pt) := by
  refine F.ok sc_reading (fun vs H Q E h => ?_) (fun cdv A outer s H vs Q E hr h => ?_)
  · obtain ⟨l, cp, A, rfl, hl, hA, zA, zl, bd, tg, q⟩ := h
    rfl
  obtain ⟨l, cp, A, rfl, hl, hA, zA, zl, bd, tg, q⟩ := h
  refine ⟨_, (pss_cons (ps_if (PW.pt (pw_or (pt_not (pt_val (pe_do D_is_colouring hr (pa_cons (pv 0) (pa_cons (pv 1) pa_nil))))) (pw_or1 (pt_val (pe_do D_is_plain hr (pa_cons (pv 1) pa_nil)))))) (pss_one (ps_ret pe_non)) pss_nil)
    (pss_cons (ps_asg (pe_ix ix_tup (pe_do D_diagram hr (pa_cons (pv 0) pa_nil)) pe_int (fun _ _ => rfl)) (pg_tup (by rfl) (pgs_cons (pg_name (i := 2) sc_reading.nd rfl (.inl rfl)) (pgs_cons (pg_name (i := 3) sc_reading.nd rfl (.inl rfl)) (pgs_cons (pg_name (i := 4) sc_reading.nd rfl (.inl rfl)) (pgs_cons (pg_name (i := 5) sc_reading.nd rfl (.inl rfl)) pgs_nil))))))
    (pss_one (ps_ret (pe_do D_fraction hr (pa_cons (pe_op op_sub (pe_ix ix_list (pv 1) (pv 3) (fun _ _ => rfl)) (pe_ix ix_list (pv 1) (pv 2) (fun _ _ => rfl))) (pa_cons (pe_op op_sub (pe_ix ix_list (pv 1) (pv 3) (fun _ _ => rfl)) (pe_ix ix_list (pv 1) (pv 5) (fun _ _ => rfl))) pa_nil))))))), ?_⟩
  have w0 := wf_dg l
  refine ⟨_, rfl, _, rfl, l, cp, A, rfl, hA, zA, zl, tg, fun H1 b1 => ⟨_, rfl, ?_⟩⟩
  have hA1 := b1.lst tg hA
  cases hc : isColB l A with
  | false => exact iteT (q _ H1 b1 (by rw [dtR_none (.inl hc)]; exact non_is))
  | true =>
    obtain ⟨_, hlen⟩ := isCol_col hc
    have wn := w0.n
    have wa := w0.a
    have wb := w0.b
    have wd := w0.d
    refine iteF ⟨_, rfl, cp, A, rfl, hA1, by omega, zA, _, rfl, ?_⟩
    cases hp : plainB A with
    | true => exact iteT (q _ H1 b1 (by rw [dtR_none (.inr hp)]; exact non_is))
    | false =>
      refine iteF ⟨_, rfl, l, rfl, by omega, fun t kp H2 s2 nk dgm => ?_⟩
      obtain ⟨e, ht, he, cr⟩ := dgm
      have hA2 := SqL.of (K := K) (s2 _ _ hA1)
      refine ⟨t, _, _, _, rfl, rfl, SqT.of ht, rfl, e, _, rfl, SqT.of he, rfl, _, _, rfl, _, _, rfl, _, _, rfl, _, _, rfl, rfl, ?_⟩
      obtain ⟨r1, r2⟩ := reads hl hc hp
      have b0 := fun i => bd.at i
      refine ⟨_, rfl, _, rfl, cp, _, _, _, rfl, rfl, hA2, at_getD (by omega), _, rfl, _, rfl, cp, _, _, _, rfl, rfl, hA2, at_getD (by omega), _, _, rfl, rfl, _, rfl, _, rfl, cp, _, _, _, rfl, rfl, hA2, at_getD (by omega), _, rfl, _, rfl, cp, _, _, _, rfl, rfl, hA2, at_getD (by omega), _, _, rfl, rfl, _, _, rfl, r2, ?_, ?_, fun t3 H3 s3 tt => q _ H3 ((b1.same s2).same s3) ?_⟩
      · have h1 := b0 (dg l).b
        have h2 := b0 (dg l).a
        omega
      · have h1 := b0 (dg l).b
        have h2 := b0 (dg l).d
        omega
      · rw [dtR_some hc hp]
        rw [r1] at tt
        exact tup2_is (n := 0) tt
end

section
def Iv (B : Nat) (y : V) : Prop := ∃ z : Int, y = .int z ∧ z.natAbs ≤ B
theorem ints_of {B : Nat} : ∀ {xs : List V}, (∀ y ∈ xs, Iv B y) → ∃ A : List Int, xs = A.map V.int ∧ Bd A B
  | [], _ => ⟨[], rfl, fun x h => by cases h⟩
  | y :: r, h => by
    obtain ⟨z, rfl, hz⟩ := h y List.mem_cons_self
    obtain ⟨A, rfl, hA⟩ := ints_of (xs := r) fun x hx => h x (List.mem_cons_of_mem _ hx)
    exact ⟨z :: A, rfl, fun x hx => by
      rcases List.mem_cons.mp hx with rfl | hx
      · exact hz
      · exact hA x hx⟩
theorem iv_of {A : List Int} {B C : Nat} (h : Bd A B) (l : B ≤ C) : ∀ y ∈ A.map V.int, Iv C y := fun y hy => by
  obtain ⟨z, hz, rfl⟩ := List.mem_map.mp hy
  exact ⟨z, rfl, Nat.le_trans (h z hz) l⟩
theorem cutV_mem {xs : List V} {lo hi : Option Int} {y : V} (h : y ∈ cutV xs lo hi) : y ∈ xs := List.mem_of_mem_drop (List.mem_of_mem_take h)
theorem due_neg {p qq : Int} (hc : qq < 0 ∨ (qq = 0 ∧ p < 0)) : ((p.fdiv (0 - ((Int.gcd p qq : Nat) : Int)), qq.fdiv (0 - ((Int.gcd p qq : Nat) : Int))) : Int × Int) = due p qq := by
  unfold due
  rcases hc with hc | ⟨hc, hc2⟩
  · rw [if_neg (by omega), if_pos hc]
  · subst hc
    rw [if_pos rfl]
    have e : 0 - ((Int.gcd p 0 : Nat) : Int) = p := by rw [Int.gcd_zero_right]; omega
    rw [e, Int.fdiv_self (by omega), Int.zero_fdiv]
theorem due_pos {p qq : Int} (r2 : p ≠ 0 ∨ qq ≠ 0) (hc : ¬ (qq < 0 ∨ (qq = 0 ∧ p < 0))) : ((p.fdiv ((Int.gcd p qq : Nat) : Int), qq.fdiv ((Int.gcd p qq : Nat) : Int)) : Int × Int) = due p qq := by
  unfold due
  by_cases h0 : qq = 0
  · subst h0
    rw [if_pos rfl]
    have e : ((Int.gcd p 0 : Nat) : Int) = p := by rw [Int.gcd_zero_right]; omega
    rw [e, Int.fdiv_self (by omega), Int.zero_fdiv]
  · rw [if_neg h0, if_neg (by omega)]
theorem four_steps {r : Int} (h0 : 0 ≤ r) (h1 : r < 4) : ∃ z : Int, atI [V.int 1, .int (-1), .int 2, .int (10 ^ (20 : Int).toNat)] r = some (.int z) ∧ z.natAbs ≤ 10 ^ 20 := by
  obtain ⟨c, hc, m⟩ := atI_mk (xs := [V.int 1, .int (-1), .int 2, .int (10 ^ (20 : Int).toNat)]) h0 h1
  simp only [List.mem_cons, List.not_mem_nil, or_false] at m
  rcases m with rfl | rfl | rfl | rfl
  · exact ⟨1, hc, by decide⟩
  · exact ⟨-1, hc, by decide⟩
  · exact ⟨2, hc, by decide⟩
  · exact ⟨_, hc, by decide⟩
end
section
variable {P : Program} {w : World} {K : PySem.W.Frag} {mg : Str → Option Value} {base : Heap} {f : Addr} {fd : FuncData}
theorem ok_law_spoilt (F : Fun K "_law_spoilt" "_law_spoilt" s_law_spoilt f fd) (D_take : Dfn P w K mg base "_law_take" 1 ["tape", "many"] spTake) (y_len : mg "len" = none) (y_list : mg "list" = none)  : FnOk P w K mg base CX0 2 f fd ["tape", "colours"] spSpoilt := by
  refine F.ok sc_law_spoilt (fun vs H Q E h => ?_) (fun cdv A outer s H vs Q E hr h => ?_)
  · obtain ⟨a, cp, A, B, rfl, hT, nc, hA, zA, bd, q⟩ := h
    rfl
  obtain ⟨a, cp, A, B, rfl, hT, nc, hA, zA, bd, q⟩ := h
  refine ⟨_, (pss_cons (ps_if (pt_cmpR op_eq (pe_callB call_len_seq rfl y_len PySem.boot_len (pa_cons (pv 1) pa_nil)) pe_int (nomark _)) (pss_one (ps_ret (pe_lst (pa_cons pe_int pa_nil)))) pss_nil)
    (pss_cons (ps_set (i := 2) sc_law_spoilt.nd rfl (.inl rfl) (pe_do D_take hr (pa_cons (pv 0) (pa_cons pe_int pa_nil))))
    (pss_cons (ps_set (i := 3) sc_law_spoilt.nd rfl (.inl rfl) (pe_do D_take hr (pa_cons (pv 0) (pa_cons (pe_callB call_len_seq rfl y_len PySem.boot_len (pa_cons (pv 1) pa_nil)) pa_nil))))
    (pss_cons (ps_if (pt_cmpR op_eq (pv 2) pe_int (nomark _)) (pss_one (ps_ret (pe_op op_cat (pe_slice sl_list (pv 1) po_none (po_some (pv 3))) (pe_slice sl_list (pv 1) (po_some (pe_op op_add (pv 3) pe_int)) po_none)))) pss_nil)
    (pss_cons (ps_if (pt_cmpR op_eq (pv 2) pe_int (nomark _)) (pss_one (ps_ret (pe_op op_cat (pe_op op_cat (pe_slice sl_list (pv 1) po_none (po_some (pv 3))) (pe_lst (pa_cons (pe_ix ix_list (pv 1) (pv 3) (fun _ _ => rfl)) pa_nil))) (pe_slice sl_list (pv 1) (po_some (pv 3)) po_none)))) pss_nil)
    (pss_cons (ps_if (pt_cmpR op_eq (pv 2) pe_int (nomark _)) (pss_cons (ps_set (i := 4) sc_law_spoilt.nd rfl (.inl rfl) (pe_do D_take hr (pa_cons (pv 0) (pa_cons (pe_callB call_len_seq rfl y_len PySem.boot_len (pa_cons (pv 1) pa_nil)) pa_nil))))
    (pss_cons (ps_set (i := 5) sc_law_spoilt.nd rfl (.inl rfl) (pe_callTy call_list_of rfl y_list (by decide +kernel) (pa_cons (pv 1) pa_nil)))
    (pss_cons (ps_asg (pe_ix ix_list (pv 1) (pv 4) (fun _ _ => rfl)) (pg_sub (pv 5) (pv 3) set_list))
    (pss_cons (ps_asg (pe_ix ix_list (pv 1) (pv 3) (fun _ _ => rfl)) (pg_sub (pv 5) (pv 4) set_list))
    (pss_one (ps_ret (pv 5))))))) pss_nil)
    (pss_one (ps_ret (pe_op op_cat (pe_op op_cat (pe_slice sl_list (pv 1) po_none (po_some (pv 3))) (pe_lst (pa_cons (pe_op op_add (pe_ix ix_list (pv 1) (pv 3) (fun _ _ => rfl)) (pe_ix ix_list (pe_lst (pa_cons pe_int (pa_cons (pe_un un_neg pe_int) (pa_cons pe_int (pa_cons (pe_op op_pow pe_int pe_int) pa_nil))))) (pe_do D_take hr (pa_cons (pv 0) (pa_cons pe_int pa_nil))) (fun _ _ => rfl))) pa_nil))) (pe_slice sl_list (pv 1) (po_some (pe_op op_add (pv 3) pe_int)) po_none)))))))))), ?_⟩
  have fin : ∀ (p : Addr) (G : Hp) (ys : List V), G p = none → But a H G → Tape G a → ys.length ≤ 2 * A.length + 1 → (∀ y ∈ ys, Iv (B + 10 ^ 20) y) → Q (.ref p) (upd G p (.lst ys)) := fun p G ys hp b tp z al => by
    obtain ⟨A', rfl, hb⟩ := ints_of al
    exact q p A' _ (b.trans (But.of (same_new hp _))) (tp.same (same_new hp _)) (tp.ne hp) upd_same (by rw [List.length_map] at z; exact z) hb
  have ln : ∀ (xs ys : List V), xs.length ≤ 10000 → ys.length ≤ 10000 → xs.length + ys.length ≤ sizeLine := fun xs ys h1 h2 => fits (by omega)
  have one : 1 ≤ sizeLine := fits (by decide)
  have iv := iv_of bd (show B ≤ B + 10 ^ 20 by omega)
  refine ⟨_, rfl, cp, _, rfl, .inl (SqL.of hA), rfl, _, rfl, ite2 (fun k0 => ?_) (fun k0 => ?_)⟩
  · refine ⟨one, fun p hp => fin p H _ hp (But.refl _ _) hT (by show 1 ≤ _; omega) fun y hy => ?_⟩
    rw [List.mem_singleton.mp hy]
    exact ⟨0, rfl, Nat.zero_le _⟩
  have n0 : A.length ≠ 0 := fun z => k0 (by rw [List.length_map, z]; rfl)
  have lm : (A.map V.int).length = A.length := List.length_map ..
  have cl : ∀ lo hi, (cutV (A.map V.int) lo hi).length ≤ A.length := fun lo hi => by have := cutV_length (A.map V.int) lo hi; omega
  refine ⟨_, rfl, a, 5, rfl, hT, by decide, by decide, fun c H1 c0 c1 b1 t1 => ?_⟩
  have hA1 := b1 _ _ nc hA
  refine ⟨_, rfl, _, rfl, cp, _, rfl, .inl (SqL.of hA1), a, _, rfl, t1, by omega, by omega, fun s H2 s0 s1 b2 t2 => ?_⟩
  have B2 := b1.trans b2
  have hA2 := b2 _ _ nc hA1
  rw [lm] at s1
  have at0 : atI (A.map V.int) s = some (.int (A.getD s.toNat 0)) := by
    have := at_getD (A := A) (i := s.toNat) (by omega)
    rw [Int.toNat_of_nonneg s0] at this
    exact this
  have ivs : Iv (B + 10 ^ 20) (.int (A.getD s.toNat 0)) := ⟨_, rfl, Nat.le_trans (bd.at _) (by omega)⟩
  refine ⟨_, rfl, rfl, _, rfl, ite2 (fun k1 => ?_) (fun k1 => ?_)⟩
  · refine ⟨_, rfl, _, rfl, _, rfl, cp, _, rfl, SqL.of hA2, fun p1 h1 => ?_⟩
    have e1 := same_new h1 (.lst (cutV (A.map V.int) none (some s))) _ _ hA2
    refine ⟨_, rfl, _, rfl, _, _, rfl, rfl, _, rfl, cp, _, rfl, SqL.of e1, fun p2 h2 => ?_⟩
    refine ⟨p1, p2, _, _, rfl, rfl, same_new h2 _ _ _ upd_same, upd_same, ln _ _ (by have := cl none (some s); omega) (by have := cl (some (s + 1)) none; omega), fun p3 h3 => ?_⟩
    have SS := (same_new h1 (.lst (cutV (A.map V.int) none (some s)))).trans (same_new h2 (.lst (cutV (A.map V.int) (some (s + 1)) none)))
    refine fin p3 _ _ h3 (B2.trans (But.of SS)) (t2.same SS) ?_ fun y hy => ?_
    · rw [List.length_append]; have := cl none (some s); have := cl (some (s + 1)) none; omega
    · rcases List.mem_append.mp hy with hy | hy
      · exact iv y (cutV_mem hy)
      · exact iv y (cutV_mem hy)
  refine ⟨_, rfl, rfl, _, rfl, ite2 (fun k2 => ?_) (fun k2 => ?_)⟩
  · refine ⟨_, rfl, _, rfl, _, rfl, cp, _, rfl, SqL.of hA2, fun p1 h1 => ?_⟩
    have e1 := same_new h1 (.lst (cutV (A.map V.int) none (some s))) _ _ hA2
    refine ⟨_, rfl, _, rfl, cp, _, _, _, rfl, rfl, SqL.of e1, at0, one, fun p2 h2 => ?_⟩
    refine ⟨p1, p2, _, _, rfl, rfl, same_new h2 _ _ _ upd_same, upd_same, ln _ _ (by have := cl none (some s); omega) (by show 1 ≤ 10000; decide), fun p3 h3 => ?_⟩
    have SS3 := ((same_new h1 (.lst (cutV (A.map V.int) none (some s)))).trans (same_new h2 (.lst [V.int (A.getD s.toNat 0)]))).trans (same_new h3 (.lst (cutV (A.map V.int) none (some s) ++ [V.int (A.getD s.toNat 0)])))
    refine ⟨_, rfl, _, rfl, _, rfl, cp, _, rfl, SqL.of (SS3 _ _ hA2), fun p4 h4 => ?_⟩
    refine ⟨p3, p4, _, _, rfl, rfl, same_new h4 _ _ _ upd_same, upd_same, ln _ _ (by rw [List.length_append]; have := cl none (some s); show _ + 1 ≤ _; omega) (by have := cl (some s) none; omega), fun p5 h5 => ?_⟩
    have SS4 := SS3.trans (same_new h4 (.lst (cutV (A.map V.int) (some s) none)))
    refine fin p5 _ _ h5 (B2.trans (But.of SS4)) (t2.same SS4) ?_ fun y hy => ?_
    · rw [List.length_append, List.length_append]; have := cl none (some s); have := cl (some s) none; show _ + 1 + _ ≤ _; omega
    · rcases List.mem_append.mp hy with hy | hy
      · rcases List.mem_append.mp hy with hy | hy
        · exact iv y (cutV_mem hy)
        · rw [List.mem_singleton.mp hy]; exact ivs
      · exact iv y (cutV_mem hy)
  refine ⟨_, rfl, rfl, _, rfl, ite2 (fun k3 => ?_) (fun k3 => ?_)⟩
  · refine ⟨_, rfl, _, rfl, cp, _, rfl, .inl (SqL.of hA2), a, _, rfl, t2, by omega, by omega, fun s' H3 s0' s1' b3 t3 => ?_⟩
    have hA3 := b3 _ _ nc hA2
    rw [lm] at s1'
    have at1 : atI (A.map V.int) s' = some (.int (A.getD s'.toNat 0)) := by
      have := at_getD (A := A) (i := s'.toNat) (by omega)
      rw [Int.toNat_of_nonneg s0'] at this
      exact this
    refine ⟨_, rfl, cp, _, rfl, .inl (SqL.of hA3), fun p1 h1 => ?_⟩
    have S1 := same_new h1 (.lst (A.map V.int))
    have ix : ∀ (n : Nat) (k : Int), 0 ≤ k → k < n → ixN n k = some k.toNat := fun n k h0 h1 => by
      unfold ixN
      rw [if_pos h0, if_pos h1]
    refine ⟨_, rfl, _, rfl, cp, _, _, _, rfl, rfl, SqL.of (S1 _ _ hA3), at1, _, rfl, _, rfl, p1, _, _, s.toNat, rfl, rfl, upd_same, by rw [lm]; exact ix _ _ s0 (by omega), ?_⟩
    have hA4 : upd (upd H3 p1 (.lst (A.map V.int))) p1 (.lst ((A.map V.int).set s.toNat (.int (A.getD s'.toNat 0)))) cp = some (.lst (A.map V.int)) := by
      rw [upd_ne (ne_of_none hA3 h1)]
      exact S1 _ _ hA3
    refine ⟨_, rfl, _, rfl, cp, _, _, _, rfl, rfl, SqL.of hA4, at0, _, rfl, _, rfl, p1, _, _, s'.toNat, rfl, rfl, upd_same, by rw [List.length_set, lm]; exact ix _ _ s0' (by omega), ?_⟩
    have al : ∀ y ∈ ((A.map V.int).set s.toNat (.int (A.getD s'.toNat 0))).set s'.toNat (.int (A.getD s.toNat 0)), Iv (B + 10 ^ 20) y := fun y hy => by
      rcases List.mem_or_eq_of_mem_set hy with hy | rfl
      · rcases List.mem_or_eq_of_mem_set hy with hy | rfl
        · exact iv y hy
        · exact ⟨_, rfl, Nat.le_trans (bd.at _) (by omega)⟩
      · exact ivs
    obtain ⟨A', eA, hb⟩ := ints_of al
    have lA : A'.length = A.length := by
      have := congrArg List.length eA
      rw [List.length_set, List.length_set, lm, List.length_map] at this
      omega
    have BU : But a H3 (upd (upd (upd H3 p1 (.lst (A.map V.int))) p1 (.lst ((A.map V.int).set s.toNat (.int (A.getD s'.toNat 0))))) p1 (.lst (((A.map V.int).set s.toNat (.int (A.getD s'.toNat 0))).set s'.toNat (.int (A.getD s.toNat 0))))) := fun b o nb hb' => by
      have nb1 : b ≠ p1 := ne_of_none hb' h1
      rw [upd_ne nb1, upd_ne nb1, upd_ne nb1]
      exact hb'
    have np1 := t3.ne h1
    refine ⟨_, rfl, q p1 A' _ ((B2.trans b3).trans BU) ?_ np1 (by rw [upd_same, eA]) (by omega) hb⟩
    obtain ⟨y1, y2, y3, y4, e⟩ := t3
    exact ⟨y1, y2, y3, y4, by rw [upd_ne np1.symm, upd_ne np1.symm, upd_ne np1.symm]; exact e⟩
  · refine ⟨_, rfl, _, rfl, _, rfl, cp, _, rfl, SqL.of hA2, fun p1 h1 => ?_⟩
    have S1 := same_new h1 (.lst (cutV (A.map V.int) none (some s)))
    have n1 := t2.ne h1
    refine ⟨_, rfl, _, rfl, cp, _, _, _, rfl, rfl, SqL.of (S1 _ _ hA2), at0, _, rfl, _, _, rfl, rfl, ⟨by decide, by decide, by decide⟩, fits (by show 4 ≤ 16777216; decide), fun p2 h2 => ?_⟩
    have S2 := S1.trans (same_new h2 (.lst [V.int 1, .int (-1), .int 2, .int (10 ^ (20 : Int).toNat)]))
    have n2 := (t2.same S1).ne h2
    refine ⟨_, rfl, a, 4, rfl, t2.same S2, by decide, by decide, fun r H3 r0 r1 b3 t3 => ?_⟩
    obtain ⟨z, hz, bz⟩ := four_steps r0 r1
    refine ⟨p2, _, _, _, rfl, rfl, SqL.of (b3 _ _ n2 upd_same), hz, _, _, rfl, rfl, one, fun p3 h3 => ?_⟩
    have e1 := b3 _ _ n1 (same_new h2 (.lst [V.int 1, .int (-1), .int 2, .int (10 ^ (20 : Int).toNat)]) _ _ (upd_same (H := H2) (a := p1)))
    refine ⟨p1, p3, _, _, rfl, rfl, same_new h3 _ _ _ e1, upd_same, ln _ _ (by have := cl none (some s); omega) (by show 1 ≤ 10000; decide), fun p4 h4 => ?_⟩
    have S4 := (same_new h3 (.lst [V.int (A.getD s.toNat 0 + z)])).trans (same_new h4 (.lst (cutV (A.map V.int) none (some s) ++ [V.int (A.getD s.toNat 0 + z)])))
    have hA5 := S4 _ _ (b3 _ _ nc (S2 _ _ hA2))
    refine ⟨_, rfl, _, rfl, _, _, rfl, rfl, _, rfl, cp, _, rfl, SqL.of hA5, fun p5 h5 => ?_⟩
    refine ⟨p4, p5, _, _, rfl, rfl, same_new h5 _ _ _ upd_same, upd_same, ln _ _ (by rw [List.length_append]; have := cl none (some s); show _ + 1 ≤ _; omega) (by have := cl (some (s + 1)) none; omega), fun p6 h6 => ?_⟩
    have S5 := S4.trans (same_new h5 (.lst (cutV (A.map V.int) (some (s + 1)) none)))
    refine fin p6 _ _ h6 (((B2.trans (But.of S2)).trans b3).trans (But.of S5)) (t3.same S5) ?_ fun y hy => ?_
    · rw [List.length_append, List.length_append]; have := cl none (some s); have := cl (some (s + 1)) none; show _ + 1 + _ ≤ _; omega
    · rcases List.mem_append.mp hy with hy | hy
      · rcases List.mem_append.mp hy with hy | hy
        · exact iv y (cutV_mem hy)
        · rw [List.mem_singleton.mp hy]
          exact ⟨_, rfl, by have := bd.at s.toNat; omega⟩
      · exact iv y (cutV_mem hy)
end

section
theorem dp_tup2 {K : PySem.W.Frag} {H : Hp} {t : Addr} {v : Int × Int} (h : Tup2 H t v) : Dp K H (.ref t) (.tuple [.int v.1, .int v.2]) := .tup (SqT.of h) (.cons (.int _) (.cons (.int _) .nil))
theorem can2 (a b : Int) : PyData.canLay0 (.tuple [.int a, .int b]) = true := by
  simp [PyData.canLay0, PyData.canLayAll0]
theorem sh2 (a b : Int) : SeqAt.shaped (.tuple [.int a, .int b]) = true := by
  unfold SeqAt.shaped
  rw [can2]
  simp [PyData.depth, PyData.depthAll]
theorem canN (a b : Int) : PyData.canLayAll0 [.none, .tuple [.int a, .int b]] = true := by
  simp [PyData.canLay0, PyData.canLayAll0]
theorem shN : SeqAt.shaped .none = true := by
  unfold SeqAt.shaped
  simp [PyData.canLay0, PyData.depth]
/-- not in (None, due), the items data of any depth -/
theorem op_notInT {X : Cx} (hu : X.A.units + 65 < cLine) : OpR X (compareOp .NotIn) (fun x y H Q => ∃ d ds, Dp X.K H x d ∧ Dp X.K H y (.tuple ds) ∧ SeqAt.shaped d = true ∧ PyData.canLayAll0 ds = true ∧ Q (.bl (!ds.any fun z => PyData.eqv z d)) H) := by
  intro pins s σ H x y v u Q I rx ry h
  obtain ⟨d, ds, hd, he, sd, se, q⟩ := h
  obtain ⟨as, r1⟩ := Dp.reads I d x v hd rx
  cases he with
  | tup hs ha =>
    cases ry
    obtain ⟨its, rv, pl, _⟩ := I.tuple hs
    obtain ⟨as2, h4⟩ := Dp.readsAll I ds _ its ha rv
    have h5 : ReadsAll s.heap its.toArray.toList ds as2 := h4
    refine SeqAt.notIn_tupleAt _ pl (SeqAt.items_eqAt (vs := its.toArray) h5 r1 se (SeqAt.canLay_of_shaped sd) (PyProof.Rows.room_in_shaped sd hu)) ⟨.bl _, H, I, ?_, q⟩
    rw [SeqAt.any_by_data h5 se]
    rfl
theorem Room.units65 {k : Nat} {A : Around} (r : Room k A) : A.units + 65 < cLine := by have := r.un; omega
theorem in_due {K : PySem.W.Frag} {H : Hp} {v : V} {l : List Nat} {A : List Int} (h : Is H 1 v (dtR l A)) : ∃ d, Dp K H v d ∧ SeqAt.shaped d = true ∧ ([PyData.none, .tuple [.int (run (0, 1) l).1, .int (run (0, 1) l).2]].any fun z => PyData.eqv z d) = true := by
  by_cases c : isColB l A = true ∧ plainB A = false
  · rw [dtR_some c.1 c.2] at h
    obtain ⟨a, xs, rfl, e2, e3, _, e5⟩ := h
    obtain ⟨y, z, rfl⟩ : ∃ y z, xs = [y, z] := by
      match xs, e3 with
      | [y, z], _ => exact ⟨y, z, rfl⟩
    have h0 : y = V.int (run (0, 1) l).1 := e5 0 y _ rfl rfl
    have h1 : z = V.int (run (0, 1) l).2 := e5 1 z _ rfl rfl
    subst h0 h1
    refine ⟨.tuple [.int (run (0, 1) l).1, .int (run (0, 1) l).2], dp_tup2 (v := run (0, 1) l) e2, sh2 _ _, ?_⟩
    rw [List.any_cons, List.any_cons, SeqAt.eqv_refl _ (can2 _ _)]
    simp
  · unfold dtR at h
    rw [if_neg c] at h
    have e : v = .non := h
    subst e
    refine ⟨.none, .non, shN, ?_⟩
    rw [List.any_cons, SeqAt.eqv_refl PyData.none (by simp [PyData.canLay0])]
    rfl
theorem isCol_iff {l : List Nat} {A : List Int} : isColB l A = true ↔ A.length = (dg l).n ∧ Keep (dg l).cs A := by
  unfold isColB
  rw [Bool.and_eq_true, decide_eq_true_eq, List.all_eq_true]
  exact ⟨fun h => ⟨h.1, fun c hc => keepB_iff.mp (h.2 c hc)⟩, fun h => ⟨h.1, fun c hc => keepB_iff.mpr (h.2 c hc)⟩⟩
theorem isCol_mk (l : List Nat) (x y : Int) : isColB l (col (dg l).cs x y) = true := isCol_iff.mpr ⟨by rw [col_len, (wf_dg l).n], keep_col (wf_dg l) x y⟩
theorem within {l : List Nat} {c : Nat × Nat × Nat} (h : c ∈ (dg l).cs) : c.1 < (dg l).n ∧ c.2.1 < (dg l).n ∧ c.2.2 < (dg l).n := by
  obtain ⟨i, hi, e⟩ := List.getElem_of_mem h
  have w := wf_dg l
  have := w.at_ i c (by rw [List.getElem?_eq_getElem hi, e])
  have := w.n
  exact ⟨by omega, by omega, by omega⟩
theorem getD_lin {A : List Int} {f s : Int} {i : Nat} (h : i < A.length) : (A.map fun x => x * f + s).getD i 0 = A.getD i 0 * f + s := by
  rw [List.getD_eq_getElem?_getD, List.getD_eq_getElem?_getD, List.getElem?_map, List.getElem?_eq_getElem h]
  rfl
theorem isCol_lin {l : List Nat} {A : List Int} (f s : Int) (h : isColB l A = true) : isColB l (A.map fun x => x * f + s) = true := by
  obtain ⟨h1, h2⟩ := isCol_iff.mp h
  refine isCol_iff.mpr ⟨by rw [List.length_map, h1], fun c hc => ?_⟩
  obtain ⟨b1, b2, b3⟩ := within hc
  rw [getD_lin (by omega), getD_lin (by omega), getD_lin (by omega)]
  have e : (A.getD c.2.1 0 + A.getD c.2.2 0) * f = 2 * A.getD c.1 0 * f := by rw [h2 c hc]
  rw [Int.add_mul, Int.mul_assoc] at e
  omega
def sumL (A B : List Int) (n : Nat) : List Int := (List.range n).map fun j => A.getD j 0 + B.getD j 0
theorem sumL_len {A B : List Int} {n : Nat} : (sumL A B n).length = n := by unfold sumL; rw [List.length_map, List.length_range]
theorem sumL_at {A B : List Int} {n i : Nat} (h : i < n) : (sumL A B n).getD i 0 = A.getD i 0 + B.getD i 0 := by
  unfold sumL
  rw [List.getD_eq_getElem?_getD, List.getElem?_map, List.getElem?_range h]
  rfl
theorem isCol_sum {l : List Nat} {A B : List Int} (h : isColB l A = true) (k : isColB l B = true) : isColB l (sumL A B (dg l).n) = true := by
  obtain ⟨h1, h2⟩ := isCol_iff.mp h
  obtain ⟨k1, k2⟩ := isCol_iff.mp k
  refine isCol_iff.mpr ⟨sumL_len, fun c hc => ?_⟩
  obtain ⟨b1, b2, b3⟩ := within hc
  rw [sumL_at b1, sumL_at b2, sumL_at b3]
  have := h2 c hc
  have := k2 c hc
  omega
theorem sum_bd {A B : List Int} {n M : Nat} (h : Bd A M) (k : Bd B M) : Bd (sumL A B n) (2 * M) := fun x hx => by
  obtain ⟨i, _, rfl⟩ := List.mem_map.mp hx
  have := h.at i
  have := k.at i
  omega
theorem lin_bd {A : List Int} {f s : Int} {M N : Nat} (h : Bd A M) (hf : f.natAbs ≤ 6) (hs : s.natAbs ≤ N) : Bd (A.map fun x => x * f + s) (6 * M + N) := fun x hx => by
  obtain ⟨z, hz, rfl⟩ := List.mem_map.mp hx
  have h1 := h z hz
  have h2 : (z * f).natAbs = z.natAbs * f.natAbs := Int.natAbs_mul z f
  have h3 : z.natAbs * f.natAbs ≤ M * 6 := Nat.mul_le_mul h1 hf
  omega
theorem col_bd {l : List Nat} {x y : Int} (hl : l.length ≤ 60) (hx : x.natAbs ≤ 2 ^ 101) (hy : y.natAbs ≤ 2 ^ 101) : Bd (col (dg l).cs x y) (2 ^ 101 * 3 ^ 60) := (col_bound (B := 2 ^ 101) hx hy (dg l).cs).mono (by
  have d1 := dg_len l
  exact Nat.mul_le_mul_left _ (Nat.pow_le_pow_right (by decide) (by omega)))
theorem plain_col (l : List Nat) (x : Int) : plainB (col (dg l).cs x x) = true := (plain_iff (isCol_mk l x x)).mpr (by rw [(col_zero _ x x).1, (col_zero _ x x).2])
/-- lists of colours that are colourings -/
def Cols (l : List Nat) (lp : Addr) (G : Hp) (j : Nat) : Prop := ∃ rs : List Addr, G lp = some (.lst (rs.map V.ref)) ∧ rs.length = j ∧ ∀ r ∈ rs, r ≠ lp ∧ ∃ A : List Int, G r = some (.lst (A.map V.int)) ∧ isColB l A = true ∧ Bd A (2 ^ 101 * 3 ^ 60)
theorem Cols.keep {l : List Nat} {lp : Addr} {G G' : Hp} {j : Nat} (h : Cols l lp G j) (k : ∀ a xs, G a = some (.lst xs) → (a = lp ∨ ∃ A : List Int, xs = A.map V.int) → G' a = some (.lst xs)) : Cols l lp G' j := by
  obtain ⟨rs, h1, h2, h3⟩ := h
  refine ⟨rs, k _ _ h1 (.inl rfl), h2, fun r hr => ?_⟩
  obtain ⟨n, A, a1, a2, a3⟩ := h3 r hr
  exact ⟨n, A, k _ _ a1 (.inr ⟨A, rfl⟩), a2, a3⟩
theorem Cols.push {l : List Nat} {lp cp : Addr} {G : Hp} {j : Nat} {A : List Int} (h : Cols l lp G j) (n : cp ≠ lp) (hA : G cp = some (.lst (A.map V.int))) (hc : isColB l A = true) (hb : Bd A (2 ^ 101 * 3 ^ 60)) : ∃ xs, G lp = some (.lst xs) ∧ xs.length = j ∧ Cols l lp (upd G lp (.lst (xs ++ [.ref cp]))) (j + 1) := by
  obtain ⟨rs, h1, h2, h3⟩ := h
  refine ⟨_, h1, by rw [List.length_map, h2], rs ++ [cp], by rw [upd_same, List.map_append]; rfl, by rw [List.length_append, h2]; rfl, fun r hr => ?_⟩
  rcases List.mem_append.mp hr with hr | hr
  · obtain ⟨m, B, b1, b2, b3⟩ := h3 r hr
    exact ⟨m, B, by rw [upd_ne m]; exact b1, b2, b3⟩
  · rw [List.mem_singleton.mp hr]
    exact ⟨n, A, by rw [upd_ne n]; exact hA, hc, hb⟩
theorem three_at {r : Int} (h0 : 0 ≤ r) (h1 : r < 3) : ∃ z : Int, atI [V.int 1, .int (-1), .int 6] r = some (.int z) ∧ z.natAbs ≤ 6 := by
  obtain ⟨c, hc, m⟩ := atI_mk (xs := [V.int 1, .int (-1), .int 6]) h0 h1
  simp only [List.mem_cons, List.not_mem_nil, or_false] at m
  rcases m with rfl | rfl | rfl
  · exact ⟨1, hc, by decide⟩
  · exact ⟨-1, hc, by decide⟩
  · exact ⟨6, hc, by decide⟩
theorem four_at {y r : Int} (hy : y.natAbs ≤ 2 ^ 100) (h0 : 0 ≤ r) (h1 : r < 4) : ∃ z : Int, atI [V.int 1, .int (-1), .int 7, .int y] r = some (.int z) ∧ z.natAbs ≤ 2 ^ 100 := by
  obtain ⟨c, hc, m⟩ := atI_mk (xs := [V.int 1, .int (-1), .int 7, .int y]) h0 h1
  simp only [List.mem_cons, List.not_mem_nil, or_false] at m
  rcases m with rfl | rfl | rfl | rfl
  · exact ⟨1, hc, by decide⟩
  · exact ⟨-1, hc, by decide⟩
  · exact ⟨7, hc, by decide⟩
  · exact ⟨y, hc, hy⟩
def spReads (Pt : Addr) : Sp := fun vs H Q _ => ∃ (l : List Nat) (cp t : Addr) (A : List Int), vs = [.str (S l), .ref cp, .ref t] ∧ Lets l ∧ H cp = some (.lst (A.map V.int)) ∧ isColB l A = true ∧ l.length ≤ 900 ∧ Bd A (2 ^ 199) ∧ Tup2 H t (run (0, 1) l) ∧ GxR.TabG H Pt ∧ ∀ H', Bt Pt H H' → Q (.bl true) H'
end
section
variable {P : Program} {w : World} {K : PySem.W.Frag} {mg : Str → Option Value} {base : Heap} {f : Addr} {fd : FuncData}
theorem ok_law_reads (F : Fun K "_law_reads" "_law_reads" s_law_reads f fd) (D_same2 : Dfn P w K mg base "_law_same" 3 ["told", "due"] (spSame 2)) (D_reading : Dfn P w K mg base "reading" 3 ["dance", "colours"] (spReading Pt)) (D_is_colouring : Dfn P w K mg base "is_colouring" 3 ["dance", "colours"] (spIsCol Pt)) (y_len : mg "len" = none) (y_list : mg "list" = none)  : FnOk P w K mg base CX0 4 f fd ["dance", "colours", "due"] (spReads Pt) := by
  refine F.ok sc_law_reads (fun vs H Q E h => ?_) (fun cdv A outer s H vs Q E hr h => ?_)
  · obtain ⟨l, cp, t, A, rfl, hl, hA, hc, zl, bd, tt, tg, q⟩ := h
    rfl
  obtain ⟨l, cp, t, A, rfl, hl, hA, hc, zl, bd, tt, tg, q⟩ := h
  refine ⟨_, (pss_cons (ps_if (pt_cmpR op_eq (pe_callB call_len_seq rfl y_len PySem.boot_len (pa_cons (pe_lc (own := [("one", 3)]) (g := (gName 3)) (by rfl) sc_law_reads.nd (pi_list (pv 1)) (blkOk_by (own := [("one", 3)]) (N := ["dance", "colours", "due", "one"]) (sc := defScope s_law_reads) (by decide +kernel)) (fun _ _ _ _ _ => pg_name (i := 3) sc_law_reads.nd rfl (Or.inl rfl)) (fun _ _ _ _ _ => (pts_one (pt_cmpR op_ne (pv 3) (pe_ix (r := rIxL K) ix_list (pv 1) pe_int (fun _ _ => rfl)) (nomark _)))) (fun _ _ _ _ _ => (pv 3))) pa_nil)) pe_int (nomark _)) (pss_one (ps_set (i := 2) sc_law_reads.nd rfl (.inl rfl) pe_non)) pss_nil)
    (pss_one (ps_ret (pe_and (pe_cmpR op_is_bl (pe_do D_is_colouring hr (pa_cons (pv 0) (pa_cons (pe_callTy call_list_of rfl y_list (by decide +kernel) (pa_cons (pv 1) pa_nil)) pa_nil))) pe_bl (nomark _)) (pe_one (pe_do D_same2 hr (pa_cons (pe_do D_reading hr (pa_cons (pv 0) (pa_cons (pe_callTy call_list_of rfl y_list (by decide +kernel) (pa_cons (pv 1) pa_nil)) pa_nil))) (pa_cons (pv 2) pa_nil)))))))), ?_⟩
  have w0 := wf_dg l
  have wn := w0.n
  have dl := dg_len l
  obtain ⟨_, hlen⟩ := isCol_col hc
  have pos : 0 < A.length := by omega
  refine ⟨_, rfl, cp, rfl, ⟨_, SqL.of hA⟩, fun D hD => lc_list (K := K) (a := cp) (xs := A.map V.int) (fun i F => ∃ ys : List V, Same H F ∧ F D = some (.lst ys) ∧ ys.length ≤ i ∧ (ys = [] ↔ ((A.take i).all fun x => x == A.getD 0 0) = true)) ⟨[], same_new hD _, upd_same, Nat.zero_le _, ⟨fun _ => rfl, fun _ => rfl⟩⟩ ?_ ?_ ?_⟩
  · rintro i F _ ⟨ys, sF, _⟩
    exact SqL.of (sF _ _ hA)
  · rintro i v F hv ⟨ys, sF, hF, hy, hys⟩
    rw [List.getElem?_map] at hv
    cases hx : A[i]? with
    | none => rw [hx] at hv; cases hv
    | some x =>
      rw [hx] at hv
      cases hv
      have hi : i < A.length := (List.getElem?_eq_some_iff.mp hx).1
      have step : ((A.take (i + 1)).all fun x => x == A.getD 0 0) = (((A.take i).all fun x => x == A.getD 0 0) && (x == A.getD 0 0)) := by
        rw [List.take_add_one, hx, List.all_append]
        show (_ && [x].all _) = _
        rw [List.all_cons, List.all_nil, Bool.and_true]
      refine ⟨rfl, _, rfl, _, rfl, cp, _, _, _, rfl, rfl, SqL.of (sF _ _ hA), at_getD (i := 0) pos, rfl, _, rfl, ite2 (fun k => ?_) (fun k => ?_)⟩
      · have hne : (x == A.getD 0 0) = false := by
          rw [beq_eq_false_iff_ne]
          intro z
          exact of_decide_eq_false (show decide (V.int x = V.int (A.getD 0 0)) = false from by simpa only [Bool.not_eq_true'] using k) (congrArg V.int z)
        refine ⟨_, rfl, ys, hF, Nat.lt_of_lt_of_le (show ys.length < 16777216 by omega) sizeLine_big, ys ++ [_], fun b o hb => ?_, upd_same, by rw [List.length_append]; show _ + 1 ≤ _; omega, ?_⟩
        · rw [upd_ne (ne_of_none hb hD)]
          exact sF _ _ hb
        · rw [step, hne, Bool.and_false]
          exact ⟨fun z => by simp at z, fun z => by cases z⟩
      · have heq : (x == A.getD 0 0) = true := beq_iff_eq.mpr (V.int.inj (by simpa using k))
        refine ⟨ys, sF, hF, by omega, ?_⟩
        rw [step, heq, Bool.and_true]
        exact hys
  · rintro F ⟨ys, sF, hF, hy, hys⟩
    rw [List.length_map, List.take_of_length_le (Nat.le_refl _)] at hys
    have hys' : ys = [] ↔ plainB A = true := hys
    refine ⟨D, ys, rfl, .inl (SqL.of hF), rfl, _, rfl, ?_⟩
    cases hp : plainB A with
    | true =>
      have e : ys = [] := hys'.mpr hp
      rw [e]
      refine iteT ?_
      refine ⟨_, rfl, _, rfl, cp, _, rfl, .inl (SqL.of (sF _ _ hA)), fun p1 hp1 => ?_⟩
      have B1 := (Bt.of sF tg).same (same_new hp1 (.lst (A.map V.int)))
      refine ⟨l, p1, A, rfl, upd_same, by omega, by omega, B1.2, fun H2 b2 => ?_⟩
      have B2 := B1.trans b2
      refine ⟨_, _, rfl, rfl, ?_⟩
      rw [hc]
      refine ⟨_, rfl, iteT ?_⟩
      refine ⟨_, rfl, _, rfl, cp, _, rfl, .inl (SqL.of (B2.lst tg hA)), fun p2 hp2 => ?_⟩
      have B3 := B2.same (same_new hp2 (.lst (A.map V.int)))
      refine ⟨l, p2, A, rfl, hl, upd_same, by omega, by omega, bd, B3.2, fun v' H4 b4 iv => ?_⟩
      have B4 := B3.trans b4
      exact ⟨_, rfl, v', _, dtR l A, rfl, iv, (by rw [dtR_none (.inr hp)]; exact non_is), q H4 B4⟩

    | false =>
      have e : decide (V.int ((ys.length : Nat) : Int) = V.int 0) = false := decide_eq_false fun z => by
        have h0 := V.int.inj z
        have : ys = [] := List.eq_nil_of_length_eq_zero (by omega)
        rw [hys'.mp this] at hp
        cases hp
      rw [e]
      refine iteF ?_
      refine ⟨_, rfl, _, rfl, cp, _, rfl, .inl (SqL.of (sF _ _ hA)), fun p1 hp1 => ?_⟩
      have B1 := (Bt.of sF tg).same (same_new hp1 (.lst (A.map V.int)))
      refine ⟨l, p1, A, rfl, upd_same, by omega, by omega, B1.2, fun H2 b2 => ?_⟩
      have B2 := B1.trans b2
      refine ⟨_, _, rfl, rfl, ?_⟩
      rw [hc]
      refine ⟨_, rfl, iteT ?_⟩
      refine ⟨_, rfl, _, rfl, cp, _, rfl, .inl (SqL.of (B2.lst tg hA)), fun p2 hp2 => ?_⟩
      have B3 := B2.same (same_new hp2 (.lst (A.map V.int)))
      refine ⟨l, p2, A, rfl, hl, upd_same, by omega, by omega, bd, B3.2, fun v' H4 b4 iv => ?_⟩
      have B4 := B3.trans b4
      exact ⟨_, rfl, v', _, dtR l A, rfl, iv, (by rw [dtR_some hc hp]; exact tup2_is (n := 0) (B4.tup tg tt)), q H4 B4⟩
end
def spLaw (K : PySem.W.Frag) (Pt : Addr) : Sp := fun vs H Q _ => ∃ (a : Addr) (ns : List Int), vs = [.ref a] ∧ SqL K H a (ns.map V.int) ∧ ns.length ≤ 63 ∧ GxR.TabG H Pt ∧ ∀ H', Q (.bl true) H'
def spLawK (K : PySem.W.Frag) : Sp := spLaw K (He.cT K ("is_colouring", none)).2

section
theorem tape_ne {G : Hp} {tp a : Addr} {A : List Int} (h : Tape G tp) (k : G a = some (.lst (A.map V.int))) : a ≠ tp := by
  rintro rfl
  obtain ⟨y, c, z, b, e⟩ := h
  rw [e] at k
  have k2 := HO.lst.inj (Option.some.inj k)
  have k3 : (A.map V.int)[1]? = some (V.bl b) := by rw [← k2]; rfl
  rw [List.getElem?_map] at k3
  cases e1 : A[1]? with
  | none => rw [e1] at k3; cases k3
  | some u => rw [e1] at k3; cases k3
theorem Bt.fresh {P a : Addr} {H0 H : Hp} (x : Bt P H0 H) (h : H a = none) : H0 a = none := by
  obtain ⟨ps, e, _⟩ := x.2
  have na : a ≠ P := (ne_of_none e h).symm
  cases e2 : H0 a with
  | none => rfl
  | some o =>
    have := x.1 _ _ na e2
    rw [h] at this
    cases this
structure Sx (Pt tp t lp : Addr) (l : List Nat) (H0 G : Hp) (j : Nat) : Prop where
  b : Bt Pt H0 G
  tape : Tape G tp
  tt : Tup2 G t (run (0, 1) l)
  cs : Cols l lp G j
  n1 : H0 tp = none
  n2 : lp ≠ tp
  n3 : H0 lp = none
variable {Pt tp t lp : Addr} {l : List Nat} {H0 G G' : Hp} {j : Nat}
theorem Sx.same (h : Sx Pt tp t lp l H0 G j) (s : Same G G') : Sx Pt tp t lp l H0 G' j := ⟨h.b.same s, h.tape.same s, h.tt.same s, h.cs.keep fun a xs e _ => s _ _ e, h.n1, h.n2, h.n3⟩
theorem Sx.but (h : Sx Pt tp t lp l H0 G j) (b : But tp G G') (t' : Tape G' tp) : Sx Pt tp t lp l H0 G' j := ⟨h.b.but b h.tape h.n1, t', h.tt.but b h.tape, h.cs.keep fun a xs e k => b _ _ (by
  rcases k with rfl | ⟨A, rfl⟩
  · exact h.n2
  · exact tape_ne h.tape e) e, h.n1, h.n2, h.n3⟩
theorem Sx.bt (h : Sx Pt tp t lp l H0 G j) (b : Bt Pt G G') : Sx Pt tp t lp l H0 G' j := ⟨h.b.trans b, b.tape h.b.2 h.tape, b.tup h.b.2 h.tt, h.cs.keep fun a xs e _ => b.lst h.b.2 e, h.n1, h.n2, h.n3⟩
theorem Sx.lp_some (h : Sx Pt tp t lp l H0 G j) {cp : Addr} (n : G cp = none) : cp ≠ lp := by
  obtain ⟨rs, e, _⟩ := h.cs
  exact (ne_of_none e n).symm
theorem Sx.push (h : Sx Pt tp t lp l H0 G j) {cp : Addr} {A : List Int} (n : cp ≠ lp) (hA : G cp = some (.lst (A.map V.int))) (hc : isColB l A = true) (hb : Bd A (2 ^ 101 * 3 ^ 60)) : ∃ xs, G lp = some (.lst xs) ∧ xs.length = j ∧ Sx Pt tp t lp l H0 (upd G lp (.lst (xs ++ [.ref cp]))) (j + 1) := by
  obtain ⟨xs, e, lx, c'⟩ := h.cs.push n hA hc hb
  refine ⟨xs, e, lx, h.b.put h.n3 ?_ _, ?_, ?_, c', h.n1, h.n2, h.n3⟩
  · obtain ⟨ps, e2, _⟩ := h.b.2
    exact ne_of e e2 (by intro z; cases z)
  · obtain ⟨y1, y2, y3, y4, e2⟩ := h.tape
    exact ⟨y1, y2, y3, y4, by rw [upd_ne h.n2.symm]; exact e2⟩
  · have := h.tt
    unfold Tup2 at this ⊢
    rw [upd_ne (ne_of this e (by intro z; cases z))]
    exact this
end
section
variable {P : Program} {w : World} {K : PySem.W.Frag} {mg : Str → Option Value} {base : Heap} {f : Addr} {fd : FuncData}
theorem ok_law (F : Fun K "law" "law" s_law f fd) (D_tape : Dfn P w K mg base "_law_tape" 4 ["script", "k"] (spTape K)) (D_dance : Dfn P w K mg base "_law_dance" 4 ["tape", "most"] spDance) (D_number : Dfn P w K mg base "_law_number" 4 ["dance"] (spNumber K)) (D_num : Dfn P w K mg base "number" 4 ["dance"] spNum) (D_integer : Dfn P w K mg base "_law_integer" 4 ["tape"] spInteger) (D_take : Dfn P w K mg base "_law_take" 4 ["tape", "many"] spTake) (D_colouring : Dfn P w K mg base "colouring" 4 ["dance", "first", "second"] spCol) (D_law_reads : Dfn P w K mg base "_law_reads" 4 ["dance", "colours", "due"] (spReads Pt)) (D_reading : Dfn P w K mg base "reading" 4 ["dance", "colours"] (spReading Pt)) (D_law_spoilt : Dfn P w K mg base "_law_spoilt" 4 ["tape", "colours"] spSpoilt) (y_range : mg "range" = none) (y_abs : mg "abs" = none) (y_len : mg "len" = none)  : FnOk P w K mg base CX0 5 f fd ["script"] (spLaw K Pt) := by
  refine F.ok sc_law (fun vs H Q E h => ?_) (fun cdv A outer s H vs Q E hr h => ?_)
  · obtain ⟨sa, ns, rfl, hS, h63, tg, q⟩ := h
    rfl
  obtain ⟨sa, ns, rfl, hS, h63, tg, q⟩ := h
  refine ⟨_, (pss_cons (ps_for PassesOwn.never rfl (pi_range1 rfl y_range (pa_cons pe_int pa_nil)) (pg_name (i := 1) sc_law.nd rfl (.inl rfl))
    (pss_cons (ps_set (i := 2) sc_law.nd rfl (.inl rfl) (pe_do D_tape hr (pa_cons (pv 0) (pa_cons (pv 1) pa_nil))))
    (pss_cons (ps_set (i := 3) sc_law.nd rfl (.inl rfl) (pe_do D_dance hr (pa_cons (pv 2) (pa_cons pe_int pa_nil))))
    (pss_cons (ps_set (i := 4) sc_law.nd rfl (.inl rfl) (pe_do D_number hr (pa_cons (pv 3) pa_nil)))
    (pss_cons (ps_if (pt_cmpR (op_neD hr.units) (pe_do D_num hr (pa_cons (pv 3) pa_nil)) (pv 4) (nomark _)) (pss_one (ps_ret pe_bl)) pss_nil)
    (pss_cons (ps_set (i := 5) sc_law.nd rfl (.inr rfl) (pe_lst pa_nil))
    (pss_cons (ps_for PassesOwn.never rfl (pi_range1 rfl y_range (pa_cons pe_int pa_nil)) (pg_name (i := 6) sc_law.nd rfl (.inl rfl))
    (pss_cons (ps_set (i := 7) sc_law.nd rfl (.inl rfl) (pe_do D_integer hr (pa_cons (pv 2) pa_nil)))
    (pss_cons (ps_set (i := 8) sc_law.nd rfl (.inr rfl) (pe_op op_add (pv 7) (pe_ix ix_list (pe_lst (pa_cons pe_int (pa_cons (pe_un un_neg pe_int) (pa_cons pe_int (pa_cons (pe_op op_add pe_int (pe_callB call_abs rfl y_abs (by decide +kernel) (pa_cons (pe_do D_integer hr (pa_cons (pv 2) pa_nil)) pa_nil))) pa_nil))))) (pe_do D_take hr (pa_cons (pv 2) (pa_cons pe_int pa_nil))) (fun _ _ => rfl))))
    (pss_cons (ps_set (i := 9) sc_law.nd rfl (.inl rfl) (pe_do D_colouring hr (pa_cons (pv 3) (pa_cons (pv 7) (pa_cons (pv 8) pa_nil)))))
    (pss_cons (ps_set (i := 10) sc_law.nd rfl (.inr rfl) (pe_ix ix_list (pe_lst (pa_cons pe_int (pa_cons (pe_un un_neg pe_int) (pa_cons pe_int pa_nil)))) (pe_do D_take hr (pa_cons (pv 2) (pa_cons pe_int pa_nil))) (fun _ _ => rfl)))
    (pss_cons (ps_expr (pe_bm PySem.F.plainAttrs_list PySem.F.slot_list_append PySem.F.type_list_append mt_append (pv 5) (pa_cons (pv 9) pa_nil)))
    (pss_cons (ps_if (pt_not (pt_val (pe_do D_law_reads hr (pa_cons (pv 3) (pa_cons (pv 9) (pa_cons (pv 4) pa_nil)))))) (pss_one (ps_ret pe_bl)) pss_nil)
    (pss_cons (ps_if (pt_not (pt_val (pe_do D_law_reads hr (pa_cons (pv 3) (pa_cons (pe_lc (own := [("one", 12)]) (g := (gName 12)) (tt := tYes) (by rfl) sc_law.nd (pi_list (pv 9)) (blkOk_by (own := [("one", 12)]) (N := ["script", "k", "tape", "dance", "due", "lists", "j", "first", "second", "colours", "factor", "odd", "one"]) (sc := defScope s_law) (by decide +kernel)) (fun _ _ _ _ _ => pg_name (i := 12) sc_law.nd rfl (Or.inl rfl)) (fun _ _ _ _ _ => pts_nil) (fun _ _ _ _ _ => (pe_op op_add (pe_op op_mul (pv 12) (pv 10)) (pv 8)))) (pa_cons (pv 4) pa_nil)))))) (pss_one (ps_ret pe_bl)) pss_nil)
    (pss_cons (ps_if (pt_cmpR op_notN (pe_do D_reading hr (pa_cons (pv 3) (pa_cons (pe_do D_colouring hr (pa_cons (pv 3) (pa_cons (pv 7) (pa_cons (pv 7) pa_nil)))) pa_nil))) pe_non (nomark _)) (pss_one (ps_ret pe_bl)) pss_nil)
    (pss_cons (ps_set (i := 11) sc_law.nd rfl (.inl rfl) (pe_do D_law_spoilt hr (pa_cons (pv 2) (pa_cons (pv 9) pa_nil))))
    (pss_one (ps_if (pt_cmpR (op_notInT (Room.units65 hr)) (pe_do D_reading hr (pa_cons (pv 3) (pa_cons (pv 11) pa_nil))) (pe_tup (pa_cons pe_non (pa_cons (pv 4) pa_nil))) (by rfl)) (pss_one (ps_ret pe_bl)) pss_nil))))))))))))
    (pss_one (ps_if (pt_not (pt_val (pe_do D_law_reads hr (pa_cons (pv 3) (pa_cons (pe_lc (own := [("j", 6)]) (g := (gName 6)) (tt := tYes) (by rfl) sc_law.nd (pi_range1 rfl y_range (pa_cons (pe_callB call_len_seq rfl y_len PySem.boot_len (pa_cons (pe_ix ix_list (pv 5) pe_int (fun _ _ => rfl)) pa_nil)) pa_nil)) (blkOk_by (own := [("j", 6)]) (N := ["script", "k", "tape", "dance", "due", "lists", "j", "first", "second", "colours", "factor", "odd", "one"]) (sc := defScope s_law) (by decide +kernel)) (fun _ _ _ _ _ => pg_name (i := 6) sc_law.nd rfl (Or.inl rfl)) (fun _ _ _ _ _ => pts_nil) (fun _ _ _ _ _ => (pe_op op_add (pe_ix (r := rIxL K) ix_list (pe_ix (r := rIxL K) ix_list (pv 5) pe_int (fun _ _ => rfl)) (pv 6) (fun _ _ => rfl)) (pe_ix (r := rIxL K) ix_list (pe_ix (r := rIxL K) ix_list (pv 5) pe_int (fun _ _ => rfl)) (pv 6) (fun _ _ => rfl))))) (pa_cons (pv 4) pa_nil)))))) (pss_one (ps_ret pe_bl)) pss_nil)))))))))
    (pss_one (ps_ret pe_bl))), ?_⟩
  refine ⟨6, rfl, by decide, by decide, for_range (lo := 0) (n := 6) (fun i σ H' => ∃ (x1 x2 x3 x4 x5 x6 x7 x8 x9 x10 x11 x12 : Option V), σ = [some (.ref sa), x1, x2, x3, x4, x5, x6, x7, x8, x9, x10, x11, x12] ∧ Bt Pt H H') ?_ ?_ ?_⟩
  · exact ⟨_, _, _, _, _, _, _, _, _, _, _, _, rfl, Bt.refl tg⟩
  · rintro i σ H0 hi ⟨x1, x2, x3, x4, x5, x6, x7, x8, x9, x10, x11, x12, rfl, bt⟩
    refine ⟨_, rfl, _, rfl, sa, ns, 0 + (i : Int), rfl, bt.seq tg hS, by omega, fun tp H1 s1 ntp t1 => ?_⟩
    have B1 := (Bt.refl bt.2).same s1
    refine ⟨_, rfl, tp, 60, rfl, t1, by decide, by decide, fun l H2 hl hz b2 t2 => ?_⟩
    have B2 := B1.but b2 t1 ntp
    have zl : l.length ≤ 60 := by omega
    refine ⟨_, rfl, l, rfl, fun t H3 s3 tt => ?_⟩
    have B3 := B2.same s3
    refine ⟨_, rfl, l, rfl, fun t' H4 s4 tt' => ⟨_, rfl, _, _, dp_tup2 tt', dp_tup2 (tt.same s4), sh2 _ _, sh2 _ _, _, rfl, ?_⟩⟩
    rw [SeqAt.eqv_refl _ (can2 _ _)]
    refine iteF ⟨fits (by decide), fun lp hlp => ?_⟩
    have B4 := B3.same s4
    have t4 := (t2.same s3).same s4
    have S5 := same_new hlp (.lst [])
    have X5 : Sx Pt tp t lp l H0 (upd H4 lp (.lst [])) 0 := ⟨B4.same S5, t4.same S5, (tt.same s4).same S5, ⟨[], upd_same, rfl, fun r hr => by cases hr⟩, ntp, t4.ne hlp, B4.fresh hlp⟩
    generalize upd H4 lp (.lst []) = H5 at *
    refine ⟨4, rfl, by decide, by decide, for_range (lo := 0) (n := 4) (fun j σ G => ∃ (x6 x7 x8 x9 x10 x11 x12 : Option V), σ = [some (.ref sa), some (.int (0 + (i : Int))), some (.ref tp), some (.str (S l)), some (.ref t), some (.ref lp), x6, x7, x8, x9, x10, x11, x12] ∧ Sx Pt tp t lp l H0 G j) ?_ ?_ ?_⟩
    · exact ⟨_, _, _, _, _, _, _, rfl, X5⟩
    · rintro j σ G0 hj ⟨x6, x7, x8, x9, x10, x11, x12, rfl, X0⟩
      refine ⟨_, rfl, tp, rfl, X0.tape, fun x G1 hx b1 t1 => ?_⟩
      have X1 := X0.but b1 t1
      refine ⟨_, rfl, _, rfl, _, rfl, tp, rfl, X1.tape, fun y0 G2 hy0 b2 t2 => ⟨_, rfl, _, _, rfl, rfl, fits (by show 4 ≤ 16777216; decide), fun lq hlq => ?_⟩⟩
      have X2 := X1.but b2 t2
      have X2' := X2.same (same_new hlq (.lst [V.int 1, .int (-1), .int 7, .int (1 + (if y0 < 0 then -y0 else y0))]))
      have nq : lq ≠ tp := X2.tape.ne hlq
      refine ⟨_, rfl, tp, 4, rfl, X2'.tape, by decide, by decide, fun r G3 r0 r1 b3 t3 => ?_⟩
      have X3 := X2'.but b3 t3
      obtain ⟨z, hz', bz⟩ := four_at (y := 1 + (if y0 < 0 then -y0 else y0)) (by split <;> omega) r0 r1
      refine ⟨lq, _, _, _, rfl, rfl, SqL.of (b3 _ _ nq upd_same), hz', _, _, rfl, rfl, ?_⟩
      refine ⟨_, rfl, _, rfl, _, rfl, l, x, _, rfl, by omega, fun cp G4 s4 ncp hcp => ?_⟩
      have X4 := X3.same s4
      have hA : isColB l (col (dg l).cs x (x + z)) = true := isCol_mk l x (x + z)
      have bA : Bd (col (dg l).cs x (x + z)) (2 ^ 101 * 3 ^ 60) := col_bd zl (by omega) (by omega)
      have lA : (col (dg l).cs x (x + z)).length ≤ 62 := by
        have := col_len x (x + z) (dg l).cs
        have := dg_len l
        omega
      have lB : (col (dg l).cs x x).length ≤ 62 := by
        have := col_len x x (dg l).cs
        have := dg_len l
        omega
      have bB : Bd (col (dg l).cs x x) (2 ^ 101 * 3 ^ 60) := col_bd zl (by omega) (by omega)
      generalize col (dg l).cs x (x + z) = A at *
      have ncl : cp ≠ lp := X3.lp_some ncp
      have nct : cp ≠ tp := X3.tape.ne ncp
      refine ⟨_, rfl, fits (by show 3 ≤ 16777216; decide), fun fq hfq => ?_⟩
      have S4 := same_new hfq (.lst [V.int 1, .int (-1), .int 6])
      refine ⟨_, rfl, tp, 3, rfl, (X4.same S4).tape, by decide, by decide, fun r2 G5 r20 r21 b5 t5 => ?_⟩
      have X5 := (X4.same S4).but b5 t5
      have hcp5 := b5 _ _ nct (S4 _ _ hcp)
      obtain ⟨f, hf, bf⟩ := three_at r20 r21
      refine ⟨fq, _, _, _, rfl, rfl, SqL.of (b5 _ _ (X4.tape.ne hfq) upd_same), hf, ?_⟩
      obtain ⟨xs, ex, lx, X6⟩ := X5.push ncl hcp5 hA bA
      refine ⟨_, rfl, .inl ⟨rfl, _, SqL.of ex⟩, _, rfl, lp, xs, _, rfl, rfl, ex, Nat.lt_of_lt_of_le (show xs.length < 16777216 by omega) sizeLine_big, ?_⟩
      have hcp6 : upd G5 lp (.lst (xs ++ [.ref cp])) cp = some (.lst (A.map V.int)) := by rw [upd_ne ncl]; exact hcp5
      generalize upd G5 lp (.lst (xs ++ [.ref cp])) = G6 at *
      refine ⟨_, rfl, _, rfl, _, rfl, l, cp, t, A, rfl, hl, hcp6, hA, by omega, bA.mono (by decide), X6.tt, X6.b.2, fun G7 b7 => ⟨_, rfl, iteF ?_⟩⟩
      have X7 := X6.bt b7
      have hcp7 := b7.lst X6.b.2 hcp6
      refine ⟨_, rfl, _, rfl, cp, rfl, ⟨_, SqL.of hcp7⟩, fun D hD => lc_list (K := K) (a := cp) (xs := A.map V.int) (fun i F => Same G7 F ∧ F D = some (.lst (((A.take i).map fun u => u * f + (x + z)).map V.int))) ⟨same_new hD _, upd_same⟩ ?_ ?_ ?_⟩
      · rintro i F _ ⟨sF, _⟩
        exact SqL.of (sF _ _ hcp7)
      · rintro i v F hv ⟨sF, hF⟩
        rw [List.getElem?_map] at hv
        cases hx' : A[i]? with
        | none => rw [hx'] at hv; cases hv
        | some u =>
          rw [hx'] at hv
          cases hv
          refine ⟨rfl, _, rfl, _, rfl, _, _, rfl, rfl, .inr ⟨by omega, by omega⟩, _, rfl, _, _, rfl, rfl, _, hF, ?_, fun b o hb => ?_, ?_⟩
          · rw [List.length_map, List.length_map, List.length_take]
            exact Nat.lt_of_lt_of_le (show min i A.length < 16777216 by omega) sizeLine_big
          · rw [upd_ne (ne_of_none hb hD)]
            exact sF _ _ hb
          · rw [upd_same, List.take_add_one, hx', List.map_append, List.map_append]
            rfl
      · rintro F ⟨sF, hF⟩
        rw [List.length_map, List.take_of_length_le (Nat.le_refl _)] at hF
        have X8 := X7.same sF
        refine ⟨_, rfl, l, D, t, A.map (fun u => u * f + (x + z)), rfl, hl, hF, isCol_lin f (x + z) hA, by omega, (lin_bd (N := 2 ^ 101) bA bf (by omega)).mono (by decide), X8.tt, X8.b.2, fun G9 b9 => ⟨_, rfl, iteF ?_⟩⟩
        have X9 := X8.bt b9
        have hcp9 := b9.lst X8.b.2 (sF _ _ hcp7)
        refine ⟨_, rfl, _, rfl, _, rfl, _, rfl, l, x, x, rfl, by omega, fun dp G10 s10 ndp hdp => ?_⟩
        have X10 := X9.same s10
        refine ⟨l, dp, _, rfl, hl, hdp, by omega, by omega, bB.mono (by decide), X10.b.2, fun v G11 b11 iv => ?_⟩
        rw [dtR_none (.inr (plain_col l x))] at iv
        have ev : v = .non := iv
        subst ev
        refine ⟨rfl, _, rfl, iteF ?_⟩
        have X11 := X10.bt b11
        have hcp11 := b11.lst X10.b.2 (s10 _ _ hcp9)
        refine ⟨_, rfl, _, rfl, tp, cp, A, _, rfl, X11.tape, nct, hcp11, by omega, bA, fun op A' G12 b12 t12 nop hop zop bop => ?_⟩
        have X12 := X11.but b12 t12
        refine ⟨_, rfl, _, rfl, l, op, A', rfl, hl, hop, by omega, by omega, bop.mono (by decide), X12.b.2, fun v G13 b13 iv13 => ?_⟩
        have X13 := X12.bt b13
        refine ⟨_, rfl, fits (by show 2 ≤ 16777216; decide), fun tq htq => ?_⟩
        have S14 := same_new htq (.tup [V.non, .ref t])
        obtain ⟨d, dd, sd, ed⟩ := in_due (K := K) (dtR_keep iv13 S14)
        refine ⟨d, _, dd, .tup (SqT.of upd_same) (.cons .non (.cons (dp_tup2 (X13.same S14).tt) .nil)), sd, canN _ _, _, rfl, ?_⟩
        rw [ed]
        exact iteF ⟨_, _, _, _, _, _, _, rfl, X13.same S14⟩
    · rintro σ G ⟨x6, x7, x8, x9, x10, x11, x12, rfl, X⟩
      obtain ⟨rs, r1, r2, r3⟩ := X.cs
      obtain ⟨ra, rb, rt, rfl⟩ : ∃ ra rb rt, rs = ra :: rb :: rt := by
        match rs, r2 with
        | ra :: rb :: rt, _ => exact ⟨ra, rb, rt, rfl⟩
      obtain ⟨_, A, hA, cA, bA⟩ := r3 ra (by simp)
      obtain ⟨_, B, hB, cB, bB⟩ := r3 rb (by simp)
      have nA := (isCol_iff.mp cA).1
      have nB := (isCol_iff.mp cB).1
      have wn := (wf_dg l).n
      have dl := dg_len l
      refine ⟨_, rfl, _, rfl, lp, _, _, _, rfl, rfl, SqL.of r1, atI_nat (j := 0) rfl, ra, _, rfl, .inl (SqL.of hA), (((A.map V.int).length : Nat) : Int), rfl, by omega, by rw [List.length_map]; omega, fun D hD => lc_range (lo := 0) (n := (((A.map V.int).length : Nat) : Int).toNat) (fun i F => Same G F ∧ F D = some (.lst ((sumL A B i).map V.int))) ⟨same_new hD _, upd_same⟩ ?_ ?_⟩
      · rintro i F hi ⟨sF, hF⟩
        rw [Int.toNat_natCast, List.length_map] at hi
        have e1 : atI (A.map V.int) (0 + (i : Int)) = some (.int (A.getD i 0)) := by rw [Int.zero_add]; exact at_getD hi
        have e2 : atI (B.map V.int) (0 + (i : Int)) = some (.int (B.getD i 0)) := by rw [Int.zero_add]; exact at_getD (by omega)
        refine ⟨rfl, _, rfl, lp, _, _, _, rfl, rfl, SqL.of (sF _ _ r1), atI_nat (j := 0) rfl, _, rfl, ra, _, _, _, rfl, rfl, SqL.of (sF _ _ hA), e1, _, rfl, lp, _, _, _, rfl, rfl, SqL.of (sF _ _ r1), atI_nat (j := 1) rfl, _, rfl, rb, _, _, _, rfl, rfl, SqL.of (sF _ _ hB), e2, _, _, rfl, rfl, _, hF, ?_, fun b o hb => ?_, ?_⟩
        · rw [List.length_map, sumL_len]
          exact Nat.lt_of_lt_of_le (show i < 16777216 by omega) sizeLine_big
        · rw [upd_ne (ne_of_none hb hD)]
          exact sF _ _ hb
        · rw [upd_same]
          unfold sumL
          rw [List.range_succ, List.map_append, List.map_append]
          rfl
      · rintro F ⟨sF, hF⟩
        rw [Int.toNat_natCast, List.length_map, nA] at hF
        have XF := X.same sF
        refine ⟨_, rfl, l, D, t, sumL A B (dg l).n, rfl, hl, hF, isCol_sum cA cB, by omega, (sum_bd bA bB).mono (by decide), XF.tt, XF.b.2, fun G9 b9 => ⟨_, rfl, iteF ?_⟩⟩
        exact ⟨_, _, _, _, _, _, _, _, _, _, _, _, rfl, bt.trans (XF.b.trans b9)⟩
  · rintro σ H' ⟨x1, x2, x3, x4, x5, x6, x7, x8, x9, x10, x11, x12, rfl, bt⟩
    exact q H'
end
def d_fraction : He.DefD := ⟨("fraction", none), "fraction", "fraction", defArgs s_fraction, defBody s_fraction, defScope s_fraction, [], []⟩
def d_after : He.DefD := ⟨("after", none), "after", "after", defArgs s_after, defBody s_after, defScope s_after, [], []⟩
def d_turned : He.DefD := ⟨("turned", none), "turned", "turned", defArgs s_turned, defBody s_turned, defScope s_turned, [], []⟩
def d_number : He.DefD := ⟨("number", none), "number", "number", defArgs s_number, defBody s_number, defScope s_number, [], []⟩
def d_diagram : He.DefD := ⟨("diagram", none), "diagram", "diagram", defArgs s_diagram, defBody s_diagram, defScope s_diagram, [], []⟩
def d_is_colouring : He.DefD := ⟨("is_colouring", none), "is_colouring", "is_colouring", defArgs s_is_colouring, defBody s_is_colouring, defScope s_is_colouring, [], []⟩
def d_is_plain : He.DefD := ⟨("is_plain", none), "is_plain", "is_plain", defArgs s_is_plain, defBody s_is_plain, defScope s_is_plain, [], []⟩
def d_colouring : He.DefD := ⟨("colouring", none), "colouring", "colouring", defArgs s_colouring, defBody s_colouring, defScope s_colouring, [], []⟩
def d_reading : He.DefD := ⟨("reading", none), "reading", "reading", defArgs s_reading, defBody s_reading, defScope s_reading, [], []⟩
def d__law_tape : He.DefD := ⟨("_law_tape", none), "_law_tape", "_law_tape", defArgs s_law_tape, defBody s_law_tape, defScope s_law_tape, [], []⟩
def d__law_take : He.DefD := ⟨("_law_take", none), "_law_take", "_law_take", defArgs s_law_take, defBody s_law_take, defScope s_law_take, [], []⟩
def d__law_dance : He.DefD := ⟨("_law_dance", none), "_law_dance", "_law_dance", defArgs s_law_dance, defBody s_law_dance, defScope s_law_dance, [], []⟩
def d__law_called : He.DefD := ⟨("_law_called", none), "_law_called", "_law_called", defArgs s_law_called, defBody s_law_called, defScope s_law_called, [], []⟩
def d__law_number : He.DefD := ⟨("_law_number", none), "_law_number", "_law_number", defArgs s_law_number, defBody s_law_number, defScope s_law_number, [], []⟩
def d__law_same : He.DefD := ⟨("_law_same", none), "_law_same", "_law_same", defArgs s_law_same, defBody s_law_same, defScope s_law_same, [], []⟩
def d__law_integer : He.DefD := ⟨("_law_integer", none), "_law_integer", "_law_integer", defArgs s_law_integer, defBody s_law_integer, defScope s_law_integer, [], []⟩
def d__law_spoilt : He.DefD := ⟨("_law_spoilt", none), "_law_spoilt", "_law_spoilt", defArgs s_law_spoilt, defBody s_law_spoilt, defScope s_law_spoilt, [], []⟩
def d__law_reads : He.DefD := ⟨("_law_reads", none), "_law_reads", "_law_reads", defArgs s_law_reads, defBody s_law_reads, defScope s_law_reads, [], []⟩
def d_law : He.DefD := ⟨("law", none), "law", "law", defArgs s_law, defBody s_law, defScope s_law, [], []⟩
def dfs : List He.DefD := [d_fraction, d_after, d_turned, d_number, d_diagram, d_is_colouring, d_is_plain, d_colouring, d_reading, d__law_tape, d__law_take, d__law_dance, d__law_called, d__law_number, d__law_same, d__law_integer, d__law_spoilt, d__law_reads, d_law]
def fas : List He.Fa := [.glo "fraction", .glo "after", .glo "turned", .glo "number", .glo "diagram", .glo "is_colouring", .glo "is_plain", .glo "colouring", .glo "reading", .glo "_law_tape", .glo "_law_take", .glo "_law_dance", .glo "_law_called", .glo "_law_number", .glo "_law_same", .glo "_law_integer", .glo "_law_spoilt", .glo "_law_reads", .glo "law", .free "len", .free "abs", .free "int", .free "range", .free "isinstance", .free "tuple", .free "list", .free "str", .free "bool", .free "all"]
def tbs : List He.Tab := []
def tfs : List He.Defn := [("is_colouring", none)]
def exs (K : PySem.W.Frag) : Bool := He.eqO (PySem.W.nsIn K mainGlobals "gcd") (some (some (.builtin "math.gcd")))
abbrev Rw : PySem.W.OpenRow := PySem.W.OpenLaw.row PySem.Challenge.rw_ropedance_k12_whole_readings
abbrev hk : PySem.W.Hook := He.hookX 6 fas dfs tbs tfs exs
def ob (s : PySem.W.SharedT) : He.AlX := He.obsX 6 fas dfs tbs tfs exs (HandSHeadRun.getT s)
theorem ob_eq (s : PySem.W.SharedT) : ob s = hk.obs s.abs := He.obsX_eq (HandSHeadRun.getT_eq s)
theorem head_run (w : World) : HandSHeadRun.RunEqI Rw (PySem.W.view Rw.prog [0, 26]) hk ob 4000 ["fraction", "after", "turned", "number", "diagram", "is_colouring", "is_plain", "colouring", "reading", "_law_tape", "_law_take", "_law_dance", "_law_called", "_law_number", "_law_same", "_law_integer", "_law_spoilt", "_law_reads", "RopeError", "NoFraction"] w := by
  unfold HandSHeadRun.RunEqI
  kernel_rfl
theorem fun_of {K : PySem.W.Frag} {d : He.DefD} {f : Addr} {fd : FuncData} {st : Stmt} (h : FunD K d.name d.qual d.params d.body d.scope (d.dvs K) (d.kws K) f fd) (ha : d.params = defArgs st) (hb : d.body = defBody st) (hs : d.scope = defScope st) (h0 : d.dfl = []) (h1 : d.kwd = []) : Fun K d.name d.qual st f fd := by
  obtain ⟨oc, od, dV, kV, doc, pm, an, cdv, ct, osl, e, lk, cd, dfl, kw⟩ := h.ex
  have e0 : d.dvs K = [] := by unfold He.DefD.dvs; rw [h0]; rfl
  rw [e0] at dfl
  have ed : dV = .none := by
    rcases dfl with ⟨_, q⟩ | ⟨q, _⟩
    · exact q
    · exact absurd rfl q
  subst ed
  rw [ha, hb, hs] at e
  exact ⟨⟨oc, od, kV, doc, pm, an, cdv, ct, osl, e, lk, cd⟩, h.kp⟩
theorem spLaw_from (K : PySem.W.Frag) : ∀ (H : Hp) (a : Addr) (ns : List Int), ns.length ≤ 63 → (∀ z ∈ ns, Builtin.Int.intBits z ≤ 1048576) → (∀ p ∈ tfs.map (He.cT K), H p.2 = some (.tbl #[])) → SqL K H a (ns.map V.int) → spLawK K [.ref a] H (fun v _ => v = .bl true) fun _ _ _ => False :=
  fun H a ns hl _ hT hS => ⟨a, ns, rfl, hS, hl, ⟨#[], hT _ (List.mem_map.mpr ⟨("is_colouring", none), List.mem_cons_self .., rfl⟩), trivial⟩, fun _ => rfl⟩
theorem all_facts {P : Program} {w : World} {K : PySem.W.Frag} {h : Heap} {mg : Str → Option Value} {fa : Addr} (X : K.In h) (G : h.Ns mainGlobals mg) (hfa : mg ("law" : Str) = some (.ref fa)) (c : He.SaysX fas dfs tbs tfs exs w h K) :
    ∃ fd : FuncData, (∀ (s : Shared) (v : Value), BindsTo s fd ⟨[v], []⟩ [("script", v)]) ∧ ∀ base : Heap, K.In base → base.Ns mainGlobals mg → (∀ p ∈ tfs.map (He.cT K), LamX.TabB base mg p.1 p.2) → FnOk P w K mg base CX0 5 fa fd ["script"] (spLawK K) := by
  have cd := c.t.d
  obtain ⟨fd0, G0⟩ := cd.def_ 0 (d := d_fraction) rfl
  have F_fraction : Fun K "fraction" "fraction" s_fraction _ fd0 := fun_of G0 rfl rfl rfl rfl rfl
  have m_fraction := He.glo_ok X G (cd.fact 0 (f := .glo "fraction") rfl)
  have b_fraction := F_fraction.binds (ps := ["p", "q"]) fun _ _ _ _ _ _ us hl => match us, hl with | [_, _], _ => rfl
  obtain ⟨fd1, G1⟩ := cd.def_ 1 (d := d_after) rfl
  have F_after : Fun K "after" "after" s_after _ fd1 := fun_of G1 rfl rfl rfl rfl rfl
  have m_after := He.glo_ok X G (cd.fact 1 (f := .glo "after") rfl)
  have b_after := F_after.binds (ps := ["fraction", "dance"]) fun _ _ _ _ _ _ us hl => match us, hl with | [_, _], _ => rfl
  obtain ⟨fd2, G2⟩ := cd.def_ 2 (d := d_turned) rfl
  have F_turned : Fun K "turned" "turned" s_turned _ fd2 := fun_of G2 rfl rfl rfl rfl rfl
  have m_turned := He.glo_ok X G (cd.fact 2 (f := .glo "turned") rfl)
  have b_turned := F_turned.binds (ps := ["p", "q"]) fun _ _ _ _ _ _ us hl => match us, hl with | [_, _], _ => rfl
  obtain ⟨fd3, G3⟩ := cd.def_ 3 (d := d_number) rfl
  have F_number : Fun K "number" "number" s_number _ fd3 := fun_of G3 rfl rfl rfl rfl rfl
  have m_number := He.glo_ok X G (cd.fact 3 (f := .glo "number") rfl)
  have b_number := F_number.binds (ps := ["dance"]) fun _ _ _ _ _ _ us hl => match us, hl with | [_], _ => rfl
  obtain ⟨fd4, G4⟩ := cd.def_ 4 (d := d_diagram) rfl
  have F_diagram : Fun K "diagram" "diagram" s_diagram _ fd4 := fun_of G4 rfl rfl rfl rfl rfl
  have m_diagram := He.glo_ok X G (cd.fact 4 (f := .glo "diagram") rfl)
  have b_diagram := F_diagram.binds (ps := ["dance"]) fun _ _ _ _ _ _ us hl => match us, hl with | [_], _ => rfl
  obtain ⟨fd5, G5⟩ := cd.def_ 5 (d := d_is_colouring) rfl
  have F_is_colouring : Fun K "is_colouring" "is_colouring" s_is_colouring _ fd5 := fun_of G5 rfl rfl rfl rfl rfl
  have m_is_colouring := He.glo_ok X G (cd.fact 5 (f := .glo "is_colouring") rfl)
  have b_is_colouring := F_is_colouring.binds (ps := ["dance", "colours"]) fun _ _ _ _ _ _ us hl => match us, hl with | [_, _], _ => rfl
  obtain ⟨fd6, G6⟩ := cd.def_ 6 (d := d_is_plain) rfl
  have F_is_plain : Fun K "is_plain" "is_plain" s_is_plain _ fd6 := fun_of G6 rfl rfl rfl rfl rfl
  have m_is_plain := He.glo_ok X G (cd.fact 6 (f := .glo "is_plain") rfl)
  have b_is_plain := F_is_plain.binds (ps := ["colours"]) fun _ _ _ _ _ _ us hl => match us, hl with | [_], _ => rfl
  obtain ⟨fd7, G7⟩ := cd.def_ 7 (d := d_colouring) rfl
  have F_colouring : Fun K "colouring" "colouring" s_colouring _ fd7 := fun_of G7 rfl rfl rfl rfl rfl
  have m_colouring := He.glo_ok X G (cd.fact 7 (f := .glo "colouring") rfl)
  have b_colouring := F_colouring.binds (ps := ["dance", "first", "second"]) fun _ _ _ _ _ _ us hl => match us, hl with | [_, _, _], _ => rfl
  obtain ⟨fd8, G8⟩ := cd.def_ 8 (d := d_reading) rfl
  have F_reading : Fun K "reading" "reading" s_reading _ fd8 := fun_of G8 rfl rfl rfl rfl rfl
  have m_reading := He.glo_ok X G (cd.fact 8 (f := .glo "reading") rfl)
  have b_reading := F_reading.binds (ps := ["dance", "colours"]) fun _ _ _ _ _ _ us hl => match us, hl with | [_, _], _ => rfl
  obtain ⟨fd9, G9⟩ := cd.def_ 9 (d := d__law_tape) rfl
  have F__law_tape : Fun K "_law_tape" "_law_tape" s_law_tape _ fd9 := fun_of G9 rfl rfl rfl rfl rfl
  have m__law_tape := He.glo_ok X G (cd.fact 9 (f := .glo "_law_tape") rfl)
  have b__law_tape := F__law_tape.binds (ps := ["script", "k"]) fun _ _ _ _ _ _ us hl => match us, hl with | [_, _], _ => rfl
  obtain ⟨fd10, G10⟩ := cd.def_ 10 (d := d__law_take) rfl
  have F__law_take : Fun K "_law_take" "_law_take" s_law_take _ fd10 := fun_of G10 rfl rfl rfl rfl rfl
  have m__law_take := He.glo_ok X G (cd.fact 10 (f := .glo "_law_take") rfl)
  have b__law_take := F__law_take.binds (ps := ["tape", "many"]) fun _ _ _ _ _ _ us hl => match us, hl with | [_, _], _ => rfl
  obtain ⟨fd11, G11⟩ := cd.def_ 11 (d := d__law_dance) rfl
  have F__law_dance : Fun K "_law_dance" "_law_dance" s_law_dance _ fd11 := fun_of G11 rfl rfl rfl rfl rfl
  have m__law_dance := He.glo_ok X G (cd.fact 11 (f := .glo "_law_dance") rfl)
  have b__law_dance := F__law_dance.binds (ps := ["tape", "most"]) fun _ _ _ _ _ _ us hl => match us, hl with | [_, _], _ => rfl
  obtain ⟨fd12, G12⟩ := cd.def_ 12 (d := d__law_called) rfl
  have F__law_called : Fun K "_law_called" "_law_called" s_law_called _ fd12 := fun_of G12 rfl rfl rfl rfl rfl
  have m__law_called := He.glo_ok X G (cd.fact 12 (f := .glo "_law_called") rfl)
  have b__law_called := F__law_called.binds (ps := ["value", "letter"]) fun _ _ _ _ _ _ us hl => match us, hl with | [_, _], _ => rfl
  obtain ⟨fd13, G13⟩ := cd.def_ 13 (d := d__law_number) rfl
  have F__law_number : Fun K "_law_number" "_law_number" s_law_number _ fd13 := fun_of G13 rfl rfl rfl rfl rfl
  have m__law_number := He.glo_ok X G (cd.fact 13 (f := .glo "_law_number") rfl)
  have b__law_number := F__law_number.binds (ps := ["dance"]) fun _ _ _ _ _ _ us hl => match us, hl with | [_], _ => rfl
  obtain ⟨fd14, G14⟩ := cd.def_ 14 (d := d__law_same) rfl
  have F__law_same : Fun K "_law_same" "_law_same" s_law_same _ fd14 := fun_of G14 rfl rfl rfl rfl rfl
  have m__law_same := He.glo_ok X G (cd.fact 14 (f := .glo "_law_same") rfl)
  have b__law_same := F__law_same.binds (ps := ["told", "due"]) fun _ _ _ _ _ _ us hl => match us, hl with | [_, _], _ => rfl
  obtain ⟨fd15, G15⟩ := cd.def_ 15 (d := d__law_integer) rfl
  have F__law_integer : Fun K "_law_integer" "_law_integer" s_law_integer _ fd15 := fun_of G15 rfl rfl rfl rfl rfl
  have m__law_integer := He.glo_ok X G (cd.fact 15 (f := .glo "_law_integer") rfl)
  have b__law_integer := F__law_integer.binds (ps := ["tape"]) fun _ _ _ _ _ _ us hl => match us, hl with | [_], _ => rfl
  obtain ⟨fd16, G16⟩ := cd.def_ 16 (d := d__law_spoilt) rfl
  have F__law_spoilt : Fun K "_law_spoilt" "_law_spoilt" s_law_spoilt _ fd16 := fun_of G16 rfl rfl rfl rfl rfl
  have m__law_spoilt := He.glo_ok X G (cd.fact 16 (f := .glo "_law_spoilt") rfl)
  have b__law_spoilt := F__law_spoilt.binds (ps := ["tape", "colours"]) fun _ _ _ _ _ _ us hl => match us, hl with | [_, _], _ => rfl
  obtain ⟨fd17, G17⟩ := cd.def_ 17 (d := d__law_reads) rfl
  have F__law_reads : Fun K "_law_reads" "_law_reads" s_law_reads _ fd17 := fun_of G17 rfl rfl rfl rfl rfl
  have m__law_reads := He.glo_ok X G (cd.fact 17 (f := .glo "_law_reads") rfl)
  have b__law_reads := F__law_reads.binds (ps := ["dance", "colours", "due"]) fun _ _ _ _ _ _ us hl => match us, hl with | [_, _, _], _ => rfl
  obtain ⟨fd18, G18⟩ := cd.def_ 18 (d := d_law) rfl
  have F_law : Fun K "law" "law" s_law _ fd18 := fun_of G18 rfl rfl rfl rfl rfl
  have m_law := He.glo_ok X G (cd.fact 18 (f := .glo "law") rfl)
  have b_law := F_law.binds (ps := ["script"]) fun _ _ _ _ _ _ us hl => match us, hl with | [_], _ => rfl
  have y_len := He.free_ok X G (cd.fact 19 (f := .free "len") rfl)
  have y_abs := He.free_ok X G (cd.fact 20 (f := .free "abs") rfl)
  have y_int := He.free_ok X G (cd.fact 21 (f := .free "int") rfl)
  have y_range := He.free_ok X G (cd.fact 22 (f := .free "range") rfl)
  have y_isinstance := He.free_ok X G (cd.fact 23 (f := .free "isinstance") rfl)
  have y_tuple := He.free_ok X G (cd.fact 24 (f := .free "tuple") rfl)
  have y_list := He.free_ok X G (cd.fact 25 (f := .free "list") rfl)
  have y_str := He.free_ok X G (cd.fact 26 (f := .free "str") rfl)
  have y_bool := He.free_ok X G (cd.fact 27 (f := .free "bool") rfl)
  have y_all := He.free_ok X G (cd.fact 28 (f := .free "all") rfl)
  have e := hfa.symm.trans m_law
  cases e
  refine ⟨fd18, fun s v => ?_, fun base KB GB TB => ?_⟩
  · obtain ⟨oc, od, kV, doc, pm, an, cdv, ct, osl, e, _⟩ := F_law.ex
    rw [e]
    exact .of_eq rfl
  have g_gcd := PySem.W.mg_of X G (He.eqO_ok c.more)
  have D_tape : Dfn P w K mg base "_law_tape" 1 _ (spTape K) := ⟨_, _, ok_tape F__law_tape y_len y_abs y_int, m__law_tape, F__law_tape.kp, b__law_tape⟩
  have D_take : Dfn P w K mg base "_law_take" 1 _ spTake := ⟨_, _, ok_take F__law_take y_int, m__law_take, F__law_take.kp, b__law_take⟩
  have D_dance : Dfn P w K mg base "_law_dance" 2 _ spDance := ⟨_, _, ok_dance F__law_dance D_take y_range, m__law_dance, F__law_dance.kp, b__law_dance⟩
  have D_called : Dfn P w K mg base "_law_called" 1 _ (spCalled K) := ⟨_, _, ok_called F__law_called, m__law_called, F__law_called.kp, b__law_called⟩
  have D_number : Dfn P w K mg base "_law_number" 2 _ (spNumber K) := ⟨_, _, ok_number F__law_number D_called, m__law_number, F__law_number.kp, b__law_number⟩
  have D_same0 : Dfn P w K mg base "_law_same" 0 _ (spSame 0) := ⟨_, _, none_same, m__law_same, F__law_same.kp, b__law_same⟩
  have D_same1 : Dfn P w K mg base "_law_same" 1 _ (spSame 1) := ⟨_, _, ok_same F__law_same D_same0 y_isinstance y_tuple y_list y_len y_range y_str y_int y_bool, m__law_same, F__law_same.kp, b__law_same⟩
  have D_same2 : Dfn P w K mg base "_law_same" 2 _ (spSame 2) := ⟨_, _, ok_same F__law_same D_same1 y_isinstance y_tuple y_list y_len y_range y_str y_int y_bool, m__law_same, F__law_same.kp, b__law_same⟩
  have D_turned : Dfn P w K mg base "turned" 1 _ spTurned := ⟨_, _, ok_turned F_turned, m_turned, F_turned.kp, b_turned⟩
  have D_after : Dfn P w K mg base "after" 2 _ spAfter := ⟨_, _, ok_after F_after D_turned, m_after, F_after.kp, b_after⟩
  have D_integer : Dfn P w K mg base "_law_integer" 2 _ spInteger := ⟨_, _, ok_integer F__law_integer D_take y_range y_int, m__law_integer, F__law_integer.kp, b__law_integer⟩
  have D_num : Dfn P w K mg base "number" 3 _ spNum := ⟨_, _, ok_num F_number D_after , m_number, F_number.kp, b_number⟩
  have D_diagram : Dfn P w K mg base "diagram" 1 _ spDiag := ⟨_, _, ok_diagram F_diagram  , m_diagram, F_diagram.kp, b_diagram⟩
  have D_fraction : Dfn P w K mg base "fraction" 1 _ spFrac := ⟨_, _, ok_frac F_fraction g_gcd, m_fraction, F_fraction.kp, b_fraction⟩
  have D_colouring : Dfn P w K mg base "colouring" 2 _ spCol := ⟨_, _, ok_colouring F_colouring D_diagram , m_colouring, F_colouring.kp, b_colouring⟩
  have D_is_plain : Dfn P w K mg base "is_plain" 1 _ spPlain := ⟨_, _, ok_is_plain F_is_plain y_len , m_is_plain, F_is_plain.kp, b_is_plain⟩
  have TBG : GxR.TabB base mg (He.cT K ("is_colouring", none)).1 (He.cT K ("is_colouring", none)).2 := by
    have t := TB (He.cT K ("is_colouring", none)) (List.mem_map.mpr ⟨("is_colouring", none), List.mem_cons_self .., rfl⟩)
    exact ⟨t.code, t.bm, t.gP⟩
  have codeIs : fd5.code = .ref (He.cT K ("is_colouring", none)).1 := by
    obtain ⟨oc, od, kV, doc, pm, an, cdv, ct, osl, e, lk, cdn⟩ := F_is_colouring.ex
    obtain ⟨x, hx⟩ := He.codeIn_ref cdn
    have hc : fd5.code = .ref x := by rw [e]; exact hx
    rw [hc]
    exact congrArg Value.ref (He.codeOf_eq (p := ("is_colouring", none)) lk hc).symm
  have D_is_colouring : Dfn P w K mg base "is_colouring" 2 _ (spIsCol (He.cT K ("is_colouring", none)).2) := ⟨_, _, ok_is_colouring F_is_colouring codeIs TBG D_diagram y_all y_len, m_is_colouring, F_is_colouring.kp, b_is_colouring⟩
  have D_reading : Dfn P w K mg base "reading" 3 _ (spReading (He.cT K ("is_colouring", none)).2) := ⟨_, _, ok_reading F_reading (D_is_plain.mono (by decide)) D_is_colouring (D_diagram.mono (by decide)) (D_fraction.mono (by decide)) , m_reading, F_reading.kp, b_reading⟩
  have D_law_spoilt : Dfn P w K mg base "_law_spoilt" 2 _ spSpoilt := ⟨_, _, ok_law_spoilt F__law_spoilt D_take y_len y_list , m__law_spoilt, F__law_spoilt.kp, b__law_spoilt⟩
  have D_law_reads : Dfn P w K mg base "_law_reads" 4 _ (spReads (He.cT K ("is_colouring", none)).2) := ⟨_, _, ok_law_reads F__law_reads (D_same2.mono (by decide)) D_reading (D_is_colouring.mono (by decide)) y_len y_list , m__law_reads, F__law_reads.kp, b__law_reads⟩
  exact ok_law F_law (D_tape.mono (by decide)) (D_dance.mono (by decide)) (D_number.mono (by decide)) (D_num.mono (by decide)) (D_integer.mono (by decide)) (D_take.mono (by decide)) (D_colouring.mono (by decide)) D_law_reads (D_reading.mono (by decide)) (D_law_spoilt.mono (by decide)) y_range y_abs y_len
end Rope
open PySem PySem.W PySem.Calls PyProof.Rows
set_option maxRecDepth 100000 in
set_option maxHeartbeats 0 in
theorem PySem.Challenge.cw_ropedance_k12_whole_readings_holds : PySem.Challenge.rw_ropedance_k12_whole_readings.Holds := by
  w_on; o_law
  refine HandSHeadRun.head_imp (r := OpenLaw.row PySem.Challenge.rw_ropedance_k12_whole_readings) (q := view (OpenLaw.row PySem.Challenge.rw_ropedance_k12_whole_readings).prog [0, 26]) (H := Rope.hk) (ob := Rope.ob) (M := 4000) (loose := ["fraction", "after", "turned", "number", "diagram", "is_colouring", "is_plain", "colouring", "reading", "_law_tape", "_law_take", "_law_dance", "_law_called", "_law_number", "_law_same", "_law_integer", "_law_spoilt", "_law_reads", "RopeError", "NoFraction"]) (d := HandSHeadRun.topDef (OpenLaw.row PySem.Challenge.rw_ropedance_k12_whole_readings).prog 26) (kwd := []) Rope.ob_eq
    Rope.head_run (by kernel_rfl) (by kernel_rfl) (by kernel_rfl) (by rfl) (by first | assumption | decide +kernel) (by decide +kernel) ⟨rfl, rfl, rfl, rfl, rfl, by decide +kernel⟩ ?hw ?hc
  case hw => w_witness2
  case hc =>
    refine LamX.walk_ofTsE (l := PySem.Challenge.rw_ropedance_k12_whole_readings) (n := 63) (k := 5) (x := "script") (CX := fun _ => L2.CX0) rfl (by decide) (by kernel_rfl) ⟨rfl, by decide, by decide⟩ ?F (fun _ _ _ _ _ z => z)
    intro w mg fa h Y G hmg0
    obtain ⟨K, KX, c⟩ := Y
    have hmg : mg ("law" : PySem.Str) = some (.ref fa) := by
      have e : (HandSHeadRun.topDef (OpenLaw.row PySem.Challenge.rw_ropedance_k12_whole_readings).prog 26).name = ("law" : PySem.Str) := by kernel_rfl
      rw [← e]
      exact hmg0
    obtain ⟨fd, hb, hF⟩ := Rope.all_facts (P := (PySem.Challenge.rw_ropedance_k12_whole_readings).prog) (w := w) KX G hmg c
    refine ⟨K, KX, fd, Rope.tfs.map (He.cT K), Rope.spLawK K, fun p hp => ?_, fun p hp => ?_, fun p hp => ?_, hb, Rope.spLaw_from K, hF⟩
    · obtain ⟨x, hx, rfl⟩ := List.mem_map.mp hp
      exact c.empty x hx
    · obtain ⟨x, hx, rfl⟩ := List.mem_map.mp hp
      exact c.out x hx
    · obtain ⟨x, hx, rfl⟩ := List.mem_map.mp hp
      exact PySem.W.codeHd_of_K KX (c.hd x hx)
