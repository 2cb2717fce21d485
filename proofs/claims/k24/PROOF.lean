import PyProof.Rows.All
import Wide.All
import OpenK.AllK
import Wide.FinOn
import PyProof.StrBlock2
import HandS.ForMost
import HandS.Wide
import HandS.IsInst
import HandS.Exc
import HandS.ExcOwn
import HandS.ExcCtx
import HandS.ExcIs
import HandS.Hot
import HandS.WordsExc
import HandS.Gcd
import HandS.AnyAll
import HandS.Style
import HandS.More
import HandS.Dict
import HandS.Conv
import KE.KDictDisplayH
import HandS.List
import HandS.TupLe
import HandS.WideBits
import HandS.RevRange
import HandS.Deep
import HandS.Strs
import PySem.Challenge.RW_ropedance_k24_places
set_option Elab.async false
set_option linter.all false
set_option maxRecDepth 100000
set_option maxHeartbeats 4000000
namespace Rope
open PySem L2


/-! ### texts as lists of codes -/
def S (l : List Nat) : Str := ⟨l.toArray⟩
theorem S_len (l : List Nat) : (S l).length = l.length := by simp [S, Str.length]
theorem S_list (l : List Nat) : (S l).cps.toList = l := by simp [S]
theorem S_size (l : List Nat) : (S l).cps.size = l.length := by simp [S]
theorem S_get (l : List Nat) (i : Nat) : (S l).cps[i]? = l[i]? := by simp [S]
theorem S_inj {l m : List Nat} (h : S l = S m) : l = m := by
  have := congrArg (fun z : Str => z.cps.toList) h
  simpa [S] using this
theorem S_app (l m : List Nat) : S l ++ S m = S (l ++ m) := by
  show Str.append (S l) (S m) = S (l ++ m)
  simp [Str.append, S]
theorem S_mul (l : List Nat) (n : Int) : Txt.mul (S l) n = S (List.replicate n.toNat l).flatten := by
  unfold Txt.mul
  by_cases h1 : n < 1
  · rw [if_pos h1]
    have : n.toNat = 0 := by omega
    rw [this]
    rfl
  · rw [if_neg h1]
    by_cases h2 : (n == 1 || (S l).length == 0) = true
    · rw [if_pos h2]
      simp only [Bool.or_eq_true, beq_iff_eq] at h2
      rcases h2 with h2 | h2
      · subst h2
        show S l = S (List.replicate 1 l).flatten
        simp
      · rw [S_len] at h2
        have : l = [] := List.eq_nil_of_length_eq_zero h2
        subst this
        simp
    · rw [if_neg h2]
      have aux : ∀ (k : Nat) (a : Array Nat), ((List.replicate k (S l).cps).foldl (· ++ ·) a).toList = a.toList ++ (List.replicate k l).flatten := by
        intro k
        induction k with
        | zero => intro a; simp
        | succ k ih =>
          intro a
          rw [List.replicate_succ, List.foldl_cons, ih, List.replicate_succ, List.flatten_cons, Array.toList_append, List.append_assoc, S_list]
      have := aux n.toNat #[]
      unfold S
      congr 1
      apply Array.toList_inj.mp
      rw [show S l = (⟨l.toArray⟩ : Str) from rfl] at this
      rw [this]
      simp
theorem S_cut (l : List Nat) (lo hi : Option Int) : cutS (S l) lo hi = S ((l.drop (HT.sIx l.length 0 lo)).take (HT.sIx l.length l.length hi - HT.sIx l.length 0 lo)) := by
  unfold cutS
  rw [S_len, S_list]
  rfl
theorem S_take (l : List Nat) {m : Int} (h : 0 ≤ m) : cutS (S l) none (some m) = S (l.take m.toNat) := by
  obtain ⟨k, rfl⟩ := Int.eq_ofNat_of_zero_le h
  rw [S_cut, HT.sIx_none, HT.sIx_nat, List.drop_zero, Nat.sub_zero, Int.toNat_natCast]
  congr 1
  by_cases h2 : k ≤ l.length
  · rw [Nat.min_eq_left h2]
  · rw [Nat.min_eq_right (by omega), List.take_of_length_le (Nat.le_refl _), List.take_of_length_le (by omega)]
theorem S_drop (l : List Nat) {m : Int} (h : 0 ≤ m) : cutS (S l) (some m) none = S (l.drop m.toNat) := by
  obtain ⟨k, rfl⟩ := Int.eq_ofNat_of_zero_le h
  rw [S_cut, HT.sIx_none, HT.sIx_nat, Int.toNat_natCast]
  congr 1
  rw [List.take_of_length_le (by simp)]
  by_cases h2 : k ≤ l.length
  · rw [Nat.min_eq_left h2]
  · rw [Nat.min_eq_right (by omega), List.drop_length, List.drop_eq_nil_of_le (by omega)]
/-- a text times an int -/
theorem op_mul_str {X : Cx} : OpR X (binaryOp .Mult) (fun x y H Q => ∃ (l : List Nat) (n : Int), x = .str (S l) ∧ y = .int n ∧ 0 ≤ n ∧ n < 2 ^ 62 ∧ l.length * n.toNat ≤ 16777215 ∧ Q (.str (S (List.replicate n.toNat l).flatten)) H) := by
  intro pins s σ H x y v u Q I rx ry h
  obtain ⟨l, n, rfl, rfl, h0, h1, h2, q⟩ := h
  obtain ⟨t, rfl⟩ := rx
  obtain ⟨t', rfl⟩ := ry
  have e1 : decide (n < -(2 ^ 63 : Int)) = false := decide_eq_false (by omega)
  have e2 : decide (n ≥ 2 ^ 63) = false := decide_eq_false (by omega)
  refine SB.mul ⟨by rw [e1, e2]; rfl, fun z1 z2 => ?_, fun z1 z2 => ?_⟩ fun t' k => ⟨.str _, H, I.tok _, ⟨_, rfl⟩, by rw [S_mul]; exact q⟩
  · rw [S_len]
    have h3 : (l.length : Int) * n ≤ 16777215 := by
      have : ((l.length * n.toNat : Nat) : Int) ≤ 16777215 := Int.ofNat_le.mpr h2
      rw [Int.natCast_mul, Int.toNat_of_nonneg h0] at this
      exact this
    have hn : 0 < n := by omega
    intro hc
    have hc' : (2 ^ 63 - 1) / n < (l.length : Int) := hc
    have := (Int.ediv_lt_iff_lt_mul hn).mp hc'
    omega
  · rw [S_len]
    unfold Builtin.Str.tooLong
    rw [sizeLine_eq]
    exact decide_eq_false (by omega)
/-! ### the calls: a fraction by a letter -/
def called (v : Int × Int) (c : Nat) : Int × Int :=
  if c = 84 then (v.1 + v.2, v.2) else if c = 85 then (v.1 - v.2, v.2) else if 0 < v.1 then (0 - v.2, v.1) else if v.1 < 0 then (v.2, 0 - v.1) else (1, 0)
def run (v : Int × Int) (l : List Nat) : Int × Int := l.foldl called v
theorem run_nil (v : Int × Int) : run v [] = v := rfl
theorem run_app (v : Int × Int) (l m : List Nat) : run v (l ++ m) = run (run v l) m := List.foldl_append
theorem run_take {l : List Nat} {i c : Nat} (v : Int × Int) (h : l[i]? = some c) : run v (l.take (i + 1)) = called (run v (l.take i)) c := by
  rw [List.take_add_one, h, run_app]
  rfl
/-- what a fraction of the laws keeps: q positive or infinite, no common divisor -/
def Good (v : Int × Int) : Prop := (0 < v.2 ∨ v = (1, 0)) ∧ Int.gcd v.1 v.2 = 1
theorem Good.zero : Good (0, 1) := ⟨.inl (by decide), by decide⟩
theorem gcd_add' (p q : Int) : Int.gcd (p + q) q = Int.gcd p q := by
  have := Int.gcd_add_mul_right_left p q 1
  simpa using this
theorem Good.called {v : Int × Int} (h : Good v) (c : Nat) : Good (called v c) := by
  obtain ⟨p, q⟩ := v
  obtain ⟨h1, h2⟩ := h
  simp only at h1 h2
  unfold Rope.called
  by_cases c1 : c = 84
  · rw [if_pos c1]
    refine ⟨?_, ?_⟩
    · rcases h1 with h1 | h1
      · exact .inl h1
      · cases h1; exact .inr rfl
    · show Int.gcd (p + q) q = 1
      rw [gcd_add']; exact h2
  rw [if_neg c1]
  by_cases c2 : c = 85
  · rw [if_pos c2]
    refine ⟨?_, ?_⟩
    · rcases h1 with h1 | h1
      · exact .inl h1
      · cases h1; exact .inr rfl
    · show Int.gcd (p - q) q = 1
      have := gcd_add' (p - q) q
      rw [Int.sub_add_cancel] at this
      rw [← this]; exact h2
  rw [if_neg c2]
  by_cases c3 : 0 < p
  · rw [if_pos (show 0 < (p, q).1 from c3)]
    refine ⟨.inl c3, ?_⟩
    show Int.gcd (0 - q) p = 1
    rw [Int.zero_sub, Int.neg_gcd, Int.gcd_comm]; exact h2
  rw [if_neg (show ¬ 0 < (p, q).1 from c3)]
  by_cases c4 : p < 0
  · rw [if_pos (show (p, q).1 < 0 from c4)]
    refine ⟨.inl (by show 0 < 0 - p; omega), ?_⟩
    show Int.gcd q (0 - p) = 1
    rw [Int.zero_sub, Int.gcd_neg, Int.gcd_comm]; exact h2
  rw [if_neg (show ¬ (p, q).1 < 0 from c4)]
  exact ⟨.inr rfl, by decide⟩
theorem good_run : ∀ (l : List Nat) {v : Int × Int}, Good v → Good (run v l)
  | [], _, h => h
  | c :: r, _, h => good_run r (h.called c)
/-- its size grows by a bit a letter -/
theorem called_size {v : Int × Int} {n : Nat} (h1 : v.1.natAbs ≤ n) (h2 : v.2.natAbs ≤ n) (h0 : 1 ≤ n) (c : Nat) : (called v c).1.natAbs ≤ 2 * n ∧ (called v c).2.natAbs ≤ 2 * n := by
  unfold called
  repeat' split
  all_goals simp only
  all_goals omega
theorem run_size : ∀ (l : List Nat) {v : Int × Int} {n : Nat}, v.1.natAbs ≤ n → v.2.natAbs ≤ n → 1 ≤ n → (run v l).1.natAbs ≤ 2 ^ l.length * n ∧ (run v l).2.natAbs ≤ 2 ^ l.length * n
  | [], v, n, h1, h2, _ => by simpa [run] using ⟨h1, h2⟩
  | c :: r, v, n, h1, h2, h0 => by
    have q := called_size h1 h2 h0 c
    have ih := run_size r q.1 q.2 (by omega)
    have e : 2 ^ (c :: r).length * n = 2 ^ r.length * (2 * n) := by
      rw [List.length_cons, Nat.pow_succ, Nat.mul_assoc]
    rw [e]
    exact ih
/-! ### the divisor -/
theorem gcd_step (x y : Int) : Nat.gcd y.natAbs (x.fmod y).natAbs = Nat.gcd x.natAbs y.natAbs := by
  show Int.gcd y (x.fmod y) = Int.gcd x y
  have e : x.fmod y = x + y * (-(x.fdiv y)) := by
    have := Int.fmod_def x y
    rw [this, Int.mul_neg]
    rfl
  rw [e, Int.gcd_add_mul_left_right, Int.gcd_comm]
theorem fmod_less {x y : Int} (h : y ≠ 0) : (x.fmod y).natAbs < y.natAbs := by
  by_cases h0 : 0 < y
  · rw [Int.fmod_eq_emod_of_nonneg x (by omega)]
    have h1 := Int.emod_nonneg x h
    have h2 := Int.emod_lt_of_pos x h0
    omega
  · have e : x.fmod y = -((-x).fmod (-y)) := by
      have := Int.neg_fmod_neg (a := x) (b := y)
      omega
    rw [e, Int.fmod_eq_emod_of_nonneg _ (by omega)]
    have h1 := Int.emod_nonneg (-x) (b := -y) (by omega)
    have h2 := Int.emod_lt_of_pos (-x) (b := -y) (by omega)
    omega
/-- for letter in text -/
theorem for_str {l : List Nat} {g : TG} {tb : TS} {D : Ends} {σ : L2.St} {H : Hp} (Pv : Nat → L2.St → Hp → Prop) (h0 : Pv 0 σ H)
    (hs : ∀ i c σ H, l[i]? = some c → Pv i σ H → g (.str (S [c])) σ H fun σ2 H2 => tb { D with nx := Pv (i + 1), ct := Pv (i + 1), bk := D.nx } σ2 H2) (hd : ∀ σ H, Pv l.length σ H → D.nx σ H) :
    ∃ W : Nat → Nat → L2.St → Hp → Prop, (∃ m, W 0 m σ H) ∧ ∀ i m σ H, W i m σ H →
      ((Its (S l)).stop i H ∧ D.nx σ H) ∨ ((Its (S l)).go i H ∧ ∃ N : L2.St → Hp → Prop, (∀ σ' H', N σ' H' → ∃ m', m' < m ∧ W (i + 1) m' σ' H') ∧ ∀ x H', (Its (S l)).yld i H x H' → g x σ H' fun σ2 H2 => tb { D with nx := N, ct := N, bk := D.nx } σ2 H2) := by
  refine ⟨fun i m σ H => m = l.length - i ∧ i ≤ l.length ∧ Pv i σ H, ⟨l.length, by simp, Nat.zero_le _, h0⟩, ?_⟩
  rintro i m σ H ⟨rfl, hi, p⟩
  by_cases hlt : i < l.length
  · refine .inr ⟨by show i < (S l).cps.size; rw [S_size]; exact hlt, Pv (i + 1), fun σ' H' p' => ⟨l.length - (i + 1), by omega, rfl, hlt, p'⟩, fun x H' y => ?_⟩
    obtain ⟨e, c, hc, rfl⟩ := y
    subst e
    rw [S_get] at hc
    exact hs i c σ _ hc p
  · have e : i = l.length := by omega
    subst e
    exact .inl ⟨by show (S l).cps.size ≤ l.length; rw [S_size]; exact Nat.le_refl _, hd σ H p⟩

section
open PySem.F HotX
variable {prog : Program} {w : World} {A : Around} {E : Value → Shared → Prop} {s : Shared}
/-- the end of a list's walk while an exception is handled -/
theorem list_end_hot {it l x1 : Addr} {i : Nat} {items : Array Value} {Q : Option Value → Shared → Prop} (hot : HotAt A x1 s.heap) (hne : x1 ≠ it)
    (hit : s.heap.IsListIter it l i) (hl : s.heap.IsList l items) (hx : items[i]? = none)
    (hQ : ∀ h', Heap.ExtBut it s.heap h' → Q none { s with heap := h' }) : wpAny (model prog w) A (pyNext (.ref it)) Q E s := by
  obtain ⟨io, iAt, _, iDat⟩ := id hit
  obtain ⟨lo, lAt, _, ln, lDat⟩ := hl
  obtain ⟨he, xo, xv, xAt, xDat, xCtx⟩ := hot
  have typ := hit.typeIs
  unfold pyNext
  refine wpAny_bind (wpAny_attempt (wpAny_callSpecial?_slot (name := Str.ofString "__next__") typ slot_listiter_next (wpAny_call_entry slot_listiter_next typ entry_listiter_next ?body (args_listiter_next _))))
  -- the list, the place, the items: nothing is left
  show wpAny _ _ (field (.ref it) 0 >>= _) _ _ s; refine wpAny_bind (wpAny_field iAt iDat (x := .ref l) rfl ?_)
  show wpAny _ _ (if (Value.ref l == Value.none) = true then _ else _) _ _ s; rw [if_neg (show ¬ ((Value.ref l == Value.none) = true) from Bool.false_ne_true)]
  show wpAny _ _ (field (.ref it) 1 >>= _) _ _ s; refine wpAny_bind (wpAny_field iAt iDat (x := .int i 0) rfl ?_)
  show wpAny _ _ (seqItems? (.ref l) >>= _) _ _ s; refine wpAny_bind (wpAny_seqItems lAt lDat ?_); simp only [Int.toNat_natCast, hx]
  refine wpAny_bind (wpAny_rule (wpAny_bind (wpAny_setField iAt iDat (by simp) ?stop)))
  -- StopIteration is made and raised on top of the one that is handled
  show wpAny _ _ (newExc (.type "StopIteration") [] >>= _) _ _ _; refine wpAny_bind ?_; simp only [newExc, newTuple]
  refine wpAny_bind (wpAny_newObj_type (wpAny_bind (m := firstArgMember _ _) (wpAny_of_eq (a := Value.none) (by first | rfl | (simp only [firstArgMember]; rfl)) (wpAny_newObj_type ?_ (by size_fits)))) (by size_fits))
  have kept := (Heap.get?_update_other s.heap (Obj.mapFields (·.setIfInBounds 0 .none)) hne.symm).trans xAt
  have far := Heap.lt_size (Heap.get?_push_of_some { cls := .type "tuple", data := .seq #[] } kept)
  refine raiseNew_hot ⟨he, xo, xv, Heap.get?_push_of_some _ (Heap.get?_push_of_some _ kept), xDat, xCtx⟩ (Nat.ne_of_lt far) (Heap.get?_push_size _ rfl) rfl (by first | (simp; done) | (simp; omega) | (simp only [Array.size_append]; simp; omega)) ?_
  refine wpAny_bind (wpAny_isInstance (T := "StopIteration") (b := true) ⟨_, Heap.get?_update_self _ (Heap.get?_push_size _ rfl) rfl, rfl⟩ isSubtype_stop (wpAny_pure (hQ _ fun c u hc e => ?_)))
  have e2 := (Heap.SameBut.update s.heap it (Obj.mapFields (·.setIfInBounds 0 .none))).extBut c u hc e
  have e3 := Heap.get?_push_of_some { cls := .type "tuple", data := .seq #[] } e2
  exact (Heap.get?_update_other _ _ (Nat.ne_of_gt (Heap.lt_size e3))).trans (Heap.get?_push_of_some _ e3)
end
/-- a list walked while an exception is handled -/
theorem walks_list_hot {prog : Program} {w : World} {A : Around} {x1 : Addr} {o1 : Obj} {vs1 : Array Value} (hh : A.handled = some (.ref x1)) (d1 : o1.data = .fields vs1) (c1 : vs1[2]? = some .none) (I ax : Addr) (hne : ax ≠ I) (h1I : x1 ≠ I) (items : Array Value) :
    Walks prog w A I [I, ax, x1] [I] items.size (fun i v => items[i]? = some v) (fun i h => h.IsListIter I ax i ∧ h.IsList ax items ∧ h.get? x1 = some o1) where
  sub := fun b hb => by simp at hb; simp [hb]
  frame := fun _ _ _ st hk => ⟨st.1.at fun o e => hk I (by simp) o e, st.2.1.at fun o e => hk ax (by simp) o e, hk x1 (by simp) _ st.2.2⟩
  item := fun i s Q E hi st hQ => by
    exact wpAny_pyNext_list_item st.1 st.2.1 (x := items[i]) (by simp [hi]) fun h' hit' hs' => hQ _ h' s.toks (by simp [hi]) ⟨hit', st.2.1.extBut hs'.extBut hne, hs'.extBut x1 _ h1I st.2.2⟩ fun b o hb e => hs'.extBut b o (fun h => hb (by simp [h])) e
  done := fun s Q E st hQ => list_end_hot ⟨hh, o1, vs1, st.2.2, d1, c1⟩ h1I st.1 st.2.1 (by simp) fun h' he' => hQ h' s.toks fun b o hb e => he' b o (fun h => hb (by simp [h])) e
  self := fun _ _ _ _ st hQ => wpAny_pyIter_listiter st.1 hQ
section
variable {X : Cx} {a : Addr} {oe : Obj} {cls : Value} {d : Option Addr} {pn : List (Addr × Obj)}
/-- any(list of bools) within an except suite -/
theorem any_hot (hz : L2N.Zn cls d oe) (hf : ∃ vs, oe.data = .fields vs) : CallR (X.suite a ((a, oe) :: pn)) (.builtin "any") (rAny X.K) := fun pins s σ H vs us Q I r ⟨b, bs, ev, hs, q⟩ => by
  subst ev
  obtain ⟨its, rv, hl, _⟩ := Inv.list I hs
  obtain ⟨fv, hd⟩ := hf
  have here := (I.pin (a, oe) (List.mem_append_left _ List.mem_cons_self)).1
  have lt := Heap.lt_size here
  rw [Vals.ref1 r]
  have items := rv.bls
  refine call_any_walk (iter_any hl.isList fun z ez st ne => ?_); subst ez
  refine ⟨_, _, _, _, _, _, _, rfl, walks_list_hot (A := (X.suite a ((a, oe) :: pn)).A.in1) (x1 := a) (o1 := oe) rfl hd (hz.2.2 fv hd) _ b ne (Nat.ne_of_lt lt) its.toArray, ⟨st.1, st.2, Heap.get?_push_of_some _ here⟩, truth_bools items, fun h' tk hk => ?_⟩
  have all : ∀ c u, s.heap.get? c = some u → h'.get? c = some u := fun c u e => hk c u (fun m => by
    rw [List.mem_singleton.mp m] at e
    exact Nat.lt_irrefl _ (Heap.lt_size e)) (Heap.get?_push_of_some _ e)
  refine ⟨.bl (bs.any id), H, I.kept all, ?_, q⟩
  show Value.bool ((List.range its.toArray.size).any fun i => bs.getD i false) = .bool (bs.any id)
  rw [← any_range, items, List.size_toArray, List.length_map]
/-- isinstance(e, c) of the error that the suite holds -/
def rIsF (K : PySem.W.Frag) (D a : Addr) (cls : Value) (d : Option Addr) : List V → Hp → VK → Prop := fun xs H Q => cls = .ref D ∧ d = none ∧ rIsE K D a xs H Q
theorem call_isF {D : Addr} (C : ExcC X.K D) (hz : L2N.Zn cls d oe) (hf : ∃ vs, oe.data = .fields vs) : CallR (X.suite a ((a, oe) :: pn)) (.builtin "isinstance") (rIsF X.K D a cls d) := by
  intro pins s σ H xs us Q I r h
  obtain ⟨rfl, rfl, h⟩ := h
  exact call_isE C hz.zc hf pins s σ H xs us Q I r h
end
theorem takes0N {X : Cx} : L2N.Takes X (fun _ _ _ _ => False) := fun _ _ ⟨_, _, _, _, _, _, _, _, _, _, _, _, _, _, _, _, no⟩ => False.elim no
theorem okX {P : Program} {w : World} {K : PySem.W.Frag} {mg : Str → Option Value} {base : Heap} {x qual : Str} {st : Stmt} {f : Addr} {fd : FuncData} {N ps : List Str} {k : Nat} {sp : Sp} (F : Fun K x qual st f fd) (S : FnScope N ps (defScope st)) (len : ∀ vs H Q E, sp vs H Q E → vs.length = ps.length)
    (hbody : ∀ (cdv : Value) (A : Around) (outer : List Env) (s : Shared) (H : Hp) (vs : List V) (Q : VK) (E : XK), Room k (A.deeper (PyProof.Rows.envOfC qual (defScope st) s.heap.objs.size f cdv)) → sp vs H Q E →
      ∃ t, PSs (cxOf (L2N.CX P w) P w K mg base N qual (defScope st) f cdv A outer s H E) (defBody st) t ∧ t { nx := fun _ H' => Q .non H', rt := Q } (start N vs) H) : FnOk P w K mg base (L2N.CX P w) (k + 1) f fd ps sp := by
  obtain ⟨_, _, _, _, _, _, cdv, _, _, rfl, lk, hcd⟩ := F.ex
  exact fn_of lk hcd S len (hbody cdv)
/-! ### an error class of the program -/
structure Err (K : PySem.W.Frag) (mg : Str → Option Value) (x : Str) (C : Addr) : Prop where
  g : mg x = some (.ref C)
  x : PySem.W.excIn K C [.type "ValueError", .type "Exception", .type "BaseException", .type "object"] "ValueError.__new__" = true
  k : PySem.W.keepIn K (.ref C) = true
  b : PySem.W.subIn K (.ref C) (.type "BaseException") = some true
  t : PySem.W.typeIn K (.ref C) = some (.type "type")
  hd : PySem.W.hasDictIn K C = true
  hg : PySem.W.findIn K (.ref C) "__getattribute__" = some (some (.builtin "BaseException.__getattribute__"))
  hk : PySem.W.findIn K (.ref C) "__getattr__" = some none
  ha : PySem.W.findIn K (.ref C) "__class__" = some (some (.builtin "object.__class__"))
  hm : PySem.W.mroIn K C (.type "object") = some true
theorem Err.c {K : PySem.W.Frag} {mg : Str → Option Value} {x : Str} {C : Addr} (e : Err K mg x C) (hn : PySem.W.specialIn K (.builtin "object.__class__") "__get__" = some (some (.builtin "getset_descriptor.__get__"))) (ht : PySem.W.takesIn K (.builtin "object.__class__") = some true) : ExcC K C :=
  ⟨e.hg, e.hk, e.b, e.hd, e.ha, hn, ht, e.hm⟩
/-- // of great ints, of any sign -/
theorem op_fdivWN {X : Cx} : OpR X (binaryOp .FloorDiv) (rI (fun _ j => j ≠ 0 ∧ j.natAbs.log2 < 9000) fun i j => .int (i.fdiv j)) := opI fun i j _ _ _ _ _ hc q =>
  PyProof.Rows.floordiv_int hc.1 q (.inl (PyProof.noPylong_of_log2 hc.2))

/-! ### text[::-1] -/
theorem rev_pick (l : List Nat) (t : Tok) (a : Tok) : sliceMade (S l) t none none (some (-1, a)) = Made.str (S l.reverse) := by
  have hs : slicePicked (S l) none none (some (-1, a)) = (List.range l.length).reverse := by
    show sliceRange (((S l).length : Int) - 1) (-1) (-1) = _
    rw [S_len, PySem.W.krv_sliceRange, PySem.W.krv_range]
  have hf : ((List.range l.length).reverse.filterMap ((S l).cps[·]?)) = l.reverse := by
    rw [List.filterMap_reverse]
    congr 1
    have : ∀ m : List Nat, (List.range m.length).filterMap (fun i => m[i]?) = m := fun m => by
      induction m with
      | nil => rfl
      | cons c r ih =>
        rw [List.length_cons, List.range_succ_eq_map, List.filterMap_cons, List.filterMap_map]
        show c :: (List.range r.length).filterMap (fun i => r[i]?) = c :: r
        rw [ih]
    have h2 : (fun i => (S l).cps[i]?) = fun i => l[i]? := funext fun i => S_get l i
    rw [h2]
    exact this l
  unfold sliceMade
  rw [hs, hf]
  rfl
def tRevS (te : TE) : TE := fun σ H Q => te σ H fun x H1 => ∃ l : List Nat, x = .str (S l) ∧ l.length ≤ 16777216 ∧ Q (.str (S l.reverse)) H1
theorem pe_revS {X : Cx} {e : Expr} {te : TE} {k : Nat} {p1 p2 p3 pos : Pos} (he : PE X e te) : PE X (.Subscript e (.Slice none none (some (.UnaryOp .USub (.Constant (.int 1) k p1) p2)) p3) pos) (tRevS te) := by
  constructor
  intro pins s σ H Q I hyp
  apply PyProof.Rows.Subscript_
  refine thn (he.run pins s σ H _ I hyp) fun v s1 ⟨x, H1, I1, r1, l, ex, hl, q⟩ => ?_
  subst ex
  obtain ⟨tk, rfl⟩ := r1
  have minus : PO X (some (.UnaryOp .USub (.Constant (.int 1) k p1) p2)) (tPart (tUn (rU fun i => .int (-i)) (tC (.int 1)))) := po_some (pe_un un_neg pe_int)
  apply wpAny_Slice
  refine thn (po_none.run pins s1 σ H1 (fun o G => o = none ∧ G = H1) I1 ⟨rfl, rfl⟩) fun v1 s2 ⟨o1, G1, J1, a1, b1, c1⟩ => ?_
  subst b1; subst c1
  refine thn (po_none.run pins s2 σ G1 (fun o G => o = none ∧ G = G1) J1 ⟨rfl, rfl⟩) fun v2 s3 ⟨o2, G2, J2, a2, b2, c2⟩ => ?_
  subst b2; subst c2
  refine thn (minus.run pins s3 σ G2 (fun o G => o = some (-1) ∧ G = G2) J2 ⟨1, rfl, -1, rfl, rfl, rfl⟩) fun v3 s4 ⟨o3, G3, J3, a3, b3, c3⟩ => ?_
  subst b3; subst c3
  obtain ⟨y1, rfl, g1⟩ := IsPart.raw a1
  obtain ⟨y2, rfl, g2⟩ := IsPart.raw a2
  obtain ⟨y3, rfl, g3⟩ := IsPart.raw a3
  cases y1 with
  | some z => cases g1
  | none =>
  cases y2 with
  | some z => cases g2
  | none =>
  cases y3 with
  | none => cases g3
  | some z =>
  obtain ⟨z1, z2⟩ := z
  have ez : z1 = -1 := Option.some.inj g3
  subst ez
  show wpAny (model X.prog X.w) X.A (PyProof.Rows.subscriptTail e (.Slice none none (some (.UnaryOp .USub (.Constant (.int 1) k p1) p2)) p3) (.str (S l) tk) (.ref s4.heap.objs.size)) (EP X pins σ Q) X.xe { s4 with heap := s4.heap.push { cls := .type "slice", data := .fields #[partValue none, partValue none, partValue (some (-1, z2))] } }
  refine PyProof.Rows.tail_any (ops := [.str (S l) tk, .ref s4.heap.objs.size]) (typeIs_str _ _ _) PySem.F.slot_str_getitem.lookup ?_ (by with_unfolding_all rfl)
  refine wpAny_getItem_str_slice (l := none) (u := none) (st := some (-1, z2)) ⟨_, Heap.get?_push_size _ rfl, rfl, rfl⟩ (by rfl) ?_
  rw [rev_pick]
  exact ⟨by rw [S_len, List.length_reverse, sizeLine_eq]; exact hl, .str _, _, J3.kept (t' := s4.toks + 1) fun b ob w => Heap.get?_push_of_some _ w, ⟨_, rfl⟩, q⟩
/-! ### all(test for x in text), where the test may read what the top has written -/
section
open GxR
variable {X : Cx} {pins : List (Addr × Obj)} {σ : L2.St} {H : Hp} {s : Shared}
def EltG (X : Cx) (scope : Scope) (x : Str) (elt : Expr) (pb : Nat → Bool) : Prop :=
  ∀ (cenv : Env) (A' : Around) (E' : Value → Shared → Prop) (c : Nat) (t : Tok) (z : Shared) (m : Str → Option Value), X.Ok → cenv.scope = scope → cenv.globals = X.env.globals → (∀ b o, X.base.get? b = some o → z.heap.get? b = some o) →
    z.heap.Ns cenv.locals m → m x = some (.str ⟨#[c]⟩ t) → wpAny (model X.prog X.w) A' (eval elt cenv) (fun y z' => y = .bool (pb c) ∧ Keeps z z') E' z
theorem tbl_not {H : Hp} {P : Addr} {ps : Array Value} (hP : H P = some (.tbl ps)) {b : Addr} (h : H b = none) : b ≠ P := fun z => by rw [z, hP] at h; cases h
theorem gen_go {c P : Addr} {elt : Expr} {x : Str} {scope : Scope} {pb : Nat → Bool} {k : Nat} {Q' : Value → Shared → Prop} {a : Str} {o : Obj} {St : Nat → Heap → Prop} {ps : Array Value}
    (hr : Room k X.A) (TB : TabB X.base X.mg c P) (sc : GenS X.env scope x) (hel : EltG X scope x elt pb) (J : L2.Inv X pins σ H s) (hP : H P = some (.tbl ps)) (atP : s.heap.get? P = some { cls := .none, data := .fields ps }) (ltP : P < s.heap.objs.size)
    (W : ∀ A' : Around, A'.handled = none → Walks X.prog X.w A' s.heap.objs.size [s.heap.objs.size] [s.heap.objs.size] a.cps.size (SignAt a) St) (st0 : St 0 (s.heap.push o)) (code : Value) (h3 : Heap) (tk : Nat) (ps' more : Array Value) (em : ps' = ps ++ more)
    (hx : Heap.ExtBut P (s.heap.push o) h3) (hsz : (s.heap.push o).objs.size ≤ h3.objs.size) (h3P : h3.get? P = some { cls := .none, data := .fields ps' }) (ok' : TriplesOk ps'.toList) (lim : (s.heap.push o).NoLimit) (hQ : ∀ g z, Ready X pins σ H P a pb g z → Q' (.ref g) z) :
    wpAny (model X.prog X.w) X.A (builtinsFor X.env.globals X.env.builtins) (fun bi s₄ =>
      ∃ Ia fp wr n₀ Pf St₀ pz F, Value.ref s.heap.objs.size = .ref Ia ∧ (∀ A' : Around, A'.handled = none → Walks X.prog X.w A' Ia fp wr n₀ Pf St₀) ∧ St₀ 0 s₄.heap ∧ (∀ b ∈ fp, b < s₄.heap.objs.size) ∧ s₄.heap.NoLimit ∧ cStatics ∉ wr ∧
        (∀ href : Heap, (∀ b u, s₄.heap.get? b = some u → href.get? b = some u) → QuietGen X.prog X.w (genEnv scope (cloFrom X.env.cells scope.names []) s₄.heap.objs.size code bi X.env) x [] elt (List.range s₄.heap.objs.size) wr Pf pz F href) ∧
        (∀ g h₅ tk gs, gs.bare = true → s₄.heap.objs.size < g → h₅.objs.size = g + 1 → (∀ b u, s₄.heap.get? b = some u → h₅.get? b = some u) →
          WalksS X.prog X.w X.A.in4 g (g :: s₄.heap.objs.size :: List.range s₄.heap.objs.size) (s₄.heap.objs.size :: wr) (GenOnlyQ s₄.gens.size) (passing pz n₀ 0).length (fun j y => ∃ i, (passing pz n₀ 0)[j]? = some i ∧ F i y) (GenAt X.prog X.w X.A.in4 g s₄.gens.size s₄.heap.objs.size (List.range s₄.heap.objs.size) wr pz n₀ F) →
          GenAt X.prog X.w X.A.in4 g s₄.gens.size s₄.heap.objs.size (List.range s₄.heap.objs.size) wr pz n₀ F 0 { s₄ with gens := s₄.gens.push gs, toks := tk, heap := h₅ } → Q' (.ref g) { s₄ with gens := s₄.gens.push gs, toks := tk, heap := h₅ })) X.xe { s with heap := h3, toks := tk } := by
  obtain ⟨bm, ob, q1, q2, q3, q4, q5, q6, q7, q8⟩ := TB.bm
  obtain ⟨cm, cns, cnn⟩ := J.nolimit
  have cP : cStatics ≠ P := fun z => by
    obtain ⟨o2, es, ep, g1, g2, _⟩ := cns
    rw [z, atP] at g1
    cases g1
    cases g2
  have cL : cStatics < s.heap.objs.size := cns.lt
  have big : (s.heap.push o).objs.size = s.heap.objs.size + 1 := Heap.size_push ..
  have kept : ∀ b u, b ≠ P → s.heap.get? b = some u → h3.get? b = some u := fun b u n e => hx b u n (Heap.get?_push_of_some _ e)
  have bases : ∀ b u, X.base.get? b = some u → h3.get? b = some u := fun b u e => kept b u (tbl_not hP (J.bs b u e).2) (J.bk b u e)
  refine wpAny_builtinsFor (m := X.mg) (by rw [J.ok.glob]; exact J.mod.glob.keeps bases) q1 q2 (bases _ _ q5) q6 q7 q8 ?_
  refine ⟨s.heap.objs.size, [s.heap.objs.size], [s.heap.objs.size], a.cps.size, SignAt a, St, fun _ => true, fun i y => ∃ cc, a.cps[i]? = some cc ∧ y = .bool (pb cc), rfl, W, ?_, ?_, lim.extBut hx cP, ?_, ?_, ?_⟩
  · refine (W X.A hr.hd).frame _ _ _ st0 fun b hb u e => hx b u ?_ e
    rw [List.mem_singleton.mp hb]
    exact Nat.ne_of_gt ltP
  · intro b hb
    rw [List.mem_singleton.mp hb]
    exact Nat.lt_of_lt_of_le (by rw [big]; exact Nat.lt_succ_self _) hsz
  · rw [List.mem_singleton]
    exact Nat.ne_of_lt cL
  · intro href hh
    refine ⟨fun A' E' i v s₂ m₂ _ _ _ _ _ => ?_, fun A' E' i v s₂ m₂ _ hv _ hn hm hk => ?_⟩
    · rw [List.forIn_nil]
      exact wpAny_pure ⟨rfl, keeps_refl s₂⟩
    · obtain ⟨cc, u, hcc, rfl⟩ := hv
      refine wpAny_mono (hel _ A' E' cc u s₂ m₂ J.ok rfl rfl (fun b w e => ?_) hn hm) (fun y z r => ⟨⟨cc, hcc, r.1⟩, r.2⟩) fun _ _ e => e
      have lb := Heap.lt_size (J.bk b w e)
      exact hk b (List.mem_range.mpr (Nat.lt_of_lt_of_le (Nat.lt_of_lt_of_le lb (by rw [big]; exact Nat.le_succ _)) hsz)) (by rw [List.mem_singleton]; exact Nat.ne_of_lt lb) w (hh b w (bases b w e))
  · intro g h5 tk5 gs bare _ _ _ W5 at5
    have W6 := W5
    simp only [GxR.passing_true, List.length_range] at W6
    refine hQ g _ ⟨_, _, _, _, _, W6.in4_1, at5, fun j y sj Qj Ej hy hq => ?_, fun z mv => ?_⟩
    · obtain ⟨i, hi, cc, hcc, rfl⟩ := hy
      obtain ⟨_, ei⟩ := List.getElem?_eq_some_iff.mp hi
      rw [List.getElem_range] at ei
      subst ei
      have hq' : Qj (trF pb a.cps.toList j) sj := hq
      rw [trF_some (show a.cps.toList[j]? = some cc by rw [Array.getElem?_toList]; exact hcc)] at hq'
      exact wpAny_truthy_bool hq'
    · have off : ∀ b u, s.heap.get? b = some u → b ∉ h3.objs.size :: [s.heap.objs.size] := fun b u e hb => by
        have l1 := Heap.lt_size e
        have l2 : s.heap.objs.size < h3.objs.size := Nat.lt_of_lt_of_le (by rw [big]; exact Nat.lt_succ_self _) hsz
        rcases List.mem_cons.mp hb with r | r
        · rw [r] at l1; exact absurd (Nat.lt_trans l1 l2) (Nat.lt_irrefl _)
        · rw [List.mem_singleton.mp r] at l1; exact absurd l1 (Nat.lt_irrefl _)
      have five : ∀ b u, h3.get? b = some u → h5.get? b = some u := by assumption
      have L := inv_tab (more := more) (h' := z.heap) (g' := z.gens) (d' := z.drawn) (t' := z.toks) J hP (fun b u n e => mv.heap b u (off b u e) (five b u (kept b u n e))) (by rw [← em]; exact mv.heap P _ (off P _ atP) (five P _ h3P)) (PyProof.Rows.AllBare.movedS (J.bare.push bare) mv)
      rw [sh_eta s z mv.os] at L
      exact ⟨upd H P (.tbl (ps ++ more)), ⟨⟨ps ++ more, upd_same, by rw [← em]; exact ok'⟩, fun b n => upd_ne n⟩, L⟩
theorem gen_signs {c P : Addr} {elt iter : Expr} {x : Str} {px gpos : Pos} {scope : Scope} {pb : Nat → Bool} {te : TE} {k : Nat} {Q' : Value → Shared → Prop} {R : Str → Hp → Prop}
    (hr : Room k X.A) (TB : TabB X.base X.mg c P) (hcode : X.env.code = .ref c) (sc : GenS X.env scope x) (hi : PE X iter te) (hel : EltG X scope x elt pb) (hs : ∀ v, genFold iter X.env v = pure v)
    (I : L2.Inv X pins σ H s) (h : te σ H fun v G => ∃ a : Str, v = .str a ∧ TabG G P ∧ R a G) (hQ : ∀ a G g z, R a G → Ready X pins σ G P a pb g z → Q' (.ref g) z) :
    wpAny (model X.prog X.w) X.A (eval (.GeneratorExp elt [⟨.Name x px, iter, [], 0⟩] scope gpos) X.env) Q' X.xe s := by
  have room : X.A.depth < recursionLimit := by have := hr.dp; omega
  refine wpAny_GeneratorExp_walksQ hr.hd sc.co (closure_ok sc.free) sc.cell sc.dot sc.loc sc.kind room (thn (hi.run pins s σ H _ I h) fun u s1 ⟨v, G, J, rv, a, ev, ⟨ps, hP, ok⟩, hR⟩ => ?_) hs
  subst ev
  obtain ⟨t, rfl⟩ := id rv
  refine wpAny_pyIter_str fun o St W st0 => ?_
  -- the table, the sizes, what is kept
  have atP : s1.heap.get? P = some { cls := .none, data := .fields ps } := J.hok P _ hP
  have ltP : P < s1.heap.objs.size := Heap.lt_size atP
  have atP' : (s1.heap.push o).get? P = some { cls := .none, data := .fields ps } := Heap.get?_push_of_some _ atP
  have cd : PySem.W.CodeHd (s1.heap.push o) c P := TB.code.keeps fun b w e => Heap.get?_push_of_some _ (J.bk b w e)
  have lim : (s1.heap.push o).NoLimit := J.nolimit.push o
  have next : ∀ (code : Value) (h3 : Heap) (tk : Nat) (ps' more : Array Value), ps' = ps ++ more → Heap.ExtBut P (s1.heap.push o) h3 → (s1.heap.push o).objs.size ≤ h3.objs.size → h3.get? P = some { cls := .none, data := .fields ps' } → TriplesOk ps'.toList → _ :=
    fun code h3 tk ps' more em hx hsz h3P ok' => gen_go (elt := elt) hr TB sc hel J hP atP ltP W st0 code h3 tk ps' more em hx hsz h3P ok' lim fun g z rd => hQ a G g z hR rd
  refine ⟨lim, ?_⟩
  cases hf : codeAmong gpos ps.toList with
  | some cv => exact wpAny_genexprCode_hit hcode (cd.code atP' ok) hf (next cv (s1.heap.push o) s1.toks ps #[] (by simp) (Heap.ExtBut.refl _ _) (Nat.le_refl _) atP' ok)
  | none =>
    refine wpAny_genexprCodeX hcode (cd.code atP' ok) (cd.tab atP') hf fun c' h' tk hx hge hlt hco' _ htab' _ => ?_
    obtain ⟨o1, vs, f1, tf, fl, tg, inF, tx, tt, op, _, _, _, _, _, _, _, _, _, htr, _⟩ := hco'
    exact next _ h' tk _ _ rfl hx (Nat.le_trans hge (Nat.le_of_lt hlt)) htab'.2 htr
theorem pe_allG {c P : Addr} {elt iter : Expr} {x : Str} {px p pos gpos : Pos} {scope : Scope} {pb : Nat → Bool} {te : TE} {k : Nat} (hr : Room k X.A) (hg : Gl X "all") (hm : X.mg "all" = none) (TB : TabB X.base X.mg c P) (hcode : X.env.code = .ref c)
    (sc : GenS X.env scope x) (hi : PE X iter te) (hel : EltG X scope x elt pb) (hs : ∀ v, genFold iter X.env v = pure v)
    (he : starEach [.GeneratorExp elt [⟨.Name x px, iter, [], 0⟩] scope gpos] X.env = (false, eval (.GeneratorExp elt [⟨.Name x px, iter, [], 0⟩] scope gpos) X.env) :: starEach [] X.env := by rfl) :
    PE X (.Call (.Name "all" p) [.GeneratorExp elt [⟨.Name x px, iter, [], 0⟩] scope gpos] [] pos) (tAllS P pb te) := by
  constructor
  intro pins s σ H Q I hyp
  have hb : bootBuiltins "all" = some (.builtin "all") := by decide +kernel
  refine wpAny_Call_Name_kw (ld_blt I hg hm hb (PyProof.Rows.callWith_builtin1 ?_ he (by rfl)))
  rw [he]
  show wpAny _ _ (spliced ((false, eval (.GeneratorExp elt [⟨.Name x px, iter, [], 0⟩] scope gpos) X.env) :: backTo pos (starEach [] X.env))) _ _ s
  refine Calls.spliced_cons (gen_signs (R := fun a G => ∀ G', Tabbed P G G' → Q (.bl (a.cps.toList.all pb)) G') hr TB hcode sc hi hel hs I hyp fun a G g z hR rd => Calls.spliced_nil ?_)
  obtain ⟨fp, wr, Gs, F, St, W, st, tr, done⟩ := rd
  refine call_all_walkS (W.self 0 _ _ _ st ⟨g, fp, wr, Gs, _, F, St, _, rfl, W, st, tr, fun z' mv => ?_⟩)
  obtain ⟨G', tb, L⟩ := done z' mv
  refine ⟨.bl _, G', L, rfl, ?_⟩
  rw [all_signs a pb]
  exact hR G' tb
/-- x in D, D a dict that the top has written -/
theorem elt_in {scope : Scope} {x y : Str} {pb : Nat → Bool} {d : Addr} {es : Array DictEntry} {n : Nat} {p1 p2 p3 : Pos} (D : KDict X.K X.w d es n) (gy : X.mg y = some (.ref d)) (hp : ∀ c, ∃ r, PySem.W.nsIn X.K d (S [c]) = some r ∧ r.isSome = pb c)
    (hk : scope.kind = .function) (hl : scope.names.lookup x = some .local) (hy : scope.names.lookup y = some .globalImplicit) (hd : (x == ("__debug__" : Str)) = false := by decide) (hd2 : (y == ("__debug__" : Str)) = false := by decide) :
    EltG X scope x (.Compare (.Name x p1) [.In] [.Name y p2] p3) pb := by
  intro cenv A' E' c t z m ok hs hg hb hn hm
  have kind : cenv.scope.kind = .function := by rw [hs]; exact hk
  refine wpAny_Compare1 (wpAny_Name (wpAny_loadName_local kind (show cenv.scope.names.lookup x = some .local by rw [hs]; exact hl) hn hm ?_) hd)
  refine Calls.Name_function_global kind (show cenv.scope.names.lookup y = some .globalImplicit by rw [hs]; exact hy) (Calls.loadGlobal_global (by rw [hg, ok.glob]; exact ok.mod.glob.keeps hb) gy ?_) hd2
  obtain ⟨r, e1, e2⟩ := hp c
  refine wpAny_in_of (PySem.strKind_is X.prog X.w (S [c]) t) D.low (PySem.W.mapOf_K (prog := X.prog) (ok.mod.kin.keeps hb) D.at_ D.lit) ?_
  rw [PySem.W.find_K D.at_ e1, e2]
  exact ⟨rfl, keeps_tok _ _⟩
end
/-! ### ''.join of texts, comprehensions over a text -/
theorem join_empty (ys : List (List Nat)) : Txt.join (S []) (ys.map S) = S ys.flatten := by
  have go : ∀ (zs : List (List Nat)) (a : Array Nat), ((zs.map S).foldl (fun acc p => acc ++ (S []).cps ++ p.cps) a).toList = a.toList ++ zs.flatten := by
    intro zs
    induction zs with
    | nil => intro a; simp
    | cons z r ih =>
      intro a
      rw [List.map_cons, List.foldl_cons, ih]
      simp [S]
  show Builtin.Str.glued (S []) (ys.map S) = _
  unfold Builtin.Str.glued
  cases ys with
  | nil => rfl
  | cons y r =>
    have := go r (S y).cps
    show (⟨(r.map S).foldl (fun acc p => acc ++ (S []).cps ++ p.cps) (S y).cps⟩ : Str) = _
    unfold S at this ⊢
    congr 1
    apply Array.toList_inj.mp
    rw [this]
    simp
theorem join_signs (l : List Nat) : Txt.join (S []) (l.map fun c => S [c]) = S l := by
  have := join_empty (l.map fun c => [c])
  rw [List.map_map] at this
  rw [show (l.map fun c => S [c]) = l.map (S ∘ fun c => [c]) from rfl, this]
  congr 1
  induction l with
  | nil => rfl
  | cons c r ih => rw [List.map_cons, List.flatten_cons, ih (join_empty _ |>.trans rfl |> fun h => by rw [List.map_map] at h; exact h)]; rfl
theorem sum_ones (l : List Nat) : ((l.map fun c => S [c]).map (·.length)).sum = l.length := by
  induction l with
  | nil => rfl
  | cons c r ih =>
    rw [List.map_cons, List.map_cons, List.sum_cons, ih, S_len, List.length_cons]
    show 1 + r.length = r.length + 1
    omega
theorem lc_str {l : List Nat} {g : TG} {tt : TT} {te : TE} {vs : List Nat} {σ : L2.St} {H1 : Hp} {D : Addr} {Qd : Hp → Prop} (Pv : Nat → Hp → Prop) (h0 : Pv 0 (upd H1 D (.lst [])))
    (hs : ∀ i c H, l[i]? = some c → Pv i H → g (.str (S [c])) (wipe σ vs) H fun σ2 H2 => wipe σ2 vs = wipe σ vs ∧ tt σ2 H2 fun b H3 =>
      if b = true then te σ2 H3 fun y H4 => ∃ acc, H4 D = some (.lst acc) ∧ acc.length < sizeLine ∧ Pv (i + 1) (upd H4 D (.lst (acc ++ [y]))) else Pv (i + 1) H3) (hd : ∀ H, Pv l.length H → Qd H) :
    ∃ W : Nat → Nat → Hp → Prop, (∃ m, W 0 m (upd H1 D (.lst []))) ∧ ∀ i m H, W i m H →
      ((Its (S l)).stop i H ∧ Qd H) ∨ ((Its (S l)).go i H ∧ ∃ Nx : Hp → Prop, (∀ H', Nx H' → ∃ m', m' < m ∧ W (i + 1) m' H') ∧ ∀ x H', (Its (S l)).yld i H x H' → g x (wipe σ vs) H' fun σ2 H2 => wipe σ2 vs = wipe σ vs ∧ tt σ2 H2 fun b H3 =>
        if b = true then te σ2 H3 fun y H4 => ∃ acc, H4 D = some (.lst acc) ∧ acc.length < sizeLine ∧ Nx (upd H4 D (.lst (acc ++ [y]))) else Nx H3) := by
  refine ⟨fun i m H => m = l.length - i ∧ i ≤ l.length ∧ Pv i H, ⟨l.length, by simp, Nat.zero_le _, h0⟩, ?_⟩
  rintro i m H ⟨rfl, hi, p⟩
  by_cases hlt : i < l.length
  · refine .inr ⟨by show i < (S l).cps.size; rw [S_size]; exact hlt, Pv (i + 1), fun H' p' => ⟨l.length - (i + 1), by omega, rfl, hlt, p'⟩, fun x H' y => ?_⟩
    obtain ⟨e, c, hc, rfl⟩ := y
    subst e
    rw [S_get] at hc
    exact hs i c _ hc p
  · have e : i = l.length := by omega
    subst e
    exact .inl ⟨by show (S l).cps.size ≤ l.length; rw [S_size]; exact Nat.le_refl _, hd H p⟩
/-- a def whose code object is told -/
theorem okC {P : Program} {w : World} {K : PySem.W.Frag} {mg : Str → Option Value} {base : Heap} {x qual : Str} {st : Stmt} {f c : Addr} {fd : FuncData} {N ps : List Str} {k : Nat} {sp : Sp} (F : Fun K x qual st f fd) (hc : fd.code = .ref c) (S : FnScope N ps (defScope st)) (len : ∀ vs H Q E, sp vs H Q E → vs.length = ps.length)
    (body : ∀ (A : Around) (outer : List Env) (s : Shared) (H : Hp) (vs : List V) (Q : VK) (E : XK), Room k (A.deeper (PyProof.Rows.envOfC qual (defScope st) s.heap.objs.size f (.ref c))) → sp vs H Q E →
      ∃ t, PSs (cxOf CX0 P w K mg base N qual (defScope st) f (.ref c) A outer s H E).nox (defBody st) t ∧ t { nx := fun _ H' => Q .non H', rt := Q } (start N vs) H) : FnOk P w K mg base CX0 (k + 1) f fd ps sp := by
  obtain ⟨_, _, _, _, _, _, cdv, _, _, rfl, lk, hcd⟩ := F.ex
  have e : cdv = .ref c := hc
  subst e
  refine fn_of lk hcd S len fun A outer s H vs Q E hr h => ?_
  obtain ⟨t, a, b⟩ := body A outer s H vs Q E hr h
  exact ⟨t, a.nox, b⟩

/-! ### a display of one entry whose key is a tuple -/
def tDisp1T (tk tv : TE) : TE := fun σ H Q => ∀ p, H p = none → tk σ (upd H p (.dT [])) fun y H1 => tv σ H1 fun v H2 => H2 p = some (.dT []) ∧ ∃ (k : List Key) (b : Addr) (v' : V), [(y, v)] = [(.ref b, v')] ∧ H2 b = some (.tup (k.map kV)) ∧ Q (.ref p) (upd H2 p (.dT [(k, v')]))
theorem pe_disp1T {X : Cx} {pos : Pos} {ke ve : Expr} {tk tv : TE} (hu : (tupleKind (mixKind X.prog X.w)).room X.A) (hk : PE X ke tk) (hv : PE X ve tv) : PE X (.Dict [some ke] [ve] pos) (tDisp1T tk tv) := by
  constructor
  intro pins s σ H Q I q
  have new := I.hok.fresh (Nat.le_refl s.heap.objs.size)
  have I1 := I.laid (a := s.heap.objs.size) (o := .dT []) (h' := s.heap.push { cls := .type "dict", data := .dict #[] }) (t' := s.toks) (fun b u z => Heap.get?_push_of_some _ z) (Nat.le_refl _) (dt_empty s.heap I.big)
  have hh := (pps_cons (pos := pos) hk hv (pps_nil (X := X))).run pins _ σ _ (fun ps H2 => H2 s.heap.objs.size = some (.dT []) ∧ ∃ (k : List Key) (b : Addr) (v : V), ps = [(.ref b, v)] ∧ H2 b = some (.tup (k.map kV)) ∧ Q (.ref s.heap.objs.size) (upd H2 s.heap.objs.size (.dT [(k, v)]))) I1 (q _ new)
  rw [arm_eval_Dict, zip_pairTrees [some ke] [ve] X.env pos rfl rfl, dictDisplay_pairs _ (by simp [pairTrees]) (by simp [pairTrees])]
  refine wpAny_bind (wpAny_standAt (wpAny_bind (wpAny_subDictH (knd := tupleKind (mixKind X.prog X.w)) hu (by simp [pairTrees]) (thn hh fun ws s2 h2 => ?_))))
  obtain ⟨ps, H2, I2, rel, e, k, b, v, ep, eb, q2⟩ := h2
  subst ep
  cases rel with
  | @cons _ u _ us r1 r2 =>
    cases r2
    obtain ⟨ub, uv⟩ := u
    obtain ⟨r3, r4⟩ := r1
    cases (show ub = Value.ref b from r3)
    obtain ⟨_, hd, xs, r0, dd⟩ := dt_of I2.hok e
    cases r0
    refine ⟨[(k, b, uv)], ⟨rfl, rfl, key_of I2.hok eb, trivial⟩, dd, fun h' tk dd' hs => wpAny_pure ?_⟩
    refine ⟨.ref s.heap.objs.size, _, ?_, rfl, q2⟩
    obtain ⟨o, es, ep, ho, h2, h3, h4, _, h5⟩ := dd'
    refine d_write I2 (by rw [e]; exact True.intro) hs ⟨o, ho⟩ ⟨?_, hd, [(k, b, uv)], ?_, o, es, ep, ho, h2, h3, h4, h5⟩
    · rw [sizeLine_eq]; show 1 ≤ _; omega
    · refine .cons ⟨rfl, ?_, r4⟩ .nil
      show upd H2 s.heap.objs.size (.dT [(k, v)]) b = _
      rw [upd_ne (ne_of eb e (fun z => nomatch z))]
      exact eb
def top (i : Nat) : Stmt := PySem.Challenge.pw_ropedance_k24_places.main.body.getD i (.Pass ⟨0, 0, 0, 0⟩)
abbrev s_quotients : Stmt := top 7
theorem sc_quotients : FnScope ["fraction", "p", "q", "parts", "rest"] ["fraction"] (defScope s_quotients) := ⟨rfl, rfl, rfl, by decide +kernel, rfl, by decide +kernel, by decide +kernel⟩
abbrev s_from_quotients : Stmt := top 8
theorem sc_from_quotients : FnScope ["parts", "p", "q", "part"] ["parts"] (defScope s_from_quotients) := ⟨rfl, rfl, rfl, by decide +kernel, rfl, by decide +kernel, by decide +kernel⟩
abbrev s_place : Stmt := top 11
theorem sc_place : FnScope ["fraction", "many", "fewer", "greater", "start"] ["fraction"] (defScope s_place) := ⟨rfl, rfl, rfl, by decide +kernel, rfl, by decide +kernel, by decide +kernel⟩
abbrev s_among_positive : Stmt := top 12
theorem sc_among_positive : FnScope ["fraction", "moves", "many", "fewer", "beyond", "onward"] ["fraction"] (defScope s_among_positive) := ⟨rfl, rfl, rfl, by decide +kernel, rfl, by decide +kernel, by decide +kernel⟩
abbrev s_later : Stmt := top 13
theorem sc_later : FnScope ["many", "fewer", "by", "one", "before", "k"] ["many", "fewer", "by"] (defScope s_later) := ⟨rfl, rfl, rfl, by decide +kernel, rfl, by decide +kernel, by decide +kernel⟩
abbrev s_fraction_at : Stmt := top 14
theorem sc_fraction_at : FnScope ["place", "many", "fewer", "start", "greater", "p", "q"] ["place"] (defScope s_fraction_at) := ⟨rfl, rfl, rfl, by decide +kernel, rfl, by decide +kernel, by decide +kernel⟩
abbrev s_positive_at : Stmt := top 15
theorem sc_positive_at : FnScope ["greater", "many", "fewer", "moves", "beyond"] ["greater", "many", "fewer"] (defScope s_positive_at) := ⟨rfl, rfl, rfl, by decide +kernel, rfl, by decide +kernel, by decide +kernel⟩
abbrev s_law_tape : Stmt := top 17
theorem sc_law_tape : FnScope ["script", "k", "cell"] ["script", "k"] (defScope s_law_tape) := ⟨rfl, rfl, rfl, by decide +kernel, rfl, by decide +kernel, by decide +kernel⟩
abbrev s_law_take : Stmt := top 18
theorem sc_law_take : FnScope ["tape", "many", "got", "mixed"] ["tape", "many"] (defScope s_law_take) := ⟨rfl, rfl, rfl, by decide +kernel, rfl, by decide +kernel, by decide +kernel⟩
abbrev s_law_called : Stmt := top 19
theorem sc_law_called : FnScope ["value", "letter", "p", "q"] ["value", "letter"] (defScope s_law_called) := ⟨rfl, rfl, rfl, by decide +kernel, rfl, by decide +kernel, by decide +kernel⟩
abbrev s_law_same : Stmt := top 20
theorem sc_law_same : FnScope ["told", "due", "k"] ["told", "due"] (defScope s_law_same) := ⟨rfl, rfl, rfl, by decide +kernel, rfl, by decide +kernel, by decide +kernel⟩
abbrev s_law_levels : Stmt := top 21
theorem sc_law_levels : FnScope ["most", "known", "levels", "turn", "level", "value", "letter", "following"] ["most"] (defScope s_law_levels) := ⟨rfl, rfl, rfl, by decide +kernel, rfl, by decide +kernel, by decide +kernel⟩
abbrev s_law_sorted : Stmt := top 22
theorem sc_law_sorted : FnScope ["level", "rows", "value", "spot", "one"] ["level"] (defScope s_law_sorted) := ⟨rfl, rfl, rfl, by decide +kernel, rfl, by decide +kernel, by decide +kernel⟩
abbrev s_law_refused : Stmt := top 23
theorem sc_law_refused : FnScope ["index", "e", "others"] ["index"] (defScope s_law_refused) := ⟨rfl, rfl, rfl, by decide +kernel, rfl, by decide +kernel, by decide +kernel⟩
abbrev s_law : Stmt := top 24
theorem sc_law : FnScope ["script", "tape", "rows", "level", "k"] ["script"] (defScope s_law) := ⟨rfl, rfl, rfl, by decide +kernel, rfl, by decide +kernel, by decide +kernel⟩
/-! ### heaps, tapes, pairs -/
/-- all that was tracked is as it was, but what stands at a -/
def But (a : Addr) (H H' : Hp) : Prop := ∀ b o, b ≠ a → H b = some o → H' b = some o
theorem But.refl (a : Addr) (H : Hp) : But a H H := fun _ _ _ h => h
theorem But.trans {a : Addr} {H H1 H2 : Hp} (x : But a H H1) (y : But a H1 H2) : But a H H2 := fun b o n h => y b o n (x b o n h)
theorem But.of {a : Addr} {H H' : Hp} (x : Same H H') : But a H H' := fun b o _ h => x b o h
theorem But.upd {a : Addr} {H : Hp} {o : HO} : But a H (upd H a o) := fun b u n h => by rw [upd_ne n]; exact h
theorem But.same {a : Addr} {H0 H H' : Hp} (x : But a H H') (s : Same H0 H) (n : H0 a = none) : Same H0 H' := fun b o h => x b o (ne_of_none h n) (s b o h)
theorem same_new {H : Hp} {p : Addr} (h : H p = none) (o : HO) : Same H (L2.upd H p o) := fun b u q => by rw [upd_ne (ne_of_none q h)]; exact q
theorem Same.tup {K : PySem.W.Frag} {H H' : Hp} {a : Addr} {xs : List V} (e : Same H H') (h : SqT K H a xs) : SqT K H' a xs := by
  rcases h with (h | ⟨o, h⟩) | h
  · exact .inl (.inl (e _ _ h))
  · exact .inl (.inr ⟨o, e _ _ h⟩)
  · exact .inr h
def Tape (H : Hp) (a : Addr) : Prop := ∃ (t c s : Int) (b : Bool), H a = some (.lst [.int t, .bl b, .int c, .int s])
theorem Tape.same {H H' : Hp} {a : Addr} (t : Tape H a) (s : Same H H') : Tape H' a := by
  obtain ⟨x, c, y, b, h⟩ := t
  exact ⟨x, c, y, b, s _ _ h⟩
theorem Tape.ne {H : Hp} {a p : Addr} (t : Tape H a) (h : H p = none) : p ≠ a := by
  obtain ⟨x, c, y, b, e⟩ := t
  exact fun z => by rw [z, e] at h; cases h
theorem But.tup {K : PySem.W.Frag} {a : Addr} {H H' : Hp} {p : Addr} {xs : List V} (x : But a H H') (t : Tape H a) (h : SqT K H p xs) : SqT K H' p xs := by
  obtain ⟨y, c, z, b, e⟩ := t
  rcases h with (h | ⟨o, h⟩) | h
  · exact .inl (.inl (x _ _ (ne_of h e (by intro q; cases q)) h))
  · exact .inl (.inr ⟨o, x _ _ (ne_of h e (by intro q; cases q)) h⟩)
  · exact .inr h
/-- a dance: the letters T, U, R -/
def Lets (l : List Nat) : Prop := ∀ c ∈ l, c = 84 ∨ c = 85 ∨ c = 82
theorem atI_mk {α : Type} {xs : List α} {k : Int} (h0 : 0 ≤ k) (h1 : k < (xs.length : Int)) : ∃ v, atI xs k = some v ∧ v ∈ xs := by
  obtain ⟨n, rfl⟩ := Int.eq_ofNat_of_zero_le h0
  have h : n < xs.length := by omega
  exact ⟨xs[n], atI_nat (List.getElem?_eq_getElem h), List.getElem_mem h⟩
theorem atI_ints {ns : List Int} {k : Int} (h0 : 0 ≤ k) (h1 : k < (ns.length : Int)) : ∃ v : Int, atI (ns.map V.int) k = some (.int v) := by
  obtain ⟨v, e, m⟩ := atI_mk (xs := ns.map V.int) h0 (by rw [List.length_map]; exact h1)
  obtain ⟨i, _, rfl⟩ := List.mem_map.mp m
  exact ⟨i, e⟩
/-! ### a def of the text with its promise, ready to be called -/
structure Dfn (P : Program) (w : World) (K : PySem.W.Frag) (mg : Str → Option Value) (base : Heap) (x : Str) (k : Nat) (ps : List Str) (sp : Sp) : Prop where
  ex : ∃ (f : Addr) (fd : FuncData), FnOk P w K mg base CX0 k f fd ps sp ∧ mg x = some (.ref f) ∧ PySem.W.keepIn K (.ref f) = true ∧ Binds K fd ps []
theorem pe_do {X : Cx} {x : Str} {j : Nat} {ps : List Str} {sp : Sp} {e : Expr} {es : List Expr} {t : TA} {p pos : Pos} (D : Dfn X.prog X.w X.K X.mg X.base x j ps sp) (hr : Room j X.A)
    (ha : PA X (e :: es) t) (hg : Gl X x := by rfl) (hdb : (x == ("__debug__" : Str)) = false := by decide) (he : starEach (e :: es) X.env = (false, eval e X.env) :: starEach es X.env := by rfl) (hpl : (backTo pos (starEach es X.env)).any (·.1) = false := by rfl) :
    PE X (.Call (.Name x p) (e :: es) [] pos) (tCall sp [] E0 t) := by
  obtain ⟨f, fd, ok, mg, kp, bd⟩ := D.ex
  exact pe_call ok hr hg mg kp bd .nil pass0 ha hdb he hpl
theorem Dfn.mono {P : Program} {w : World} {K : PySem.W.Frag} {mg : Str → Option Value} {base : Heap} {x : Str} {j k : Nat} {ps : List Str} {sp : Sp} (D : Dfn P w K mg base x j ps sp) (h : j ≤ k) : Dfn P w K mg base x k ps sp := by
  obtain ⟨f, fd, ok, mg, kp, bd⟩ := D.ex
  exact ⟨f, fd, ok.mono h, mg, kp, bd⟩
section
variable {P : Program} {w : World} {K : PySem.W.Frag} {mg : Str → Option Value} {base : Heap} {f : Addr} {fd : FuncData}
/-! ### the tape of a law -/
def spTape (K : PySem.W.Frag) : Sp := fun vs H Q _ => ∃ (a : Addr) (ns : List Int) (k : Int), vs = [.ref a, .int k] ∧ SqL K H a (ns.map V.int) ∧ 0 ≤ k ∧ ∀ p H', Same H H' → H p = none → Tape H' p → Q (.ref p) H'
theorem ok_tape (F : Fun K "_law_tape" "_law_tape" s_law_tape f fd) (ml : mg "len" = none) (ma : mg "abs" = none) (mi : mg "int" = none) : FnOk P w K mg base CX0 1 f fd ["script", "k"] (spTape K) := by
  refine F.ok sc_law_tape (fun vs H Q E h => ?_) (fun cdv A outer s H vs Q E hr h => ?_)
  · obtain ⟨a, ns, k, rfl, _⟩ := h
    rfl
  obtain ⟨a, ns, k, rfl, hS, hk, q⟩ := h
  refine ⟨_, pss_cons (ps_set (i := 2) sc_law_tape.nd rfl (.inl rfl) pe_int)
    (pss_cons (ps_if (pt_cmpR op_lt (pv 1) (pe_callB call_len_seq rfl ml PySem.boot_len (pa_cons (pv 0) pa_nil)) (nomark _))
        (pss_one (ps_set (i := 2) sc_law_tape.nd rfl (.inl rfl) (pe_callB call_abs rfl ma (by decide +kernel) (pa_cons (pe_ix ix_list (pv 0) (pv 1) (fun _ _ => rfl)) pa_nil)))) pss_nil)
    (pss_one (ps_ret (pe_lst (pa_cons (pv 2) (pa_cons (pe_cmpR op_ge (pv 2) (pe_op op_pow pe_int pe_int) (nomark _)) (pa_cons pe_int
      (pa_cons (pe_op op_modN (pe_callTy call_int1 rfl mi (by decide +kernel) (pa_cons (pe_op op_add (pe_op op_mul (pv 2) pe_int) (pv 1)) pa_nil)) pe_int) pa_nil)))))))), ?_⟩
  refine ⟨_, rfl, _, rfl, a, _, rfl, .inl hS, _, _, rfl, rfl, _, rfl, ?_⟩
  refine ite2 (fun c => ?_) (fun c => ?_)
  · have c' : k < (((ns.map V.int).length : Nat) : Int) := of_decide_eq_true c
    rw [List.length_map] at c'
    obtain ⟨v, hv⟩ := atI_ints hk c'
    refine ⟨_, rfl, _, rfl, a, _, _, _, rfl, rfl, hS, hv, _, rfl, ?_⟩
    refine ⟨_, rfl, _, rfl, _, _, rfl, rfl, ⟨by decide, by decide, by decide⟩, _, _, rfl, rfl, _, rfl, _, _, rfl, rfl, .inr ⟨by decide, by decide⟩, _, rfl, _, _, rfl, rfl, .inl ⟨_, rfl, _, _, rfl, rfl, (show (2147483647 : Int) ≠ 0 by decide), ?_⟩⟩
    exact ⟨(by show 4 ≤ sizeLine; decide), fun p hp => q p _ (same_new hp _) hp ⟨_, _, _, _, upd_same⟩⟩
  · refine ⟨_, rfl, _, rfl, _, _, rfl, rfl, ⟨by decide, by decide, by decide⟩, _, _, rfl, rfl, _, rfl, _, _, rfl, rfl, .inr ⟨by decide, by decide⟩, _, rfl, _, _, rfl, rfl, .inl ⟨_, rfl, _, _, rfl, rfl, (show (2147483647 : Int) ≠ 0 by decide), ?_⟩⟩
    exact ⟨(by show 4 ≤ sizeLine; decide), fun p hp => q p _ (same_new hp _) hp ⟨_, _, _, _, upd_same⟩⟩
def spTake : Sp := fun vs H Q _ => ∃ (a : Addr) (m : Int), vs = [.ref a, .int m] ∧ Tape H a ∧ 0 < m ∧ m < 1073741824 ∧ ∀ r H', 0 ≤ r → r < m → But a H H' → Tape H' a → Q (.int r) H'
theorem ok_take (F : Fun K "_law_take" "_law_take" s_law_take f fd) (mi : mg "int" = none) : FnOk P w K mg base CX0 1 f fd ["tape", "many"] spTake := by
  refine F.ok sc_law_take (fun vs H Q E h => ?_) (fun cdv A outer s H vs Q E hr h => ?_)
  · obtain ⟨a, m, rfl, _⟩ := h
    rfl
  obtain ⟨a, m, rfl, ⟨t, c, sd, b, hT⟩, h0, h1, q⟩ := h
  refine ⟨_, pss_cons (ps_if (PW.pt (pw_and (pt_val (pe_ix ix_list (pv 0) pe_int (fun _ _ => rfl))) (pw_and1 (pt_cmpR op_gt (pe_ix ix_list (pv 0) pe_int (fun _ _ => rfl)) pe_int (nomark _)))))
      (pss_cons (ps_set (i := 2) sc_law_take.nd rfl (.inl rfl) (pe_op op_modN (pe_callTy call_int1 rfl mi (by decide +kernel) (pa_cons (pe_ix ix_list (pv 0) pe_int (fun _ _ => rfl)) pa_nil)) (pv 1)))
      (pss_cons (ps_asg (pe_op op_fdivN (pe_ix ix_list (pv 0) pe_int (fun _ _ => rfl)) (pv 1)) (pg_sub (pv 0) pe_int set_list))
      (pss_one (ps_ret (pv 2))))) pss_nil)
    (pss_cons (ps_asg (pe_op op_add (pe_ix ix_list (pv 0) pe_int (fun _ _ => rfl)) pe_int) (pg_sub (pv 0) pe_int set_list))
    (pss_cons (ps_set (i := 3) sc_law_take.nd rfl (.inl rfl) (pe_op op_modN (pe_callTy call_int1 rfl mi (by decide +kernel) (pa_cons (pe_op op_add (pe_op op_add (pe_op op_mul (pe_ix ix_list (pv 0) pe_int (fun _ _ => rfl)) pe_int) (pe_op op_mul (pe_ix ix_list (pv 0) pe_int (fun _ _ => rfl)) pe_int)) pe_int) pa_nil)) pe_int))
    (pss_cons (ps_set (i := 3) sc_law_take.nd rfl (.inl rfl) (pe_op op_modN (pe_callTy call_int1 rfl mi (by decide +kernel) (pa_cons (pe_op op_add (pe_op op_add (pe_op op_mul (pv 3) pe_int) (pe_op op_mul (pe_op op_fdivN (pv 3) pe_int) pe_int)) (pe_ix ix_list (pv 0) pe_int (fun _ _ => rfl))) pa_nil)) pe_int))
    (pss_one (ps_ret (pe_op op_modN (pe_callTy call_int1 rfl mi (by decide +kernel) (pa_cons (pe_op op_fdivN (pv 3) pe_int) pa_nil)) (pv 1))))))), ?_⟩
  have rest : ∀ x : Int, 0 ≤ x.fmod m ∧ x.fmod m < m := fun x => by
    rw [Int.fmod_eq_emod_of_nonneg x (Int.le_of_lt h0)]
    exact ⟨Int.emod_nonneg x (by omega), Int.emod_lt_of_pos x h0⟩
  refine ⟨_, rfl, a, _, _, _, rfl, rfl, SqL.of hT, rfl, b, rfl, ?_⟩
  refine ite2 (fun hb => ?_) (fun hb => ?_)
  · refine ⟨_, rfl, a, _, _, _, rfl, rfl, SqL.of hT, rfl, _, _, rfl, rfl, _, rfl, ?_⟩
    refine ite2 (fun hc => ?_) (fun hc => ?_)
    · refine ⟨_, rfl, a, _, _, _, rfl, rfl, SqL.of hT, rfl, .inl ⟨_, rfl, _, rfl, _, _, rfl, rfl, (show m ≠ 0 by omega), ?_⟩⟩
      refine ⟨_, rfl, a, _, _, _, rfl, rfl, SqL.of hT, rfl, _, rfl, _, _, rfl, rfl, (show m ≠ 0 ∧ m.natAbs < 1073741824 by omega), _, rfl, a, _, _, _, rfl, rfl, hT, rfl, ?_⟩
      exact ⟨_, rfl, q _ _ (rest _).1 (rest _).2 But.upd ⟨_, _, _, _, upd_same⟩⟩
    · refine ⟨_, rfl, a, _, _, _, rfl, rfl, SqL.of hT, rfl, _, _, rfl, rfl, _, rfl, a, _, _, _, rfl, rfl, hT, rfl, ?_⟩
      refine ⟨_, rfl, a, _, _, _, rfl, rfl, SqL.of upd_same, rfl, _, _, rfl, rfl, .inr ⟨by decide, by decide⟩, _, rfl, a, _, _, _, rfl, rfl, SqL.of upd_same, rfl, _, _, rfl, rfl, .inr ⟨by decide, by decide⟩, _, _, rfl, rfl, _, _, rfl, rfl, .inl ⟨_, rfl, _, _, rfl, rfl, (show (2147483647 : Int) ≠ 0 by decide), ?_⟩⟩
      refine ⟨_, rfl, _, _, rfl, rfl, .inr ⟨by decide, by decide⟩, _, rfl, _, _, rfl, rfl, ⟨by decide, by decide⟩, _, _, rfl, rfl, .inr ⟨by decide, by decide⟩, _, _, rfl, rfl, _, rfl, a, _, _, _, rfl, rfl, SqL.of upd_same, rfl, _, _, rfl, rfl, .inl ⟨_, rfl, _, _, rfl, rfl, (show (2147483399 : Int) ≠ 0 by decide), ?_⟩⟩
      exact ⟨_, rfl, _, _, rfl, rfl, ⟨by decide, by decide⟩, .inl ⟨_, rfl, _, rfl, _, _, rfl, rfl, (show m ≠ 0 by omega), q _ _ (rest _).1 (rest _).2 But.upd ⟨_, _, _, _, upd_same⟩⟩⟩
  · refine ⟨_, rfl, a, _, _, _, rfl, rfl, SqL.of hT, rfl, _, _, rfl, rfl, _, rfl, a, _, _, _, rfl, rfl, hT, rfl, ?_⟩
    refine ⟨_, rfl, a, _, _, _, rfl, rfl, SqL.of upd_same, rfl, _, _, rfl, rfl, .inr ⟨by decide, by decide⟩, _, rfl, a, _, _, _, rfl, rfl, SqL.of upd_same, rfl, _, _, rfl, rfl, .inr ⟨by decide, by decide⟩, _, _, rfl, rfl, _, _, rfl, rfl, .inl ⟨_, rfl, _, _, rfl, rfl, (show (2147483647 : Int) ≠ 0 by decide), ?_⟩⟩
    refine ⟨_, rfl, _, _, rfl, rfl, .inr ⟨by decide, by decide⟩, _, rfl, _, _, rfl, rfl, ⟨by decide, by decide⟩, _, _, rfl, rfl, .inr ⟨by decide, by decide⟩, _, _, rfl, rfl, _, rfl, a, _, _, _, rfl, rfl, SqL.of upd_same, rfl, _, _, rfl, rfl, .inl ⟨_, rfl, _, _, rfl, rfl, (show (2147483399 : Int) ≠ 0 by decide), ?_⟩⟩
    exact ⟨_, rfl, _, _, rfl, rfl, ⟨by decide, by decide⟩, .inl ⟨_, rfl, _, rfl, _, _, rfl, rfl, (show m ≠ 0 by omega), q _ _ (rest _).1 (rest _).2 But.upd ⟨_, _, _, _, upd_same⟩⟩⟩
/-! ### dances, fractions -/
theorem six_letters {r : Int} (h0 : 0 ≤ r) (h1 : r < 6) : ∃ c, atI (("TTUURR" : Str)).cps.toList r = some c ∧ (c = 84 ∨ c = 85 ∨ c = 82) := by
  have e : (("TTUURR" : Str)).cps.toList = [84, 84, 85, 85, 82, 82] := by decide +kernel
  rw [e]
  obtain ⟨c, hc, m⟩ := atI_mk (xs := [84, 84, 85, 85, 82, 82]) h0 h1
  refine ⟨c, hc, ?_⟩
  simp at m
  omega
theorem four_sizes {r : Int} (h0 : 0 ≤ r) (h1 : r < 4) : ∃ z : Int, atI [V.int 1, .int 1, .int 3, .int 9] r = some (.int z) ∧ 1 ≤ z ∧ z ≤ 9 := by
  obtain ⟨c, hc, m⟩ := atI_mk (xs := [V.int 1, .int 1, .int 3, .int 9]) h0 h1
  simp at m
  rcases m with rfl | rfl | rfl
  · exact ⟨1, hc, by decide, by decide⟩
  · exact ⟨3, hc, by decide, by decide⟩
  · exact ⟨9, hc, by decide, by decide⟩
theorem e_empty : (("" : Str)) = S [] := by decide +kernel
theorem sizeLine_big : 16777216 ≤ sizeLine := by rw [sizeLine_eq]; decide
theorem fits {n : Nat} (h : n ≤ 16777216) : n ≤ sizeLine := Nat.le_trans h sizeLine_big
end
section
variable {P : Program} {w : World} {K : PySem.W.Frag} {mg : Str → Option Value} {base : Heap} {f : Addr} {fd : FuncData}
/-! ### the same data -/
inductive Dt where
  | int (i : Int) | str (z : Str) | non | tup (xs : List Dt) | lst (xs : List Dt)
/-- v stands for d, in at most n levels -/
def Is (H : Hp) : Nat → V → Dt → Prop
  | _, v, .int i => v = .int i
  | _, v, .str z => v = .str z
  | _, v, .non => v = .non
  | 0, _, .tup _ => False
  | 0, _, .lst _ => False
  | n + 1, v, .tup ds => ∃ (a : Addr) (xs : List V), v = .ref a ∧ H a = some (.tup xs) ∧ xs.length = ds.length ∧ ds.length ≤ 1000000 ∧ ∀ (i : Nat) (x : V) (d : Dt), xs[i]? = some x → ds[i]? = some d → Is H n x d
  | n + 1, v, .lst ds => ∃ (a : Addr) (xs : List V), v = .ref a ∧ H a = some (.lst xs) ∧ xs.length = ds.length ∧ ds.length ≤ 1000000 ∧ ∀ (i : Nat) (x : V) (d : Dt), xs[i]? = some x → ds[i]? = some d → Is H n x d
def spSame : Nat → Sp
  | 0 => fun _ _ _ _ => False
  | n + 1 => fun vs H Q _ => ∃ (x y : V) (d : Dt), vs = [x, y] ∧ Is H n x d ∧ Is H n y d ∧ Q (.bl true) H
theorem ok_same {n : Nat} (F : Fun K "_law_same" "_law_same" s_law_same f fd) (DS : Dfn P w K mg base "_law_same" n ["told", "due"] (spSame n)) (mI : mg "isinstance" = none) (mT : mg "tuple" = none) (mL : mg "list" = none) (ml : mg "len" = none) (mr : mg "range" = none)
    (ms : mg "str" = none) (mi : mg "int" = none) (mb : mg "bool" = none) : FnOk P w K mg base CX0 (n + 1) f fd ["told", "due"] (spSame (n + 1)) := by
  refine F.ok sc_law_same (fun vs H Q E h => ?_) (fun cdv A outer s H vs Q E hr h => ?_)
  · obtain ⟨x, y, d, rfl, _⟩ := h
    rfl
  obtain ⟨x, y, d, rfl, hx, hy, q⟩ := h
  have bT : bootBuiltins "tuple" = some (.type "tuple") := by decide +kernel
  have bL : bootBuiltins "list" = some (.type "list") := by decide +kernel
  have bS : bootBuiltins "str" = some (.type "str") := by decide +kernel
  have bI : bootBuiltins "int" = some (.type "int") := by decide +kernel
  have bB : bootBuiltins "bool" = some (.type "bool") := by decide +kernel
  have bi : bootBuiltins "isinstance" = some (.builtin "isinstance") := by decide +kernel
  refine ⟨_, pss_cons (ps_if (PW.pt (pw_or (pt_val (pe_callB call_isi rfl mI bi (pa_cons (pv 1) (pa_cons (pe_bltn (v := .ty "tuple") rfl mT bT rfl) pa_nil)))) (pw_or1 (pt_val (pe_callB call_isi rfl mI bi (pa_cons (pv 1) (pa_cons (pe_bltn (v := .ty "list") rfl mL bL rfl) pa_nil)))))))
      (pss_cons (ps_if (PW.pt (pw_or (pt_cmpR op_ne (pe_callB call_isi rfl mI bi (pa_cons (pv 1) (pa_cons (pe_bltn (v := .ty "tuple") rfl mT bT rfl) pa_nil))) (pe_callB call_isi rfl mI bi (pa_cons (pv 0) (pa_cons (pe_bltn (v := .ty "tuple") rfl mT bT rfl) pa_nil))) (nomark _))
          (pw_or1 (pt_cmpR op_ne (pe_callB call_isi rfl mI bi (pa_cons (pv 1) (pa_cons (pe_bltn (v := .ty "list") rfl mL bL rfl) pa_nil))) (pe_callB call_isi rfl mI bi (pa_cons (pv 0) (pa_cons (pe_bltn (v := .ty "list") rfl mL bL rfl) pa_nil))) (nomark _)))))
        (pss_one (ps_ret pe_bl)) pss_nil)
      (pss_cons (ps_if (pt_cmpR op_ne (pe_callB call_len_seq rfl ml PySem.boot_len (pa_cons (pv 0) pa_nil)) (pe_callB call_len_seq rfl ml PySem.boot_len (pa_cons (pv 1) pa_nil)) (nomark _)) (pss_one (ps_ret pe_bl)) pss_nil)
      (pss_cons (ps_for PassesOwn.never rfl (pi_range1 rfl mr (pa_cons (pe_callB call_len_seq rfl ml PySem.boot_len (pa_cons (pv 1) pa_nil)) pa_nil)) (pg_name (i := 2) sc_law_same.nd rfl (.inl rfl))
        (pss_one (ps_if (pt_not (pt_val (pe_do DS hr (pa_cons (pe_ix ix_seq (pv 0) (pv 2) (fun _ _ => rfl)) (pa_cons (pe_ix ix_seq (pv 1) (pv 2) (fun _ _ => rfl)) pa_nil))))) (pss_one (ps_ret pe_bl)) pss_nil)))
      (pss_one (ps_ret pe_bl))))) pss_nil)
    (pss_cons (ps_if (pt_cmpR op_isN (pv 1) pe_non (nomark _)) (pss_one (ps_ret (pe_cmpR op_isN (pv 0) pe_non (nomark _)))) pss_nil)
    (pss_cons (ps_if (pt_val (pe_callB call_isi rfl mI bi (pa_cons (pv 1) (pa_cons (pe_bltn (v := .ty "str") rfl ms bS rfl) pa_nil))))
      (pss_one (ps_ret (pe_and (pe_callB call_isi rfl mI bi (pa_cons (pv 0) (pa_cons (pe_bltn (v := .ty "str") rfl ms bS rfl) pa_nil))) (pe_one (pe_cmpR op_eq (pv 0) (pv 1) (nomark _)))))) pss_nil)
    (pss_one (ps_ret (pe_and (pe_callB call_isi rfl mI bi (pa_cons (pv 0) (pa_cons (pe_bltn (v := .ty "int") rfl mi bI rfl) pa_nil)))
      (pe_and (pe_not (pe_callB call_isi rfl mI bi (pa_cons (pv 0) (pa_cons (pe_bltn (v := .ty "bool") rfl mb bB rfl) pa_nil)))) (pe_one (pe_cmpR op_eq (pv 0) (pv 1) (nomark _))))))))), ?_⟩
  have isn : ∀ (a b : String) (r : Bool), kitB a b = some r → PySem.W.kitOne K (.type a) (.type b) = some r := fun a b r h => kit_ty h
  cases d with
  | int i =>
    cases (show x = .int i by cases n <;> exact hx)
    cases (show y = .int i by cases n <;> exact hy)
    refine ⟨_, rfl, _, _, _, _, false, rfl, .ty _, .base (.int _), kit_ty (by decide +kernel), _, rfl, iteF ?_⟩
    refine ⟨_, rfl, _, _, _, _, false, rfl, .ty _, .base (.int _), kit_ty (by decide +kernel), _, rfl, iteF ?_⟩
    refine ⟨_, rfl, rfl, _, rfl, iteF ?_⟩
    refine ⟨_, rfl, _, _, _, _, false, rfl, .ty _, .base (.int _), kit_ty (by decide +kernel), _, rfl, iteF ?_⟩
    refine ⟨_, rfl, _, _, _, _, true, rfl, .ty _, .base (.int _), kit_ty (by decide +kernel), _, rfl, iteT ?_⟩
    refine ⟨_, rfl, _, _, _, _, false, rfl, .ty _, .base (.int _), kit_ty (by decide +kernel), _, rfl, _, rfl, iteT ?_⟩
    refine ⟨_, rfl, _, rfl, rfl, ?_⟩
    rw [decide_eq_true rfl]
    exact q
  | str z =>
    cases (show x = .str z by cases n <;> exact hx)
    cases (show y = .str z by cases n <;> exact hy)
    refine ⟨_, rfl, _, _, _, _, false, rfl, .ty _, .base (.str _), kit_ty (by decide +kernel), _, rfl, iteF ?_⟩
    refine ⟨_, rfl, _, _, _, _, false, rfl, .ty _, .base (.str _), kit_ty (by decide +kernel), _, rfl, iteF ?_⟩
    refine ⟨_, rfl, rfl, _, rfl, iteF ?_⟩
    refine ⟨_, rfl, _, _, _, _, true, rfl, .ty _, .base (.str _), kit_ty (by decide +kernel), _, rfl, iteT ?_⟩
    refine ⟨_, rfl, _, _, _, _, true, rfl, .ty _, .base (.str _), kit_ty (by decide +kernel), _, rfl, iteT ?_⟩
    refine ⟨_, rfl, _, rfl, rfl, ?_⟩
    rw [decide_eq_true rfl]
    exact q
  | non =>
    cases (show x = .non by cases n <;> exact hx)
    cases (show y = .non by cases n <;> exact hy)
    refine ⟨_, rfl, _, _, _, _, false, rfl, .ty _, .base .non, kit_ty (by decide +kernel), _, rfl, iteF ?_⟩
    refine ⟨_, rfl, _, _, _, _, false, rfl, .ty _, .base .non, kit_ty (by decide +kernel), _, rfl, iteF ?_⟩
    exact ⟨_, rfl, rfl, _, rfl, iteT ⟨_, rfl, rfl, q⟩⟩
  | tup ds =>
    cases n with
    | zero => exact hx.elim
    | succ n =>
      obtain ⟨a, xs, rfl, ha, la, ln, ka⟩ := hx
      obtain ⟨b, ys, rfl, hb, lb, _, kb⟩ := hy
      refine ⟨_, rfl, _, _, _, _, true, rfl, .ty _, .base (.tup hb), kit_ty (by decide +kernel), _, rfl, iteT ?_⟩
      refine ⟨_, rfl, _, _, _, _, true, rfl, .ty _, .base (.tup hb), kit_ty (by decide +kernel), _, rfl, _, _, _, _, true, rfl, .ty _, .base (.tup ha), kit_ty (by decide +kernel), rfl, _, rfl, iteF ?_⟩
      refine ⟨_, rfl, _, _, _, _, false, rfl, .ty _, .base (.tup hb), kit_ty (by decide +kernel), _, rfl, _, _, _, _, false, rfl, .ty _, .base (.tup ha), kit_ty (by decide +kernel), rfl, _, rfl, iteF ?_⟩
      refine ⟨_, rfl, a, xs, rfl, .inr (SqT.of ha), _, rfl, b, ys, rfl, .inr (SqT.of hb), rfl, _, rfl, ?_⟩
      rw [show (decide (V.int (xs.length : Int) = V.int (ys.length : Int))) = true from decide_eq_true (by rw [la, lb])]
      refine iteF ?_
      refine ⟨_, rfl, b, ys, rfl, .inr (SqT.of hb), (ys.length : Int), rfl, by omega, by omega, for_range (lo := 0) (n := (ys.length : Int).toNat) (fun i σ H' => H' = H ∧ ∃ v, σ = [some (.ref a), some (.ref b), v]) ⟨rfl, none, rfl⟩ ?_ ?_⟩
      · rintro i σ _ hi ⟨rfl, v, rfl⟩
        have hi1 : i < ys.length := by omega
        have hi2 : i < xs.length := by omega
        have hi3 : i < ds.length := by omega
        refine ⟨_, rfl, _, rfl, .inr (.inl ⟨a, xs, _, _, rfl, rfl, SqT.of ha, at_of (j := i) (by omega) (List.getElem?_eq_getElem hi2), ?_⟩)⟩
        refine ⟨_, rfl, _, rfl, .inr (.inl ⟨b, ys, _, _, rfl, rfl, SqT.of hb, at_of (j := i) (by omega) (List.getElem?_eq_getElem hi1), ?_⟩)⟩
        refine ⟨_, _, ds[i], rfl, ka i _ _ (List.getElem?_eq_getElem hi2) (List.getElem?_eq_getElem hi3), kb i _ _ (List.getElem?_eq_getElem hi1) (List.getElem?_eq_getElem hi3), _, rfl, iteF ⟨rfl, _, rfl⟩⟩
      · rintro σ _ ⟨rfl, v, rfl⟩
        exact q
  | lst ds =>
    cases n with
    | zero => exact hx.elim
    | succ n =>
      obtain ⟨a, xs, rfl, ha, la, ln, ka⟩ := hx
      obtain ⟨b, ys, rfl, hb, lb, _, kb⟩ := hy
      refine ⟨_, rfl, _, _, _, _, false, rfl, .ty _, .base (.lst hb), kit_ty (by decide +kernel), _, rfl, iteF ?_⟩
      refine ⟨_, rfl, _, _, _, _, true, rfl, .ty _, .base (.lst hb), kit_ty (by decide +kernel), _, rfl, iteT ?_⟩
      refine ⟨_, rfl, _, _, _, _, false, rfl, .ty _, .base (.lst hb), kit_ty (by decide +kernel), _, rfl, _, _, _, _, false, rfl, .ty _, .base (.lst ha), kit_ty (by decide +kernel), rfl, _, rfl, iteF ?_⟩
      refine ⟨_, rfl, _, _, _, _, true, rfl, .ty _, .base (.lst hb), kit_ty (by decide +kernel), _, rfl, _, _, _, _, true, rfl, .ty _, .base (.lst ha), kit_ty (by decide +kernel), rfl, _, rfl, iteF ?_⟩
      refine ⟨_, rfl, a, xs, rfl, .inl (SqL.of ha), _, rfl, b, ys, rfl, .inl (SqL.of hb), rfl, _, rfl, ?_⟩
      rw [show (decide (V.int (xs.length : Int) = V.int (ys.length : Int))) = true from decide_eq_true (by rw [la, lb])]
      refine iteF ?_
      refine ⟨_, rfl, b, ys, rfl, .inl (SqL.of hb), (ys.length : Int), rfl, by omega, by omega, for_range (lo := 0) (n := (ys.length : Int).toNat) (fun i σ H' => H' = H ∧ ∃ v, σ = [some (.ref a), some (.ref b), v]) ⟨rfl, none, rfl⟩ ?_ ?_⟩
      · rintro i σ _ hi ⟨rfl, v, rfl⟩
        have hi1 : i < ys.length := by omega
        have hi2 : i < xs.length := by omega
        have hi3 : i < ds.length := by omega
        refine ⟨_, rfl, _, rfl, .inl ⟨a, xs, _, _, rfl, rfl, SqL.of ha, at_of (j := i) (by omega) (List.getElem?_eq_getElem hi2), ?_⟩⟩
        refine ⟨_, rfl, _, rfl, .inl ⟨b, ys, _, _, rfl, rfl, SqL.of hb, at_of (j := i) (by omega) (List.getElem?_eq_getElem hi1), ?_⟩⟩
        refine ⟨_, _, ds[i], rfl, ka i _ _ (List.getElem?_eq_getElem hi2) (List.getElem?_eq_getElem hi3), kb i _ _ (List.getElem?_eq_getElem hi1) (List.getElem?_eq_getElem hi3), _, rfl, iteF ⟨rfl, _, rfl⟩⟩
      · rintro σ _ ⟨rfl, v, rfl⟩
        exact q
theorem none_same : FnOk P w K mg base CX0 0 f fd ["told", "due"] (spSame 0) := by
  have no : ∀ vs H Q E, ¬ spSame 0 vs H Q E := fun vs H Q E h => h
  exact ⟨fun vs H Q E h => absurd h (no vs H Q E), fun A outer s H args us vs Q E _ _ _ _ h => absurd h (no vs H Q E)⟩
end
section
variable {P : Program} {w : World} {K : PySem.W.Frag} {mg : Str → Option Value} {base : Heap} {f : Addr} {fd : FuncData}
theorem sign_eq {c n : Nat} {z : Str} (e : z = S [n]) : (V.str (S [c]) = V.str z) ↔ c = n := by
  subst e
  constructor
  · intro h
    have := S_inj (V.str.inj h)
    simpa using this
  · rintro rfl; rfl
theorem e_T : (("T" : Str)) = S [84] := by decide +kernel
theorem e_U : (("U" : Str)) = S [85] := by decide +kernel
theorem e_R : (("R" : Str)) = S [82] := by decide +kernel
def Tup2 (H : Hp) (t : Addr) (v : Int × Int) : Prop := H t = some (.tup [.int v.1, .int v.2])
def spCalled (K : PySem.W.Frag) : Sp := fun vs H Q _ => ∃ (t : Addr) (v : Int × Int) (c : Nat), vs = [.ref t, .str (S [c])] ∧ Tup2 H t v ∧ ∀ t' H', Same H H' → Tup2 H' t' (called v c) → Q (.ref t') H'
theorem ok_called (F : Fun K "_law_called" "_law_called" s_law_called f fd) : FnOk P w K mg base CX0 1 f fd ["value", "letter"] (spCalled K) := by
  refine F.ok sc_law_called (fun vs H Q E h => ?_) (fun cdv A outer s H vs Q E hr h => ?_)
  · obtain ⟨a, m, c, rfl, _⟩ := h
    rfl
  obtain ⟨t, ⟨p, q'⟩, c, rfl, hT, q⟩ := h
  refine ⟨_, pss_cons (ps_asg (pv 0) (pg_tup (by rfl) (pgs_cons (pg_name (i := 2) sc_law_called.nd rfl (.inl rfl)) (pgs_cons (pg_name (i := 3) sc_law_called.nd rfl (.inl rfl)) pgs_nil))))
    (pss_cons (ps_if (pt_cmpR op_eq (pv 1) pe_str (nomark _)) (pss_one (ps_ret (pe_tup (pa_cons (pe_op op_add (pv 2) (pv 3)) (pa_cons (pv 3) pa_nil))))) pss_nil)
    (pss_cons (ps_if (pt_cmpR op_eq (pv 1) pe_str (nomark _)) (pss_one (ps_ret (pe_tup (pa_cons (pe_op op_sub (pv 2) (pv 3)) (pa_cons (pv 3) pa_nil))))) pss_nil)
    (pss_cons (ps_if (pt_cmpR op_gt (pv 2) pe_int (nomark _)) (pss_one (ps_ret (pe_tup (pa_cons (pe_op op_sub pe_int (pv 3)) (pa_cons (pv 2) pa_nil))))) pss_nil)
    (pss_cons (ps_if (pt_cmpR op_lt (pv 2) pe_int (nomark _)) (pss_one (ps_ret (pe_tup (pa_cons (pv 3) (pa_cons (pe_op op_sub pe_int (pv 2)) pa_nil))))) pss_nil)
    (pss_one (ps_ret (pe_tup (pa_cons pe_int (pa_cons pe_int pa_nil))))))))), ?_⟩
  have two : 2 ≤ sizeLine := fits (by decide)
  refine ⟨_, rfl, t, _, rfl, SqT.of hT, rfl, _, _, rfl, _, _, rfl, rfl, ?_⟩
  refine ⟨_, rfl, rfl, _, rfl, ite2 (fun c1 => ?_) (fun c1 => ?_)⟩
  · have k1 : c = 84 := (sign_eq e_T).mp (of_decide_eq_true c1)
    refine ⟨_, rfl, _, rfl, _, _, rfl, rfl, _, rfl, two, fun n hn => q n _ (same_new hn _) ?_⟩
    unfold Tup2 called
    rw [upd_same, if_pos k1]
  have k1 : ¬ c = 84 := fun z => c1 (decide_eq_true ((sign_eq e_T).mpr z))
  refine ⟨_, rfl, rfl, _, rfl, ite2 (fun c2 => ?_) (fun c2 => ?_)⟩
  · have k2 : c = 85 := (sign_eq e_U).mp (of_decide_eq_true c2)
    refine ⟨_, rfl, _, rfl, _, _, rfl, rfl, _, rfl, two, fun n hn => q n _ (same_new hn _) ?_⟩
    unfold Tup2 called
    rw [upd_same, if_neg k1, if_pos k2]
  have k2 : ¬ c = 85 := fun z => c2 (decide_eq_true ((sign_eq e_U).mpr z))
  refine ⟨_, rfl, _, _, rfl, rfl, _, rfl, ite2 (fun c3 => ?_) (fun c3 => ?_)⟩
  · have k3 : 0 < p := of_decide_eq_true c3
    refine ⟨_, rfl, _, _, rfl, rfl, _, rfl, two, fun n hn => q n _ (same_new hn _) ?_⟩
    unfold Tup2 called
    rw [upd_same, if_neg k1, if_neg k2, if_pos k3]
  have k3 : ¬ 0 < p := fun z => c3 (decide_eq_true z)
  refine ⟨_, rfl, _, _, rfl, rfl, _, rfl, ite2 (fun c4 => ?_) (fun c4 => ?_)⟩
  · have k4 : p < 0 := of_decide_eq_true c4
    refine ⟨_, rfl, _, rfl, _, _, rfl, rfl, two, fun n hn => q n _ (same_new hn _) ?_⟩
    unfold Tup2 called
    rw [upd_same, if_neg k1, if_neg k2, if_neg k3, if_pos k4]
  have k4 : ¬ p < 0 := fun z => c4 (decide_eq_true z)
  refine ⟨two, fun n hn => q n _ (same_new hn _) ?_⟩
  unfold Tup2 called
  rw [upd_same, if_neg k1, if_neg k2, if_neg k3, if_neg k4]
theorem Tup2.same {H H' : Hp} {t : Addr} {v : Int × Int} (h : Tup2 H t v) (s : Same H H') : Tup2 H' t v := s _ _ h
theorem Tup2.but {H H' : Hp} {a t : Addr} {v : Int × Int} (h : Tup2 H t v) (s : But a H H') (tp : Tape H a) : Tup2 H' t v := by
  obtain ⟨y, c, z, b, e⟩ := tp
  exact s _ _ (ne_of h e (by intro q; cases q)) h
end
section
theorem int_is {H : Hp} {n : Nat} {i : Int} : Is H n (.int i) (.int i) := by cases n <;> rfl
theorem str_is {H : Hp} {n : Nat} {z : Str} : Is H n (.str z) (.str z) := by cases n <;> rfl
theorem is_tup {H : Hp} {n : Nat} {a : Addr} {xs : List V} {ds : List Dt} (h : H a = some (.tup xs)) (z : xs.length = ds.length) (m : ds.length ≤ 1000000) (k : ∀ (i : Nat) (x : V) (d : Dt), xs[i]? = some x → ds[i]? = some d → Is H n x d) : Is H (n + 1) (.ref a) (.tup ds) := ⟨a, xs, rfl, h, z, m, k⟩
theorem is_lst {H : Hp} {n : Nat} {a : Addr} {xs : List V} {ds : List Dt} (h : H a = some (.lst xs)) (z : xs.length = ds.length) (m : ds.length ≤ 1000000) (k : ∀ (i : Nat) (x : V) (d : Dt), xs[i]? = some x → ds[i]? = some d → Is H n x d) : Is H (n + 1) (.ref a) (.lst ds) := ⟨a, xs, rfl, h, z, m, k⟩
end
section
theorem dp_tup2 {K : PySem.W.Frag} {H : Hp} {t : Addr} {v : Int × Int} (h : Tup2 H t v) : Dp K H (.ref t) (.tuple [.int v.1, .int v.2]) := .tup (SqT.of h) (.cons (.int _) (.cons (.int _) .nil))
theorem can2 (a b : Int) : PyData.canLay0 (.tuple [.int a, .int b]) = true := by
  simp [PyData.canLay0, PyData.canLayAll0]
theorem sh2 (a b : Int) : SeqAt.shaped (.tuple [.int a, .int b]) = true := by
  unfold SeqAt.shaped
  rw [can2]
  simp [PyData.depth, PyData.depthAll]
theorem eqv2 (v u : Int × Int) : PyData.eqv (.tuple [.int v.1, .int v.2]) (.tuple [.int u.1, .int u.2]) = decide (v = u) := by
  obtain ⟨a, b⟩ := v
  obtain ⟨c, d⟩ := u
  by_cases h1 : a = c <;> by_cases h2 : b = d <;> simp [PyData.eqv, PyData.eqvAll, h1, h2]
end
/-! ### the quotients of a fraction and the number of its steps -/
def QL (p q : Nat) : List Nat := if h : q = 0 then [] else p / q :: QL q (p % q)
termination_by q
decreasing_by exact Nat.mod_lt _ (Nat.pos_of_ne_zero h)
theorem QL_zero (p : Nat) : QL p 0 = [] := by rw [QL]; exact dif_pos rfl
theorem QL_step {p q : Nat} (h : 0 < q) : QL p q = p / q :: QL q (p % q) := by
  conv => lhs; rw [QL]
  exact dif_neg (by omega)
/-- the sum of the quotients and their number -/
def EQ (p q : Nat) : Nat := (QL p q).sum + (QL p q).length
theorem EQ_zero (p : Nat) : EQ p 0 = 0 := by unfold EQ; rw [QL_zero]; rfl
theorem EQ_step {p q : Nat} (h : 0 < q) : EQ p q = p / q + 1 + EQ q (p % q) := by
  unfold EQ
  rw [QL_step h, List.sum_cons, List.length_cons]
  omega
theorem EQ_pos {p q : Nat} (h : 0 < q) : 1 ≤ EQ p q := by
  rw [EQ_step h]
  exact Nat.le_trans (Nat.le_add_left 1 (p / q)) (Nat.le_add_right _ _)
theorem EQ_add {p q : Nat} (h : 0 < q) : EQ (p + q) q = EQ p q + 1 := by
  rw [EQ_step h, EQ_step h, Nat.add_div_right _ h, Nat.add_mod_right]
  omega
theorem EQ_swap {p q : Nat} (h : p < q) : EQ p q = 1 + EQ q p := by
  rw [EQ_step (by omega), Nat.div_eq_of_lt h, Nat.mod_eq_of_lt h]
theorem EQ_half {p q : Nat} (h0 : 0 < p) (h : 2 * p < q) : EQ (q - p) q = EQ p q + 1 := by
  have e : EQ (q - p) q = 1 + EQ q (q - p) := EQ_swap (by omega)
  have e1 : EQ q (q - p) = EQ p (q - p) + 1 := by
    have := EQ_add (p := p) (q := q - p) (by omega)
    rw [show p + (q - p) = q by omega] at this
    exact this
  have e2 : EQ p (q - p) = 1 + EQ (q - p) p := EQ_swap (by omega)
  have e3 : EQ p q = 1 + EQ q p := EQ_swap (by omega)
  have e4 : EQ q p = EQ (q - p) p + 1 := by
    have := EQ_add (p := q - p) (q := p) h0
    rw [show q - p + p = q by omega] at this
    exact this
  omega
theorem EQ_sub {p q : Nat} (h0 : 0 < p) (h : p < q) : EQ (q - p) q = EQ p q + 1 ∨ EQ p q = EQ (q - p) q + 1 ∨ EQ (q - p) q = EQ p q := by
  rcases Nat.lt_trichotomy (2 * p) q with c | c | c
  · exact .inl (EQ_half h0 c)
  · exact .inr (.inr (by rw [show q - p = p by omega]))
  · have := EQ_half (p := q - p) (q := q) (by omega) (by omega)
    rw [show q - (q - p) = p by omega] at this
    exact .inr (.inl this)
/-- the steps of a fraction -/
def stp (v : Int × Int) : Nat := if v.2 = 0 then 1 else EQ v.1.natAbs v.2.natAbs - 1
theorem stp_inf {p : Int} : stp (p, 0) = 1 := if_pos rfl
theorem stp_fin {p q : Int} (h : 0 < q) : stp (p, q) + 1 = EQ p.natAbs q.natAbs := by
  unfold stp
  rw [if_neg (show ¬ (p, q).2 = 0 by show ¬ q = 0; omega)]
  have := EQ_pos (p := p.natAbs) (q := q.natAbs) (by omega)
  show EQ p.natAbs q.natAbs - 1 + 1 = _
  omega
theorem stp_zero : stp (0, 1) = 0 := by
  have := stp_fin (p := 0) (q := 1) (by decide)
  rw [EQ_step (by decide)] at this
  have e : (0 : Int).natAbs % (1 : Int).natAbs = 0 := rfl
  rw [e, EQ_zero] at this
  have : (0 : Int).natAbs / (1 : Int).natAbs = 0 := rfl
  omega
theorem stp_neg (p q : Int) : stp (-p, q) = stp (p, q) := by
  unfold stp
  rw [Int.natAbs_neg]
theorem EQ_one {p q : Nat} (h : 0 < q) (e : EQ p q = 1) : p = 0 := by
  rw [EQ_step h] at e
  generalize hd : p / q = d at e
  have e1 : EQ q (p % q) = 0 := by omega
  have e2 : p / q = 0 := by omega
  have e3 : p % q = 0 := Decidable.byContradiction fun z => by
    have := EQ_pos (p := q) (q := p % q) (by omega)
    omega
  have := Nat.div_add_mod p q
  rw [e2, e3] at this
  omega
theorem stp_eq_zero {v : Int × Int} (g : Good v) (e : stp v = 0) : v = (0, 1) := by
  obtain ⟨p, q⟩ := v
  obtain ⟨h1, h2⟩ := g
  rcases h1 with h1 | h1
  · have h1' : 0 < q := h1
    have := stp_fin (p := p) h1'
    rw [e] at this
    have z := EQ_one (by omega) this.symm
    have hp : p = 0 := Int.natAbs_eq_zero.mp z
    subst hp
    have h2' : Int.gcd 0 q = 1 := h2
    rw [Int.gcd_zero_left] at h2'
    have : q = 1 := by omega
    rw [this]
  · cases h1
    rw [stp_inf] at e
    cases e
theorem stp_twist {p q : Int} : stp (p + q, q) ≤ stp (p, q) + 1 ∧ stp (p, q) ≤ stp (p + q, q) + 1 := by
  by_cases hq : 0 < q
  · have a := stp_fin (p := p) hq
    have b := stp_fin (p := p + q) hq
    rcases Int.lt_or_le p 0 with c | c
    · rcases Int.lt_or_le (-q) p with d | d
      · have e : (p + q).natAbs = q.natAbs - p.natAbs := by omega
        rw [e] at b
        have := EQ_sub (p := p.natAbs) (q := q.natAbs) (by omega) (by omega)
        omega
      · have e : p.natAbs = (p + q).natAbs + q.natAbs := by omega
        rw [e, EQ_add (by omega)] at a
        omega
    · have e : (p + q).natAbs = p.natAbs + q.natAbs := by omega
      rw [e, EQ_add (by omega)] at b
      omega
  · rcases Int.lt_or_le q 0 with c | c
    · have a : stp (p, q) = EQ p.natAbs q.natAbs - 1 := if_neg (show ¬ q = 0 by omega)
      have b : stp (p + q, q) = EQ (p + q).natAbs q.natAbs - 1 := if_neg (show ¬ q = 0 by omega)
      have a1 := EQ_pos (p := p.natAbs) (q := q.natAbs) (by omega)
      have b1 := EQ_pos (p := (p + q).natAbs) (q := q.natAbs) (by omega)
      rcases Int.lt_or_le 0 p with e | e
      · rcases Int.lt_or_le p (-q) with d | d
        · have e : (p + q).natAbs = q.natAbs - p.natAbs := by omega
          rw [e] at b b1
          have := EQ_sub (p := p.natAbs) (q := q.natAbs) (by omega) (by omega)
          omega
        · have e : p.natAbs = (p + q).natAbs + q.natAbs := by omega
          rw [e, EQ_add (by omega)] at a a1
          omega
      · have e : (p + q).natAbs = p.natAbs + q.natAbs := by omega
        rw [e, EQ_add (by omega)] at b b1
        omega
    · have : q = 0 := by omega
      subst this
      rw [stp_inf, stp_inf]
      omega
theorem EQ_turn {p q : Nat} (hp : 0 < p) (hq : 0 < q) : EQ q p = EQ p q + 1 ∨ EQ p q = EQ q p + 1 ∨ EQ p q = EQ q p := by
  rcases Nat.lt_trichotomy p q with c | c | c
  · exact .inr (.inl (by rw [EQ_swap c]; omega))
  · subst c; exact .inr (.inr rfl)
  · exact .inl (by rw [EQ_swap c]; omega)
/-- along each call the steps change by at most one -/
theorem stp_near {v : Int × Int} (g : Good v) (c : Nat) : stp (called v c) ≤ stp v + 1 ∧ stp v ≤ stp (called v c) + 1 := by
  obtain ⟨p, q⟩ := v
  unfold called
  by_cases c1 : c = 84
  · rw [if_pos c1]; exact stp_twist
  rw [if_neg c1]
  by_cases c2 : c = 85
  · rw [if_pos c2]
    have := stp_twist (p := p - q) (q := q)
    rw [Int.sub_add_cancel] at this
    exact ⟨this.2, this.1⟩
  rw [if_neg c2]
  have hq : 0 < q ∨ (p = 1 ∧ q = 0) := by
    rcases g.1 with h | h
    · exact .inl h
    · cases h; exact .inr ⟨rfl, rfl⟩
  by_cases c3 : 0 < p
  · rw [if_pos (show 0 < (p, q).1 from c3)]
    show stp (0 - q, p) ≤ stp (p, q) + 1 ∧ stp (p, q) ≤ stp (0 - q, p) + 1
    have b := stp_fin (p := 0 - q) c3
    rw [show (0 - q).natAbs = q.natAbs by omega] at b
    rcases hq with h | ⟨rfl, rfl⟩
    · have a := stp_fin (p := p) h
      have := EQ_turn (p := p.natAbs) (q := q.natAbs) (by omega) (by omega)
      omega
    · rw [stp_inf]
      rw [EQ_step (by decide)] at b
      have e : (0 : Int).natAbs % (1 : Int).natAbs = 0 := rfl
      rw [e, EQ_zero] at b
      have : (0 : Int).natAbs / (1 : Int).natAbs = 0 := rfl
      omega
  rw [if_neg (show ¬ 0 < (p, q).1 from c3)]
  by_cases c4 : p < 0
  · rw [if_pos (show (p, q).1 < 0 from c4)]
    show stp (q, 0 - p) ≤ stp (p, q) + 1 ∧ stp (p, q) ≤ stp (q, 0 - p) + 1
    have b := stp_fin (p := q) (q := 0 - p) (by omega)
    rw [show (0 - p).natAbs = p.natAbs by omega] at b
    rcases hq with h | ⟨rfl, rfl⟩
    · have a := stp_fin (p := p) h
      have := EQ_turn (p := p.natAbs) (q := q.natAbs) (by omega) (by omega)
      omega
    · omega
  rw [if_neg (show ¬ (p, q).1 < 0 from c4)]
  have hp : p = 0 := by omega
  subst hp
  have z : (0, q) = ((0, 1) : Int × Int) := by
    rcases hq with h | ⟨h, _⟩
    · have h2 : Int.gcd 0 q = 1 := g.2
      rw [Int.gcd_zero_left] at h2
      rw [show q = 1 by omega]
    · cases h
  rw [z, stp_zero, stp_inf]
  omega
/-- for each fraction but 0 one of the calls makes the steps less by one -/
theorem stp_down {v : Int × Int} (g : Good v) (n : v ≠ (0, 1)) : ∃ c, (c = 84 ∨ c = 85 ∨ c = 82) ∧ stp (called v c) + 1 = stp v := by
  obtain ⟨p, q⟩ := v
  have hq : 0 < q ∨ (p = 1 ∧ q = 0) := by
    rcases g.1 with h | h
    · exact .inl h
    · cases h; exact .inr ⟨rfl, rfl⟩
  rcases hq with h | ⟨rfl, rfl⟩
  · have a := stp_fin (p := p) h
    rcases Int.lt_or_le (-q) p with d | d
    · rcases Int.lt_or_le p q with e | e
      · have p0 : p ≠ 0 := fun z => by
          subst z
          have h2 : Int.gcd 0 q = 1 := g.2
          rw [Int.gcd_zero_left] at h2
          exact n (by rw [show q = 1 by omega])
        refine ⟨82, .inr (.inr rfl), ?_⟩
        rw [EQ_swap (show p.natAbs < q.natAbs by omega)] at a
        by_cases c3 : 0 < p
        · have e1 : called (p, q) 82 = (0 - q, p) := by
            unfold called
            rw [if_neg (by decide), if_neg (by decide), if_pos (show 0 < (p, q).1 from c3)]
          rw [e1]
          have b := stp_fin (p := 0 - q) c3
          rw [show (0 - q).natAbs = q.natAbs by omega] at b
          omega
        · have c4 : p < 0 := by omega
          have e1 : called (p, q) 82 = (q, 0 - p) := by
            unfold called
            rw [if_neg (by decide), if_neg (by decide), if_neg (show ¬ 0 < (p, q).1 from c3), if_pos (show (p, q).1 < 0 from c4)]
          rw [e1]
          have b := stp_fin (p := q) (q := 0 - p) (by omega)
          rw [show (0 - p).natAbs = p.natAbs by omega] at b
          omega
      · refine ⟨85, .inr (.inl rfl), ?_⟩
        have e1 : called (p, q) 85 = (p - q, q) := rfl
        rw [e1]
        have b := stp_fin (p := p - q) h
        have e2 : p.natAbs = (p - q).natAbs + q.natAbs := by omega
        rw [e2, EQ_add (by omega)] at a
        omega
    · refine ⟨84, .inl rfl, ?_⟩
      have e1 : called (p, q) 84 = (p + q, q) := rfl
      rw [e1]
      have b := stp_fin (p := p + q) h
      have e2 : p.natAbs = (p + q).natAbs + q.natAbs := by omega
      rw [e2, EQ_add (by omega)] at a
      omega
  · refine ⟨82, .inr (.inr rfl), ?_⟩
    have e1 : called (1, 0) 82 = (0, 1) := rfl
    rw [e1, stp_zero, stp_inf]
theorem stp_run : ∀ (l : List Nat) {v : Int × Int}, Good v → stp (run v l) ≤ stp v + l.length
  | [], _, _ => Nat.le_refl _
  | c :: l, v, g => by
    have a := stp_run l (g.called c)
    have b := (stp_near g c).1
    show stp (run (called v c) l) ≤ _
    rw [List.length_cons]
    omega
/-- the quotients that the program has -/
def quo (v : Int × Int) : List Nat := if v.2 = 0 then [0, 0] else QL v.1.natAbs v.2.natAbs
theorem quo_stp {v : Int × Int} (g : Good v) : (quo v).sum + (quo v).length = stp v + 1 := by
  unfold quo
  by_cases h : v.2 = 0
  · rw [if_pos h]
    unfold stp
    rw [if_pos h]
    rfl
  · rw [if_neg h]
    have h0 : 0 < v.2 := by
      rcases g.1 with h1 | h1
      · exact h1
      · rw [h1] at h; exact absurd rfl h
    exact (stp_fin (p := v.1) h0).symm
theorem QL_len : ∀ (n p q : Nat), q < 2 ^ n → (QL p q).length ≤ 2 * n
  | 0, p, q, h => by
    have : q = 0 := by omega
    subst this
    rw [QL_zero]
    exact Nat.le_refl _
  | n + 1, p, q, h => by
    by_cases q0 : 0 < q
    · rw [QL_step q0, List.length_cons]
      by_cases r0 : 0 < p % q
      · rw [QL_step r0, List.length_cons]
        have l1 := Nat.mod_lt p q0
        have l2 := Nat.mod_lt q r0
        have l3 : q % (p % q) + p % q ≤ q := by
          have e := Nat.div_add_mod q (p % q)
          have : 1 ≤ q / (p % q) := Nat.div_pos (Nat.le_of_lt l1) r0
          have : p % q * 1 ≤ p % q * (q / (p % q)) := Nat.mul_le_mul_left _ this
          omega
        have := QL_len n (p % q) (q % (p % q)) (by rw [Nat.pow_succ] at h; omega)
        omega
      · rw [show p % q = 0 by omega, QL_zero]
        show 0 + 1 ≤ _
        omega
    · rw [show q = 0 by omega, QL_zero]
      exact Nat.zero_le _
theorem quo_len {v : Int × Int} {n : Nat} (h : v.2.natAbs < 2 ^ n) (n0 : 0 < n) : (quo v).length ≤ 2 * n := by
  unfold quo
  split
  · show 2 ≤ _; omega
  · exact QL_len n _ _ h
section
/-! ### the levels of the walk from 0 -/
def inv3 (c : Nat) : Nat := if c = 84 then 85 else if c = 85 then 84 else c
theorem called_inv {v : Int × Int} {c : Nat} (hv : Good v) (hc : c = 84 ∨ c = 85 ∨ c = 82) : called (called v c) (inv3 c) = v := by
  obtain ⟨p, q⟩ := v
  rcases hc with rfl | rfl | rfl
  · show (p + q - q, q) = (p, q)
    rw [Int.add_sub_cancel]
  · show (p - q + q, q) = (p, q)
    rw [Int.sub_add_cancel]
  · have e1 : ∀ u : Int × Int, called u 82 = if 0 < u.1 then (0 - u.2, u.1) else if u.1 < 0 then (u.2, 0 - u.1) else (1, 0) := fun u => rfl
    show called (called (p, q) 82) 82 = (p, q)
    have hq : 0 < q ∨ (p = 1 ∧ q = 0) := by
      rcases hv.1 with h | h
      · exact .inl h
      · cases h; exact .inr ⟨rfl, rfl⟩
    by_cases h1 : 0 < p
    · rw [e1 (p, q), if_pos (show 0 < (p, q).1 from h1), e1]
      rcases hq with hq | ⟨rfl, rfl⟩
      · rw [if_neg (show ¬ 0 < (0 - q, p).1 by show ¬ 0 < 0 - q; omega), if_pos (show (0 - q, p).1 < 0 by show 0 - q < 0; omega)]
        show (p, 0 - (0 - q)) = (p, q)
        rw [show 0 - (0 - q) = q by omega]
      · rfl
    · rw [e1 (p, q), if_neg (show ¬ 0 < (p, q).1 from h1)]
      by_cases h2 : p < 0
      · rw [if_pos (show (p, q).1 < 0 from h2), e1]
        have hq' : 0 < q := by rcases hq with hq | ⟨rfl, rfl⟩; exact hq; omega
        rw [if_pos (show 0 < (q, 0 - p).1 from hq')]
        show (0 - (0 - p), q) = (p, q)
        rw [show 0 - (0 - p) = p by omega]
      · have h3 : p = 0 := by omega
        subst h3
        have h2' : Int.gcd 0 q = 1 := hv.2
        rw [Int.gcd_zero_left] at h2'
        rcases hq with hq | ⟨h, _⟩
        · rw [show q = 1 by omega]; rfl
        · cases h
theorem inv3_mem {c : Nat} (hc : c = 84 ∨ c = 85 ∨ c = 82) : inv3 c = 82 ∨ inv3 c = 84 ∨ inv3 c = 85 := by
  rcases hc with rfl | rfl | rfl
  · exact .inr (.inr rfl)
  · exact .inr (.inl rfl)
  · exact .inl rfl
/-- each fraction but 0 is reached by a call from one with a step less -/
theorem stp_from {v : Int × Int} {n : Nat} (g : Good v) (e : stp v = n + 1) : ∃ (u : Int × Int) (c : Nat), (c = 82 ∨ c = 84 ∨ c = 85) ∧ Good u ∧ stp u = n ∧ called u c = v := by
  have ne : v ≠ (0, 1) := fun z => by rw [z, stp_zero] at e; cases e
  obtain ⟨c, hc, h⟩ := stp_down g ne
  exact ⟨called v c, inv3 c, inv3_mem hc, g.called c, by omega, called_inv g hc⟩
theorem stp_size : ∀ (n : Nat) (v : Int × Int), Good v → stp v = n → v.1.natAbs ≤ 2 ^ n ∧ v.2.natAbs ≤ 2 ^ n
  | 0, v, g, e => by
    rw [stp_eq_zero g e]
    exact ⟨by decide, by decide⟩
  | n + 1, v, g, e => by
    obtain ⟨u, c, _, gu, eu, rfl⟩ := stp_from g e
    have ih := stp_size n u gu eu
    have := called_size ih.1 ih.2 Nat.one_le_two_pow c
    rw [Nat.pow_succ']
    exact this
/-- a level: just the fractions of so many steps, each once -/
structure Lev (k : Nat) (L : List (Int × Int)) : Prop where
  mem : ∀ v, v ∈ L ↔ Good v ∧ stp v = k
  nd : L.Nodup
  len : L.length ≤ 4 ^ k
theorem lev_zero : Lev 0 [(0, 1)] := by
  refine ⟨fun v => ?_, by simp, by decide⟩
  rw [List.mem_singleton]
  constructor
  · rintro rfl; exact ⟨Good.zero, stp_zero⟩
  · rintro ⟨g, e⟩; exact stp_eq_zero g e
/-- what stands in the next level when the first i of L are done, and of the next one the letters before -/
structure Half (n : Nat) (L : List (Int × Int)) (i j : Nat) (M : List (Int × Int)) : Prop where
  mem : ∀ v ∈ M, Good v ∧ stp v = n + 1
  nd : M.Nodup
  len : M.length ≤ 3 * i + j
  done : ∀ (a : Nat) (u : Int × Int) (b c : Nat), L[a]? = some u → ([82, 84, 85] : List Nat)[b]? = some c → (a < i ∨ (a = i ∧ b < j)) → stp (called u c) = n + 1 → called u c ∈ M
theorem Half.start (n : Nat) (L : List (Int × Int)) : Half n L 0 0 [] := ⟨fun v h => by (cases h), by simp, by simp, fun a u b c _ _ h => by omega⟩
theorem Half.turn {n i : Nat} {L M : List (Int × Int)} (h : Half n L i 3 M) : Half n L (i + 1) 0 M := by
  refine ⟨h.mem, h.nd, by have := h.len; omega, fun a u b c ha hb hd e => h.done a u b c ha hb ?_ e⟩
  have : b < 3 := (List.getElem?_eq_some_iff.mp hb).1
  omega
theorem Half.old {n i j c : Nat} {L M : List (Int × Int)} {u : Int × Int} (h : Half n L i j M) (hu : L[i]? = some u) (hc : ([82, 84, 85] : List Nat)[j]? = some c) (k : stp (called u c) = n + 1 → called u c ∈ M) : Half n L i (j + 1) M := by
  refine ⟨h.mem, h.nd, by have := h.len; omega, fun a u' b c' ha hb hd e => ?_⟩
  by_cases z : a = i ∧ b = j
  · obtain ⟨rfl, rfl⟩ := z
    rw [hu] at ha
    rw [hc] at hb
    cases ha; cases hb
    exact k e
  · exact h.done a u' b c' ha hb (by omega) e
theorem Half.new {n i j c : Nat} {L M : List (Int × Int)} {u : Int × Int} (h : Half n L i j M) (hu : L[i]? = some u) (hc : ([82, 84, 85] : List Nat)[j]? = some c) (g : Good (called u c)) (e : stp (called u c) = n + 1) (no : called u c ∉ M) : Half n L i (j + 1) (M ++ [called u c]) := by
  refine ⟨fun v hv => ?_, ?_, by have := h.len; rw [List.length_append]; show _ + 1 ≤ _; omega, fun a u' b c' ha hb hd e' => ?_⟩
  · rcases List.mem_append.mp hv with hv | hv
    · exact h.mem v hv
    · rw [List.mem_singleton.mp hv]; exact ⟨g, e⟩
  · rw [List.nodup_append]
    refine ⟨h.nd, by simp, fun x hx y hy z => ?_⟩
    rw [List.mem_singleton.mp hy] at z
    exact no (z ▸ hx)
  · by_cases z : a = i ∧ b = j
    · obtain ⟨rfl, rfl⟩ := z
      rw [hu] at ha
      rw [hc] at hb
      cases ha; cases hb
      exact List.mem_append_right _ (List.mem_singleton.mpr rfl)
    · exact List.mem_append_left _ (h.done a u' b c' ha hb (by omega) e')
theorem Half.lev {n : Nat} {L M : List (Int × Int)} (l : Lev n L) (h : Half n L L.length 0 M) : Lev (n + 1) M := by
  refine ⟨fun v => ⟨h.mem v, fun ⟨g, e⟩ => ?_⟩, h.nd, ?_⟩
  · obtain ⟨u, c, hc, gu, eu, rfl⟩ := stp_from g e
    obtain ⟨a, ha⟩ := List.getElem?_of_mem ((l.mem u).mpr ⟨gu, eu⟩)
    obtain ⟨b, hb⟩ : ∃ b, ([82, 84, 85] : List Nat)[b]? = some c := by
      rcases hc with rfl | rfl | rfl
      · exact ⟨0, rfl⟩
      · exact ⟨1, rfl⟩
      · exact ⟨2, rfl⟩
    exact h.done a u b c ha hb (.inl (List.getElem?_eq_some_iff.mp ha).1) e
  · have := h.len
    have := l.len
    rw [Nat.pow_succ]
    omega
/-- the keys of the dict of all that is known -/
def kyv (v : Int × Int) : List Key := [Sum.inl v.1, Sum.inl v.2]
theorem kyv_inj {v u : Int × Int} (h : kyv v = kyv u) : v = u := by
  obtain ⟨a, b⟩ := v
  obtain ⟨c, d⟩ := u
  unfold kyv at h
  simp only [List.cons.injEq, Sum.inl.injEq, and_true] at h
  rw [h.1, h.2]
/-- known: all of at most n steps, and M -/
def Kn (n : Nat) (M : List (Int × Int)) (kvs : List (List Key × V)) : Prop := ∀ v, (valV kvs (kyv v)).isSome = true ↔ (Good v ∧ stp v ≤ n) ∨ v ∈ M
theorem kn_zero : Kn 0 [] [(kyv (0, 1), V.int 0)] := by
  intro v
  by_cases e : kyv (0, 1) = kyv v
  · rw [valV_pos e]
    have := kyv_inj e
    subst this
    exact ⟨fun _ => .inl ⟨Good.zero, Nat.le_of_eq stp_zero⟩, fun _ => rfl⟩
  · rw [valV_neg e, valV_nil]
    constructor
    · intro h; cases h
    · rintro (⟨g, h⟩ | h)
      · exact absurd (congrArg kyv (stp_eq_zero g (by omega)).symm) e
      · cases h
theorem Kn.new {n : Nat} {M : List (Int × Int)} {kvs : List (List Key × V)} (h : Kn n M kvs) (v : Int × Int) (y : V) : Kn n (M ++ [v]) (putK kvs (kyv v) y) := by
  intro u
  rw [valV_put]
  by_cases e : kyv u = kyv v
  · rw [if_pos e]
    have := kyv_inj e
    subst this
    exact ⟨fun _ => .inr (List.mem_append_right _ (List.mem_singleton.mpr rfl)), fun _ => rfl⟩
  · rw [if_neg e, h u, List.mem_append, List.mem_singleton]
    constructor
    · rintro (h | h)
      · exact .inl h
      · exact .inr (.inl h)
    · rintro (h | h | h)
      · exact .inl h
      · exact .inr h
      · exact absurd (congrArg kyv h) e
theorem Kn.next {n : Nat} {M : List (Int × Int)} {kvs : List (List Key × V)} (h : Kn n M kvs) (l : Lev (n + 1) M) : Kn (n + 1) [] kvs := by
  intro u
  rw [h u, l.mem u]
  constructor
  · rintro (⟨g, h⟩ | ⟨g, h⟩)
    · exact .inl ⟨g, by omega⟩
    · exact .inl ⟨g, by omega⟩
  · rintro (⟨g, h⟩ | h)
    · by_cases c : stp u ≤ n
      · exact .inl ⟨g, c⟩
      · exact .inr ⟨g, by omega⟩
    · cases h
/-- a list of fractions in the heap -/
def LvAt (H : Hp) (q : Addr) (L : List (Int × Int)) : Prop := ∃ ts : List Addr, H q = some (.lst (ts.map V.ref)) ∧ ts.length = L.length ∧ ∀ (i : Nat) (t : Addr) (v : Int × Int), ts[i]? = some t → L[i]? = some v → Tup2 H t v
theorem LvAt.but {H H' : Hp} {a q : Addr} {L : List (Int × Int)} (h : LvAt H q L) (b : But a H H') (n : q ≠ a) (nt : ∀ o, H a = some o → ∀ xs, o ≠ .tup xs) : LvAt H' q L := by
  obtain ⟨ts, h1, h2, h3⟩ := h
  refine ⟨ts, b _ _ n h1, h2, fun i t v ht hv => b _ _ (fun z => ?_) (h3 i t v ht hv)⟩
  subst z
  exact nt _ (h3 i _ v ht hv) _ rfl
theorem LvAt.same {H H' : Hp} {q : Addr} {L : List (Int × Int)} (h : LvAt H q L) (b : Same H H') : LvAt H' q L := by
  obtain ⟨ts, h1, h2, h3⟩ := h
  exact ⟨ts, b _ _ h1, h2, fun i t v ht hv => b _ _ (h3 i t v ht hv)⟩
theorem LvAt.add {H : Hp} {q t : Addr} {L : List (Int × Int)} {v : Int × Int} {ts : List Addr} (h1 : H q = some (.lst (ts.map V.ref))) (h2 : ts.length = L.length) (h3 : ∀ (i : Nat) (t : Addr) (v : Int × Int), ts[i]? = some t → L[i]? = some v → Tup2 H t v) (T : Tup2 H t v) :
    LvAt (upd H q (.lst (ts.map V.ref ++ [V.ref t]))) q (L ++ [v]) := by
  refine ⟨ts ++ [t], by rw [upd_same, List.map_append]; rfl, by rw [List.length_append, List.length_append, h2]; rfl, fun i t' v' ht hv => ?_⟩
  have key : ∀ t v, Tup2 H t v → Tup2 (upd H q (.lst (ts.map V.ref ++ [V.ref t']))) t v := fun t v T => by
    unfold Tup2
    rw [upd_ne (ne_of T h1 (fun z => nomatch z))]
    exact T
  have key2 : ∀ t0 v, Tup2 H t0 v → Tup2 (upd H q (.lst (ts.map V.ref ++ [V.ref t]))) t0 v := fun t0 v T => by
    unfold Tup2
    rw [upd_ne (ne_of T h1 (fun z => nomatch z))]
    exact T
  by_cases c : i < ts.length
  · rw [List.getElem?_append_left c] at ht
    rw [List.getElem?_append_left (by omega)] at hv
    exact key2 _ _ (h3 i t' v' ht hv)
  · rw [List.getElem?_append_right (by omega)] at ht
    rw [List.getElem?_append_right (by omega)] at hv
    have e1 : i = ts.length := by
      have := (List.getElem?_eq_some_iff.mp ht).1
      have : i - ts.length < 1 := this
      omega
    subst e1
    rw [Nat.sub_self] at ht
    rw [h2, Nat.sub_self] at hv
    cases ht; cases hv
    exact key2 _ _ T
theorem atI_end {α : Type} {xs : List α} {y : α} : atI (xs ++ [y]) (-1) = some y := by
  unfold atI ixN
  rw [if_neg (by decide), List.length_append, if_pos (by show -((xs.length + 1 : Nat) : Int) ≤ -1; omega)]
  show (xs ++ [y])[((-1 : Int) + ((xs.length + 1 : Nat) : Int)).toNat]? = some y
  rw [show ((-1 : Int) + ((xs.length + 1 : Nat) : Int)).toNat = xs.length by omega, List.getElem?_append_right (Nat.le_refl _), Nat.sub_self]
  rfl
end
section
/-! ### fractions in ascending order -/
def ltv (v u : Int × Int) : Prop := v.1 * u.2 < u.1 * v.2
instance (v u : Int × Int) : Decidable (ltv v u) := by unfold ltv; infer_instance
theorem ltv_asym {v u : Int × Int} (h : ltv v u) (k : ltv u v) : False := by
  unfold ltv at h k
  omega
theorem good_den {v : Int × Int} (g : Good v) : 0 < v.2 ∨ (v.1 = 1 ∧ v.2 = 0) := by
  rcases g.1 with h | h
  · exact .inl h
  · rw [h]; exact .inr ⟨rfl, rfl⟩
theorem ltv_trans {a b c : Int × Int} (ga : Good a) (gb : Good b) (gc : Good c) (h : ltv a b) (k : ltv b c) : ltv a c := by
  unfold ltv at *
  rcases good_den gb with hb | ⟨b1, b2⟩
  · rcases good_den ga with ha | ⟨a1, a2⟩
    · rcases good_den gc with hc | ⟨c1, c2⟩
      · have h1 : a.1 * b.2 * c.2 < b.1 * a.2 * c.2 := Int.mul_lt_mul_of_pos_right h hc
        have h2 : b.1 * c.2 * a.2 < c.1 * b.2 * a.2 := Int.mul_lt_mul_of_pos_right k ha
        have e1 : a.1 * b.2 * c.2 = (a.1 * c.2) * b.2 := by rw [Int.mul_right_comm]
        have e2 : b.1 * a.2 * c.2 = b.1 * c.2 * a.2 := by rw [Int.mul_right_comm]
        have e3 : c.1 * b.2 * a.2 = (c.1 * a.2) * b.2 := by rw [Int.mul_right_comm]
        rw [e1, e2] at h1
        rw [e3] at h2
        exact Int.lt_of_mul_lt_mul_right (Int.lt_trans h1 h2) (Int.le_of_lt hb)
      · rw [c1, c2]
        omega
    · rw [a1, a2] at h
      omega
  · rw [b1, b2] at k
    rcases good_den gc with hc | ⟨c1, c2⟩
    · omega
    · rw [c1, c2] at k
      omega
theorem dvd_cut {p q s : Int} (h : q ∣ p * s) (g : Int.gcd p q = 1) : q ∣ s := by
  have h1 := Int.natAbs_dvd_natAbs.mpr h
  rw [Int.natAbs_mul] at h1
  exact Int.natAbs_dvd_natAbs.mp (Nat.Coprime.dvd_of_dvd_mul_left (Nat.Coprime.symm g) h1)
theorem ltv_tri {a b : Int × Int} (ga : Good a) (gb : Good b) (n : a ≠ b) : ltv a b ∨ ltv b a := by
  unfold ltv
  by_cases e : a.1 * b.2 = b.1 * a.2
  · exfalso
    apply n
    obtain ⟨p, q⟩ := a
    obtain ⟨r, s⟩ := b
    have e' : p * s = r * q := e
    have g1 : Int.gcd p q = 1 := ga.2
    have g2 : Int.gcd r s = 1 := gb.2
    have d1 : q ∣ s := by
      have : q ∣ p * s := by rw [e']; exact Int.dvd_mul_left r q
      exact dvd_cut this g1
    have d2 : s ∣ q := by
      have : s ∣ r * q := by rw [← e']; exact Int.dvd_mul_left p s
      exact dvd_cut this g2
    rcases good_den ga with ha | ⟨a1, a2⟩
    · rcases good_den gb with hb | ⟨b1, b2⟩
      · have ha' : 0 < q := ha
        have hb' : 0 < s := hb
        have l1 := Int.le_of_dvd hb' d1
        have l2 := Int.le_of_dvd ha' d2
        have : q = s := by omega
        subst this
        have : p = r := Int.eq_of_mul_eq_mul_right (by omega) e'
        rw [this]
      · have b2' : s = 0 := b2
        have ha' : 0 < q := ha
        rw [b2'] at d2
        have := Int.zero_dvd.mp d2
        omega
    · have a2' : q = 0 := a2
      have a1' : p = 1 := a1
      rcases good_den gb with hb | ⟨b1, b2⟩
      · have hb' : 0 < s := hb
        rw [a2'] at d1
        have := Int.zero_dvd.mp d1
        omega
      · have b1' : r = 1 := b1
        have b2' : s = 0 := b2
        rw [a1', a2', b1', b2']
  · omega
abbrev Asc (L : List (Int × Int)) : Prop := L.Pairwise ltv
theorem asc_eq : ∀ {L M : List (Int × Int)}, Asc L → Asc M → (∀ v, v ∈ L ↔ v ∈ M) → L = M
  | [], [], _, _, _ => rfl
  | [], b :: M, _, _, h => by have := (h b).mpr List.mem_cons_self; cases this
  | a :: L, [], _, _, h => by have := (h a).mp List.mem_cons_self; cases this
  | a :: L, b :: M, hL, hM, h => by
    have pL := List.pairwise_cons.mp hL
    have pM := List.pairwise_cons.mp hM
    have e : a = b := by
      refine Decidable.byContradiction fun z => ?_
      have h1 := (h a).mp List.mem_cons_self
      have h2 := (h b).mpr List.mem_cons_self
      rcases List.mem_cons.mp h1 with h1 | h1
      · exact z h1
      · rcases List.mem_cons.mp h2 with h2 | h2
        · exact z h2.symm
        · exact ltv_asym (pL.1 b h2) (pM.1 a h1)
    subst e
    have : ∀ v, v ∈ L ↔ v ∈ M := fun v => by
      have nL : v ∈ L → v ≠ a := fun hv z => by subst z; exact ltv_asym (pL.1 _ hv) (pL.1 _ hv)
      have nM : v ∈ M → v ≠ a := fun hv z => by subst z; exact ltv_asym (pM.1 _ hv) (pM.1 _ hv)
      constructor
      · intro hv
        rcases List.mem_cons.mp ((h v).mp (List.mem_cons_of_mem _ hv)) with e | e
        · exact absurd e (nL hv)
        · exact e
      · intro hv
        rcases List.mem_cons.mp ((h v).mpr (List.mem_cons_of_mem _ hv)) with e | e
        · exact absurd e (nM hv)
        · exact e
    rw [asc_eq pL.2 pM.2 this]
/-! the law's sorting: each goes behind all that are less -/
def below (v u : Int × Int) : Bool := decide (v.2 = 0) || (!decide (u.2 = 0) && decide (u.1 * v.2 < v.1 * u.2))
theorem below_is {v u : Int × Int} (gv : Good v) (gu : Good u) (n : u ≠ v) : below v u = true ↔ ltv u v := by
  unfold below ltv
  rw [Bool.or_eq_true, Bool.and_eq_true, Bool.not_eq_true', decide_eq_true_eq, decide_eq_false_iff_not, decide_eq_true_eq]
  rcases good_den gv with hv | ⟨v1, v2⟩
  · rcases good_den gu with hu | ⟨u1, u2⟩
    · constructor
      · rintro (h | ⟨_, h⟩)
        · omega
        · exact h
      · intro h; exact .inr ⟨by omega, h⟩
    · rw [u1, u2]
      constructor
      · rintro (h | ⟨h, _⟩)
        · omega
        · exact absurd rfl h
      · intro h; omega
  · rcases good_den gu with hu | ⟨u1, u2⟩
    · rw [v1, v2]
      constructor
      · intro _; omega
      · intro _; exact .inl rfl
    · exfalso
      apply n
      obtain ⟨a, b⟩ := u
      obtain ⟨c, d⟩ := v
      have h1 : a = 1 := u1
      have h2 : b = 0 := u2
      have h3 : c = 1 := v1
      have h4 : d = 0 := v2
      rw [h1, h2, h3, h4]
def ins (v : Int × Int) (L : List (Int × Int)) : List (Int × Int) := L.take ((L.filter (below v)).length) ++ [v] ++ L.drop ((L.filter (below v)).length)
/-- in an ascending list those below stand in front -/
theorem filt_front {v : Int × Int} (gv : Good v) : ∀ {L : List (Int × Int)}, Asc L → (∀ u ∈ L, Good u ∧ u ≠ v) → (∀ u ∈ L.take ((L.filter (below v)).length), ltv u v) ∧ (∀ u ∈ L.drop ((L.filter (below v)).length), ltv v u)
  | [], _, _ => ⟨fun u hu => (by cases hu), fun u hu => (by cases hu)⟩
  | a :: L, hL, hg => by
    have pL := List.pairwise_cons.mp hL
    have ga := hg a List.mem_cons_self
    have ih := filt_front gv pL.2 (fun u hu => hg u (List.mem_cons_of_mem _ hu))
    by_cases c : below v a = true
    · rw [List.filter_cons_of_pos c, List.length_cons, List.take_succ_cons, List.drop_succ_cons]
      refine ⟨fun u hu => ?_, ih.2⟩
      rcases List.mem_cons.mp hu with rfl | hu
      · exact (below_is gv ga.1 ga.2).mp c
      · exact ih.1 u hu
    · have up : ltv v a := by
        rcases ltv_tri ga.1 gv ga.2 with h | h
        · exact absurd ((below_is gv ga.1 ga.2).mpr h) c
        · exact h
      have all : ∀ u ∈ L, ltv v u := fun u hu => ltv_trans gv ga.1 (hg u (List.mem_cons_of_mem _ hu)).1 up (pL.1 u hu)
      have none_ : L.filter (below v) = [] := by
        rw [List.filter_eq_nil_iff]
        intro u hu z
        have gu := hg u (List.mem_cons_of_mem _ hu)
        exact ltv_asym ((below_is gv gu.1 gu.2).mp z) (all u hu)
      rw [List.filter_cons_of_neg c, none_]
      refine ⟨fun u hu => (by cases hu), fun u hu => ?_⟩
      rcases List.mem_cons.mp hu with rfl | hu
      · exact up
      · exact all u hu
theorem ins_asc {v : Int × Int} (gv : Good v) {L : List (Int × Int)} (hL : Asc L) (hg : ∀ u ∈ L, Good u ∧ u ≠ v) : Asc (ins v L) := by
  have f := filt_front gv hL hg
  unfold ins
  have hL' : Asc (L.take ((L.filter (below v)).length) ++ L.drop ((L.filter (below v)).length)) := by rw [List.take_append_drop]; exact hL
  generalize L.take ((L.filter (below v)).length) = A at *
  generalize L.drop ((L.filter (below v)).length) = B at *
  have pa := List.pairwise_append.mp hL'
  rw [List.append_assoc]
  refine List.pairwise_append.mpr ⟨pa.1, List.pairwise_append.mpr ⟨List.pairwise_singleton _ _, pa.2.1, fun a ha b hb => ?_⟩, fun a ha b hb => ?_⟩
  · rw [List.mem_singleton.mp ha]; exact f.2 b hb
  · rcases List.mem_append.mp hb with hb | hb
    · rw [List.mem_singleton.mp hb]; exact f.1 a ha
    · exact pa.2.2 a ha b hb
theorem ins_mem {v : Int × Int} {L : List (Int × Int)} (u : Int × Int) : u ∈ ins v L ↔ u = v ∨ u ∈ L := by
  unfold ins
  have e : u ∈ L ↔ u ∈ L.take ((L.filter (below v)).length) ∨ u ∈ L.drop ((L.filter (below v)).length) := by
    conv => lhs; rw [← List.take_append_drop ((L.filter (below v)).length) L]
    exact List.mem_append
  rw [List.mem_append, List.mem_append, List.mem_singleton, e]
  constructor
  · rintro ((h | h) | h)
    · exact .inr (.inl h)
    · exact .inl h
    · exact .inr (.inr h)
  · rintro (h | h | h)
    · exact .inl (.inr h)
    · exact .inl (.inl h)
    · exact .inr h
/-! the positive fractions of n steps, as the program makes them -/
def inn (v : Int × Int) : Int × Int := (v.2, v.1 + v.2)
def out (v : Int × Int) : Int × Int := (v.1 + v.2, v.2)
def ngv (v : Int × Int) : Int × Int := (-v.1, v.2)
def ps2 : Nat → List (Int × Int) × List (Int × Int)
  | 0 => ([], [(1, 1)])
  | n + 1 => ((ps2 n).2, (ps2 n).1.reverse.map inn ++ (ps2 n).2.map out)
/-- those of n steps, from 1 on -/
def ps (n : Nat) : List (Int × Int) := (ps2 (n - 1)).2
def Pos (v : Int × Int) : Prop := Good v ∧ 0 < v.1 ∧ 0 < v.2
structure Lst (n : Nat) (L : List (Int × Int)) : Prop where
  mem : ∀ v, v ∈ L ↔ Pos v ∧ stp v = n
  asc : Asc L
theorem gcd_out {p q : Int} : Int.gcd (p + q) q = Int.gcd p q := gcd_add' p q
theorem stp_out {v : Int × Int} (h : Pos v) : Pos (out v) ∧ stp (out v) = stp v + 1 := by
  obtain ⟨p, q⟩ := v
  obtain ⟨g, h1, h2⟩ := h
  have h1' : 0 < p := h1
  have h2' : 0 < q := h2
  refine ⟨⟨⟨.inl h2', by show Int.gcd (p + q) q = 1; rw [gcd_out]; exact g.2⟩, by show 0 < p + q; omega, h2'⟩, ?_⟩
  have a := stp_fin (p := p) h2'
  have b := stp_fin (p := p + q) h2'
  rw [show (p + q).natAbs = p.natAbs + q.natAbs by omega, EQ_add (by omega)] at b
  show stp (p + q, q) = stp (p, q) + 1
  omega
theorem stp_inn {v : Int × Int} (h : Pos v) : Pos (inn v) ∧ stp (inn v) = stp v + 2 := by
  obtain ⟨p, q⟩ := v
  obtain ⟨g, h1, h2⟩ := h
  have h1' : 0 < p := h1
  have h2' : 0 < q := h2
  have gg : Int.gcd q (p + q) = 1 := by rw [Int.gcd_comm, gcd_out]; exact g.2
  refine ⟨⟨⟨.inl (by show 0 < p + q; omega), gg⟩, h2', by show 0 < p + q; omega⟩, ?_⟩
  have a := stp_fin (p := p) h2'
  have b := stp_fin (p := q) (q := p + q) (by omega)
  rw [EQ_swap (show q.natAbs < (p + q).natAbs by omega), show (p + q).natAbs = p.natAbs + q.natAbs by omega, EQ_add (by omega)] at b
  show stp (q, p + q) = stp (p, q) + 2
  omega
theorem pos_cases {v : Int × Int} (h : Pos v) : v = (1, 1) ∨ (∃ u, Pos u ∧ v = out u) ∨ (∃ u, Pos u ∧ v = inn u) := by
  obtain ⟨p, q⟩ := v
  obtain ⟨g, h1, h2⟩ := h
  have h1' : 0 < p := h1
  have h2' : 0 < q := h2
  have g2 : Int.gcd p q = 1 := g.2
  rcases Int.lt_trichotomy p q with c | c | c
  · refine .inr (.inr ⟨(q - p, p), ⟨⟨.inl h1', ?_⟩, by show 0 < q - p; omega, h1'⟩, ?_⟩)
    · show Int.gcd (q - p) p = 1
      have := gcd_add' (q - p) p
      rw [Int.sub_add_cancel] at this
      rw [← this, Int.gcd_comm]
      exact g2
    · show (p, q) = (p, q - p + p)
      rw [Int.sub_add_cancel]
  · subst c
    rw [Int.gcd_self] at g2
    exact .inl (by rw [show p = 1 by omega])
  · refine .inr (.inl ⟨(p - q, q), ⟨⟨.inl h2', ?_⟩, by show 0 < p - q; omega, h2'⟩, ?_⟩)
    · show Int.gcd (p - q) q = 1
      have := gcd_add' (p - q) q
      rw [Int.sub_add_cancel] at this
      rw [← this]
      exact g2
    · show (p, q) = (p - q + q, q)
      rw [Int.sub_add_cancel]
theorem stp_one : stp (1, 1) = 1 := by
  have b := stp_fin (p := 1) (q := 1) (by decide)
  have e : EQ 1 1 = 2 := by
    rw [EQ_step (show 0 < 1 by decide)]
    have h : 1 % 1 = 0 := rfl
    rw [h, EQ_zero]
  have b' : stp (1, 1) + 1 = EQ 1 1 := b
  omega
theorem pos_one : Pos (1, 1) := ⟨⟨.inl (by decide), by decide⟩, by decide, by decide⟩
theorem out_ltv {v u : Int × Int} (h : ltv v u) : ltv (out v) (out u) := by
  unfold ltv at *
  show (v.1 + v.2) * u.2 < (u.1 + u.2) * v.2
  rw [Int.add_mul, Int.add_mul, Int.mul_comm v.2 u.2]
  omega
theorem inn_ltv {v u : Int × Int} (h : ltv u v) : ltv (inn v) (inn u) := by
  unfold ltv at *
  show v.2 * (u.1 + u.2) < u.2 * (v.1 + v.2)
  rw [Int.mul_add, Int.mul_add, Int.mul_comm v.2 u.1, Int.mul_comm u.2 v.1, Int.mul_comm v.2 u.2]
  omega
theorem inn_out {v u : Int × Int} (h : Pos v) (k : Pos u) : ltv (inn v) (out u) := by
  obtain ⟨_, h1, h2⟩ := h
  obtain ⟨_, k1, k2⟩ := k
  unfold ltv
  show v.2 * u.2 < (u.1 + u.2) * (v.1 + v.2)
  rw [Int.add_mul, Int.mul_add, Int.mul_add, Int.mul_comm v.2 u.2]
  have a := Int.mul_pos k1 h1
  have b := Int.mul_pos k1 h2
  have c := Int.mul_pos k2 h1
  omega
theorem lst_step {n : Nat} {A B : List (Int × Int)} (hA : Lst n A) (hB : Lst (n + 1) B) : Lst (n + 2) (A.reverse.map inn ++ B.map out) := by
  refine ⟨fun v => ?_, ?_⟩
  · rw [List.mem_append, List.mem_map, List.mem_map]
    constructor
    · rintro (⟨u, hu, rfl⟩ | ⟨u, hu, rfl⟩)
      · have := (hA.mem u).mp (List.mem_reverse.mp hu)
        have k := stp_inn this.1
        exact ⟨k.1, by rw [k.2, this.2]⟩
      · have := (hB.mem u).mp hu
        have k := stp_out this.1
        exact ⟨k.1, by rw [k.2, this.2]⟩
    · rintro ⟨hp, hs⟩
      rcases pos_cases hp with rfl | ⟨u, pu, rfl⟩ | ⟨u, pu, rfl⟩
      · rw [stp_one] at hs; omega
      · have k := stp_out pu
        exact .inr ⟨u, (hB.mem u).mpr ⟨pu, by omega⟩, rfl⟩
      · have k := stp_inn pu
        exact .inl ⟨u, List.mem_reverse.mpr ((hA.mem u).mpr ⟨pu, by omega⟩), rfl⟩
  · refine List.pairwise_append.mpr ⟨?_, ?_, fun a ha b hb => ?_⟩
    · rw [List.pairwise_map, List.pairwise_reverse]
      exact hA.asc.imp inn_ltv
    · rw [List.pairwise_map]
      exact hB.asc.imp out_ltv
    · obtain ⟨u, hu, rfl⟩ := List.mem_map.mp ha
      obtain ⟨w, hw, rfl⟩ := List.mem_map.mp hb
      exact inn_out ((hA.mem u).mp (List.mem_reverse.mp hu)).1 ((hB.mem w).mp hw).1
theorem lst_ps2 : ∀ n : Nat, Lst n (ps2 n).1 ∧ Lst (n + 1) (ps2 n).2
  | 0 => by
    refine ⟨⟨fun v => ⟨fun h => (by cases h), fun ⟨hp, hs⟩ => ?_⟩, List.Pairwise.nil⟩, ⟨fun v => ?_, List.pairwise_singleton _ _⟩⟩
    · rw [stp_eq_zero hp.1 hs] at hp
      exact absurd hp.2.1 (by decide)
    · show v ∈ [(1, 1)] ↔ _
      rw [List.mem_singleton]
      constructor
      · rintro rfl; exact ⟨pos_one, stp_one⟩
      · rintro ⟨hp, hs⟩
        rcases pos_cases hp with h | ⟨u, pu, rfl⟩ | ⟨u, pu, rfl⟩
        · exact h
        · have k := stp_out pu
          have : stp u = 0 := by omega
          rw [stp_eq_zero pu.1 this] at pu
          exact absurd pu.2.1 (by decide)
        · have k := stp_inn pu
          omega
  | n + 1 => ⟨(lst_ps2 n).2, lst_step (lst_ps2 n).1 (lst_ps2 n).2⟩
def fw (n : Nat) : List (Int × Int) := if n = 0 then [(0, 1)] else if n = 1 then [(-1, 1), (1, 1), (1, 0)] else (ps n).reverse.map ngv ++ ps n
theorem ps_lst {n : Nat} (h : 1 ≤ n) : Lst n (ps n) := by
  have := (lst_ps2 (n - 1)).2
  rw [Nat.sub_add_cancel h] at this
  exact this
theorem ngv_ltv {v u : Int × Int} (h : ltv u v) : ltv (ngv v) (ngv u) := by
  unfold ltv at *
  show -v.1 * u.2 < -u.1 * v.2
  rw [Int.neg_mul, Int.neg_mul]
  omega
/-- all of n steps in ascending order -/
theorem fw_is {n : Nat} (h : 2 ≤ n) : Asc (fw n) ∧ ∀ v, v ∈ fw n ↔ Good v ∧ stp v = n := by
  have l := ps_lst (n := n) (by omega)
  have e : fw n = (ps n).reverse.map ngv ++ ps n := by unfold fw; rw [if_neg (by omega), if_neg (by omega)]
  rw [e]
  refine ⟨List.pairwise_append.mpr ⟨?_, l.asc, fun a ha b hb => ?_⟩, fun v => ?_⟩
  · rw [List.pairwise_map, List.pairwise_reverse]
    exact l.asc.imp ngv_ltv
  · obtain ⟨u, hu, rfl⟩ := List.mem_map.mp ha
    have pu := ((l.mem u).mp (List.mem_reverse.mp hu)).1
    have pb := ((l.mem b).mp hb).1
    unfold ltv
    show -u.1 * b.2 < b.1 * u.2
    have a1 := Int.mul_pos pu.2.1 pb.2.2
    have a2 := Int.mul_pos pb.2.1 pu.2.2
    rw [Int.neg_mul]
    omega
  · rw [List.mem_append, List.mem_map]
    constructor
    · rintro (⟨u, hu, rfl⟩ | hv)
      · have hp := (l.mem u).mp (List.mem_reverse.mp hu)
        obtain ⟨p, q⟩ := u
        refine ⟨⟨.inl hp.1.2.2, by show Int.gcd (-p) q = 1; rw [Int.neg_gcd]; exact hp.1.1.2⟩, ?_⟩
        show stp (-p, q) = n
        rw [stp_neg]
        exact hp.2
      · have hp := (l.mem v).mp hv
        exact ⟨hp.1.1, hp.2⟩
    · rintro ⟨g, s⟩
      obtain ⟨p, q⟩ := v
      rcases good_den g with hq | ⟨p1, q0⟩
      · have hq' : 0 < q := hq
        rcases Int.lt_trichotomy p 0 with c | c | c
        · refine .inl ⟨(-p, q), List.mem_reverse.mpr ((l.mem _).mpr ⟨⟨⟨.inl hq', by show Int.gcd (-p) q = 1; rw [Int.neg_gcd]; exact g.2⟩, by show 0 < -p; omega, hq'⟩, by rw [stp_neg]; exact s⟩), ?_⟩
          show (- -p, q) = (p, q)
          rw [Int.neg_neg]
        · subst c
          have g2 : Int.gcd 0 q = 1 := g.2
          rw [Int.gcd_zero_left] at g2
          rw [show q = 1 by omega, stp_zero] at s
          omega
        · exact .inr ((l.mem _).mpr ⟨⟨g, c, hq'⟩, s⟩)
      · have h1 : p = 1 := p1
        have h2 : q = 0 := q0
        subst h1 h2
        rw [stp_inf] at s
        omega
end
section
/-! places: the positive ones of n steps, counted from the greatest -/
def pz (n : Nat) : List (Int × Int) := (ps2 n).1
theorem pz_rev (n : Nat) : (pz (n + 2)).reverse = (pz (n + 1)).reverse.map out ++ (pz n).map inn := by
  show ((pz n).reverse.map inn ++ (pz (n + 1)).map out).reverse = _
  rw [List.reverse_append, ← List.map_reverse, ← List.map_reverse, List.reverse_reverse]
theorem pz_len (n : Nat) : (pz (n + 2)).length = (pz (n + 1)).length + (pz n).length := by
  rw [← List.length_reverse, pz_rev, List.length_append, List.length_map, List.length_reverse, List.length_map]
/-- v stands behind g that are greater -/
def Top (n g : Nat) (v : Int × Int) : Prop := (pz n).reverse[g]? = some v
theorem Top.lt {n g : Nat} {v : Int × Int} (h : Top n g v) : g < (pz n).length := by
  have := (List.getElem?_eq_some_iff.mp h).1
  rw [List.length_reverse] at this
  exact this
theorem top_out {n g : Nat} {v : Int × Int} (h : Top (n + 1) g v) : Top (n + 2) g (out v) := by
  have l := h.lt
  unfold Top at *
  rw [pz_rev, List.getElem?_append_left (by rw [List.length_map, List.length_reverse]; exact l), List.getElem?_map, h]
  rfl
theorem top_inn {n g : Nat} {v : Int × Int} (h : Top n g v) : Top (n + 2) ((pz (n + 2)).length - 1 - g) (inn v) := by
  have l := h.lt
  have e := pz_len n
  unfold Top at *
  rw [List.getElem?_reverse l] at h
  rw [pz_rev, List.getElem?_append_right (by rw [List.length_map, List.length_reverse]; omega), List.getElem?_map, List.length_map, List.length_reverse]
  rw [show (pz (n + 2)).length - 1 - g - (pz (n + 1)).length = (pz n).length - 1 - g by omega, h]
  rfl
theorem top_one : Top 1 0 (1, 1) := rfl
/-- a place among those of n + 2 steps is one of the two -/
theorem top_back {n g : Nat} {v : Int × Int} (h : Top (n + 2) g v) : (g < (pz (n + 1)).length ∧ ∃ u, v = out u ∧ Top (n + 1) g u) ∨ ((pz (n + 1)).length ≤ g ∧ ∃ u, v = inn u ∧ Top n ((pz (n + 2)).length - 1 - g) u) := by
  have l := h.lt
  have e := pz_len n
  unfold Top at *
  rw [pz_rev] at h
  by_cases c : g < (pz (n + 1)).length
  · rw [List.getElem?_append_left (by rw [List.length_map, List.length_reverse]; exact c), List.getElem?_map] at h
    obtain ⟨u, hu, rfl⟩ := Option.map_eq_some_iff.mp h
    exact .inl ⟨c, u, rfl, hu⟩
  · rw [List.getElem?_append_right (by rw [List.length_map, List.length_reverse]; omega), List.getElem?_map, List.length_map, List.length_reverse] at h
    obtain ⟨u, hu, rfl⟩ := Option.map_eq_some_iff.mp h
    refine .inr ⟨by omega, u, rfl, ?_⟩
    rw [List.getElem?_reverse (by omega), show (pz n).length - 1 - ((pz (n + 2)).length - 1 - g) = g - (pz (n + 1)).length by omega]
    exact hu
/-! many steps of Fibonacci's row at once -/
def FB : Nat → Int × Int
  | 0 => (0, 1)
  | m + 1 => ((FB m).1 + (FB m).2, (FB m).1)
theorem FB_add (n : Nat) : ∀ m : Nat, FB (n + m) = ((FB n).1 * ((FB m).1 + (FB m).2) + (FB n).2 * (FB m).1, (FB n).1 * (FB m).1 + (FB n).2 * (FB m).2)
  | 0 => by
    show FB n = ((FB n).1 * (0 + 1) + (FB n).2 * 0, (FB n).1 * 0 + (FB n).2 * 1)
    simp
  | m + 1 => by
    have ih := FB_add n m
    show ((FB (n + m)).1 + (FB (n + m)).2, (FB (n + m)).1) = ((FB n).1 * ((FB m).1 + (FB m).2 + (FB m).1) + (FB n).2 * ((FB m).1 + (FB m).2), (FB n).1 * ((FB m).1 + (FB m).2) + (FB n).2 * (FB m).1)
    rw [ih]
    generalize (FB n).1 = a
    generalize (FB n).2 = b
    generalize (FB m).1 = c
    generalize (FB m).2 = d
    refine Prod.ext ?_ rfl
    show a * (c + d) + b * c + (a * c + b * d) = a * (c + d + c) + b * (c + d)
    rw [Int.mul_add, Int.mul_add, Int.mul_add, Int.mul_add]
    omega
theorem FB_double (m : Nat) : FB (m + m) = ((FB m).1 * ((FB m).1 + 2 * (FB m).2), (FB m).1 * (FB m).1 + (FB m).2 * (FB m).2) := by
  rw [FB_add]
  refine Prod.ext ?_ rfl
  show (FB m).1 * ((FB m).1 + (FB m).2) + (FB m).2 * (FB m).1 = (FB m).1 * ((FB m).1 + 2 * (FB m).2)
  rw [Int.mul_add, Int.mul_add, Int.mul_comm (FB m).2 (FB m).1, Int.mul_left_comm]
  omega
theorem FB_pz : ∀ n : Nat, FB (n + 1) = (((pz (n + 1)).length : Int), ((pz n).length : Int))
  | 0 => rfl
  | n + 1 => by
    have ih := FB_pz n
    show ((FB (n + 1)).1 + (FB (n + 1)).2, (FB (n + 1)).1) = _
    rw [ih, pz_len]
    refine Prod.ext ?_ rfl
    show ((pz (n + 1)).length : Int) + ((pz n).length : Int) = (((pz (n + 1)).length + (pz n).length : Nat) : Int)
    omega
end
theorem mt_bitlen {X : Cx} : MtR X "int.bit_length" (fun x xs H Q => ∃ i : Int, x = .int i ∧ xs = [] ∧ Q (.int (Builtin.Int.intBits i : Nat)) H) := by
  rintro pins s σ H x xs v us Q I rx rv ⟨i, rfl, rfl, q⟩
  obtain ⟨t, rfl⟩ := rx
  cases Vals.zero rv
  exact PyProof.Rows.call_int_bit_length ⟨.int (Builtin.Int.intBits i : Nat), _, I.kept (t' := s.toks + 1) fun b ob w => w, ⟨_, rfl⟩, q⟩
theorem bits_pos {b : Nat} (h : b ≠ 0) : Builtin.Int.intBits (b : Int) = b.log2 + 1 := by
  unfold Builtin.Int.intBits
  have : ((b : Int) == 0) = false := by
    rw [beq_eq_false_iff_ne]
    omega
  rw [this, Int.natAbs_natCast]
  rfl
theorem bits_all (b : Nat) : b / 2 ^ Builtin.Int.intBits (b : Int) = 0 := by
  by_cases h : b = 0
  · subst h; rfl
  · rw [bits_pos h]
    exact Nat.div_eq_of_lt (Nat.lt_log2_self)
theorem bit_next (b k : Nat) : b / 2 ^ k = (b / 2 ^ (k + 1) + b / 2 ^ (k + 1)) + b / 2 ^ k % 2 := by
  have : b / 2 ^ (k + 1) = b / 2 ^ k / 2 := by rw [Nat.pow_succ, Nat.div_div_eq_div_mul]
  rw [this]
  omega
section
open PySem PySem.Spec PyProof.Rows
variable {X : Cx}
/-- x in t, t a tuple of data -/
theorem op_inT (hu : X.A.units + 65 < cLine) : OpR X (compareOp .In) (fun x y H Q => ∃ d ds, Dp X.K H x d ∧ Dp X.K H y (.tuple ds) ∧ SeqAt.shaped d = true ∧ PyData.canLayAll0 ds = true ∧ Q (.bl (ds.any fun z => PyData.eqv z d)) H) := by
  intro pins s σ H x y v u Q I rx ry h
  obtain ⟨d, ds, hd, he, sd, se, q⟩ := h
  obtain ⟨as, r1⟩ := Dp.reads I d x v hd rx
  cases he with
  | tup hs ha =>
    cases ry
    obtain ⟨its, rv, pl, _⟩ := I.tuple hs
    obtain ⟨as2, h4⟩ := Dp.readsAll I ds _ its ha rv
    have h5 : ReadsAll s.heap its.toArray.toList ds as2 := h4
    refine SeqAt.in_tupleAt _ pl (SeqAt.items_eqAt (vs := its.toArray) h5 r1 se (SeqAt.canLay_of_shaped sd) (PyProof.Rows.room_in_shaped sd hu)) ⟨.bl _, H, I, ?_, q⟩
    rw [SeqAt.any_by_data h5 se]
    rfl
/-- t.index(x), t a tuple of data: the first place of an equal one -/
theorem mt_tindexD (hu : X.A.units + 65 < cLine) : MtR X "tuple.index" (fun x xs H Q => ∃ (a : Addr) (y : V) (d : PyData) (ds : List PyData) (j : Nat) (z : PyData), x = V.ref a ∧ xs = [y] ∧ Dp X.K H (V.ref a) (.tuple ds) ∧ Dp X.K H y d ∧
    PyData.canLayAll0 ds = true ∧ SeqAt.shaped d = true ∧ ds[j]? = some z ∧ PyData.eqv z d = true ∧ (∀ (m : Nat) (z' : PyData), m < j → ds[m]? = some z' → PyData.eqv z' d = false) ∧ Q (.int (j : Nat)) H) := by
  intro pins s σ H x xs v us Q I rx rxs h
  obtain ⟨a, y, d, ds, j, z, rfl, rfl, hl, hy, hxs, sd, hz, hzj, hno, q⟩ := h
  cases rx
  cases rxs with
  | cons ry rt =>
    rename_i uy ut
    cases rt
    obtain ⟨bs, r1⟩ := Dp.reads I d y uy hy ry
    have hroom : X.A.units + 1 + min (PyData.depthAll ds) d.depth < cLine := room_in_shaped sd hu
    cases hl with
    | tup hs ha =>
      obtain ⟨its, rv, ⟨⟨cls, dd, data, sls⟩, ho, hc, n, hdt⟩, hlen⟩ := I.tuple hs
      simp only at hc hdt
      subst hc hdt
      obtain ⟨as, h4⟩ := Dp.readsAll I ds _ its ha rv
      have hn : its.length = ds.length := SeqAt.ReadsAll.length ds its as h4
      have hmap : its.map (SeqAt.readOf s.heap) = ds := SeqAt.readsAll_map ds its as hxs h4
      obtain ⟨hjd, _⟩ := List.getElem?_eq_some_iff.mp hz
      have hjl : j < its.length := by omega
      have hj : j < its.toArray.size := by simpa using hjl
      have at_ : ∀ (m : Nat) (hm : m < its.toArray.size) (z' : PyData), ds[m]? = some z' → SeqAt.readOf s.heap its.toArray[m] = z' := by
        intro m hm z' hz'
        have hml : m < its.length := by simpa using hm
        rw [← hmap, List.getElem?_map, List.getElem?_eq_getElem hml] at hz'
        have e1 : SeqAt.readOf s.heap its[m] = z' := Option.some.inj (show some (SeqAt.readOf s.heap its[m]) = some z' from hz')
        simpa using e1
      refine call_meets PySem.F.slot_tuple_index ⟨_, ho, rfl⟩ PySem.F.entry_tuple_index (PySem.F.args_tuple_index_2 _ _)
        (TI.tuple_indexAt a its.toArray n dd sls uy (fun u => PyData.eqv (SeqAt.readOf s.heap u) d) j hj ?_ ?_) ⟨ho, SeqAt.items_eqAt (vs := its.toArray) (show ReadsAll s.heap its.toArray.toList ds as from h4) r1 hxs (SeqAt.canLay_of_shaped sd) hroom, ?_⟩
      · show PyData.eqv (SeqAt.readOf s.heap its.toArray[j]) d = true
        rw [at_ j hj z hz]
        exact hzj
      · intro m hm hmj
        have hmd : m < ds.length := by omega
        have hz' : ds[m]? = some ds[m] := List.getElem?_eq_getElem hmd
        show PyData.eqv (SeqAt.readOf s.heap its.toArray[m]) d = false
        rw [at_ m hm _ hz']
        exact hno m _ hmj hz'
      · exact ⟨.int (j : Nat), H, I.tok _, ⟨_, rfl⟩, q⟩
/-- xs[-1] for xs[-1] += .. -/
theorem pget_last : PGet X (fun o i H Q => ∃ p xs z, o = V.ref p ∧ i = .int (-1) ∧ SqL X.K H p xs ∧ atI xs (-1) = some z ∧ Q z H) := by
  intro pins s σ H o i ov iv Q I rx ry h
  obtain ⟨p, xs, z, rfl, rfl, hq, he, q⟩ := h
  cases rx
  obtain ⟨t, rfl⟩ := ry
  obtain ⟨its, r, pl, hz⟩ := I.list hq
  obtain ⟨j, h1, h2, h3, h4, h5⟩ := atI_get he
  obtain ⟨w, ew, rw'⟩ := r.get h2
  have hl := r.length
  have hn := line63
  have fin : EP X pins σ Q w s := ⟨z, H, I, rw', q⟩
  have hj : ((-1 : Int) + (its.toArray.size : Int)).toNat = j := by
    rw [seqIndex_neg (by omega) h4] at h1
    rw [List.size_toArray, ← hl]
    exact Option.some.inj h1
  exact wpAny_getItem_list_neg pl.isList (by omega) (by rw [List.size_toArray] <;> omega) (by omega) (by rw [hj]; simpa using ew) fin
/-- xs[:0:-1] -/
theorem fm_get (items : Array Value) : ∀ (ks : List Nat), (∀ k ∈ ks, k < items.size) → ∀ i : Nat, (ks.filterMap (items[·]?))[i]? = ks[i]?.bind (items[·]?)
  | [], _, i => rfl
  | a :: ks, h, i => by
    have ha := h a List.mem_cons_self
    have ih := fm_get items ks fun k hk => h k (List.mem_cons_of_mem _ hk)
    have e : (a :: ks).filterMap (items[·]?) = items[a] :: ks.filterMap (items[·]?) := by
      rw [List.filterMap_cons, Array.getElem?_eq_getElem ha]
    rw [e]
    cases i with
    | zero => show some items[a] = items[a]?; rw [Array.getElem?_eq_getElem ha]
    | succ i => exact ih i
theorem pick_back (items : Array Value) : slicePick items none (some 0) (some (-1)) = (items.toList.drop 1).reverse.toArray := by
  have hb : sliceBounds none (some 0) (some (-1)) items.size = ((items.size : Int) - 1, (if (items.size : Int) - 1 < 0 then -1 else 0), -1) := by
    simp only [sliceBounds]
    refine Prod.ext rfl (Prod.ext ?_ rfl)
    show max (-1) (min (if (0 : Int) < 0 then 0 + (items.size : Int) else 0) ((items.size : Int) - 1)) = _
    rw [if_neg (by decide)]
    split <;> (dsimp only; omega)
  unfold slicePick
  rw [hb]
  congr 1
  have hr : sliceRange ((items.size : Int) - 1) (if (items.size : Int) - 1 < 0 then -1 else 0) (-1) = (List.range (items.size - 1)).map fun k => items.size - 1 - k := by
    unfold sliceRange
    have h1 : ¬ ((-1 : Int) > 0) := by decide
    by_cases h : items.size ≤ 1
    · by_cases h0 : items.size = 0
      · simp [h0]
      · have : items.size = 1 := by omega
        simp [this]
    · rw [if_neg (show ¬ (items.size : Int) - 1 < 0 by omega)]
      have e : ((items.size : Int) - 1 - 0 - -1 - 1) / (- -1) = (items.size : Int) - 1 := by
        rw [show (- -1 : Int) = 1 by decide, Int.ediv_one]
        omega
      simp only [h1, if_false, show (items.size : Int) - 1 > 0 by omega, if_true, e]
      rw [show ((items.size : Int) - 1).toNat = items.size - 1 by omega]
      apply List.map_congr_left
      intro k hk
      have := List.mem_range.mp hk
      omega
  show ((sliceRange ((items.size : Int) - 1) (if (items.size : Int) - 1 < 0 then -1 else 0) (-1)).filterMap (items[·]?)) = _
  rw [hr]
  apply List.ext_getElem?
  intro i
  rw [fm_get items _ (fun k hk => by
    obtain ⟨j, hj, rfl⟩ := List.mem_map.mp hk
    have := List.mem_range.mp hj
    omega)]
  by_cases hi : i < items.size - 1
  · rw [List.getElem?_map, List.getElem?_range hi, List.getElem?_reverse (by rw [List.length_drop, Array.length_toList]; exact hi), List.getElem?_drop, List.length_drop, Array.length_toList]
    rw [show 1 + (items.size - 1 - 1 - i) = items.size - 1 - i by omega]
    rw [Array.getElem?_toList]
    rfl
  · have e1 : ((List.range (items.size - 1)).map fun k => items.size - 1 - k)[i]? = none := List.getElem?_eq_none (by rw [List.length_map, List.length_range]; omega)
    rw [e1, List.getElem?_eq_none (by rw [List.length_reverse, List.length_drop, Array.length_toList]; omega)]
    rfl
def tBackL (K : PySem.W.Frag) (te : TE) : TE := fun σ H Q => te σ H fun x H1 => ∃ a xs, x = .ref a ∧ SqL K H1 a xs ∧ ∀ p, H1 p = none → Q (.ref p) (upd H1 p (.lst (xs.drop 1).reverse))
theorem Vals.drop1 {xs : List V} {us : List Value} (r : Vals xs us) : Vals (xs.drop 1) (us.drop 1) := by
  cases r with
  | nil => exact .nil
  | cons _ t => exact t
theorem pe_backL {e : Expr} {te : TE} {k k0 : Nat} {p0 p1 p2 p3 pos : PySem.Pos} (he : PE X e te) : PE X (.Subscript e (.Slice none (some (.Constant (.int 0) k0 p0)) (some (.UnaryOp .USub (.Constant (.int 1) k p1) p2)) p3) pos) (tBackL X.K te) := by
  refine ⟨fun pins s σ H Q I h => ?_⟩
  refine Subscript_ (thn (he.run pins s σ H _ I h) fun v s1 ⟨x, H1, I1, r1, q1⟩ => ?_)
  obtain ⟨a, xs, ex, hx, q⟩ := q1
  subst ex
  cases r1
  have hst : PO X (some (.UnaryOp .USub (.Constant (.int 1) k p1) p2)) (tPart (tUn (rU fun i => .int (-i)) (tC (.int 1)))) := po_some (pe_un un_neg pe_int)
  have hup : PO X (some (.Constant (.int 0) k0 p0)) (tPart (tC (.int 0))) := po_some pe_int
  refine wpAny_Slice (thn (po_none.run pins s1 σ H1 (fun o H2 => o = none ∧ H2 = H1) I1 ⟨rfl, rfl⟩) fun vl s2 ⟨l, H2, I2, pl, el, e2⟩ => ?_)
  subst el e2
  refine thn (hup.run pins s2 σ H2 (fun o H3 => o = some 0 ∧ H3 = H2) I2 ⟨0, rfl, rfl, rfl⟩) fun vu s3 ⟨u, H3, I3, pu, eu, e3⟩ => ?_
  subst eu e3
  refine thn (hst.run pins s3 σ H3 (fun o H4 => o = some (-1) ∧ H4 = H3) I3 ⟨1, rfl, -1, rfl, rfl, rfl⟩) fun vs s4 ⟨o, H4, I4, ps, eo, e4⟩ => ?_
  subst eo e4
  have I5 : Inv X pins σ H4 { s4 with heap := s4.heap.push { cls := .type "slice", data := .fields #[vl, vu, vs] } } := I4.kept (t' := s4.toks) fun b ob q => Heap.get?_push_of_some _ q
  obtain ⟨its, r, ht, hz⟩ := I5.list hx
  have hlen := r.length
  show wpAny (model X.prog X.w) X.A (subscriptTail e (.Slice none (some (.Constant (.int 0) k0 p0)) (some (.UnaryOp .USub (.Constant (.int 1) k p1) p2)) p3) (.ref a) (.ref s4.heap.objs.size)) (EP X pins σ Q) X.xe { s4 with heap := s4.heap.push { cls := .type "slice", data := .fields #[vl, vu, vs] } }
  refine tail_any (ops := [.ref a, .ref s4.heap.objs.size]) ht.isList.typeIs (PySem.slot_list_getitem.lookup) ?_ (by with_unfolding_all rfl)
  refine wpAny_getItem_list_slice ht.isList (Heap.IsSliceOf.new _ vl vu vs) pl pu ps (by decide) ?_ (by rw [List.size_toArray]; omega)
  rw [pick_back]
  refine ⟨.ref _, _, I5.laid (t' := s4.toks) (o := .lst (xs.drop 1).reverse) (fun b ob q => Heap.get?_push_of_some _ q) (Nat.le_refl _) ?_, rfl, q _ (I5.hok.fresh (Nat.le_refl _))⟩
  exact ⟨by rw [List.length_reverse, List.length_drop]; omega, _, 0, (Rope.Vals.drop1 r).reverse, Heap.get?_push_size _ rfl⟩
end
section
/-! the way of the quotients -/
def mq (a : Nat) (w : Int × Int) : Int × Int := ((a : Int) * w.1 + w.2, w.1)
def fqs (L : List Nat) (w : Int × Int) : Int × Int := L.foldr mq w
def sw (v : Int × Int) : Int × Int := (v.2, v.1)
def fq : List Nat → Int × Int
  | [] => (1, 0)
  | a :: L => ((a : Int) * (fq L).1 + (fq L).2, (fq L).1)
theorem fq_fqs : ∀ L : List Nat, fq L = fqs L (1, 0)
  | [] => rfl
  | a :: L => by
    show ((a : Int) * (fq L).1 + (fq L).2, (fq L).1) = mq a (fqs L (1, 0))
    rw [fq_fqs L]
    rfl
theorem fqs_app (L M : List Nat) (w : Int × Int) : fqs (L ++ M) w = fqs L (fqs M w) := List.foldr_append
theorem mq_out (a : Nat) (u : Int × Int) : mq a (sw (out u)) = mq (a + 1) (sw u) := by
  show ((a : Int) * u.2 + (u.1 + u.2), u.2) = (((a + 1 : Nat) : Int) * u.2 + u.1, u.2)
  rw [Int.natCast_add, Int.add_mul]
  show _ = ((a : Int) * u.2 + 1 * u.2 + u.1, u.2)
  refine Prod.ext ?_ rfl
  show (a : Int) * u.2 + (u.1 + u.2) = (a : Int) * u.2 + 1 * u.2 + u.1
  omega
theorem mq_inn (u : Int × Int) : sw (inn u) = mq 1 (sw u) := by
  show (u.1 + u.2, u.2) = (((1 : Nat) : Int) * u.2 + u.1, u.2)
  refine Prod.ext ?_ rfl
  show u.1 + u.2 = ((1 : Nat) : Int) * u.2 + u.1
  omega
theorem mq_one (a : Nat) : mq a (1, 1) = mq (a + 1) (1, 0) := by
  show ((a : Int) * 1 + 1, (1 : Int)) = (((a + 1 : Nat) : Int) * 1 + 0, (1 : Int))
  refine Prod.ext ?_ rfl
  show (a : Int) * 1 + 1 = ((a + 1 : Nat) : Int) * 1 + 0
  omega
/-- out so many times -/
def outs : Nat → Int × Int → Int × Int
  | 0, u => u
  | a + 1, u => out (outs a u)
theorem outs_mq : ∀ (a : Nat) (u : Int × Int), mq a (sw u) = outs a u
  | 0, u => by
    show (((0 : Nat) : Int) * u.2 + u.1, u.2) = u
    rw [Int.natCast_zero, Int.zero_mul, Int.zero_add]
  | a + 1, u => by
    have ih := outs_mq a u
    show (((a + 1 : Nat) : Int) * u.2 + u.1, u.2) = out (outs a u)
    rw [← ih]
    show (((a + 1 : Nat) : Int) * u.2 + u.1, u.2) = ((a : Int) * u.2 + u.1 + u.2, u.2)
    refine Prod.ext ?_ rfl
    show ((a + 1 : Nat) : Int) * u.2 + u.1 = (a : Int) * u.2 + u.1 + u.2
    rw [Int.natCast_add, Int.add_mul]
    show (a : Int) * u.2 + 1 * u.2 + u.1 = _
    omega
theorem top_pos {n g : Nat} {v : Int × Int} (h : Top n g v) : 1 ≤ n := by
  rcases Nat.eq_zero_or_pos n with rfl | h0
  · have := h.lt
    exact absurd this (Nat.not_lt_zero _)
  · exact h0
theorem top_outs {n g : Nat} {v : Int × Int} (h : Top n g v) : ∀ a : Nat, Top (n + a) g (outs a v)
  | 0 => h
  | a + 1 => by
    have ih := top_outs h a
    have p := top_pos h
    obtain ⟨m, rfl⟩ : ∃ m, n = m + 1 := ⟨n - 1, by omega⟩
    rw [show m + 1 + a = m + a + 1 by omega] at ih
    rw [show m + 1 + (a + 1) = m + a + 2 by omega]
    exact top_out ih
/-- a step of the way back: a quotient more -/
theorem top_turn {n g a : Nat} {u : Int × Int} (h : Top n g u) (ha : 1 ≤ a) : ∃ u', Top (n + (a + 1)) ((pz (n + (a + 1))).length - 1 - g) u' ∧ sw u' = mq a (sw u) := by
  obtain ⟨b, rfl⟩ : ∃ b, a = b + 1 := ⟨a - 1, by omega⟩
  refine ⟨inn (outs b u), ?_, ?_⟩
  · exact top_inn (top_outs h b)
  · rw [outs_mq]
    rfl
theorem fq_bd : ∀ L : List Nat, 0 ≤ (fq L).1 ∧ (fq L).1 ≤ 2 ^ L.sum ∧ 0 ≤ (fq L).2 ∧ (fq L).2 ≤ 2 ^ L.sum
  | [] => by decide
  | a :: L => by
    have ih := fq_bd L
    obtain ⟨h1, h2, h3, h4⟩ := ih
    show 0 ≤ (a : Int) * (fq L).1 + (fq L).2 ∧ (a : Int) * (fq L).1 + (fq L).2 ≤ 2 ^ (a :: L).sum ∧ 0 ≤ (fq L).1 ∧ (fq L).1 ≤ 2 ^ (a :: L).sum
    rw [List.sum_cons, Int.pow_add]
    have e1 : ((2 ^ a : Nat) : Int) = (2 : Int) ^ a := by rw [Int.natCast_pow]; rfl
    have e2 : ((a + 1 : Nat) : Int) ≤ (2 : Int) ^ a := by rw [← e1]; exact Int.ofNat_le.mpr Nat.lt_two_pow_self
    have e3 : (a : Int) * (fq L).1 ≤ (a : Int) * 2 ^ L.sum := Int.mul_le_mul_of_nonneg_left h2 (by omega)
    have e4 : ((a + 1 : Nat) : Int) * 2 ^ L.sum ≤ (2 : Int) ^ a * 2 ^ L.sum := Int.mul_le_mul_of_nonneg_right e2 (by omega)
    have e5 : ((a + 1 : Nat) : Int) * 2 ^ L.sum = (a : Int) * 2 ^ L.sum + 2 ^ L.sum := by
      rw [Int.natCast_add, Int.add_mul]
      show _ + 1 * _ = _
      omega
    have e6 : 0 ≤ (a : Int) * (fq L).1 := Int.mul_nonneg (by omega) h1
    have e7 : (2 : Int) ^ L.sum ≤ 2 ^ a * 2 ^ L.sum := by
      have : (1 : Int) * 2 ^ L.sum ≤ 2 ^ a * 2 ^ L.sum := Int.mul_le_mul_of_nonneg_right (by omega) (by omega)
      omega
    omega
/-- the quotients, the last one less by one -/
theorem QL_way : ∀ (n p q : Nat), q < n → 0 < q → Nat.gcd p q = 1 → (p ≠ 0) → ¬ (p = 1 ∧ q = 1) → ∃ (a : Nat) (M : List Nat), (QL p q = M ++ [a + 1]) ∧ (fqs (M ++ [a]) (1, 1) = ((p : Int), (q : Int))) ∧ (∀ x ∈ (M ++ [a]).drop 1, 1 ≤ x) ∧ (q ≠ 1 → 1 ≤ a) ∧ (q = 1 → M = [])
  | 0, p, q, h, _, _, _, _ => absurd h (Nat.not_lt_zero _)
  | n + 1, p, q, h, q0, g, p0, n1 => by
    rw [QL_step q0]
    by_cases q1 : q = 1
    · subst q1
      rw [Nat.div_one, Nat.mod_one, QL_zero]
      refine ⟨p - 1, [], by rw [show p - 1 + 1 = p by omega]; rfl, ?_, (fun x hx => by cases hx), (fun z => absurd rfl z), fun _ => rfl⟩
      show (((p - 1 : Nat) : Int) * 1 + 1, (1 : Int)) = _
      refine Prod.ext ?_ rfl
      show ((p - 1 : Nat) : Int) * 1 + 1 = (p : Int)
      omega
    · have r0 : p % q ≠ 0 := fun z => by
        have : q ∣ p := Nat.dvd_of_mod_eq_zero z
        have := Nat.gcd_eq_right this
        omega
      have rl := Nat.mod_lt p q0
      have g2 : Nat.gcd q (p % q) = 1 := by
        rw [Nat.gcd_comm, ← Nat.gcd_rec, Nat.gcd_comm]
        exact g
      obtain ⟨a, M, e1, e2, e3, e4, e5⟩ := QL_way n q (p % q) (by omega) (by omega) g2 (by omega) (by omega)
      have dm := Nat.div_add_mod p q
      refine ⟨a, (p / q) :: M, by rw [e1]; rfl, ?_, ?_, fun _ => ?_, fun z => absurd z q1⟩
      · show mq (p / q) (fqs (M ++ [a]) (1, 1)) = _
        rw [e2]
        show (((p / q : Nat) : Int) * (q : Int) + ((p % q : Nat) : Int), (q : Int)) = _
        refine Prod.ext ?_ rfl
        show ((p / q : Nat) : Int) * (q : Int) + ((p % q : Nat) : Int) = (p : Int)
        rw [← Int.natCast_mul, ← Int.natCast_add, Nat.mul_comm, dm]
      · show ∀ x ∈ M ++ [a], 1 ≤ x
        have ha : 1 ≤ a := by
          by_cases z : p % q = 1
          · have eM := e5 z
            subst eM
            rw [QL_step (show 0 < p % q by omega), z, Nat.div_one, Nat.mod_one, QL_zero] at e1
            have : q = a + 1 := by
              have := congrArg List.head? e1
              simpa using this
            omega
          · exact e4 z
        intro x hx
        rcases List.mem_append.mp hx with hx | hx
        · cases M with
          | nil => cases hx
          | cons b M =>
            rcases List.mem_cons.mp hx with rfl | hx
            · have : QL q (p % q) = q / (p % q) :: QL (p % q) (q % (p % q)) := QL_step (by omega)
              rw [this] at e1
              have : q / (p % q) = x := by
                have := congrArg List.head? e1
                simpa using this
              rw [← this]
              exact Nat.div_pos (by omega) (by omega)
            · exact e3 x (List.mem_append_left _ hx)
        · rw [List.mem_singleton.mp hx]; exact ha
      · by_cases z : p % q = 1
        · have eM := e5 z
          subst eM
          rw [QL_step (show 0 < p % q by omega), z, Nat.div_one, Nat.mod_one, QL_zero] at e1
          have : q = a + 1 := by
            have := congrArg List.head? e1
            simpa using this
          omega
        · exact e4 z
/-! places -/
/-- the fractions of the first n levels -/
def lvs : Nat → List (Int × Int)
  | 0 => []
  | n + 1 => lvs n ++ fw n
def Pl (v : Int × Int) (k : Nat) : Prop := ∃ n, (lvs n)[k]? = some v
theorem lvs_pre (n : Nat) : ∀ m : Nat, ∃ X, lvs (n + m) = lvs n ++ X
  | 0 => ⟨[], by rw [List.append_nil]; rfl⟩
  | m + 1 => by
    obtain ⟨X, e⟩ := lvs_pre n m
    exact ⟨X ++ fw (n + m), by show lvs (n + m) ++ fw (n + m) = _; rw [e, List.append_assoc]⟩
theorem lvs_get {n m k : Nat} {v : Int × Int} (h : (lvs n)[k]? = some v) (l : n ≤ m) : (lvs m)[k]? = some v := by
  obtain ⟨X, e⟩ := lvs_pre n (m - n)
  rw [show n + (m - n) = m by omega] at e
  rw [e, List.getElem?_append_left (List.getElem?_eq_some_iff.mp h).1]
  exact h
theorem lvs_le {n m : Nat} (l : n ≤ m) : (lvs n).length ≤ (lvs m).length := by
  obtain ⟨X, e⟩ := lvs_pre n (m - n)
  rw [show n + (m - n) = m by omega] at e
  rw [e, List.length_append]
  omega
theorem pl_val {u v : Int × Int} {k : Nat} (h : Pl u k) (h' : Pl v k) : u = v := by
  obtain ⟨n, h⟩ := h
  obtain ⟨m, h'⟩ := h'
  have a := lvs_get h (Nat.le_max_left n m)
  have b := lvs_get h' (Nat.le_max_right n m)
  rw [a] at b
  exact Option.some.inj b
/-- where v stands: in the level of its steps -/
theorem fw_all (n : Nat) : Asc (fw n) ∧ ∀ v, v ∈ fw n ↔ Good v ∧ stp v = n := by
  rcases (show n = 0 ∨ n = 1 ∨ 2 ≤ n by omega) with rfl | rfl | h
  · refine ⟨List.pairwise_singleton _ _, fun v => ?_⟩
    show v ∈ [(0, 1)] ↔ _
    rw [List.mem_singleton]
    constructor
    · rintro rfl; exact ⟨⟨.inl (by decide), by decide⟩, stp_zero⟩
    · rintro ⟨g, s⟩; exact stp_eq_zero g s
  · refine ⟨?_, fun v => ?_⟩
    · show List.Pairwise (fun v u : Int × Int => v.1 * u.2 < u.1 * v.2) [(-1, 1), (1, 1), (1, 0)]
      decide
    · show v ∈ [(-1, 1), (1, 1), (1, 0)] ↔ _
      rw [List.mem_cons, List.mem_cons, List.mem_singleton]
      constructor
      · rintro (rfl | rfl | rfl)
        · exact ⟨⟨.inl (by decide), by decide⟩, by have := stp_neg 1 1; rw [stp_one] at this; exact this⟩
        · exact ⟨pos_one.1, stp_one⟩
        · exact ⟨⟨.inr rfl, by decide⟩, stp_inf⟩
      · rintro ⟨g, s⟩
        obtain ⟨p, q⟩ := v
        have l := ps_lst (n := 1) (by decide)
        have le : ps 1 = [(1, 1)] := rfl
        rw [le] at l
        rcases good_den g with hq | ⟨p1, q0⟩
        · have hq' : 0 < q := hq
          rcases Int.lt_trichotomy p 0 with c | c | c
          · have m := List.mem_singleton.mp ((l.mem (-p, q)).mpr ⟨⟨⟨.inl hq', by show Int.gcd (-p) q = 1; rw [Int.neg_gcd]; exact g.2⟩, by show 0 < -p; omega, hq'⟩, by rw [stp_neg]; exact s⟩)
            have e1 : -p = 1 := congrArg Prod.fst m
            have e2 : q = 1 := congrArg Prod.snd m
            exact .inl (by rw [e2, show p = -1 by omega])
          · subst c
            have g2 : Int.gcd 0 q = 1 := g.2
            rw [Int.gcd_zero_left] at g2
            rw [show q = 1 by omega, stp_zero] at s
            omega
          · exact .inr (.inl (List.mem_singleton.mp ((l.mem _).mpr ⟨⟨g, c, hq'⟩, s⟩)))
        · have h1 : p = 1 := p1
          have h2 : q = 0 := q0
          exact .inr (.inr (by rw [h1, h2]))
  · exact fw_is h
theorem lvs_mem : ∀ (n : Nat) (v : Int × Int), v ∈ lvs n → Good v ∧ stp v < n
  | 0, v, h => by cases h
  | n + 1, v, h => by
    rcases List.mem_append.mp (show v ∈ lvs n ++ fw n from h) with h | h
    · have := lvs_mem n v h
      exact ⟨this.1, by omega⟩
    · have := ((fw_all n).2 v).mp h
      exact ⟨this.1, by omega⟩
theorem pl_at {v : Int × Int} {k : Nat} (h : Pl v k) : Good v ∧ (lvs (stp v)).length ≤ k ∧ (fw (stp v))[k - (lvs (stp v)).length]? = some v := by
  obtain ⟨n, h⟩ := h
  have m := lvs_mem n v (List.mem_of_getElem? h)
  refine ⟨m.1, ?_⟩
  have h1 : (lvs (stp v + 1))[k]? = some v ∨ (lvs (stp v + 1)).length ≤ k := by
    by_cases c : k < (lvs (stp v + 1)).length
    · have e := List.getElem?_eq_getElem c
      have := lvs_get e (show stp v + 1 ≤ n by omega)
      rw [h] at this
      exact .inl (e.trans this.symm)
    · exact .inr (by omega)
  have key : ∀ (j : Nat), stp v < j → (lvs j)[k]? = some v → (lvs (stp v)).length ≤ k ∧ (fw (stp v))[k - (lvs (stp v)).length]? = some v := by
    intro j
    induction j with
    | zero => intro z; omega
    | succ j ih =>
      intro hj he
      have e : lvs (j + 1) = lvs j ++ fw j := rfl
      rw [e] at he
      by_cases c : k < (lvs j).length
      · rw [List.getElem?_append_left c] at he
        have := (lvs_mem j v (List.mem_of_getElem? he)).2
        exact ih this he
      · rw [List.getElem?_append_right (by omega)] at he
        have := (((fw_all j).2 v).mp (List.mem_of_getElem? he)).2
        subst this
        exact ⟨by omega, he⟩
  exact key n m.2 h
theorem pl_mk {v : Int × Int} {n i : Nat} (h : (fw n)[i]? = some v) : Pl v ((lvs n).length + i) := by
  refine ⟨n + 1, ?_⟩
  show (lvs n ++ fw n)[_]? = _
  rw [List.getElem?_append_right (by omega), Nat.add_sub_cancel_left]
  exact h
theorem ltv_irr {v : Int × Int} (h : ltv v v) : False := ltv_asym h h
theorem pl_fun {v : Int × Int} {k j : Nat} (h : Pl v k) (h' : Pl v j) : k = j := by
  obtain ⟨_, a1, a2⟩ := pl_at h
  obtain ⟨_, b1, b2⟩ := pl_at h'
  have as := List.pairwise_iff_getElem.mp (fw_all (stp v)).1
  obtain ⟨la, ea⟩ := List.getElem?_eq_some_iff.mp a2
  obtain ⟨lb, eb⟩ := List.getElem?_eq_some_iff.mp b2
  rcases Nat.lt_trichotomy (k - (lvs (stp v)).length) (j - (lvs (stp v)).length) with c | c | c
  · have := as _ _ la lb c
    rw [ea, eb] at this
    exact absurd this ltv_irr
  · omega
  · have := as _ _ lb la c
    rw [ea, eb] at this
    exact absurd this ltv_irr
theorem fw_pz {n : Nat} (h : 2 ≤ n) : fw n = (pz n).reverse.map ngv ++ pz n := by
  obtain ⟨m, rfl⟩ : ∃ m, n = m + 2 := ⟨n - 2, by omega⟩
  unfold fw
  rw [if_neg (by omega), if_neg (by omega)]
  rfl
theorem fw_two {n : Nat} (h : 2 ≤ n) : ((fw n).length : Int) = 2 * (FB n).1 := by
  obtain ⟨m, rfl⟩ : ∃ m, n = m + 2 := ⟨n - 2, by omega⟩
  rw [fw_pz h, FB_pz (m + 1), List.length_append, List.length_map, List.length_reverse]
  show _ = 2 * ((pz (m + 2)).length : Int)
  omega
theorem lvs_len : ∀ n : Nat, ((lvs (n + 2)).length : Int) = 2 * (FB (n + 3)).1
  | 0 => rfl
  | n + 1 => by
    have ih := lvs_len n
    have e : lvs (n + 3) = lvs (n + 2) ++ fw (n + 2) := rfl
    have f := fw_two (n := n + 2) (by omega)
    have g : (FB (n + 4)).1 = (FB (n + 3)).1 + (FB (n + 2)).1 := rfl
    show ((lvs (n + 3)).length : Int) = 2 * (FB (n + 4)).1
    rw [e, List.length_append, g]
    omega
/-- the negative one and the positive one that stand behind g greater ones -/
theorem fw_neg {n g : Nat} {v : Int × Int} (h : 2 ≤ n) (t : Top n g v) : (fw n)[g]? = some (ngv v) := by
  have l := t.lt
  rw [fw_pz h, List.getElem?_append_left (by rw [List.length_map, List.length_reverse]; exact l), List.getElem?_map]
  unfold Top at t
  rw [t]
  rfl
theorem fw_posi {n g : Nat} {v : Int × Int} (h : 2 ≤ n) (t : Top n g v) : (fw n)[2 * (pz n).length - 1 - g]? = some v := by
  have l := t.lt
  unfold Top at t
  rw [List.getElem?_reverse l] at t
  rw [fw_pz h, List.getElem?_append_right (by rw [List.length_map, List.length_reverse]; omega), List.length_map, List.length_reverse]
  rw [show 2 * (pz n).length - 1 - g - (pz n).length = (pz n).length - 1 - g by omega]
  exact t
theorem FB_grow : ∀ k : Nat, 2 ^ k ≤ (FB (2 * k + 1)).1 ∧ 2 ^ k ≤ (FB (2 * k + 2)).1
  | 0 => by decide
  | k + 1 => by
    have ih := FB_grow k
    have e1 : (FB (2 * (k + 1) + 1)).1 = (FB (2 * k + 2)).1 + (FB (2 * k + 1)).1 := rfl
    have e2 : (FB (2 * (k + 1) + 2)).1 = (FB (2 * (k + 1) + 1)).1 + (FB (2 * k + 2)).1 := rfl
    have h0 : (0 : Int) < 2 ^ k := Int.pow_pos (by decide)
    rw [Int.pow_succ]
    omega
theorem pl_small {n m : Nat} {k : Nat} (h : (lvs (n + 2)).length ≤ k) (hk : k < 2 ^ m) : n ≤ 2 * m := by
  refine Decidable.byContradiction fun c => ?_
  have l := lvs_len n
  have g := FB_grow m
  have mono : ∀ j : Nat, (FB (2 * m + 1)).1 ≤ (FB (2 * m + 1 + j)).1 := by
    intro j
    induction j with
    | zero => exact Int.le_refl _
    | succ j ih =>
      have b : 0 ≤ (FB (2 * m + 1 + j)).2 := by
        have := FB_pz (2 * m + j)
        rw [show 2 * m + 1 + j = 2 * m + j + 1 by omega, this]
        exact Int.natCast_nonneg _
      show _ ≤ (FB (2 * m + 1 + j)).1 + (FB (2 * m + 1 + j)).2
      omega
  have := mono (n + 3 - (2 * m + 1))
  rw [show 2 * m + 1 + (n + 3 - (2 * m + 1)) = n + 3 by omega] at this
  have e : ((2 ^ m : Nat) : Int) = (2 : Int) ^ m := by rw [Int.natCast_pow]; rfl
  have hk' : (k : Int) < (2 : Int) ^ m := by rw [← e]; exact Int.ofNat_lt.mpr hk
  omega
theorem pl_stp {v : Int × Int} {k m : Nat} (h : Pl v k) (hk : k < 2 ^ m) : stp v ≤ 2 * m + 2 := by
  obtain ⟨_, a, _⟩ := pl_at h
  by_cases c : stp v < 2
  · omega
  · have := pl_small (n := stp v - 2) (m := m) (k := k) (by rw [show stp v - 2 + 2 = stp v by omega]; exact a) hk
    omega
theorem FB_le : ∀ n : Nat, 0 ≤ (FB n).1 ∧ (FB n).1 ≤ 2 ^ n ∧ 0 ≤ (FB n).2 ∧ (FB n).2 ≤ 2 ^ n
  | 0 => by decide
  | n + 1 => by
    have ih := FB_le n
    have e : (2 : Int) ^ (n + 1) = 2 ^ n + 2 ^ n := by rw [Int.pow_succ]; omega
    show 0 ≤ (FB n).1 + (FB n).2 ∧ (FB n).1 + (FB n).2 ≤ _ ∧ 0 ≤ (FB n).1 ∧ (FB n).1 ≤ _
    rw [e]
    omega
/-- a place is not great if the steps are few -/
theorem pl_lt {v : Int × Int} {k : Nat} (h : Pl v k) : k < 2 ^ (stp v + 4) := by
  obtain ⟨_, a, b⟩ := pl_at h
  have l := (List.getElem?_eq_some_iff.mp b).1
  have lt : k < (lvs (stp v + 1)).length := by
    show k < (lvs (stp v) ++ fw (stp v)).length
    rw [List.length_append]
    omega
  have le := lvs_le (show stp v + 1 ≤ stp v + 2 by omega)
  have e := lvs_len (stp v)
  have f := FB_le (stp v + 3)
  have e2 : ((2 ^ (stp v + 4) : Nat) : Int) = (2 : Int) ^ (stp v + 3) * 2 := by rw [Int.natCast_pow]; exact Int.pow_succ 2 (stp v + 3)
  have : (k : Int) < ((2 ^ (stp v + 4) : Nat) : Int) := by
    rw [e2]
    omega
  exact Int.ofNat_lt.mp this
end
section
theorem LvAt.rev {H H' : Hp} {p : Addr} {L : List (Int × Int)} {ts : List Addr} (s : Same H H') (tl : ts.length = L.length) (tv : ∀ (i : Nat) (t : Addr) (v : Int × Int), ts[i]? = some t → L[i]? = some v → Tup2 H t v) (hp : H' p = some (.lst (ts.map V.ref).reverse)) : LvAt H' p L.reverse := by
  refine ⟨ts.reverse, by rw [hp, List.map_reverse], by rw [List.length_reverse, List.length_reverse, tl], fun i t v ht hv => ?_⟩
  have hi : i < ts.length := by
    have := (List.getElem?_eq_some_iff.mp ht).1
    rw [List.length_reverse] at this
    exact this
  rw [List.getElem?_reverse hi] at ht
  rw [List.getElem?_reverse (by omega), ← tl] at hv
  exact (tv _ t v ht hv).same s
theorem LvAt.cat {H H' : Hp} {p q r : Addr} {L M : List (Int × Int)} {xs ys : List V} (h : LvAt H p L) (k : LvAt H q M) (s : Same H H') (hp : H p = some (.lst xs)) (hq : H q = some (.lst ys)) (hr : H' r = some (.lst (xs ++ ys))) : LvAt H' r (L ++ M) := by
  obtain ⟨ts, e1, z1, k1⟩ := h
  obtain ⟨us, e2, z2, k2⟩ := k
  rw [e1] at hp
  rw [e2] at hq
  cases hp; cases hq
  refine ⟨ts ++ us, by rw [hr, List.map_append], by rw [List.length_append, List.length_append, z1, z2], fun i t v ht hv => ?_⟩
  by_cases c : i < ts.length
  · rw [List.getElem?_append_left c] at ht
    rw [List.getElem?_append_left (by omega)] at hv
    exact (k1 i t v ht hv).same s
  · rw [List.getElem?_append_right (by omega)] at ht
    rw [List.getElem?_append_right (by omega), ← z1] at hv
    exact (k2 _ t v ht hv).same s
theorem LvAt.nil {H : Hp} {p : Addr} (h : H p = some (.lst [])) : LvAt H p [] := ⟨[], h, rfl, fun i t v ht => by cases ht⟩
theorem LvAt.next {H : Hp} {D t : Addr} {L : List (Int × Int)} {i : Nat} {v : Int × Int} (h : LvAt H D (L.take i)) (hv : L[i]? = some v) (T : Tup2 H t v) : ∃ xs, H D = some (.lst xs) ∧ xs.length = i ∧ LvAt (upd H D (.lst (xs ++ [.ref t]))) D (L.take (i + 1)) := by
  obtain ⟨us, h1, h2, h3⟩ := h
  have hi : i < L.length := (List.getElem?_eq_some_iff.mp hv).1
  refine ⟨us.map V.ref, h1, by rw [List.length_map, h2, List.length_take]; omega, ?_⟩
  rw [List.take_add_one, hv]
  exact LvAt.add h1 h2 h3 T
theorem ps2_len : ∀ n : Nat, (ps2 n).1.length ≤ 2 ^ n ∧ (ps2 n).2.length ≤ 2 ^ n
  | 0 => ⟨by decide, by decide⟩
  | n + 1 => by
    have ih := ps2_len n
    refine ⟨?_, ?_⟩
    · show (ps2 n).2.length ≤ _
      rw [Nat.pow_succ]
      omega
    · show ((ps2 n).1.reverse.map inn ++ (ps2 n).2.map out).length ≤ _
      rw [List.length_append, List.length_map, List.length_map, List.length_reverse, Nat.pow_succ]
      omega
theorem two_le {n : Nat} (h : n ≤ 20) : 2 ^ n ≤ 1048576 := Nat.le_trans (Nat.pow_le_pow_right (by decide) h) (by decide)
/-- a pair that stands in the written part -/
def KT (K : PySem.W.Frag) (t : Addr) (v : Int × Int) : Prop := (∀ G, SqT K G t [.int v.1, .int v.2]) ∧ ∃ o, K.lookup t = some o ∧ o.cls = .type "tuple"
structure FirstK (K : PySem.W.Frag) (mg : Str → Option Value) (f a1 a2 a3 a4 : Addr) : Prop where
  mg : mg "FIRST" = some (.ref f)
  at_ : ∀ G, SqT K G f [.ref a1, .ref a2, .ref a3, .ref a4]
  k1 : KT K a1 (0, 1)
  k2 : KT K a2 (-1, 1)
  k3 : KT K a3 (1, 1)
  k4 : KT K a4 (1, 0)
/-- the list that the program gives for so many steps -/
def FwAt (K : PySem.W.Frag) (a1 a2 a3 a4 : Addr) (H : Hp) (p : Addr) (n : Nat) : Prop :=
  (n = 0 ∧ H p = some (.lst [.ref a1])) ∨ (n = 1 ∧ H p = some (.lst [.ref a2, .ref a3, .ref a4])) ∨ (2 ≤ n ∧ LvAt H p (fw n))
def spFw (K : PySem.W.Frag) (a1 a2 a3 a4 : Addr) : Sp := fun vs H Q _ => ∃ n : Int, vs = [.int n] ∧ n ≤ 20 ∧ (n < 0 → ∀ p H', Same H H' → H p = none → H' p = some (.lst []) → Q (.ref p) H') ∧ (0 ≤ n → ∀ p H', Same H H' → H p = none → FwAt K a1 a2 a3 a4 H' p n.toNat → Q (.ref p) H')
end
section
def TupK (K : PySem.W.Frag) (H : Hp) (t : Addr) (v : Int × Int) : Prop := Tup2 H t v ∨ KT K t v
theorem TupK.sq {K : PySem.W.Frag} {H : Hp} {t : Addr} {v : Int × Int} (h : TupK K H t v) : SqT K H t [.int v.1, .int v.2] := by
  rcases h with h | h
  · exact SqT.of h
  · exact h.1 H
theorem TupK.ty {K : PySem.W.Frag} {H : Hp} {t : Addr} {v : Int × Int} (h : TupK K H t v) : TyX K H (.ref t) (.type "tuple") := by
  rcases h with h | ⟨_, o, e, c⟩
  · exact .base (.tup h)
  · exact .kTuple e c
theorem TupK.same {K : PySem.W.Frag} {H H' : Hp} {t : Addr} {v : Int × Int} (h : TupK K H t v) (s : Same H H') : TupK K H' t v := by
  rcases h with h | h
  · exact .inl (h.same s)
  · exact .inr h
end
theorem lg {x : Int} {n : Nat} (h0 : 0 ≤ x) (h : x ≤ 2 ^ n) : x.natAbs.log2 ≤ n := by
  obtain ⟨k, rfl⟩ := Int.eq_ofNat_of_zero_le h0
  rw [Int.natAbs_natCast]
  by_cases z : k = 0
  · subst z; exact Nat.zero_le _
  · have hk : k ≤ 2 ^ n := by
      have e : ((2 ^ n : Nat) : Int) = (2 : Int) ^ n := by rw [Int.natCast_pow]; rfl
      rw [← e] at h
      omega
    have : k.log2 < n + 1 := (Nat.log2_lt z).mpr (by rw [Nat.pow_succ]; have := Nat.pow_pos (n := n) (show 0 < 2 by decide); omega)
    omega
theorem FB_bd : ∀ n : Nat, 0 ≤ (FB n).1 ∧ (FB n).1 ≤ 2 ^ n ∧ 0 ≤ (FB n).2 ∧ (FB n).2 ≤ 2 ^ n := FB_le
def spLater : Sp := fun vs H Q _ => ∃ n m : Nat, vs = [.int (FB n).1, .int (FB n).2, .int (m : Int)] ∧ n ≤ 100000 ∧ m ≤ 100000 ∧ ∀ t H', Same H H' → H t = none → Tup2 H' t (FB (n + m)) → Q (.ref t) H'
def spFromQ (K : PySem.W.Frag) : Sp := fun vs H Q _ => ∃ (p : Addr) (L : List Nat), vs = [.ref p] ∧ SqL K H p (L.map fun a : Nat => V.int (a : Int)) ∧ (∀ a ∈ L, a < 2 ^ 8000) ∧ L.length ≤ 100000 ∧ (∀ k, (fq (L.drop k)).1.natAbs < 2 ^ 8000) ∧ ∀ t H', Same H H' → H t = none → Tup2 H' t (fq L) → Q (.ref t) H'
theorem lg8 {k : Nat} (h : k < 2 ^ 8000) : k.log2 ≤ 8000 := by
  by_cases z : k = 0
  · subst z; exact Nat.zero_le _
  · exact Nat.le_of_lt ((Nat.log2_lt z).mpr h)
section
theorem Room.units65 {k : Nat} {A : Around} (r : Room k A) : A.units + 65 < cLine := by have := r.un; omega
structure FirstX (K : PySem.W.Frag) (mg : Str → Option Value) (f a1 a2 a3 a4 : Addr) : Prop where
  F : FirstK K mg f a1 a2 a3 a4
  ty : ∃ o, K.lookup f = some o ∧ o.cls = .type "tuple" ∧ o.dict = none
def pd (v : Int × Int) : PyData := .tuple [.int v.1, .int v.2]
def firsts : List (Int × Int) := [(0, 1), (-1, 1), (1, 1), (1, 0)]
theorem TupK.dp {K : PySem.W.Frag} {H : Hp} {t : Addr} {v : Int × Int} (h : TupK K H t v) : Dp K H (.ref t) (pd v) := .tup h.sq (.cons (.int _) (.cons (.int _) .nil))
theorem FirstK.dp {K : PySem.W.Frag} {mg : Str → Option Value} {f a1 a2 a3 a4 : Addr} (F : FirstK K mg f a1 a2 a3 a4) (H : Hp) : Dp K H (.ref f) (.tuple (firsts.map pd)) :=
  .tup (F.at_ H) (.cons (TupK.dp (.inr F.k1)) (.cons (TupK.dp (.inr F.k2)) (.cons (TupK.dp (.inr F.k3)) (.cons (TupK.dp (.inr F.k4)) .nil))))
theorem firsts_lay : PyData.canLayAll0 (firsts.map pd) = true := by
  simp [firsts, pd, PyData.canLayAll0, PyData.canLay0]
theorem pd_eqv (v u : Int × Int) : PyData.eqv (pd v) (pd u) = decide (v = u) := eqv2 v u
theorem firsts_any (v : Int × Int) : ((firsts.map pd).any fun z => PyData.eqv z (pd v)) = decide (v ∈ firsts) := by
  rw [List.any_map]
  by_cases h : v ∈ firsts
  · rw [decide_eq_true h, List.any_eq_true]
    exact ⟨v, h, by show PyData.eqv (pd v) (pd v) = true; rw [pd_eqv]; exact decide_eq_true rfl⟩
  · rw [decide_eq_false h, List.any_eq_false]
    intro u hu z
    have z' : PyData.eqv (pd u) (pd v) = true := z
    rw [pd_eqv] at z'
    exact h (of_decide_eq_true z' ▸ hu)
/-- the list of the quotients, the last one being a -/
def nl (L : List Nat) : List V := L.map fun a : Nat => V.int (a : Int)
theorem nl_last (L : List Nat) (a : Nat) : atI (nl (L ++ [a])) (-1) = some (V.int (a : Int)) := by
  unfold nl
  rw [List.map_append]
  exact atI_end
theorem nl_ix (L : List Nat) (a : Nat) : ixN (nl (L ++ [a])).length (-1) = some L.length := by
  unfold ixN nl
  rw [if_neg (by decide), List.length_map, List.length_append]
  show (if -((L.length + 1 : Nat) : Int) ≤ -1 then some ((-1 : Int) + ((L.length + 1 : Nat) : Int)).toNat else none) = _
  rw [if_pos (by omega)]
  congr 1
  omega
theorem nl_set (L : List Nat) (a : Nat) (b : Nat) : (nl (L ++ [a])).set L.length (V.int (b : Int)) = nl (L ++ [b]) := by
  unfold nl
  rw [List.map_append, List.map_append, List.set_append, if_neg (by rw [List.length_map]; omega), List.length_map, Nat.sub_self]
  rfl
theorem nl_app (L : List Nat) (a : Nat) : nl L ++ [V.int (a : Int)] = nl (L ++ [a]) := by
  unfold nl
  rw [List.map_append]
  rfl
theorem fq_drop (L : List Nat) (k : Nat) {n : Nat} (h : L.sum ≤ n) (hn : n < 8000) : (fq (L.drop k)).1.natAbs < 2 ^ 8000 := by
  have b := fq_bd (L.drop k)
  have s : (L.drop k).sum ≤ L.sum := by
    have e := congrArg List.sum (List.take_append_drop k L)
    rw [List.sum_append] at e
    omega
  have e1 : ((2 ^ (L.drop k).sum : Nat) : Int) = (2 : Int) ^ (L.drop k).sum := by rw [Int.natCast_pow]; rfl
  have e2 : 2 ^ (L.drop k).sum < 2 ^ 8000 := Nat.pow_lt_pow_right (by decide) (by omega)
  generalize (L.drop k).sum = s1 at *
  omega
theorem mem_sum {L : List Nat} {a : Nat} (h : a ∈ L) : a ≤ L.sum := by
  induction L with
  | nil => cases h
  | cons b L ih =>
    rw [List.sum_cons]
    rcases List.mem_cons.mp h with rfl | h
    · omega
    · have := ih h
      omega
theorem sum_lt {L : List Nat} {n : Nat} (h : L.sum ≤ n) (hn : n < 8000) : ∀ a ∈ L, a < 2 ^ 8000 := fun a ha => by
  have := mem_sum ha
  exact Nat.lt_of_le_of_lt (show a ≤ 8000 by omega) Nat.lt_two_pow_self
/-- the program's own functions -/
def spPosAt (K : PySem.W.Frag) : Sp := fun vs H Q _ => ∃ (n g : Nat) (v : Int × Int), vs = [.int (g : Int), .int (FB n).1, .int (FB n).2] ∧ Top n g v ∧ n ≤ 7000 ∧ ∀ t H', Same H H' → H t = none → Tup2 H' t v → Q (.ref t) H'
def spAmong (K : PySem.W.Frag) : Sp := fun vs H Q _ => ∃ (t : Addr) (v : Int × Int), vs = [.ref t] ∧ TupK K H t v ∧ Good v ∧ v ∉ firsts ∧ stp v ≤ 7000 ∧ ∀ (n g : Nat) (r : Addr) H', Same H H' → H r = none → 2 ≤ n → Top n g ((v.1.natAbs : Int), v.2) → H' r = some (.tup [.int (FB n).1, .int (FB n).2, .int (g : Int)]) → Q (.ref r) H'
def spPlace (K : PySem.W.Frag) : Sp := fun vs H Q _ => ∃ (t : Addr) (v : Int × Int), vs = [.ref t] ∧ TupK K H t v ∧ Good v ∧ stp v ≤ 7000 ∧ ∀ (k : Nat) H', Same H H' → Pl v k → Q (.int (k : Int)) H'
def spFrAt (K : PySem.W.Frag) : Sp := fun vs H Q _ => ∃ k : Nat, vs = [.int (k : Int)] ∧ k < 2 ^ 3000 ∧ ∀ (t : Addr) (v : Int × Int) H', Same H H' → TupK K H' t v → Pl v k → Q (.ref t) H'
end
def spQuo (K : PySem.W.Frag) : Sp := fun vs H Q _ => ∃ (t : Addr) (v : Int × Int), vs = [.ref t] ∧ TupK K H t v ∧ Good v ∧ v.1.natAbs < 2 ^ 8000 ∧ v.2.natAbs < 2 ^ 8000 ∧ ∀ a H', Same H H' → H a = none → H' a = some (.lst (((quo v).map Int.ofNat).map V.int)) → Q (.ref a) H'
def spSteps (K : PySem.W.Frag) : Sp := fun vs H Q _ => ∃ (t : Addr) (v : Int × Int), vs = [.ref t] ∧ TupK K H t v ∧ Good v ∧ v.1.natAbs < 2 ^ 8000 ∧ v.2.natAbs < 2 ^ 8000 ∧ ∀ H', Same H H' → Q (.int (stp v)) H'
theorem same_upd {H0 G : Hp} {a : Addr} {o : HO} (s : Same H0 G) (n : H0 a = none) : Same H0 (upd G a o) := fun b u h => by rw [upd_ne (ne_of_none h n)]; exact s b u h
theorem sum_nat : ∀ l : List Nat, ((l.map Int.ofNat).sum : Int) = ((l.sum : Nat) : Int)
  | [] => rfl
  | a :: l => by
    rw [List.map_cons, List.sum_cons, List.sum_cons, sum_nat l]
    rfl
section
variable {P : Program} {w : World} {K : PySem.W.Frag} {mg : Str → Option Value} {base : Heap} {f : Addr} {fd : FuncData}
theorem ok_quotients (F : Fun K "quotients" "quotients" s_quotients f fd) (y_abs : mg "abs" = none)  : FnOk P w K mg base CX0 1 f fd ["fraction"] (spQuo K) := by
  refine F.ok sc_quotients (fun vs H Q E h => ?_) (fun cdv A outer s H vs Q E hr h => ?_)
  · obtain ⟨t, v, rfl, hT, g, z1, z2, q⟩ := h
    rfl
  obtain ⟨t, v, rfl, hT, g, z1, z2, q⟩ := h
  refine ⟨_, (pss_cons (ps_asg (pv 0) (pg_tup (by rfl) (pgs_cons (pg_name (i := 1) sc_quotients.nd rfl (.inl rfl)) (pgs_cons (pg_name (i := 2) sc_quotients.nd rfl (.inl rfl)) pgs_nil))))
    (pss_cons (ps_if (pt_cmpR op_eq (pv 2) pe_int (nomark _)) (pss_one (ps_ret (pe_lst (pa_cons pe_int (pa_cons pe_int pa_nil))))) pss_nil)
    (pss_cons (ps_set (i := 3) sc_quotients.nd rfl (.inl rfl) (pe_lst pa_nil))
    (pss_cons (ps_set (i := 4) sc_quotients.nd rfl (.inl rfl) (pe_callB call_abs rfl y_abs (by decide +kernel) (pa_cons (pv 1) pa_nil)))
    (pss_cons (ps_while PassesOwn.never (pt_cmpR op_gt (pv 2) pe_int (nomark _)) (pss_cons (ps_expr (pe_bm PySem.F.plainAttrs_list PySem.F.slot_list_append PySem.F.type_list_append mt_append (pv 3) (pa_cons (pe_op op_fdivW (pv 4) (pv 2)) pa_nil)))
    (pss_one (ps_par (i := 4) (j := 2) (by rfl) sc_quotients.nd rfl rfl (by decide) rfl rfl (pa_cons (pv 2) (pa_cons (pe_op op_modN (pv 4) (pv 2)) pa_nil)) (by rfl)))))
    (pss_one (ps_ret (pv 3)))))))), ?_⟩
  obtain ⟨p, q'⟩ := v
  refine ⟨_, rfl, t, _, rfl, hT.sq, rfl, _, _, rfl, _, _, rfl, rfl, ?_⟩
  refine ⟨_, rfl, rfl, _, rfl, ite2 (fun c => ?_) (fun c => ?_)⟩
  · have k : q' = 0 := V.int.inj (of_decide_eq_true c)
    subst k
    refine ⟨fits (by decide), fun a ha => q a _ (same_new ha _) ha ?_⟩
    rw [upd_same]
    rfl
  have k : ¬ q' = 0 := fun z => c (decide_eq_true (congrArg V.int z))
  have h0 : 0 < q' := by
    rcases g.1 with h1 | h1
    · exact h1
    · cases h1; exact absurd rfl k
  have eq0 : quo (p, q') = QL p.natAbs q'.natAbs := if_neg k
  have ql := quo_len (v := (p, q')) (n := 8000) z2 (by decide)
  rw [eq0] at q ql
  refine ⟨fits (by decide), fun pa hpa => ⟨_, rfl, _, rfl, ?_⟩⟩
  have e2 : (if p < 0 then -p else p) = (p.natAbs : Int) := by split <;> omega
  rw [e2]
  refine while_by (fun σ G => ∃ (x y : Nat) (cs : List Nat), σ = [some (.ref t), some (.int p), some (.int (y : Int)), some (.ref pa), some (.int (x : Int))] ∧ Same H G ∧ G pa = some (.lst ((cs.map Int.ofNat).map V.int)) ∧ QL p.natAbs q'.natAbs = cs ++ QL x y ∧ y < 2 ^ 8000) (fun σ _ => match σ with | [_, _, some (.int b), _, _] => b.natAbs | _ => 0) ⟨p.natAbs, q'.natAbs, [], by rw [Int.natAbs_of_nonneg (Int.le_of_lt h0)]; rfl, same_new hpa _, upd_same, rfl, z2⟩ ?_ ?_
  · rintro σ G ⟨x, y, cs, rfl, sm, hG, ej, yb⟩
    refine ⟨_, rfl, _, _, rfl, rfl, _, rfl, ite2 (fun c1 => ?_) (fun c1 => ?_)⟩
    · have y0 : 0 < y := by
        have : (0 : Int) < (y : Int) := of_decide_eq_true c1
        omega
      have gd := wide_div (i := (x : Int)) (j := (y : Int)) (b := 8000) (by omega) (by rw [Int.natAbs_natCast]; exact yb) (by decide) (by decide)
      have lc : cs.length + 1 ≤ 16000 := by
        rw [ej, QL_step y0, List.length_append, List.length_cons] at ql
        omega
      refine ⟨_, rfl, .inl ⟨rfl, _, SqL.of hG⟩, _, rfl, _, rfl, _, _, rfl, rfl, gd, pa, _, _, rfl, rfl, hG, Nat.lt_of_lt_of_le (show ((cs.map Int.ofNat).map V.int).length < 16777216 by rw [List.length_map, List.length_map]; omega) sizeLine_big, ?_⟩
      refine ⟨_, rfl, _, rfl, _, rfl, _, _, rfl, rfl, (show (y : Int) ≠ 0 by omega), _, _, rfl, ⟨y, x % y, cs ++ [x / y], ?_, same_upd sm hpa, ?_, ?_, Nat.lt_trans (Nat.mod_lt _ y0) yb⟩, ?_⟩
      · have em : ((x : Int).fmod (y : Int)) = ((x % y : Nat) : Int) := by
          rw [Int.fmod_eq_emod_of_nonneg _ (Int.natCast_nonneg y)]
          rfl
        rw [← em]
        rfl
      · rw [upd_same, List.map_append, List.map_append]
        rfl
      · rw [ej, QL_step y0, List.append_assoc]
        rfl
      · show ((x : Int).fmod (y : Int)).natAbs < (y : Int).natAbs
        exact fmod_less (by omega)
    · have y0 : y = 0 := by
        have : ¬ (0 : Int) < (y : Int) := fun z => c1 (decide_eq_true z)
        omega
      subst y0
      rw [QL_zero, List.append_nil] at ej
      rw [ej] at q
      exact ⟨_, rfl, q pa G sm hpa hG⟩
  · rintro σ H' Q1 Q2 hm ⟨v, e, i, j, e1, e2, b, e3, qq⟩
    exact ⟨v, e, i, j, e1, e2, b, e3, hm _ _ qq⟩
end
section
variable {P : Program} {w : World} {K : PySem.W.Frag} {mg : Str → Option Value} {base : Heap} {f : Addr} {fd : FuncData}
theorem ok_later (F : Fun K "later" "later" s_later f fd) (y_range : mg "range" = none)  : FnOk P w K mg base CX0 1 f fd ["many", "fewer", "by"] spLater := by
  refine F.ok sc_later (fun vs H Q E h => ?_) (fun cdv A outer s H vs Q E hr h => ?_)
  · obtain ⟨n, m, rfl, hn, hm, q⟩ := h
    rfl
  obtain ⟨n, m, rfl, hn, hm, q⟩ := h
  refine ⟨_, (pss_cons (ps_asg (pe_tup (pa_cons pe_int (pa_cons pe_int pa_nil))) (pg_tup (by rfl) (pgs_cons (pg_name (i := 3) sc_later.nd rfl (.inl rfl)) (pgs_cons (pg_name (i := 4) sc_later.nd rfl (.inl rfl)) pgs_nil))))
    (pss_cons (ps_for PassesOwn.never rfl (pi_range3 rfl y_range (pa_cons (pe_op op_sub (pe_bm0 PySem.F.plainAttrs_int PySem.F.slot_int_bit_length PySem.F.type_int_bit_length mt_bitlen (pv 2)) pe_int) (pa_cons (pe_un un_neg pe_int) (pa_cons (pe_un un_neg pe_int) pa_nil)))) (pg_name (i := 5) sc_later.nd rfl (.inl rfl))
    (pss_cons (ps_par (i := 3) (j := 4) (by rfl) sc_later.nd rfl rfl (by decide) rfl rfl (pa_cons (pe_op op_mulW (pv 3) (pe_op op_add (pv 3) (pe_op op_mul pe_int (pv 4)))) (pa_cons (pe_op op_add (pe_op op_mulW (pv 3) (pv 3)) (pe_op op_mulW (pv 4) (pv 4))) pa_nil)) (by rfl))
    (pss_one (ps_if (pt_truth (pe_op op_andM (pe_op op_shrN (pv 2) (pv 5)) pe_int) (fun _ => rfl)) (pss_one (ps_par (i := 3) (j := 4) (by rfl) sc_later.nd rfl rfl (by decide) rfl rfl (pa_cons (pe_op op_add (pv 3) (pv 4)) (pa_cons (pv 3) pa_nil)) (by rfl))) pss_nil))))
    (pss_one (ps_ret (pe_tup (pa_cons (pe_op op_add (pe_op op_mulW (pv 0) (pe_op op_add (pv 3) (pv 4))) (pe_op op_mulW (pv 1) (pv 3))) (pa_cons (pe_op op_add (pe_op op_mulW (pv 0) (pv 3)) (pe_op op_mulW (pv 1) (pv 4))) pa_nil))))))), ?_⟩
  have two : 2 ≤ sizeLine := fits (by decide)
  have b1 := FB_bd n
  refine ⟨two, fun ta hta => ?_⟩
  have s0 := same_new hta (.tup [V.int 0, .int 1])
  refine ⟨ta, _, rfl, SqT.of upd_same, rfl, _, _, rfl, _, _, rfl, rfl, ?_⟩
  generalize upd H ta (.tup [V.int 0, .int 1]) = H1 at *
  have bs : Builtin.Int.intBits (m : Int) ≤ 100000 := by
    by_cases z : m = 0
    · subst z; exact Nat.zero_le _
    · rw [bits_pos z]
      have := (Nat.log2_lt z).mpr (Nat.lt_of_le_of_lt hm (show 100000 < 2 ^ 17 by decide))
      omega
  have all := bits_all m
  generalize hB : Builtin.Int.intBits (m : Int) = B at *
  have step := RgC.neg (i := (B : Int) - 1) (j := -1) (by omega) (by omega) (by omega) (by omega)
  rw [show ((B : Int) - 1 - -1).toNat = B by omega] at step
  refine ⟨_, rfl, rfl, (m : Int), rfl, rfl, ?_⟩
  rw [hB]
  refine ⟨_, _, rfl, rfl, _, rfl, _, rfl, _, _, _, B, rfl, step, for_rangeC (fun i σ G => G = H1 ∧ ∃ x5 : Option V, σ = [some (.int (FB n).1), some (.int (FB n).2), some (.int (m : Int)), some (.int (FB (m / 2 ^ (B - i))).1), some (.int (FB (m / 2 ^ (B - i))).2), x5]) ?_ ?_ ?_⟩
  · refine ⟨rfl, none, ?_⟩
    rw [Nat.sub_zero, all]
    rfl
  · rintro i σ _ hi ⟨rfl, x5, rfl⟩
    have ek : ((B : Int) - 1 + (i : Int) * -1) = ((B - (i + 1) : Nat) : Int) := by omega
    rw [ek]
    have bn := bit_next m (B - (i + 1))
    rw [show B - (i + 1) + 1 = B - i by omega] at bn
    have jm : m / 2 ^ (B - i) ≤ m := Nat.div_le_self _ _
    generalize m / 2 ^ (B - i) = j at *
    have bj := FB_bd j
    have e2 : (2 : Int) ^ (j + 2) = 4 * 2 ^ j := by rw [Int.pow_succ, Int.pow_succ]; omega
    have l1 := lg bj.1 bj.2.1
    have l2 := lg bj.2.2.1 bj.2.2.2
    have l3 := lg (x := (FB j).1 + 2 * (FB j).2) (n := j + 2) (by omega) (by rw [e2]; omega)
    refine ⟨_, rfl, _, rfl, _, rfl, _, _, rfl, rfl, .inl ⟨by decide, by decide⟩, _, _, rfl, rfl, _, _, rfl, rfl, (by show _ + _ < 1000000; omega), ?_⟩
    refine ⟨_, rfl, _, rfl, _, _, rfl, rfl, (by show _ + _ < 1000000; omega), _, rfl, _, rfl, _, _, rfl, rfl, (by show _ + _ < 1000000; omega), _, _, rfl, rfl, _, _, rfl, ?_⟩
    have fd := FB_double j
    have f1 : (FB j).1 * ((FB j).1 + 2 * (FB j).2) = (FB (j + j)).1 := by rw [fd]
    have f2 : (FB j).1 * (FB j).1 + (FB j).2 * (FB j).2 = (FB (j + j)).2 := by rw [fd]
    refine ⟨_, rfl, _, rfl, _, _, rfl, rfl, _, 1, rfl, rfl, _, rfl, ?_⟩
    have er : ((m : Int) / 2 ^ (B - (i + 1)) % 2 ^ 1) = ((m / 2 ^ (B - (i + 1)) % 2 : Nat) : Int) := by
      rw [Int.natCast_emod, Int.natCast_ediv, Int.natCast_pow]
      rfl
    rw [er]
    have two_ : m / 2 ^ (B - (i + 1)) % 2 = 0 ∨ m / 2 ^ (B - (i + 1)) % 2 = 1 := by omega
    rcases two_ with z | z
    · rw [z] at bn ⊢
      refine iteF ⟨rfl, some (V.int ((B - (i + 1) : Nat) : Int)), ?_⟩
      rw [bn]
      show _ = [_, _, _, some (V.int (FB (j + j)).1), some (V.int (FB (j + j)).2), _]
      rw [← f1, ← f2]
      rfl
    · rw [z] at bn ⊢
      refine iteT ⟨_, rfl, _, rfl, _, _, rfl, rfl, _, rfl, _, _, rfl, rfl, some (V.int ((B - (i + 1) : Nat) : Int)), ?_⟩
      rw [bn]
      show _ = [_, _, _, some (V.int ((FB (j + j)).1 + (FB (j + j)).2)), some (V.int (FB (j + j)).1), _]
      rw [← f1, ← f2]
      rfl
  · rintro σ _ ⟨rfl, x5, rfl⟩
    rw [Nat.sub_self, Nat.pow_zero, Nat.div_one]
    have bj := FB_bd m
    have e2 : (2 : Int) ^ (m + 1) = 2 * 2 ^ m := by rw [Int.pow_succ]; omega
    have l1 := lg bj.1 bj.2.1
    have l2 := lg bj.2.2.1 bj.2.2.2
    have l3 := lg (x := (FB m).1 + (FB m).2) (n := m + 1) (by omega) (by rw [e2]; omega)
    have l4 := lg b1.1 b1.2.1
    have l5 := lg b1.2.2.1 b1.2.2.2
    refine ⟨_, rfl, _, rfl, _, rfl, _, _, rfl, rfl, _, _, rfl, rfl, (by show _ + _ < 1000000; omega), _, rfl, _, rfl, _, _, rfl, rfl, (by show _ + _ < 1000000; omega), _, _, rfl, rfl, ?_⟩
    refine ⟨_, rfl, _, rfl, _, _, rfl, rfl, (by show _ + _ < 1000000; omega), _, rfl, _, rfl, _, _, rfl, rfl, (by show _ + _ < 1000000; omega), _, _, rfl, rfl, ?_⟩
    refine ⟨two, fun t ht => ?_⟩
    have ht0 : H t = none := by
      cases e : H t with
      | none => rfl
      | some o => rw [s0 _ _ e] at ht; cases ht
    refine q t _ (s0.trans (same_new ht _)) ht0 ?_
    rw [FB_add]
    exact upd_same
end
section
variable {P : Program} {w : World} {K : PySem.W.Frag} {mg : Str → Option Value} {base : Heap} {f : Addr} {fd : FuncData}
theorem ok_fromq (F : Fun K "from_quotients" "from_quotients" s_from_quotients f fd)   : FnOk P w K mg base CX0 1 f fd ["parts"] (spFromQ K) := by
  refine F.ok sc_from_quotients (fun vs H Q E h => ?_) (fun cdv A outer s H vs Q E hr h => ?_)
  · obtain ⟨p, L, rfl, hp, la, ll, lf, q⟩ := h
    rfl
  obtain ⟨p, L, rfl, hp, la, ll, lf, q⟩ := h
  refine ⟨_, (pss_cons (ps_asg (pe_tup (pa_cons pe_int (pa_cons pe_int pa_nil))) (pg_tup (by rfl) (pgs_cons (pg_name (i := 1) sc_from_quotients.nd rfl (.inl rfl)) (pgs_cons (pg_name (i := 2) sc_from_quotients.nd rfl (.inl rfl)) pgs_nil))))
    (pss_cons (ps_for PassesOwn.never rfl (pi_list (pe_revL (pv 0))) (pg_name (i := 3) sc_from_quotients.nd rfl (.inl rfl))
    (pss_one (ps_par (i := 1) (j := 2) (by rfl) sc_from_quotients.nd rfl rfl (by decide) rfl rfl (pa_cons (pe_op op_add (pe_op op_mulW (pv 3) (pv 1)) (pv 2)) (pa_cons (pv 1) pa_nil)) (by rfl))))
    (pss_one (ps_ret (pe_tup (pa_cons (pv 1) (pa_cons (pv 2) pa_nil))))))), ?_⟩
  have two : 2 ≤ sizeLine := fits (by decide)
  refine ⟨two, fun ta hta => ?_⟩
  have s0 := same_new hta (.tup [V.int 1, .int 0])
  refine ⟨ta, _, rfl, SqT.of upd_same, rfl, _, _, rfl, _, _, rfl, rfl, ?_⟩
  generalize upd H ta (.tup [V.int 1, .int 0]) = H1 at *
  refine ⟨_, rfl, p, _, rfl, s0.seq hp, fun rp hrp => ?_⟩
  have s1 := same_new hrp (.lst (L.map fun a : Nat => V.int (a : Int)).reverse)
  have er : (upd H1 rp (.lst (L.map fun a : Nat => V.int (a : Int)).reverse)) rp = some (.lst (L.map fun a : Nat => V.int (a : Int)).reverse) := upd_same
  generalize upd H1 rp (.lst (L.map fun a : Nat => V.int (a : Int)).reverse) = H2 at *
  refine ⟨rp, rfl, ⟨_, SqL.of er⟩, for_list (K := K) (a := rp) (xs := (L.map fun a : Nat => V.int (a : Int)).reverse) (fun i σ G => G = H2 ∧ ∃ x3 : Option V, σ = [some (.ref p), some (.int (fq (L.drop (L.length - i))).1), some (.int (fq (L.drop (L.length - i))).2), x3]) ?_ ?_ ?_ ?_⟩
  · refine ⟨rfl, none, ?_⟩
    rw [Nat.sub_zero, List.drop_length]
    rfl
  · rintro i σ _ _ ⟨rfl, _⟩
    exact SqL.of er
  · rintro i x σ _ hx ⟨rfl, x3, rfl⟩
    have hi : i < L.length := by
      have := (List.getElem?_eq_some_iff.mp hx).1
      rw [List.length_reverse, List.length_map] at this
      exact this
    rw [List.getElem?_reverse (by rw [List.length_map]; exact hi), List.length_map, List.getElem?_map, List.getElem?_eq_getElem (by omega)] at hx
    cases hx
    have ed : L.drop (L.length - (i + 1)) = L[L.length - 1 - i] :: L.drop (L.length - i) := by
      rw [List.drop_eq_getElem_cons (by omega)]
      congr 1
      · congr 1; omega
      · congr 1; omega
    have lb := lf (L.length - i)
    have ha := la _ (List.getElem_mem (by omega : L.length - 1 - i < L.length))
    rw [ed]
    generalize L[L.length - 1 - i] = a at *
    refine ⟨_, rfl, _, rfl, _, _, rfl, rfl, ?_, _, rfl, _, _, rfl, rfl, _, rfl, _, _, rfl, rfl, some (V.int (a : Int)), rfl⟩
    have := lg8 lb
    have := lg8 ha
    show ((a : Nat) : Int).natAbs.log2 + _ < 1000000
    rw [Int.natAbs_natCast]
    omega
  · rintro σ _ ⟨rfl, x3, rfl⟩
    rw [List.length_reverse, List.length_map, Nat.sub_self, List.drop_zero]
    refine ⟨_, rfl, _, rfl, two, fun t ht => ?_⟩
    have ht0 : H t = none := by
      cases e : H t with
      | none => rfl
      | some o => rw [(s0.trans s1) _ _ e] at ht; cases ht
    exact q t _ (s0.trans (s1.trans (same_new ht _))) ht0 upd_same
end
section
variable {P : Program} {w : World} {K : PySem.W.Frag} {mg : Str → Option Value} {base : Heap} {f : Addr} {fd : FuncData}
theorem ok_among_positive (F : Fun K "among_positive" "among_positive" s_among_positive f fd) (D_quotients : Dfn P w K mg base "quotients" 1 ["fraction"] (spQuo K)) (D_later : Dfn P w K mg base "later" 1 ["many", "fewer", "by"] spLater)  : FnOk P w K mg base CX0 2 f fd ["fraction"] (spAmong K) := by
  refine F.ok sc_among_positive (fun vs H Q E h => ?_) (fun cdv A outer s H vs Q E hr h => ?_)
  · obtain ⟨t, v, rfl, hT, g, nf, sl, q⟩ := h
    rfl
  obtain ⟨t, v, rfl, hT, g, nf, sl, q⟩ := h
  refine ⟨_, (pss_cons (ps_set (i := 1) sc_among_positive.nd rfl (.inl rfl) (pe_do D_quotients hr (pa_cons (pv 0) pa_nil)))
    (pss_cons (ps_augS (pv 1) (pe_un un_neg pe_int) pget_last pe_int ip_sub set_list)
    (pss_cons (ps_asg (pe_tup (pa_cons pe_int (pa_cons pe_int (pa_cons pe_int pa_nil)))) (pg_tup (by rfl) (pgs_cons (pg_name (i := 2) sc_among_positive.nd rfl (.inl rfl)) (pgs_cons (pg_name (i := 3) sc_among_positive.nd rfl (.inl rfl)) (pgs_cons (pg_name (i := 4) sc_among_positive.nd rfl (.inl rfl)) pgs_nil)))))
    (pss_cons (ps_for PassesOwn.never rfl (pi_list (pe_backL (pv 1))) (pg_name (i := 5) sc_among_positive.nd rfl (.inl rfl))
    (pss_cons (ps_asg (pe_do D_later hr (pa_cons (pv 2) (pa_cons (pv 3) (pa_cons (pe_op op_add (pv 5) pe_int) pa_nil)))) (pg_tup (by rfl) (pgs_cons (pg_name (i := 2) sc_among_positive.nd rfl (.inl rfl)) (pgs_cons (pg_name (i := 3) sc_among_positive.nd rfl (.inl rfl)) pgs_nil))))
    (pss_one (ps_set (i := 4) sc_among_positive.nd rfl (.inl rfl) (pe_op op_sub (pe_op op_sub (pv 2) pe_int) (pv 4))))))
    (pss_cons (ps_asg (pe_do D_later hr (pa_cons (pv 2) (pa_cons (pv 3) (pa_cons (pe_ix ix_list (pv 1) pe_int (fun _ _ => rfl)) pa_nil)))) (pg_tup (by rfl) (pgs_cons (pg_name (i := 2) sc_among_positive.nd rfl (.inl rfl)) (pgs_cons (pg_name (i := 3) sc_among_positive.nd rfl (.inl rfl)) pgs_nil))))
    (pss_one (ps_ret (pe_tup (pa_cons (pv 2) (pa_cons (pv 3) (pa_cons (pv 4) pa_nil))))))))))), ?_⟩
  have three : 3 ≤ sizeLine := fits (by decide)
  have sz := stp_size (stp v) v g rfl
  have p2 : 2 ^ stp v < 2 ^ 8000 := Nat.pow_lt_pow_right (by decide) (by omega)
  have v2 : 0 < v.2 := by
    rcases good_den g with h | ⟨h1, h2⟩
    · exact h
    · exfalso
      apply nf
      obtain ⟨a, b⟩ := v
      have h1' : a = 1 := h1
      have h2' : b = 0 := h2
      rw [h1', h2']
      decide
  have v1 : v.1 ≠ 0 := fun z => by
    apply nf
    obtain ⟨a, b⟩ := v
    have z' : a = 0 := z
    subst z'
    have g2 : Int.gcd 0 b = 1 := g.2
    rw [Int.gcd_zero_left] at g2
    have v2' : 0 < b := v2
    rw [show b = 1 by omega]
    decide
  have v11 : ¬ (v.1.natAbs = 1 ∧ v.2.natAbs = 1) := fun z => by
    apply nf
    obtain ⟨a, b⟩ := v
    have z1 : a.natAbs = 1 := z.1
    have z2 : b.natAbs = 1 := z.2
    have v2' : 0 < b := v2
    rw [show b = 1 by omega]
    rcases (show a = 1 ∨ a = -1 by omega) with e | e
    · rw [e]; decide
    · rw [e]; decide
  refine ⟨_, rfl, t, v, rfl, hT, g, by omega, by omega, fun mp H1 s1 nm hm => ?_⟩
  have eq1 : quo v = QL v.1.natAbs v.2.natAbs := if_neg (by omega)
  obtain ⟨a, M, e1, e2, e3, _, _⟩ := QL_way (v.2.natAbs + 1) v.1.natAbs v.2.natAbs (by omega) (by omega) g.2 (by omega) v11
  have qs := quo_stp g
  rw [eq1, e1] at qs
  have hsum : (M ++ [a]).sum + (M ++ [a]).length ≤ stp v := by
    rw [List.sum_append, List.length_append] at qs ⊢
    simp only [List.sum_cons, List.sum_nil, List.length_cons, List.length_nil] at qs ⊢
    omega
  have hm' : H1 mp = some (.lst (nl (M ++ [a + 1]))) := by
    rw [hm, eq1, e1, List.map_map]
    rfl
  refine ⟨_, rfl, _, rfl, mp, _, _, rfl, rfl, SqL.of hm', nl_last M (a + 1), _, _, rfl, rfl, mp, _, _, _, rfl, rfl, hm', nl_ix M (a + 1), ?_⟩
  have e4 : ((a + 1 : Nat) : Int) - 1 = (a : Int) := by omega
  dsimp only
  rw [e4, nl_set]
  have s2 : Same H (upd H1 mp (.lst (nl (M ++ [a])))) := same_upd s1 nm
  have hm2 : (upd H1 mp (.lst (nl (M ++ [a])))) mp = some (.lst (nl (M ++ [a]))) := upd_same
  generalize upd H1 mp (.lst (nl (M ++ [a]))) = H2 at *
  refine ⟨three, fun t0 ht0 => ?_⟩
  have s3 := same_new ht0 (.tup [V.int 1, .int 0, .int 0])
  refine ⟨t0, _, rfl, SqT.of upd_same, rfl, _, _, rfl, _, _, rfl, _, _, rfl, rfl, ?_⟩
  have hm3 := s3 _ _ hm2
  have S3 := s2.trans s3
  generalize upd H2 t0 (.tup [V.int 1, .int 0, .int 0]) = H3 at *
  generalize M ++ [a] = L at *
  have Ln : 1 ≤ L.length := by
    rcases L with _ | ⟨b, L⟩
    · exfalso
      have := congrArg Prod.snd e2
      have h1 : (1 : Int) = (v.2.natAbs : Int) := this
      have := congrArg Prod.fst e2
      have h2 : (1 : Int) = (v.1.natAbs : Int) := this
      omega
    · show 1 ≤ L.length + 1
      omega
  refine ⟨_, rfl, mp, _, rfl, SqL.of hm3, fun rp hrp => ?_⟩
  have s4 := same_new hrp (.lst ((nl L).drop 1).reverse)
  have er : (upd H3 rp (.lst ((nl L).drop 1).reverse)) rp = some (.lst ((nl L).drop 1).reverse) := upd_same
  have hm4 := s4 _ _ hm3
  have S4 := S3.trans s4
  generalize upd H3 rp (.lst ((nl L).drop 1).reverse) = H4 at *
  have ed : ((nl L).drop 1).length = L.length - 1 := by unfold nl; rw [List.length_drop, List.length_map]
  refine ⟨rp, rfl, ⟨_, SqL.of er⟩, for_list (K := K) (a := rp) (xs := ((nl L).drop 1).reverse) (fun i σ G => Same H4 G ∧ ∃ (m g : Nat) (u : Int × Int) (x5 : Option V), σ = [some (.ref t), some (.ref mp), some (.int (FB m).1), some (.int (FB m).2), some (.int (g : Int)), x5] ∧ Top m g u ∧ sw u = fqs (L.drop (L.length - i)) (1, 1) ∧ m = 1 + (L.drop (L.length - i)).sum + (L.drop (L.length - i)).length) ?_ ?_ ?_ ?_⟩
  · refine ⟨Same.refl _, 1, 0, (1, 1), none, rfl, top_one, ?_, ?_⟩
    · rw [Nat.sub_zero, List.drop_length]
      rfl
    · rw [Nat.sub_zero, List.drop_length]
      rfl
  · rintro i σ G _ ⟨sG, _⟩
    exact SqL.of (sG _ _ er)
  · rintro i x σ G hx ⟨sG, m, g0, u, x5, rfl, top, eu, em⟩
    have hi : i < L.length - 1 := by
      have := (List.getElem?_eq_some_iff.mp hx).1
      rw [List.length_reverse, ed] at this
      exact this
    rw [List.getElem?_reverse (by rw [ed]; exact hi), ed, List.getElem?_drop] at hx
    unfold nl at hx
    rw [List.getElem?_map, show 1 + (L.length - 1 - 1 - i) = L.length - 1 - i by omega, List.getElem?_eq_getElem (by omega)] at hx
    cases hx
    have edr : L.drop (L.length - (i + 1)) = L[L.length - 1 - i] :: L.drop (L.length - i) := by
      rw [List.drop_eq_getElem_cons (by omega)]
      congr 1
      · congr 1; omega
      · congr 1; omega
    have b1 : 1 ≤ L[L.length - 1 - i] := by
      apply e3
      rw [List.mem_iff_getElem?]
      refine ⟨L.length - 1 - i - 1, ?_⟩
      rw [List.getElem?_drop, show 1 + (L.length - 1 - i - 1) = L.length - 1 - i by omega]
      exact List.getElem?_eq_getElem (by omega)
    have hs1 : (L.drop (L.length - (i + 1))).sum ≤ L.sum := by
      have e := congrArg List.sum (List.take_append_drop (L.length - (i + 1)) L)
      rw [List.sum_append] at e
      omega
    have hl1 : (L.drop (L.length - (i + 1))).length = i + 1 := by rw [List.length_drop]; omega
    rw [edr] at hs1 hl1
    rw [List.length_cons] at hl1
    generalize L[L.length - 1 - i] = b at *
    rw [List.sum_cons] at hs1
    refine ⟨_, rfl, _, rfl, _, rfl, _, _, rfl, rfl, m, b + 1, rfl, by omega, by omega, fun t5 G1 s5 _ ht5 => ?_⟩
    refine ⟨t5, _, rfl, SqT.of ht5, rfl, _, _, rfl, _, _, rfl, rfl, ?_⟩
    obtain ⟨u', top', eu'⟩ := top_turn top b1
    have fp : (FB (m + (b + 1))).1 = ((pz (m + (b + 1))).length : Int) := by
      have := FB_pz (m + b)
      rw [show m + (b + 1) = m + b + 1 by omega, this]
    have lt := top'.lt
    have lt0 := (top_outs top (b + 1)).lt
    refine ⟨_, rfl, _, _, rfl, rfl, _, rfl, _, _, rfl, rfl, sG.trans s5, m + (b + 1), _, u', some (V.int (b : Int)), ?_, top', ?_, ?_⟩
    · have eg : (FB (m + (b + 1))).1 - 1 - (g0 : Int) = (((pz (m + (b + 1))).length - 1 - g0 : Nat) : Int) := by
        rw [fp]
        omega
      rw [← eg]
      rfl
    · rw [edr, eu', eu]
      rfl
    · rw [edr, List.sum_cons, List.length_cons]
      omega
  · rintro σ G ⟨sG, m, g0, u, x5, rfl, top, eu, em⟩
    rw [List.length_reverse, ed, show L.length - (L.length - 1) = 1 by omega] at eu em
    obtain ⟨b, L', rfl⟩ : ∃ b L', L = b :: L' := by
      cases L with
      | nil => exact absurd Ln (by decide)
      | cons b L' => exact ⟨b, L', rfl⟩
    have eu1 : sw u = fqs L' (1, 1) := eu
    have em1 : m = 1 + L'.sum + L'.length := em
    rw [List.sum_cons, List.length_cons] at hsum
    refine ⟨_, rfl, _, rfl, _, rfl, mp, _, _, _, rfl, rfl, SqL.of (sG _ _ hm4), at_of (j := 0) (by decide) rfl, m, b, rfl, by omega, by omega, fun t5 G1 s5 _ ht5 => ?_⟩
    refine ⟨t5, _, rfl, SqT.of ht5, rfl, _, _, rfl, _, _, rfl, rfl, ?_⟩
    have top' := top_outs top b
    have ev : outs b u = ((v.1.natAbs : Int), v.2) := by
      rw [← outs_mq, eu1]
      have : fqs (b :: L') (1, 1) = mq b (fqs L' (1, 1)) := rfl
      rw [← this, e2]
      exact Prod.ext rfl (Int.natAbs_of_nonneg (Int.le_of_lt v2))
    rw [ev] at top'
    have n2 : 2 ≤ m + b := by
      have mp1 := top_pos top'
      refine Decidable.byContradiction fun z => ?_
      have : m + b = 1 := by omega
      rw [this] at top'
      have z0 := top'.lt
      have z1 : (pz 1).length = 1 := rfl
      have : g0 = 0 := by omega
      subst this
      have e0 : ((1, 1) : Int × Int) = ((v.1.natAbs : Int), v.2) := Option.some.inj (top_one.symm.trans top')
      have h1 : (1 : Int) = (v.1.natAbs : Int) := congrArg Prod.fst e0
      have h2 : (1 : Int) = v.2 := congrArg Prod.snd e0
      omega
    refine ⟨_, rfl, _, rfl, _, rfl, three, fun r hr => ?_⟩
    have S6 := (S4.trans sG).trans s5
    have hr0 : H r = none := by
      cases e : H r with
      | none => rfl
      | some o => rw [S6 _ _ e] at hr; cases hr
    exact q (m + b) g0 r _ (S6.trans (same_new hr _)) hr0 n2 top' upd_same
end
section
variable {P : Program} {w : World} {K : PySem.W.Frag} {mg : Str → Option Value} {base : Heap} {f : Addr} {fd : FuncData}
theorem ok_positive_at (F : Fun K "positive_at" "positive_at" s_positive_at f fd) (D_fromq : Dfn P w K mg base "from_quotients" 1 ["parts"] (spFromQ K))  : FnOk P w K mg base CX0 2 f fd ["greater", "many", "fewer"] (spPosAt K) := by
  refine F.ok sc_positive_at (fun vs H Q E h => ?_) (fun cdv A outer s H vs Q E hr h => ?_)
  · obtain ⟨n, g, v, rfl, top, n7, q⟩ := h
    rfl
  obtain ⟨n, g, v, rfl, top, n7, q⟩ := h
  refine ⟨_, (pss_cons (ps_set (i := 3) sc_positive_at.nd rfl (.inl rfl) (pe_lst (pa_cons pe_int pa_nil)))
    (pss_cons (ps_set (i := 4) sc_positive_at.nd rfl (.inl rfl) (pv 0))
    (pss_cons (ps_while PassesOwn.never (pt_cmpR op_gt (pv 2) pe_int (nomark _)) (pss_one (ps_if (pt_cmpR op_lt (pv 4) (pv 2) (nomark _)) (pss_cons (ps_augS (pv 3) (pe_un un_neg pe_int) pget_last pe_int ip_add set_list)
    (pss_one (ps_par (i := 1) (j := 2) (by rfl) sc_positive_at.nd rfl rfl (by decide) rfl rfl (pa_cons (pv 2) (pa_cons (pe_op op_sub (pv 1) (pv 2)) pa_nil)) (by rfl)))) (pss_cons (ps_expr (pe_bm PySem.F.plainAttrs_list PySem.F.slot_list_append PySem.F.type_list_append mt_append (pv 3) (pa_cons pe_int pa_nil)))
    (pss_cons (ps_set (i := 4) sc_positive_at.nd rfl (.inl rfl) (pe_op op_sub (pe_op op_sub (pv 1) pe_int) (pv 4)))
    (pss_one (ps_par (i := 1) (j := 2) (by rfl) sc_positive_at.nd rfl rfl (by decide) rfl rfl (pa_cons (pe_op op_sub (pv 1) (pv 2)) (pa_cons (pe_op op_sub (pe_op op_mulW pe_int (pv 2)) (pv 1)) pa_nil)) (by rfl))))))))
    (pss_cons (ps_augS (pv 3) (pe_un un_neg pe_int) pget_last pe_int ip_add set_list)
    (pss_one (ps_ret (pe_do D_fromq hr (pa_cons (pv 3) pa_nil)))))))), ?_⟩
  have one : 1 ≤ sizeLine := fits (by decide)
  refine ⟨one, fun mp hmp => ⟨_, rfl, ?_⟩⟩
  have s1 := same_new hmp (.lst [V.int 0])
  refine while_by (fun σ G => ∃ (m b a : Nat) (u : Int × Int) (L : List Nat), σ = [some (.int (g : Int)), some (.int (FB m).1), some (.int (FB m).2), some (.ref mp), some (.int (b : Int))] ∧ Same H G ∧ G mp = some (.lst (nl (L ++ [a]))) ∧ Top m b u ∧ v = fqs (L ++ [a]) (sw u) ∧ (L ++ [a]).sum + m ≤ n ∧ (L ++ [a]).length + m ≤ n + 1) (fun σ _ => match σ with | [_, some (.int x), some (.int y), _, _] => (x + y).natAbs | _ => 0) ⟨n, g, 0, v, [], rfl, s1, upd_same, top, ?_, ?_, ?_⟩ ?_ ?_
  · show v = (((0 : Nat) : Int) * v.2 + v.1, v.2)
    refine Prod.ext ?_ rfl
    show v.1 = ((0 : Nat) : Int) * v.2 + v.1
    omega
  · show 0 + 0 + n ≤ n
    omega
  · show 0 + 1 + n ≤ n + 1
    omega
  · rintro σ G ⟨m, b, a, u, L, rfl, sG, hG, tu, ev, e1, e2⟩
    have m1 := top_pos tu
    have fm := FB_pz (m - 1)
    rw [show m - 1 + 1 = m by omega] at fm
    refine ⟨_, rfl, _, _, rfl, rfl, _, rfl, ite2 (fun c1 => ?_) (fun c1 => ?_)⟩
    · have c1' : 0 < (FB m).2 := of_decide_eq_true c1
      rw [fm] at c1'
      have m2 : 2 ≤ m := by
        refine Decidable.byContradiction fun z => ?_
        have : m = 1 := by omega
        subst this
        exact absurd c1' (by decide)
      obtain ⟨k, rfl⟩ : ∃ k, m = k + 2 := ⟨m - 2, by omega⟩
      have f1 : FB (k + 2) = ((FB (k + 1)).1 + (FB (k + 1)).2, (FB (k + 1)).1) := rfl
      have f2 : FB (k + 1) = ((FB k).1 + (FB k).2, (FB k).1) := rfl
      have p1 := FB_pz k
      have p0 : (FB (k + 1)).2 = ((pz k).length : Int) := by rw [p1]
      have p2 : (FB (k + 1)).1 = ((pz (k + 1)).length : Int) := by rw [p1]
      refine ⟨_, rfl, _, rfl, _, _, rfl, rfl, _, rfl, ite2 (fun c2 => ?_) (fun c2 => ?_)⟩
      · have c2' : (b : Int) < (FB (k + 2)).2 := of_decide_eq_true c2
        rw [f1] at c2'
        have c3 : b < (pz (k + 1)).length := by
          have : (b : Int) < (FB (k + 1)).1 := c2'
          omega
        rcases top_back tu with ⟨_, u', rfl, tu'⟩ | ⟨z, _⟩
        · refine ⟨_, rfl, _, rfl, mp, _, _, rfl, rfl, SqL.of hG, nl_last L a, _, _, rfl, rfl, mp, _, _, _, rfl, rfl, hG, nl_ix L a, ?_⟩
          have e4 : (a : Int) + 1 = ((a + 1 : Nat) : Int) := rfl
          dsimp only
          rw [e4, nl_set]
          refine ⟨_, rfl, _, rfl, _, rfl, _, _, rfl, rfl, _, _, rfl, ⟨k + 1, b, a + 1, u', L, ?_, same_upd sG hmp, upd_same, tu', ?_, ?_, ?_⟩, ?_⟩
          · rw [f1]
            show [_, _, some (V.int ((FB (k + 1)).1 + (FB (k + 1)).2 - (FB (k + 1)).1)), _, _] = _
            rw [show (FB (k + 1)).1 + (FB (k + 1)).2 - (FB (k + 1)).1 = (FB (k + 1)).2 by omega]
          · rw [ev, fqs_app, fqs_app]
            show fqs L (mq a (sw (out u'))) = fqs L (mq (a + 1) (sw u'))
            rw [mq_out]
          · rw [List.sum_append] at e1 ⊢
            simp only [List.sum_cons, List.sum_nil] at e1 ⊢
            omega
          · rw [List.length_append] at e2 ⊢
            simp only [List.length_cons, List.length_nil] at e2 ⊢
            omega
          · show ((FB (k + 2)).2 + ((FB (k + 2)).1 - (FB (k + 2)).2)).natAbs < ((FB (k + 2)).1 + (FB (k + 2)).2).natAbs
            rw [f1]
            show ((FB (k + 1)).1 + ((FB (k + 1)).1 + (FB (k + 1)).2 - (FB (k + 1)).1)).natAbs < ((FB (k + 1)).1 + (FB (k + 1)).2 + (FB (k + 1)).1).natAbs
            omega
        · omega
      · have c2' : ¬ (b : Int) < (FB (k + 2)).2 := fun z => c2 (decide_eq_true z)
        rw [f1] at c2'
        have c3 : (pz (k + 1)).length ≤ b := by
          have : ¬ (b : Int) < (FB (k + 1)).1 := c2'
          omega
        rcases top_back tu with ⟨z, _⟩ | ⟨_, u', rfl, tu'⟩
        · omega
        · have k1 := top_pos tu'
          have ll : L.length + 1 ≤ 7001 := by
            rw [List.length_append] at e2
            simp only [List.length_cons, List.length_nil] at e2
            omega
          have lt := tu.lt
          have pk := pz_len k
          have b1 := FB_le (k + 2)
          have l1 := lg b1.2.2.1 b1.2.2.2
          refine ⟨_, rfl, .inl ⟨rfl, _, SqL.of hG⟩, mp, _, _, rfl, rfl, hG, Nat.lt_of_lt_of_le (show (nl (L ++ [a])).length < 16777216 by unfold nl; rw [List.length_map, List.length_append]; show L.length + 1 < _; omega) sizeLine_big, ?_⟩
          rw [show V.int 1 = V.int ((1 : Nat) : Int) from rfl, nl_app]
          refine ⟨_, rfl, _, _, rfl, rfl, _, rfl, _, _, rfl, rfl, ?_⟩
          refine ⟨_, rfl, _, rfl, _, _, rfl, rfl, _, rfl, _, _, rfl, rfl, (by show (1 : Nat) + _ < 1000000; omega), _, rfl, _, _, rfl, rfl, _, _, rfl, ⟨k, (pz (k + 2)).length - 1 - b, 1, u', L ++ [a], ?_, same_upd sG hmp, upd_same, tu', ?_, ?_, ?_⟩, ?_⟩
          · have eb : (FB (k + 2)).1 - 1 - (b : Int) = (((pz (k + 2)).length - 1 - b : Nat) : Int) := by
              rw [f1]
              show (FB (k + 1)).1 + (FB (k + 1)).2 - 1 - (b : Int) = _
              omega
            have ex : (FB (k + 2)).1 - (FB (k + 2)).2 = (FB k).1 := by
              rw [f1, f2]
              show (FB k).1 + (FB k).2 + (FB k).1 - ((FB k).1 + (FB k).2) = _
              omega
            have ey : 2 * (FB (k + 2)).2 - (FB (k + 2)).1 = (FB k).2 := by
              rw [f1, f2]
              show 2 * ((FB k).1 + (FB k).2) - ((FB k).1 + (FB k).2 + (FB k).1) = _
              omega
            rw [← eb, ← ex, ← ey]
            rfl
          · rw [ev, fqs_app, fqs_app, fqs_app]
            show fqs L (mq a (sw (inn u'))) = fqs L (mq a (mq 1 (sw u')))
            rw [mq_inn]
          · rw [List.sum_append] at e1 ⊢
            rw [List.sum_append]
            simp only [List.sum_cons, List.sum_nil] at e1 ⊢
            omega
          · rw [List.length_append] at e2 ⊢
            rw [List.length_append]
            simp only [List.length_cons, List.length_nil] at e2 ⊢
            omega
          · show ((FB (k + 2)).1 - (FB (k + 2)).2 + (2 * (FB (k + 2)).2 - (FB (k + 2)).1)).natAbs < ((FB (k + 2)).1 + (FB (k + 2)).2).natAbs
            have bk := FB_le (k + 1)
            have b2 := tu'.lt
            have p3 := FB_pz (k - 1)
            rw [show k - 1 + 1 = k by omega] at p3
            have p4 : (FB k).1 = ((pz k).length : Int) := by rw [p3]
            have p5 : 0 ≤ (FB k).2 := (FB_le k).2.2.1
            rw [f1, f2]
            show ((FB k).1 + (FB k).2 + (FB k).1 - ((FB k).1 + (FB k).2) + (2 * ((FB k).1 + (FB k).2) - ((FB k).1 + (FB k).2 + (FB k).1))).natAbs < ((FB k).1 + (FB k).2 + (FB k).1 + ((FB k).1 + (FB k).2)).natAbs
            omega
    · have c1' : ¬ 0 < (FB m).2 := fun z => c1 (decide_eq_true z)
      have mm : m = 1 := by
        refine Decidable.byContradiction fun z => ?_
        obtain ⟨k, rfl⟩ : ∃ k, m = k + 2 := ⟨m - 2, by omega⟩
        apply c1'
        rw [fm]
        show (0 : Int) < ((pz (k + 1)).length : Int)
        have : (FB (k + 1)).1 = ((pz (k + 1)).length : Int) := by rw [FB_pz k]
        rw [← this]
        have pos : ∀ j : Nat, 0 < (FB (j + 1)).1 := by
          intro j
          induction j with
          | zero => decide
          | succ j ih =>
            show 0 < (FB (j + 1)).1 + (FB (j + 1)).2
            have := (FB_le (j + 1)).2.2.1
            omega
        exact pos k
      subst mm
      have b0 := tu.lt
      have z1 : (pz 1).length = 1 := rfl
      have : b = 0 := by omega
      subst this
      have eu : u = (1, 1) := (Option.some.inj (top_one.symm.trans tu)).symm
      subst eu
      refine ⟨_, rfl, _, rfl, mp, _, _, rfl, rfl, SqL.of hG, nl_last L a, _, _, rfl, rfl, mp, _, _, _, rfl, rfl, hG, nl_ix L a, ?_⟩
      have e4 : (a : Int) + 1 = ((a + 1 : Nat) : Int) := rfl
      dsimp only
      rw [e4, nl_set]
      have hs : (L ++ [a + 1]).sum ≤ n := by
        rw [List.sum_append] at e1 ⊢
        simp only [List.sum_cons, List.sum_nil] at e1 ⊢
        omega
      have hl : (L ++ [a + 1]).length ≤ n := by
        rw [List.length_append] at e2 ⊢
        simp only [List.length_cons, List.length_nil] at e2 ⊢
        omega
      refine ⟨_, rfl, mp, L ++ [a + 1], rfl, SqL.of upd_same, sum_lt hs (by omega), by omega, fun k => fq_drop _ k hs (by omega), fun t H' s nt ht => ?_⟩
      have S := (same_upd (o := .lst (nl (L ++ [a + 1]))) sG hmp)
      refine q t H' (S.trans s) ?_ ?_
      · cases e : H t with
        | none => rfl
        | some o => rw [S _ _ e] at nt; cases nt
      · have ef : v = fq (L ++ [a + 1]) := by
          rw [ev, fq_fqs, fqs_app, fqs_app]
          show fqs L (mq a (1, 1)) = fqs L (mq (a + 1) (1, 0))
          rw [mq_one]
        rw [ef]
        exact ht
  · rintro σ H' Q1 Q2 hm ⟨v, e, i, j, e1, e2, b, e3, qq⟩
    exact ⟨v, e, i, j, e1, e2, b, e3, hm _ _ qq⟩
end
section
variable {P : Program} {w : World} {K : PySem.W.Frag} {mg : Str → Option Value} {base : Heap} {f : Addr} {fd : FuncData}
theorem ok_place (F : Fun K "place" "place" s_place f fd) (D_among_positive : Dfn P w K mg base "among_positive" 2 ["fraction"] (spAmong K)) {f0 a1 a2 a3 a4 : Addr} (FX : FirstX K mg f0 a1 a2 a3 a4) : FnOk P w K mg base CX0 3 f fd ["fraction"] (spPlace K) := by
  refine F.ok sc_place (fun vs H Q E h => ?_) (fun cdv A outer s H vs Q E hr h => ?_)
  · obtain ⟨t, v, rfl, hT, g, sl, q⟩ := h
    rfl
  obtain ⟨t, v, rfl, hT, g, sl, q⟩ := h
  refine ⟨_, (pss_cons (ps_if (pt_cmpR (op_inT (Rope.Room.units65 hr)) (pv 0) (pe_glob (v := .ref f0) rfl FX.F.mg rfl) (by rfl)) (pss_one (ps_ret (pe_bm PySem.F.plainAttrs_tuple PySem.F.slot_tuple_index PySem.F.type_tuple_index (mt_tindexD (Rope.Room.units65 hr)) (pe_glob (v := .ref f0) rfl FX.F.mg rfl) (pa_cons (pv 0) pa_nil)))) pss_nil)
    (pss_cons (ps_asg (pe_do D_among_positive hr (pa_cons (pv 0) pa_nil)) (pg_tup (by rfl) (pgs_cons (pg_name (i := 1) sc_place.nd rfl (.inl rfl)) (pgs_cons (pg_name (i := 2) sc_place.nd rfl (.inl rfl)) (pgs_cons (pg_name (i := 3) sc_place.nd rfl (.inl rfl)) pgs_nil)))))
    (pss_cons (ps_set (i := 4) sc_place.nd rfl (.inl rfl) (pe_op op_mulW pe_int (pe_op op_add (pv 1) (pv 2))))
    (pss_cons (ps_if (pt_cmpR op_lt (pe_ix ix_tup (pv 0) pe_int (fun _ _ => rfl)) pe_int (nomark _)) (pss_one (ps_ret (pe_op op_add (pv 4) (pv 3)))) pss_nil)
    (pss_one (ps_ret (pe_op op_sub (pe_op op_sub (pe_op op_add (pv 4) (pe_op op_mulW pe_int (pv 1))) pe_int) (pv 3)))))))), ?_⟩
  refine ⟨_, rfl, pd v, firsts.map pd, hT.dp, FX.F.dp H, sh2 _ _, firsts_lay, _, rfl, ?_⟩
  rw [firsts_any]
  refine ite2 (fun c => ?_) (fun c => ?_)
  · have mem : v ∈ firsts := of_decide_eq_true c
    obtain ⟨j, hj⟩ := List.getElem?_of_mem mem
    have j4 : j < 4 := (List.getElem?_eq_some_iff.mp hj).1
    have nd : ∀ (a b : Fin 4), a < b → firsts[a.val]? ≠ firsts[b.val]? := by decide
    have no : ∀ (m : Nat) (z' : PyData), m < j → (firsts.map pd)[m]? = some z' → PyData.eqv z' (pd v) = false := by
      intro m z' hm hz
      rw [List.getElem?_map, List.getElem?_eq_getElem (show m < firsts.length from Nat.lt_trans hm j4)] at hz
      cases hz
      rw [pd_eqv]
      refine decide_eq_false fun z => nd ⟨m, by omega⟩ ⟨j, j4⟩ hm ?_
      show firsts[m]? = firsts[j]?
      rw [hj, List.getElem?_eq_getElem (show m < firsts.length from Nat.lt_trans hm j4), z]
    refine ⟨.inr (.inl ⟨rfl, FX.ty⟩), _, rfl, f0, _, pd v, firsts.map pd, j, pd v, rfl, rfl, FX.F.dp H, hT.dp, firsts_lay, sh2 _ _, by rw [List.getElem?_map, hj]; rfl, by rw [pd_eqv]; exact decide_eq_true rfl, no, q j H (Same.refl H) ⟨2, hj⟩⟩
  have nf : v ∉ firsts := fun z => c (decide_eq_true z)
  refine ⟨_, rfl, t, v, rfl, hT, g, nf, sl, fun n gg r H1 s1 nr n2 top hr => ?_⟩
  refine ⟨r, _, rfl, SqT.of hr, rfl, _, _, rfl, _, _, rfl, _, _, rfl, rfl, ?_⟩
  have ll := lvs_len (n - 2)
  rw [show n - 2 + 2 = n by omega, show n - 2 + 3 = n + 1 by omega] at ll
  have f1 : (FB (n + 1)).1 = (FB n).1 + (FB n).2 := rfl
  have fp := FB_pz (n - 1)
  rw [show n - 1 + 1 = n by omega] at fp
  have fp1 : (FB n).1 = ((pz n).length : Int) := by rw [fp]
  have gl := top.lt
  have en : n = stp v := by
    have m := List.mem_of_getElem? (fw_posi n2 top)
    have e1 := (((fw_all n).2 _).mp m).2
    have e2 : stp ((v.1.natAbs : Int), v.2) = stp v := by
      unfold stp
      rw [Int.natAbs_natCast]
    omega
  have b1 := FB_le n
  have b2 := FB_le (n + 1)
  have l1 := lg b1.1 b1.2.1
  have l2 := lg (x := (FB n).1 + (FB n).2) (n := n + 1) b2.1 b2.2.1
  refine ⟨_, rfl, _, rfl, _, _, rfl, rfl, _, _, rfl, rfl, (by show (1 : Nat) + _ < 1000000; omega), ?_⟩
  refine ⟨_, rfl, t, _, _, _, rfl, rfl, (hT.same s1).sq, rfl, _, _, rfl, rfl, _, rfl, ite2 (fun c1 => ?_) (fun c1 => ?_)⟩
  · have v0 : v.1 < 0 := of_decide_eq_true c1
    have k := pl_mk (fw_neg n2 top)
    have e : ngv ((v.1.natAbs : Int), v.2) = v := Prod.ext (show -((v.1.natAbs : Nat) : Int) = v.1 by omega) rfl
    rw [e] at k
    refine ⟨_, rfl, _, rfl, _, _, rfl, rfl, ?_⟩
    have ek : 2 * ((FB n).1 + (FB n).2) + (gg : Int) = (((lvs n).length + gg : Nat) : Int) := by omega
    show Q (.int (2 * ((FB n).1 + (FB n).2) + (gg : Int))) H1
    rw [ek]
    exact q _ _ s1 k
  · have v0 : ¬ v.1 < 0 := fun z => c1 (decide_eq_true z)
    have k := pl_mk (fw_posi n2 top)
    have e : ((v.1.natAbs : Int), v.2) = v := Prod.ext (show ((v.1.natAbs : Nat) : Int) = v.1 by omega) rfl
    rw [e] at k
    refine ⟨_, rfl, _, rfl, _, _, rfl, rfl, (by show (1 : Nat) + _ < 1000000; omega), _, _, rfl, rfl, _, _, rfl, rfl, _, rfl, _, _, rfl, rfl, ?_⟩
    have ek : 2 * ((FB n).1 + (FB n).2) + 2 * (FB n).1 - 1 - (gg : Int) = (((lvs n).length + (2 * (pz n).length - 1 - gg) : Nat) : Int) := by omega
    show Q (.int (2 * ((FB n).1 + (FB n).2) + 2 * (FB n).1 - 1 - (gg : Int))) H1
    rw [ek]
    exact q _ _ s1 k
end
section
variable {P : Program} {w : World} {K : PySem.W.Frag} {mg : Str → Option Value} {base : Heap} {f : Addr} {fd : FuncData}
theorem ok_fraction_at (F : Fun K "fraction_at" "fraction_at" s_fraction_at f fd) (D_positive_at : Dfn P w K mg base "positive_at" 2 ["greater", "many", "fewer"] (spPosAt K)) (y_len : mg "len" = none) {f0 a1 a2 a3 a4 : Addr} (FX : FirstX K mg f0 a1 a2 a3 a4) : FnOk P w K mg base CX0 3 f fd ["place"] (spFrAt K) := by
  refine F.ok sc_fraction_at (fun vs H Q E h => ?_) (fun cdv A outer s H vs Q E hr h => ?_)
  · obtain ⟨k, rfl, hk, q⟩ := h
    rfl
  obtain ⟨k, rfl, hk, q⟩ := h
  refine ⟨_, (pss_cons (ps_if (pt_cmpR op_lt (pv 0) pe_int (nomark _)) (pss_one ps_never) pss_nil)
    (pss_cons (ps_if (pt_cmpR op_lt (pv 0) (pe_callB call_len_seq rfl y_len PySem.boot_len (pa_cons (pe_glob (v := .ref f0) rfl FX.F.mg rfl) pa_nil)) (nomark _)) (pss_one (ps_ret (pe_ix ix_tup (pe_glob (v := .ref f0) rfl FX.F.mg rfl) (pv 0) (fun _ _ => rfl)))) pss_nil)
    (pss_cons (ps_asg (pe_tup (pa_cons pe_int (pa_cons pe_int pa_nil))) (pg_tup (by rfl) (pgs_cons (pg_name (i := 1) sc_fraction_at.nd rfl (.inl rfl)) (pgs_cons (pg_name (i := 2) sc_fraction_at.nd rfl (.inl rfl)) pgs_nil))))
    (pss_cons (ps_set (i := 3) sc_fraction_at.nd rfl (.inl rfl) pe_int)
    (pss_cons (ps_while PassesOwn.never (pt_cmpR op_ge (pv 0) (pe_op op_add (pv 3) (pe_op op_mulW pe_int (pv 1))) (nomark _)) (pss_cons (ps_aug (i := 3) sc_fraction_at.nd rfl (.inl rfl) (pe_op op_mulW pe_int (pv 1)) ip_add)
    (pss_one (ps_par (i := 1) (j := 2) (by rfl) sc_fraction_at.nd rfl rfl (by decide) rfl rfl (pa_cons (pe_op op_add (pv 1) (pv 2)) (pa_cons (pv 1) pa_nil)) (by rfl)))))
    (pss_cons (ps_set (i := 4) sc_fraction_at.nd rfl (.inl rfl) (pe_op op_sub (pv 0) (pv 3)))
    (pss_cons (ps_if (pt_cmpR op_lt (pv 4) (pv 1) (nomark _)) (pss_cons (ps_asg (pe_do D_positive_at hr (pa_cons (pv 4) (pa_cons (pv 1) (pa_cons (pv 2) pa_nil)))) (pg_tup (by rfl) (pgs_cons (pg_name (i := 5) sc_fraction_at.nd rfl (.inl rfl)) (pgs_cons (pg_name (i := 6) sc_fraction_at.nd rfl (.inl rfl)) pgs_nil))))
    (pss_one (ps_ret (pe_tup (pa_cons (pe_un un_neg (pv 5)) (pa_cons (pv 6) pa_nil)))))) pss_nil)
    (pss_one (ps_ret (pe_do D_positive_at hr (pa_cons (pe_op op_sub (pe_op op_sub (pe_op op_mulW pe_int (pv 1)) pe_int) (pv 4)) (pa_cons (pv 1) (pa_cons (pv 2) pa_nil))))))))))))), ?_⟩
  have two : 2 ≤ sizeLine := fits (by decide)
  refine ⟨_, rfl, _, _, rfl, rfl, _, rfl, ite2 (fun z => absurd (of_decide_eq_true z) (by omega)) (fun _ => ?_)⟩
  refine ⟨_, rfl, f0, _, rfl, .inr (FX.F.at_ H), _, _, rfl, rfl, _, rfl, ite2 (fun c => ?_) (fun c => ?_)⟩
  · have k4 : (k : Int) < 4 := of_decide_eq_true c
    rcases (show k = 0 ∨ k = 1 ∨ k = 2 ∨ k = 3 by omega) with rfl | rfl | rfl | rfl
    · exact ⟨_, rfl, f0, _, _, _, rfl, rfl, FX.F.at_ H, at_of (j := 0) rfl rfl, q a1 (0, 1) H (Same.refl H) (.inr FX.F.k1) ⟨2, rfl⟩⟩
    · exact ⟨_, rfl, f0, _, _, _, rfl, rfl, FX.F.at_ H, at_of (j := 1) rfl rfl, q a2 (-1, 1) H (Same.refl H) (.inr FX.F.k2) ⟨2, rfl⟩⟩
    · exact ⟨_, rfl, f0, _, _, _, rfl, rfl, FX.F.at_ H, at_of (j := 2) rfl rfl, q a3 (1, 1) H (Same.refl H) (.inr FX.F.k3) ⟨2, rfl⟩⟩
    · exact ⟨_, rfl, f0, _, _, _, rfl, rfl, FX.F.at_ H, at_of (j := 3) rfl rfl, q a4 (1, 0) H (Same.refl H) (.inr FX.F.k4) ⟨2, rfl⟩⟩
  have k4 : 4 ≤ k := by
    have : ¬ (k : Int) < 4 := fun z => c (decide_eq_true z)
    omega
  refine ⟨two, fun t0 ht0 => ?_⟩
  have s0 := same_new ht0 (.tup [V.int 1, .int 1])
  refine ⟨t0, _, rfl, SqT.of upd_same, rfl, _, _, rfl, _, _, rfl, rfl, ?_⟩
  generalize upd H t0 (.tup [V.int 1, .int 1]) = H1 at *
  refine while_by (fun σ G => G = H1 ∧ ∃ (n : Nat), σ = [some (.int (k : Int)), some (.int (FB n).1), some (.int (FB n).2), some (.int ((lvs n).length : Int)), none, none, none] ∧ 2 ≤ n ∧ (lvs n).length ≤ k) (fun σ _ => match σ with | [_, _, _, some (.int s), _, _, _] => ((k : Int) - s).toNat | _ => 0) ⟨rfl, 2, rfl, Nat.le_refl _, k4⟩ ?_ ?_
  · rintro σ _ ⟨rfl, n, rfl, n2, le⟩
    have nb : n ≤ 6002 := by
      have := pl_small (n := n - 2) (m := 3000) (k := k) (by rw [show n - 2 + 2 = n by omega]; exact le) hk
      omega
    have b1 := FB_le n
    have l1 := lg b1.1 b1.2.1
    have fp := FB_pz (n - 1)
    rw [show n - 1 + 1 = n by omega] at fp
    have fp1 : (FB n).1 = ((pz n).length : Int) := by rw [fp]
    have f2 := fw_two n2
    have len1 : (lvs (n + 1)).length = (lvs n).length + (fw n).length := by
      show (lvs n ++ fw n).length = _
      rw [List.length_append]
    have pos : ∀ j : Nat, 0 < (FB (j + 1)).1 := by
      intro j
      induction j with
      | zero => decide
      | succ j ih =>
        show 0 < (FB (j + 1)).1 + (FB (j + 1)).2
        have := (FB_le (j + 1)).2.2.1
        omega
    have pn := pos (n - 1)
    rw [show n - 1 + 1 = n by omega] at pn
    refine ⟨_, rfl, _, rfl, _, rfl, _, _, rfl, rfl, (by show (1 : Nat) + _ < 1000000; omega), _, _, rfl, rfl, _, _, rfl, rfl, _, rfl, ite2 (fun c1 => ?_) (fun c1 => ?_)⟩
    · have c1' : (lvs n).length + 2 * (FB n).1 ≤ (k : Int) := of_decide_eq_true c1
      refine ⟨_, rfl, _, rfl, _, _, rfl, rfl, (by show (1 : Nat) + _ < 1000000; omega), _, _, rfl, rfl, _, rfl, _, rfl, _, _, rfl, rfl, _, rfl, _, _, rfl, ⟨rfl, n + 1, ?_, by omega, ?_⟩, ?_⟩
      · have e : ((lvs (n + 1)).length : Int) = ((lvs n).length : Int) + 2 * (FB n).1 := by omega
        rw [e]
        rfl
      · omega
      · show ((k : Int) - (((lvs n).length : Int) + 2 * (FB n).1)).toNat < ((k : Int) - ((lvs n).length : Int)).toNat
        omega
    · have c1' : ¬ (lvs n).length + 2 * (FB n).1 ≤ (k : Int) := fun z => c1 (decide_eq_true z)
      refine ⟨_, rfl, _, rfl, _, _, rfl, rfl, ?_⟩
      have eg : (k : Int) - ((lvs n).length : Int) = ((k - (lvs n).length : Nat) : Int) := by omega
      dsimp only
      rw [eg]
      refine ⟨_, rfl, _, rfl, _, _, rfl, rfl, _, rfl, ite2 (fun c2 => ?_) (fun c2 => ?_)⟩
      · have c2' : ((k - (lvs n).length : Nat) : Int) < (FB n).1 := of_decide_eq_true c2
        have gl : k - (lvs n).length < (pz n).length := by omega
        have top : Top n (k - (lvs n).length) ((pz n).reverse[k - (lvs n).length]'(by rw [List.length_reverse]; exact gl)) := List.getElem?_eq_getElem _
        generalize (pz n).reverse[k - (lvs n).length]'(by rw [List.length_reverse]; exact gl) = v at top
        have pk := pl_mk (fw_neg n2 top)
        rw [show (lvs n).length + (k - (lvs n).length) = k by omega] at pk
        refine ⟨_, rfl, _, rfl, _, rfl, n, _, v, rfl, top, by omega, fun t G s nt hT => ?_⟩
        refine ⟨t, _, rfl, SqT.of hT, rfl, _, _, rfl, _, _, rfl, rfl, ?_⟩
        refine ⟨_, rfl, _, rfl, _, rfl, two, fun r hr => ?_⟩
        exact q r (ngv v) _ (s0.trans (s.trans (same_new hr _))) (.inl upd_same) pk
      · have c2' : ¬ ((k - (lvs n).length : Nat) : Int) < (FB n).1 := fun z => c2 (decide_eq_true z)
        have gl : 2 * (pz n).length - 1 - (k - (lvs n).length) < (pz n).length := by omega
        have eg2 : 2 * (FB n).1 - 1 - ((k - (lvs n).length : Nat) : Int) = ((2 * (pz n).length - 1 - (k - (lvs n).length) : Nat) : Int) := by omega
        have top : Top n (2 * (pz n).length - 1 - (k - (lvs n).length)) ((pz n).reverse[2 * (pz n).length - 1 - (k - (lvs n).length)]'(by rw [List.length_reverse]; exact gl)) := List.getElem?_eq_getElem _
        generalize (pz n).reverse[2 * (pz n).length - 1 - (k - (lvs n).length)]'(by rw [List.length_reverse]; exact gl) = v at top
        have pk := pl_mk (fw_posi n2 top)
        rw [show (lvs n).length + (2 * (pz n).length - 1 - (2 * (pz n).length - 1 - (k - (lvs n).length))) = k by omega] at pk
        refine ⟨_, rfl, _, _, rfl, rfl, (by show (1 : Nat) + _ < 1000000; omega), _, _, rfl, rfl, _, rfl, _, _, rfl, rfl, _, rfl, _, rfl, n, _, v, ?_, top, by omega, fun t G s nt hT => q t v G (s0.trans s) (.inl hT) pk⟩
        rw [← eg2]
        rfl
  · rintro σ H' Q1 Q2 hm ⟨v0, e0, v1, e1, v2, e2, i1, j1, f1, f1', bd, i2, j2, f2, f2', i3, j3, f3, f3', b, e3, qq⟩
    exact ⟨v0, e0, v1, e1, v2, e2, i1, j1, f1, f1', bd, i2, j2, f2, f2', i3, j3, f3, f3', b, e3, hm _ _ qq⟩
end
section
variable {P : Program} {w : World} {K : PySem.W.Frag} {mg : Str → Option Value} {base : Heap} {f : Addr} {fd : FuncData}
def spSameP (K : PySem.W.Frag) : Sp := fun vs H Q _ => ∃ (t u : Addr) (v : Int × Int), vs = [.ref t, .ref u] ∧ TupK K H t v ∧ TupK K H u v ∧ Q (.bl true) H
theorem ok_sameP (F : Fun K "_law_same" "_law_same" s_law_same f fd) (DS : Dfn P w K mg base "_law_same" 1 ["told", "due"] (spSame 1)) (mI : mg "isinstance" = none) (mT : mg "tuple" = none) (mL : mg "list" = none) (ml : mg "len" = none) (mr : mg "range" = none)
    (ms : mg "str" = none) (mi : mg "int" = none) (mb : mg "bool" = none) : FnOk P w K mg base CX0 2 f fd ["told", "due"] (spSameP K) := by
  refine F.ok sc_law_same (fun vs H Q E h => ?_) (fun cdv A outer s H vs Q E hr h => ?_)
  · obtain ⟨t, u, v0, rfl, _⟩ := h
    rfl
  obtain ⟨a, b, v0, rfl, hx, hy, q⟩ := h
  have bT : bootBuiltins "tuple" = some (.type "tuple") := by decide +kernel
  have bL : bootBuiltins "list" = some (.type "list") := by decide +kernel
  have bS : bootBuiltins "str" = some (.type "str") := by decide +kernel
  have bI : bootBuiltins "int" = some (.type "int") := by decide +kernel
  have bB : bootBuiltins "bool" = some (.type "bool") := by decide +kernel
  have bi : bootBuiltins "isinstance" = some (.builtin "isinstance") := by decide +kernel
  refine ⟨_, pss_cons (ps_if (PW.pt (pw_or (pt_val (pe_callB call_isi rfl mI bi (pa_cons (pv 1) (pa_cons (pe_bltn (v := .ty "tuple") rfl mT bT rfl) pa_nil)))) (pw_or1 (pt_val (pe_callB call_isi rfl mI bi (pa_cons (pv 1) (pa_cons (pe_bltn (v := .ty "list") rfl mL bL rfl) pa_nil)))))))
      (pss_cons (ps_if (PW.pt (pw_or (pt_cmpR op_ne (pe_callB call_isi rfl mI bi (pa_cons (pv 1) (pa_cons (pe_bltn (v := .ty "tuple") rfl mT bT rfl) pa_nil))) (pe_callB call_isi rfl mI bi (pa_cons (pv 0) (pa_cons (pe_bltn (v := .ty "tuple") rfl mT bT rfl) pa_nil))) (nomark _))
          (pw_or1 (pt_cmpR op_ne (pe_callB call_isi rfl mI bi (pa_cons (pv 1) (pa_cons (pe_bltn (v := .ty "list") rfl mL bL rfl) pa_nil))) (pe_callB call_isi rfl mI bi (pa_cons (pv 0) (pa_cons (pe_bltn (v := .ty "list") rfl mL bL rfl) pa_nil))) (nomark _)))))
        (pss_one (ps_ret pe_bl)) pss_nil)
      (pss_cons (ps_if (pt_cmpR op_ne (pe_callB call_len_seq rfl ml PySem.boot_len (pa_cons (pv 0) pa_nil)) (pe_callB call_len_seq rfl ml PySem.boot_len (pa_cons (pv 1) pa_nil)) (nomark _)) (pss_one (ps_ret pe_bl)) pss_nil)
      (pss_cons (ps_for PassesOwn.never rfl (pi_range1 rfl mr (pa_cons (pe_callB call_len_seq rfl ml PySem.boot_len (pa_cons (pv 1) pa_nil)) pa_nil)) (pg_name (i := 2) sc_law_same.nd rfl (.inl rfl))
        (pss_one (ps_if (pt_not (pt_val (pe_do DS hr (pa_cons (pe_ix ix_seq (pv 0) (pv 2) (fun _ _ => rfl)) (pa_cons (pe_ix ix_seq (pv 1) (pv 2) (fun _ _ => rfl)) pa_nil))))) (pss_one (ps_ret pe_bl)) pss_nil)))
      (pss_one (ps_ret pe_bl))))) pss_nil)
    (pss_cons (ps_if (pt_cmpR op_isN (pv 1) pe_non (nomark _)) (pss_one (ps_ret (pe_cmpR op_isN (pv 0) pe_non (nomark _)))) pss_nil)
    (pss_cons (ps_if (pt_val (pe_callB call_isi rfl mI bi (pa_cons (pv 1) (pa_cons (pe_bltn (v := .ty "str") rfl ms bS rfl) pa_nil))))
      (pss_one (ps_ret (pe_and (pe_callB call_isi rfl mI bi (pa_cons (pv 0) (pa_cons (pe_bltn (v := .ty "str") rfl ms bS rfl) pa_nil))) (pe_one (pe_cmpR op_eq (pv 0) (pv 1) (nomark _)))))) pss_nil)
    (pss_one (ps_ret (pe_and (pe_callB call_isi rfl mI bi (pa_cons (pv 0) (pa_cons (pe_bltn (v := .ty "int") rfl mi bI rfl) pa_nil)))
      (pe_and (pe_not (pe_callB call_isi rfl mI bi (pa_cons (pv 0) (pa_cons (pe_bltn (v := .ty "bool") rfl mb bB rfl) pa_nil)))) (pe_one (pe_cmpR op_eq (pv 0) (pv 1) (nomark _))))))))), ?_⟩
  have isn : ∀ (a b : String) (r : Bool), kitB a b = some r → PySem.W.kitOne K (.type a) (.type b) = some r := fun a b r h => kit_ty h
  refine ⟨_, rfl, _, _, _, _, true, rfl, .ty _, hy.ty, kit_ty (by decide +kernel), _, rfl, iteT ?_⟩
  refine ⟨_, rfl, _, _, _, _, true, rfl, .ty _, hy.ty, kit_ty (by decide +kernel), _, rfl, _, _, _, _, true, rfl, .ty _, hx.ty, kit_ty (by decide +kernel), rfl, _, rfl, iteF ?_⟩
  refine ⟨_, rfl, _, _, _, _, false, rfl, .ty _, hy.ty, kit_ty (by decide +kernel), _, rfl, _, _, _, _, false, rfl, .ty _, hx.ty, kit_ty (by decide +kernel), rfl, _, rfl, iteF ?_⟩
  refine ⟨_, rfl, a, _, rfl, .inr (hx.sq), _, rfl, b, _, rfl, .inr (hy.sq), rfl, _, rfl, ?_⟩
  rw [show (decide (V.int ([V.int v0.1, V.int v0.2].length : Int) = V.int ([V.int v0.1, V.int v0.2].length : Int))) = true from decide_eq_true (by rfl)]
  refine iteF ?_
  refine ⟨_, rfl, b, _, rfl, .inr (hy.sq), ([V.int v0.1, V.int v0.2].length : Int), rfl, by omega, by (show (2 : Int) < 4611686018427387904; decide), for_range (lo := 0) (n := ([V.int v0.1, V.int v0.2].length : Int).toNat) (fun i σ H' => H' = H ∧ ∃ v, σ = [some (.ref a), some (.ref b), v]) ⟨rfl, none, rfl⟩ ?_ ?_⟩
  · rintro i σ _ hi ⟨rfl, v, rfl⟩
    have hi1 : i < [V.int v0.1, V.int v0.2].length := by omega
    have hi2 : i < [V.int v0.1, V.int v0.2].length := by omega
    refine ⟨_, rfl, _, rfl, .inr (.inl ⟨a, _, _, _, rfl, rfl, hx.sq, at_of (j := i) (by omega) (List.getElem?_eq_getElem hi2), ?_⟩)⟩
    refine ⟨_, rfl, _, rfl, .inr (.inl ⟨b, _, _, _, rfl, rfl, hy.sq, at_of (j := i) (by omega) (List.getElem?_eq_getElem hi1), ?_⟩)⟩
    have i2 : i = 0 ∨ i = 1 := by
      have : i < 2 := hi1
      omega
    rcases i2 with rfl | rfl
    · exact ⟨_, _, .int v0.1, rfl, rfl, rfl, _, rfl, iteF ⟨rfl, _, rfl⟩⟩
    · exact ⟨_, _, .int v0.2, rfl, rfl, rfl, _, rfl, iteF ⟨rfl, _, rfl⟩⟩
  · rintro σ _ ⟨rfl, v, rfl⟩
    exact q
end
theorem e_RTU : (("RTU" : Str)) = S [82, 84, 85] := by decide +kernel
/-- the list of the levels -/
def Lvs (H : Hp) (p : Addr) (n : Nat) : Prop := ∃ ps : List Addr, H p = some (.lst (ps.map V.ref)) ∧ ps.length = n + 1 ∧ (∀ q ∈ ps, q ≠ p) ∧ ∀ (k : Nat) (q : Addr), ps[k]? = some q → ∃ M, LvAt H q M ∧ Lev k M
def spLevels : Sp := fun vs H Q _ => ∃ m : Int, vs = [.int m] ∧ 0 ≤ m ∧ m ≤ 9 ∧ ∀ p H', Same H H' → Lvs H' p m.toNat → Q (.ref p) H'
theorem four_le {n : Nat} (h : n ≤ 9) : 4 ^ n ≤ 262144 := Nat.le_trans (Nat.pow_le_pow_right (by decide) h) (by decide)
theorem last_ref {ps : List Addr} {n : Nat} (h : ps.length = n + 1) : ∃ q, ps[n]? = some q ∧ atI (ps.map V.ref) (-1) = some (V.ref q) := by
  have hn : n < ps.length := by omega
  refine ⟨ps[n], List.getElem?_eq_getElem hn, ?_⟩
  have e : ps.map V.ref = (ps.take n).map V.ref ++ [V.ref ps[n]] := by
    conv => lhs; rw [← List.take_append_drop n ps, List.drop_eq_getElem_cons hn, List.map_append, List.map_cons, List.drop_eq_nil_of_le (by omega)]
    rfl
  rw [e]
  exact atI_end
section
variable {P : Program} {w : World} {K : PySem.W.Frag} {mg : Str → Option Value} {base : Heap} {f : Addr} {fd : FuncData}
theorem ok__law_levels (F : Fun K "_law_levels" "_law_levels" s_law_levels f fd) (D_called : Dfn P w K mg base "_law_called" 1 ["value", "letter"] (spCalled K)) (y_range : mg "range" = none)  : FnOk P w K mg base CX0 2 f fd ["most"] spLevels := by
  refine F.ok sc_law_levels (fun vs H Q E h => ?_) (fun cdv A outer s H vs Q E hr h => ?_)
  · obtain ⟨m, rfl, m0, m9, q⟩ := h
    rfl
  obtain ⟨m, rfl, m0, m9, q⟩ := h
  have hu := hu_of hr
  refine ⟨_, (pss_cons (ps_set (i := 1) sc_law_levels.nd rfl (.inl rfl) (pe_disp1T (Nat.lt_of_succ_lt hu ) (pe_tup (pa_cons pe_int (pa_cons pe_int pa_nil))) pe_int))
    (pss_cons (ps_set (i := 2) sc_law_levels.nd rfl (.inl rfl) (pe_lst (pa_cons (pe_lst (pa_cons (pe_tup (pa_cons pe_int (pa_cons pe_int pa_nil))) pa_nil)) pa_nil)))
    (pss_cons (ps_for PassesOwn.never rfl (pi_range1 rfl y_range (pa_cons (pv 0) pa_nil)) (pg_name (i := 3) sc_law_levels.nd rfl (.inl rfl))
    (pss_cons (ps_set (i := 4) sc_law_levels.nd rfl (.inl rfl) (pe_lst pa_nil))
    (pss_cons (ps_for PassesOwn.never rfl (pi_list (pe_ix ix_list (pv 2) (pe_un un_neg pe_int) (fun _ _ => rfl))) (pg_name (i := 5) sc_law_levels.nd rfl (.inl rfl))
    (pss_one (ps_for PassesOwn.never rfl (pi_str pe_str) (pg_name (i := 6) sc_law_levels.nd rfl (.inl rfl))
    (pss_cons (ps_set (i := 7) sc_law_levels.nd rfl (.inl rfl) (pe_do D_called hr (pa_cons (pv 5) (pa_cons (pv 6) pa_nil))))
    (pss_one (ps_if (pt_cmp (pc_dnotin hu (pv 7) (pv 1))) (pss_cons (ps_dput hu (pv 1) (pv 7) (pe_op op_add (pv 3) pe_int) rfl)
    (pss_one (ps_expr (pe_bm PySem.F.plainAttrs_list PySem.F.slot_list_append PySem.F.type_list_append mt_append (pv 4) (pa_cons (pv 7) pa_nil))))) pss_nil))))))
    (pss_one (ps_expr (pe_bm PySem.F.plainAttrs_list PySem.F.slot_list_append PySem.F.type_list_append mt_append (pv 2) (pa_cons (pv 4) pa_nil)))))))
    (pss_one (ps_ret (pv 2)))))), ?_⟩
  have two : 2 ≤ sizeLine := fits (by decide)
  have one : 1 ≤ sizeLine := fits (by decide)
  have zero : 0 ≤ sizeLine := Nat.zero_le _
  refine fun dp hdp => ⟨two, fun t1 ht1 => ⟨?_, kyv (0, 1), t1, .int 0, rfl, upd_same, ?_⟩⟩
  · rw [upd_ne (ne_of_none upd_same ht1), upd_same]
  have hp1 : t1 ≠ dp := fun z => by rw [z, upd_same] at ht1; cases ht1
  have S3 : Same H (upd (upd (upd H dp (.dT [])) t1 (.tup [.int 0, .int 1])) dp (.dT [(kyv (0, 1), V.int 0)])) := same_upd (same_upd (same_new hdp _) (by rw [upd_ne hp1] at ht1; exact ht1)) hdp
  have eD : (upd (upd (upd H dp (.dT [])) t1 (.tup [.int 0, .int 1])) dp (.dT [(kyv (0, 1), V.int 0)])) dp = some (.dT [(kyv (0, 1), V.int 0)]) := upd_same
  generalize upd (upd (upd H dp (.dT [])) t1 (.tup [.int 0, .int 1])) dp (.dT [(kyv (0, 1), V.int 0)]) = G3 at *
  refine ⟨two, fun t2 ht2 => ⟨one, fun q0 hq0 => ⟨one, fun lp hlp => ?_⟩⟩⟩
  have eT : (upd G3 t2 (.tup [V.int 0, .int 1])) t2 = some (.tup [V.int 0, .int 1]) := upd_same
  have s1 : Same G3 (upd G3 t2 (.tup [V.int 0, .int 1])) := same_new ht2 _
  generalize upd G3 t2 (.tup [V.int 0, .int 1]) = G4 at *
  have eQ : (upd G4 q0 (.lst [V.ref t2])) q0 = some (.lst [V.ref t2]) := upd_same
  have s2 : Same G4 (upd G4 q0 (.lst [V.ref t2])) := same_new hq0 _
  generalize upd G4 q0 (.lst [V.ref t2]) = G5 at *
  have eL : (upd G5 lp (.lst [V.ref q0])) lp = some (.lst [V.ref q0]) := upd_same
  have s3 : Same G5 (upd G5 lp (.lst [V.ref q0])) := same_new hlp _
  have nql : q0 ≠ lp := fun z => by rw [← z, eQ] at hlp; cases hlp
  generalize upd G5 lp (.lst [V.ref q0]) = G6 at *
  have nlp : H lp = none := by
    cases e : H lp with
    | none => rfl
    | some o =>
      have := (S3.trans (s1.trans s2)) _ _ e
      rw [hlp] at this
      cases this
  have S6 : Same H G6 := S3.trans (s1.trans (s2.trans s3))
  refine ⟨_, rfl, m, rfl, by omega, by omega, for_range (lo := 0) (n := m.toNat) (fun n σ G => ∃ (x3 x4 x5 x6 x7 : Option V) (ps : List Addr) (kvs : List (List Key × V)), σ = [some (.int m), some (.ref dp), some (.ref lp), x3, x4, x5, x6, x7] ∧ Same H G ∧ G dp = some (.dT kvs) ∧ Kn n [] kvs ∧ kvs.length ≤ 4 ^ n ∧ G lp = some (.lst (ps.map V.ref)) ∧ ps.length = n + 1 ∧ (∀ q ∈ ps, q ≠ lp) ∧ ∀ (k : Nat) (q : Addr), ps[k]? = some q → ∃ M, LvAt G q M ∧ Lev k M) ?_ ?_ ?_⟩
  · refine ⟨_, _, _, _, _, [q0], _, rfl, S6, (s1.trans (s2.trans s3)) _ _ eD, kn_zero, by decide, eL, rfl, fun q hq => by rw [List.mem_singleton.mp hq]; exact nql, fun k q hk => ?_⟩
    have : k = 0 := by
      have := (List.getElem?_eq_some_iff.mp hk).1
      have : k < 1 := this
      omega
    subst this
    cases hk
    refine ⟨[(0, 1)], ⟨[t2], s3 _ _ eQ, rfl, fun i t v ht hv => ?_⟩, lev_zero⟩
    have : i = 0 := by
      have := (List.getElem?_eq_some_iff.mp ht).1
      have : i < 1 := this
      omega
    subst this
    cases ht; cases hv
    exact (s2.trans s3) _ _ eT
  · rintro n σ G hn ⟨x3, x4, x5, x6, x7, ps, kvs, rfl, SG, hD, kn, kl, hL, pl, pn, lv⟩
    have n9 : n ≤ 9 := by omega
    have f4 := four_le n9
    refine ⟨zero, fun vp hvp => ?_⟩
    obtain ⟨q, hq, aq⟩ := last_ref pl
    obtain ⟨M0, hM0, lM0⟩ := lv n q hq
    have hM0' := hM0
    obtain ⟨ts, tq, tl, tv⟩ := hM0
    have ndq : q ≠ dp := ne_of tq hD (fun z => nomatch z)
    have s0 : Same G (upd G vp (.lst [])) := same_new hvp _
    refine ⟨_, rfl, _, rfl, lp, _, _, _, rfl, rfl, SqL.of (s0 _ _ hL), aq, q, rfl, ⟨_, SqL.of (s0 _ _ tq)⟩, for_list (K := K) (a := q) (xs := ts.map V.ref) (fun i σ F => ∃ (x5 x6 x7 : Option V) (M : List (Int × Int)) (kvs : List (List Key × V)), σ = [some (.int m), some (.ref dp), some (.ref lp), some (.int (0 + (n : Int))), some (.ref vp), x5, x6, x7] ∧ But dp G F ∧ F dp = some (.dT kvs) ∧ Kn n M kvs ∧ kvs.length ≤ 4 ^ n + M.length ∧ LvAt F vp M ∧ Half n M0 i 0 M) ?_ ?_ ?_ ?_⟩
    · exact ⟨_, _, _, [], kvs, rfl, But.of s0, s0 _ _ hD, kn, kl, ⟨[], upd_same, rfl, fun i t v ht => by cases ht⟩, Half.start _ _⟩
    · rintro i σ F _ ⟨x5, x6, x7, M, kvs, _, bF, _⟩
      exact SqL.of (bF _ _ ndq tq)
    · rintro i x σ F hx ⟨x5, x6, x7, M, kvs, rfl, bF, hD1, kn1, kl1, lv1, hf1⟩
      rw [List.getElem?_map] at hx
      have hi : i < ts.length := by
        cases e : ts[i]? with
        | none => rw [e] at hx; cases hx
        | some t => exact (List.getElem?_eq_some_iff.mp e).1
      have hti : ts[i]? = some ts[i] := List.getElem?_eq_getElem hi
      rw [hti] at hx
      cases hx
      have hi2 : i < M0.length := by omega
      have hui : M0[i]? = some M0[i] := List.getElem?_eq_getElem hi2
      generalize ts[i] = t at hti ⊢
      generalize M0[i] = u at hui
      have Tt := tv i t u hti hui
      have nt : t ≠ dp := ne_of Tt hD (fun z => nomatch z)
      have gu := ((lM0.mem u).mp (List.mem_of_getElem? hui))
      have ml := lM0.len
      rw [e_RTU]
      refine ⟨_, rfl, for_str (l := [82, 84, 85]) (fun j σ F => ∃ (x6 x7 : Option V) (M : List (Int × Int)) (kvs : List (List Key × V)), σ = [some (.int m), some (.ref dp), some (.ref lp), some (.int (0 + (n : Int))), some (.ref vp), some (.ref t), x6, x7] ∧ But dp G F ∧ F dp = some (.dT kvs) ∧ Kn n M kvs ∧ kvs.length ≤ 4 ^ n + M.length ∧ LvAt F vp M ∧ Half n M0 i j M) ?_ ?_ ?_⟩
      · exact ⟨_, _, M, kvs, rfl, bF, hD1, kn1, kl1, lv1, hf1⟩
      · rintro j c σ F1 hc ⟨x6, x7, M1, kvs1, rfl, bF1, hD2, kn2, kl2, lv2, hf2⟩
        have hj : j < 3 := (List.getElem?_eq_some_iff.mp hc).1
        have hml := hf2.len
        refine ⟨_, rfl, _, rfl, t, u, c, rfl, bF1 _ _ nt Tt, fun t' F2 s2 T2 => ?_⟩
        have gc := gu.1.called c
        have near := (stp_near gu.1 c).1
        refine ⟨_, rfl, _, rfl, dp, _, rfl, DGet.t (k := kyv (called u c)) (s2 _ _ hD2) T2, _, rfl, ite2 (fun c1 => ?_) (fun c1 => ?_)⟩
        · have no : ¬ (valV kvs1 (kyv (called u c))).isSome = true := by
            intro z
            rw [z] at c1
            cases c1
          rw [kn2 (called u c)] at no
          have e1 : stp (called u c) = n + 1 := by
            have : ¬ stp (called u c) ≤ n := fun z => no (.inl ⟨gc, z⟩)
            omega
          have notin : called u c ∉ M1 := fun z => no (.inr z)
          refine ⟨_, rfl, _, _, rfl, rfl, _, rfl, _, rfl, dp, _, rfl, DPut.t (k := kyv (called u c)) (s2 _ _ hD2) T2 (Nat.lt_of_lt_of_le (show kvs1.length < 16777216 by omega) sizeLine_big), ?_⟩
          obtain ⟨tsM, hV, vl, vt⟩ := lv2
          have nvd : vp ≠ dp := ne_of (s2 _ _ hV) (s2 _ _ hD2) (fun z => nomatch z)
          have hV3 : (upd F2 dp (.dT (putK kvs1 (kyv (called u c)) (V.int (0 + (n : Int) + 1))))) vp = some (.lst (tsM.map V.ref)) := by
            rw [upd_ne nvd]; exact s2 _ _ hV
          refine ⟨_, rfl, .inl ⟨rfl, _, SqL.of hV3⟩, _, rfl, vp, _, _, rfl, rfl, hV3, Nat.lt_of_lt_of_le (show (tsM.map V.ref).length < 16777216 by rw [List.length_map]; omega) sizeLine_big, ?_⟩
          have tk : ∀ (b : Addr) (v : Int × Int), Tup2 F2 b v → Tup2 (upd F2 dp (.dT (putK kvs1 (kyv (called u c)) (V.int (0 + (n : Int) + 1))))) b v := fun b v T => by
            unfold Tup2
            rw [upd_ne (ne_of T (s2 _ _ hD2) (fun z => nomatch z))]
            exact T
          refine ⟨_, _, M1 ++ [called u c], putK kvs1 (kyv (called u c)) (V.int (0 + (n : Int) + 1)), rfl, fun b o hb h => ?_, ?_, Kn.new kn2 _ _, ?_, LvAt.add hV3 vl (fun a t2 v2 ha hv2 => tk _ _ (s2 _ _ (vt a t2 v2 ha hv2))) (tk _ _ T2), hf2.new hui hc gc e1 notin⟩
          · rw [upd_ne (ne_of_none h hvp), upd_ne hb]
            exact s2 _ _ (bF1 _ _ hb h)
          · rw [upd_ne (Ne.symm nvd), upd_same]
          · have := length_putK kvs1 (kyv (called u c)) (V.int (0 + (n : Int) + 1))
            rw [List.length_append]
            show _ ≤ 4 ^ n + (M1.length + 1)
            omega
        · have yes : (valV kvs1 (kyv (called u c))).isSome = true := by
            cases e : (valV kvs1 (kyv (called u c))).isSome with
            | true => rfl
            | false => rw [e] at c1; exact absurd rfl c1
          rw [kn2 (called u c)] at yes
          refine ⟨_, _, M1, kvs1, rfl, bF1.trans (But.of s2), s2 _ _ hD2, kn2, kl2, lv2.same s2, hf2.old hui hc (fun e => ?_)⟩
          rcases yes with ⟨_, y⟩ | y
          · omega
          · exact y
      · rintro σ F1 ⟨x6, x7, M1, kvs1, rfl, bF1, hD2, kn2, kl2, lv2, hf2⟩
        exact ⟨_, _, _, M1, kvs1, rfl, bF1, hD2, kn2, kl2, lv2, hf2.turn⟩
    · rintro σ F ⟨x5, x6, x7, M, kvs1, rfl, bF, hD1, kn1, kl1, lv1, hf1⟩
      have ndl : lp ≠ dp := ne_of hL hD (fun z => nomatch z)
      have hL1 := bF _ _ ndl hL
      have nvl : vp ≠ lp := fun z => by rw [z, hL] at hvp; cases hvp
      rw [List.length_map, tl] at hf1
      have lM := hf1.lev lM0
      have ml := lM0.len
      have hml := hf1.len
      refine ⟨_, rfl, .inl ⟨rfl, _, SqL.of hL1⟩, _, rfl, lp, _, _, rfl, rfl, hL1, Nat.lt_of_lt_of_le (show (ps.map V.ref).length < 16777216 by rw [List.length_map]; omega) sizeLine_big, ?_⟩
      have lk : ∀ (r : Addr) (M2 : List (Int × Int)), r ≠ lp → LvAt F r M2 → LvAt (upd F lp (.lst (ps.map V.ref ++ [V.ref vp]))) r M2 := fun r M2 hr h => h.but But.upd hr (fun o ho xs z => by rw [hL1] at ho; cases ho; cases z)
      have SF : Same H F := fun b o hb => by
        by_cases z : b = dp
        · subst z; rw [hb] at hdp; cases hdp
        · exact bF _ _ z (SG _ _ hb)
      refine ⟨_, _, _, _, _, ps ++ [vp], kvs1, rfl, same_upd SF nlp, by rw [upd_ne (Ne.symm ndl)]; exact hD1, kn1.next lM, by rw [Nat.pow_succ]; omega, by rw [upd_same, List.map_append]; rfl, by rw [List.length_append, pl]; rfl, fun r hr => ?_, fun k r hk => ?_⟩
      · rcases List.mem_append.mp hr with hr | hr
        · exact pn r hr
        · rw [List.mem_singleton.mp hr]; exact nvl
      · by_cases c : k < ps.length
        · rw [List.getElem?_append_left c] at hk
          obtain ⟨M2, h2, l2⟩ := lv k r hk
          exact ⟨M2, lk r M2 (pn r (List.mem_of_getElem? hk)) (h2.but bF (fun z => by subst z; obtain ⟨_, h5, _⟩ := h2; rw [hD] at h5; cases h5) (fun o ho xs z => by rw [hD] at ho; cases ho; cases z)), l2⟩
        · rw [List.getElem?_append_right (by omega)] at hk
          have e1 : k = n + 1 := by
            have := (List.getElem?_eq_some_iff.mp hk).1
            have : k - ps.length < 1 := this
            omega
          subst e1
          rw [pl, Nat.sub_self] at hk
          cases hk
          exact ⟨M, lk vp M nvl lv1, lM⟩
  · rintro σ G ⟨x3, x4, x5, x6, x7, ps, kvs, rfl, SG, hD, kn, kl, hL, pl, pn, lv⟩
    exact ⟨_, rfl, q lp G SG ⟨ps, hL, pl, pn, lv⟩⟩
end
section
variable {P : Program} {w : World} {K : PySem.W.Frag} {mg : Str → Option Value} {base : Heap} {f : Addr} {fd : FuncData}
def spSorted : Sp := fun vs H Q _ => ∃ (q : Addr) (L : List (Int × Int)), vs = [.ref q] ∧ LvAt H q L ∧ (∀ v ∈ L, Good v ∧ v.1.natAbs ≤ 1000 ∧ v.2.natAbs ≤ 1000) ∧ L.Nodup ∧ L.length ≤ 300000 ∧ ∀ (p : Addr) (M : List (Int × Int)) H', Same H H' → LvAt H' p M → Asc M → (∀ v, v ∈ M ↔ v ∈ L) → Q (.ref p) H'
theorem cut_take {xs : List V} {k : Int} (h : 0 ≤ k) (h2 : k.toNat ≤ xs.length) : cutV xs none (some k) = xs.take k.toNat := by
  obtain ⟨n, rfl⟩ := Int.eq_ofNat_of_zero_le h
  unfold cutV
  have e1 : HT.sIx xs.length 0 none = 0 := rfl
  rw [e1, HT.sIx_nat, Int.toNat_natCast, Nat.min_eq_left (by simpa using h2)]
  simp
theorem cut_drop {xs : List V} {k : Int} (h : 0 ≤ k) (h2 : k.toNat ≤ xs.length) : cutV xs (some k) none = xs.drop k.toNat := by
  obtain ⟨n, rfl⟩ := Int.eq_ofNat_of_zero_le h
  unfold cutV
  have e1 : HT.sIx xs.length xs.length none = xs.length := rfl
  rw [e1, HT.sIx_nat, Int.toNat_natCast, Nat.min_eq_left (by simpa using h2), List.take_of_length_le]
  rw [List.length_drop]
  exact Nat.le_refl _
theorem LvAt.take {H H' : Hp} {p : Addr} {L : List (Int × Int)} {ts : List Addr} (k : Nat) (s : Same H H') (tl : ts.length = L.length) (tv : ∀ (i : Nat) (t : Addr) (v : Int × Int), ts[i]? = some t → L[i]? = some v → Tup2 H t v) (hp : H' p = some (.lst ((ts.map V.ref).take k))) : LvAt H' p (L.take k) := by
  refine ⟨ts.take k, by rw [hp, List.map_take], by rw [List.length_take, List.length_take, tl], fun i t v ht hv => ?_⟩
  have hi : i < k := by
    have := (List.getElem?_eq_some_iff.mp ht).1
    rw [List.length_take] at this
    omega
  rw [List.getElem?_take_of_lt hi] at ht hv
  exact (tv i t v ht hv).same s
theorem LvAt.drop {H H' : Hp} {p : Addr} {L : List (Int × Int)} {ts : List Addr} (k : Nat) (s : Same H H') (tl : ts.length = L.length) (tv : ∀ (i : Nat) (t : Addr) (v : Int × Int), ts[i]? = some t → L[i]? = some v → Tup2 H t v) (hp : H' p = some (.lst ((ts.map V.ref).drop k))) : LvAt H' p (L.drop k) := by
  refine ⟨ts.drop k, by rw [hp, List.map_drop], by rw [List.length_drop, List.length_drop, tl], fun i t v ht hv => ?_⟩
  rw [List.getElem?_drop] at ht hv
  exact (tv _ t v ht hv).same s
theorem LvAt.one {H : Hp} {p t : Addr} {v : Int × Int} (hp : H p = some (.lst [V.ref t])) (T : Tup2 H t v) : LvAt H p [v] := by
  refine ⟨[t], hp, rfl, fun i t' v' ht hv => ?_⟩
  have : i = 0 := by
    have := (List.getElem?_eq_some_iff.mp ht).1
    have : i < 1 := this
    omega
  subst this
  cases ht; cases hv
  exact T
end
section
variable {P : Program} {w : World} {K : PySem.W.Frag} {mg : Str → Option Value} {base : Heap} {f : Addr} {fd : FuncData}
theorem ok_law_sorted (F : Fun K "_law_sorted" "_law_sorted" s_law_sorted f fd) (y_len : mg "len" = none)  : FnOk P w K mg base CX0 1 f fd ["level"] spSorted := by
  refine F.ok sc_law_sorted (fun vs H Q E h => ?_) (fun cdv A outer s H vs Q E hr h => ?_)
  · obtain ⟨q, L, rfl, hL, gd, nd, ll, qq⟩ := h
    rfl
  obtain ⟨q, L, rfl, hL, gd, nd, ll, qq⟩ := h
  refine ⟨_, (pss_cons (ps_set (i := 1) sc_law_sorted.nd rfl (.inl rfl) (pe_lst pa_nil))
    (pss_cons (ps_for PassesOwn.never rfl (pi_list (pv 0)) (pg_name (i := 2) sc_law_sorted.nd rfl (.inr rfl))
    (pss_cons (ps_set (i := 3) sc_law_sorted.nd rfl (.inl rfl) (pe_callB call_len_seq rfl y_len PySem.boot_len (pa_cons (pe_lc (own := [("one", 4)]) (g := (gName 4)) (by rfl) sc_law_sorted.nd (pi_list (pv 1)) (blkOk_by (own := [("one", 4)]) (N := ["level", "rows", "value", "spot", "one"]) (sc := defScope s_law_sorted) (by decide +kernel)) (fun _ _ _ _ _ => pg_name (i := 4) sc_law_sorted.nd rfl (Or.inl rfl)) (fun _ _ _ _ _ => (pts_one (PW.pt (pw_or (pt_cmpR op_eq (pe_ix (r := rIxT K) ix_tup (pv 2) pe_int (fun _ _ => rfl)) pe_int (nomark _)) (pw_or1 (PW.pt (pw_and (pt_cmpR op_ne (pe_ix (r := rIxT K) ix_tup (pv 4) pe_int (fun _ _ => rfl)) pe_int (nomark _)) (pw_and1 (pt_cmpR op_lt (pe_op op_mul (pe_ix (r := rIxT K) ix_tup (pv 4) pe_int (fun _ _ => rfl)) (pe_ix (r := rIxT K) ix_tup (pv 2) pe_int (fun _ _ => rfl))) (pe_op op_mul (pe_ix (r := rIxT K) ix_tup (pv 2) pe_int (fun _ _ => rfl)) (pe_ix (r := rIxT K) ix_tup (pv 4) pe_int (fun _ _ => rfl))) (nomark _)))))))))) (fun _ _ _ _ _ => (pv 4))) pa_nil)))
    (pss_one (ps_set (i := 1) sc_law_sorted.nd rfl (.inl rfl) (pe_op op_cat (pe_op op_cat (pe_slice sl_list (pv 1) po_none (po_some (pv 3))) (pe_lst (pa_cons (pv 2) pa_nil))) (pe_slice sl_list (pv 1) (po_some (pv 3)) po_none))))))
    (pss_one (ps_ret (pv 1))))), ?_⟩
  have zero : 0 ≤ sizeLine := Nat.zero_le _
  have one : 1 ≤ sizeLine := fits (by decide)
  obtain ⟨ts, hq, tl, tv⟩ := id hL
  refine ⟨zero, fun r0 hr0 => ?_⟩
  have s0 := same_new hr0 (.lst [])
  have z0 : LvAt (upd H r0 (.lst [])) r0 [] := LvAt.nil upd_same
  generalize upd H r0 (.lst []) = H1 at *
  refine ⟨_, rfl, q, rfl, ⟨_, SqL.of (s0 _ _ hq)⟩, for_list (K := K) (a := q) (xs := ts.map V.ref) (fun i σ G => ∃ (r : Addr) (x2 x3 x4 : Option V) (M : List (Int × Int)), σ = [some (.ref q), some (.ref r), x2, x3, x4] ∧ Same H G ∧ LvAt G r M ∧ Asc M ∧ M.length = i ∧ ∀ u, u ∈ M ↔ u ∈ L.take i) ?_ ?_ ?_ ?_⟩
  · exact ⟨r0, _, _, _, [], rfl, s0, z0, List.Pairwise.nil, rfl, fun u => by rw [List.take_zero]⟩
  · rintro i σ G _ ⟨r, x2, x3, x4, M, rfl, sG, _⟩
    exact SqL.of (sG _ _ hq)
  · rintro i x σ G hx ⟨r, x2, x3, x4, M, rfl, sG, hM, aM, lM, mM⟩
    rw [List.getElem?_map] at hx
    have hi : i < ts.length := by
      cases e : ts[i]? with
      | none => rw [e] at hx; cases hx
      | some t => exact (List.getElem?_eq_some_iff.mp e).1
    have hti : ts[i]? = some ts[i] := List.getElem?_eq_getElem hi
    rw [hti] at hx
    cases hx
    have hvi : L[i]? = some L[i] := List.getElem?_eq_getElem (by omega)
    have nv : L[i] ∉ L.take i := by
      intro z
      obtain ⟨j, hj, e⟩ := List.getElem_of_mem z
      rw [List.length_take] at hj
      rw [List.getElem_take] at e
      have := (List.getElem_inj nd).mp e
      omega
    generalize ts[i] = t at hti ⊢
    generalize L[i] = v at hvi nv
    have hT := (tv i t v hti hvi).same sG
    have gv := gd v (List.mem_of_getElem? hvi)
    have gM : ∀ u ∈ M, Good u ∧ u ≠ v := fun u hu => by
      have := (mM u).mp hu
      exact ⟨(gd u (List.mem_of_mem_take this)).1, fun z => nv (z ▸ this)⟩
    have bM : ∀ u ∈ M, u.1.natAbs ≤ 1000 ∧ u.2.natAbs ≤ 1000 := fun u hu => (gd u (List.mem_of_mem_take ((mM u).mp hu))).2
    obtain ⟨us, hr, ul, uv⟩ := id hM
    refine ⟨_, rfl, r, rfl, ⟨_, SqL.of hr⟩, fun D hD => lc_list (K := K) (a := r) (xs := us.map V.ref) (fun j F => Same G F ∧ ∃ ys : List V, F D = some (.lst ys) ∧ ys.length = ((M.take j).filter (below v)).length) ⟨same_new hD _, [], upd_same, rfl⟩ ?_ ?_ ?_⟩
    · rintro j F _ ⟨sF, _⟩
      exact SqL.of (sF _ _ hr)
    · rintro j y F hy ⟨sF, ys, hF, yl⟩
      rw [List.getElem?_map] at hy
      have hj : j < us.length := by
        cases e : us[j]? with
        | none => rw [e] at hy; cases hy
        | some t => exact (List.getElem?_eq_some_iff.mp e).1
      have huj : us[j]? = some us[j] := List.getElem?_eq_getElem hj
      rw [huj] at hy
      cases hy
      have hMj : M[j]? = some M[j] := List.getElem?_eq_getElem (by omega)
      generalize us[j] = w' at huj ⊢
      generalize M[j] = u at hMj
      have hU := (uv j w' u huj hMj).same sF
      have hV := hT.same sF
      have bu := bM u (List.mem_of_getElem? hMj)
      have ft : (M.take (j + 1)) = M.take j ++ [u] := by rw [List.take_add_one, hMj]; rfl
      have add1 : below v u = true → ∃ ys' : List V, ys'.length = ((M.take (j + 1)).filter (below v)).length ∧ ys' = ys ++ [V.ref w'] := fun k => ⟨_, by rw [ft, List.filter_append, List.filter_cons_of_pos k, List.length_append, List.length_append, yl]; rfl, rfl⟩
      have yb : ys.length < sizeLine := by
        have := List.length_filter_le (below v) (M.take j)
        rw [List.length_take] at this
        have : i < ts.length := hi
        exact Nat.lt_of_lt_of_le (show ys.length < 16777216 by omega) sizeLine_big
      have take_ : below v u = true → Same G (upd F D (.lst (ys ++ [V.ref w']))) ∧ ∃ zs : List V, (upd F D (.lst (ys ++ [V.ref w']))) D = some (.lst zs) ∧ zs.length = ((M.take (j + 1)).filter (below v)).length := fun k => by
        refine ⟨same_upd sF hD, _, upd_same, ?_⟩
        obtain ⟨_, e, rfl⟩ := add1 k
        exact e
      have drop_ : ¬ below v u = true → Same G F ∧ ∃ zs : List V, F D = some (.lst zs) ∧ zs.length = ((M.take (j + 1)).filter (below v)).length := fun k => ⟨sF, ys, hF, by rw [ft, List.filter_append, List.filter_cons_of_neg k, List.filter_nil, List.append_nil, yl]⟩
      refine ⟨rfl, ?_⟩
      refine ⟨_, rfl, t, _, _, _, rfl, rfl, SqT.of hV, rfl, rfl, _, rfl, ite2 (fun c1 => ?_) (fun c1 => ?_)⟩
      · have e1 : v.2 = 0 := V.int.inj (of_decide_eq_true c1)
        refine ⟨_, rfl, ys, hF, yb, fun x o hx => ?_, ?_⟩
        · rw [upd_ne (ne_of_none hx hD)]
          exact sF _ _ hx
        · exact (take_ (by unfold below; rw [decide_eq_true e1]; rfl)).2
      · have e1 : ¬ v.2 = 0 := fun z => c1 (decide_eq_true (congrArg V.int z))
        refine ⟨_, rfl, w', _, _, _, rfl, rfl, SqT.of hU, rfl, rfl, _, rfl, ite2 (fun c2 => ?_) (fun c2 => ?_)⟩
        · have e2 : ¬ u.2 = 0 := fun z => by simp [z] at c2
          refine ⟨_, rfl, w', _, _, _, rfl, rfl, SqT.of hU, rfl, _, rfl, t, _, _, _, rfl, rfl, SqT.of hV, rfl, _, _, rfl, rfl, .inl ⟨by omega, by omega⟩, _, rfl, t, _, _, _, rfl, rfl, SqT.of hV, rfl, _, rfl, w', _, _, _, rfl, rfl, SqT.of hU, rfl, _, _, rfl, rfl, .inl ⟨by omega, by omega⟩, _, _, rfl, rfl, _, rfl, ite2 (fun c3 => ?_) (fun c3 => ?_)⟩
          · have e3 : u.1 * v.2 < v.1 * u.2 := of_decide_eq_true c3
            refine ⟨_, rfl, ys, hF, yb, fun x o hx => ?_, ?_⟩
            · rw [upd_ne (ne_of_none hx hD)]
              exact sF _ _ hx
            · exact (take_ (by unfold below; rw [decide_eq_true e3, decide_eq_false e1, decide_eq_false e2]; rfl)).2
          · exact drop_ (by unfold below; rw [decide_eq_false e1, decide_eq_false e2, decide_eq_false (show ¬ u.1 * v.2 < v.1 * u.2 from fun z => c3 (decide_eq_true z))]; decide)
        · have e2 : u.2 = 0 := Decidable.byContradiction fun z => c2 (by simp [z])
          exact drop_ (by unfold below; rw [decide_eq_false e1, decide_eq_true e2]; intro z; cases z)
    rintro G1 ⟨s1, ys, hD1, yl⟩
    rw [List.length_map, ul, List.take_of_length_le (Nat.le_refl _)] at yl
    have kl : ys.length ≤ M.length := by rw [yl]; exact List.length_filter_le _ _
    have zl : M.length ≤ 300000 := by omega
    have r1 := s1 _ _ hr
    have kk : ((ys.length : Nat) : Int).toNat ≤ (us.map V.ref).length := by rw [List.length_map]; omega
    have ct := cut_take (xs := us.map V.ref) (k := ((ys.length : Nat) : Int)) (by omega) kk
    have cd := cut_drop (xs := us.map V.ref) (k := ((ys.length : Nat) : Int)) (by omega) kk
    rw [Int.toNat_natCast] at ct cd
    have S1 := sG.trans s1
    refine ⟨D, ys, rfl, .inl (SqL.of hD1), _, rfl, _, rfl, _, rfl, r, _, rfl, SqL.of r1, fun pA hA => ?_⟩
    have sA := same_new hA (.lst (cutV (us.map V.ref) none (some ((ys.length : Nat) : Int))))
    have eA : (upd G1 pA (.lst (cutV (us.map V.ref) none (some ((ys.length : Nat) : Int))))) pA = some (.lst ((us.map V.ref).take ys.length)) := by rw [upd_same, ct]
    generalize upd G1 pA (.lst (cutV (us.map V.ref) none (some ((ys.length : Nat) : Int)))) = G2 at *
    have LA : LvAt G2 pA (M.take ys.length) := LvAt.take _ (s1.trans sA) ul uv eA
    refine ⟨_, rfl, one, fun pB hB => ?_⟩
    have sB := same_new hB (.lst [V.ref t])
    have eB : (upd G2 pB (.lst [V.ref t])) pB = some (.lst [V.ref t]) := upd_same
    generalize upd G2 pB (.lst [V.ref t]) = G3 at *
    have LB : LvAt G3 pB [v] := LvAt.one eB (hT.same ((s1.trans sA).trans sB))
    refine ⟨pA, pB, _, _, rfl, rfl, sB _ _ eA, eB, fits (by rw [List.length_take, List.length_map]; show _ + 1 ≤ _; omega), fun pC hC => ?_⟩
    have LC := LvAt.cat (LA.same sB) LB (same_new hC _) (sB _ _ eA) eB upd_same
    have sC := same_new hC (.lst ((us.map V.ref).take ys.length ++ [V.ref t]))
    have eC : (upd G3 pC (.lst ((us.map V.ref).take ys.length ++ [V.ref t]))) pC = some (.lst ((us.map V.ref).take ys.length ++ [V.ref t])) := upd_same
    generalize upd G3 pC (.lst ((us.map V.ref).take ys.length ++ [V.ref t])) = G4 at *
    have S4 := (s1.trans sA).trans (sB.trans sC)
    refine ⟨_, rfl, _, rfl, _, rfl, r, _, rfl, SqL.of (S4 _ _ hr), fun pE hE => ?_⟩
    have sE := same_new hE (.lst (cutV (us.map V.ref) (some ((ys.length : Nat) : Int)) none))
    have eE : (upd G4 pE (.lst (cutV (us.map V.ref) (some ((ys.length : Nat) : Int)) none))) pE = some (.lst ((us.map V.ref).drop ys.length)) := by rw [upd_same, cd]
    generalize upd G4 pE (.lst (cutV (us.map V.ref) (some ((ys.length : Nat) : Int)) none)) = G5 at *
    have LE : LvAt G5 pE (M.drop ys.length) := LvAt.drop _ (S4.trans sE) ul uv eE
    refine ⟨pC, pE, _, _, rfl, rfl, sE _ _ eC, eE, fits (by rw [List.length_append, List.length_take, List.length_drop, List.length_map]; show _ + 1 + _ ≤ _; omega), fun pF hF => ?_⟩
    have LF := LvAt.cat (LC.same sE) LE (same_new hF _) (sE _ _ eC) eE upd_same
    have ei : M.take ys.length ++ [v] ++ M.drop ys.length = ins v M := by rw [yl]; rfl
    rw [ei] at LF
    refine ⟨pF, _, _, _, ins v M, rfl, sG.trans (S4.trans (sE.trans (same_new hF _))), LF, ins_asc gv.1 aM gM, ?_, fun u => ?_⟩
    · unfold ins
      rw [List.length_append, List.length_append, List.length_take, List.length_drop, ← yl]
      show _ + 1 + _ = _
      omega
    · rw [ins_mem, List.take_add_one, hvi, List.mem_append, mM u]
      constructor
      · rintro (h | h)
        · exact .inr (List.mem_singleton.mpr h)
        · exact .inl h
      · rintro (h | h)
        · exact .inr h
        · exact .inl (List.mem_singleton.mp h)

  · rintro σ G ⟨r, x2, x3, x4, M, rfl, sG, hM, aM, lM, mM⟩
    rw [List.length_map, tl, List.take_of_length_le (Nat.le_refl _)] at mM
    exact ⟨_, rfl, qq r M G sG hM aM mM⟩
end
def spBadAt (C : Addr) : Sp := fun vs H Q E => ∃ k : Int, vs = [.int k] ∧ k < 0 ∧ E (.ref C) none H
def spRefused : Sp := fun vs H Q _ => ∃ k : Int, vs = [.int k] ∧ k < 0 ∧ ∀ H', Same H H' → Q (.bl true) H'
def spLaw (K : PySem.W.Frag) : Sp := fun vs H Q _ => ∃ (a : Addr) (ns : List Int), vs = [.ref a] ∧ SqL K H a (ns.map V.int) ∧ ns.length ≤ 63 ∧ ∀ H', Q (.bl true) H'
theorem lvs_ten {n : Nat} (h : n ≤ 10) : (lvs n).length ≤ 178 := by
  have a := lvs_le h
  have b := lvs_len 8
  have c : (FB 11).1 = 89 := by decide
  have b' : ((lvs 10).length : Int) = 2 * (FB 11).1 := b
  omega
section
variable {P : Program} {w : World} {K : PySem.W.Frag} {mg : Str → Option Value} {base : Heap} {f : Addr} {fd : FuncData}
theorem ok_atX {C : Addr} (F : Fun K "fraction_at" "fraction_at" s_fraction_at f fd) (e : Err K mg "NoFraction" C) : FnOk P w K mg base (L2N.CX P w) 1 f fd ["place"] (spBadAt C) := by
  refine okX F sc_fraction_at (fun vs H Q E h => ?_) (fun cdv A outer s H vs Q E hr h => ?_)
  · obtain ⟨k, rfl, _⟩ := h
    rfl
  obtain ⟨k, rfl, neg, q⟩ := h
  refine ⟨_, pss_cons (ps_if (pt_cmpR op_lt (pv 0) pe_int (nomark _)) (pss_one (L2N.ps_raise rfl (L2N.takes_of rfl rfl rfl rfl) (L2N.pmk_own PySem.F.excBase_ValueError e.x e.g e.k (raises_own e.b e.t) rfl))) pss_nil) pss_never, ?_⟩
  exact ⟨_, rfl, _, _, rfl, rfl, _, rfl, ite2 (fun c => q) (fun c => absurd (decide_eq_true neg) c)⟩
end
/-! ### _law_refused -/
abbrev tIsFrefused (K : PySem.W.Frag) (D a : Addr) (cls : Value) (d : Option Addr) (c : V) : TE := tCB (rIsF K D a cls d) (tCons (tVar 1) (tCons (tC c) tNil))
def t_suiterefused (K : PySem.W.Frag) (C B1 B2 B3 : Addr) : Addr → Value → Option Addr → TS := fun a cls d =>
  tSeq (tAsg (tLst (tCons (tIsFrefused K C a cls d (.ref B1)) (tCons (tIsFrefused K C a cls d (.ref B2)) (tCons (tIsFrefused K C a cls d (.ref B3)) tNil)))) (gName 2))
    (tRet (tAndV (tIsFrefused K C a cls d (.ref C)) (tAndV (tIsFrefused K C a cls d (.ty "ValueError")) (tNotV (tCB (rAny K) (tCons (tVar 2) tNil))))))
structure Kin (K : PySem.W.Frag) (C R B1 B2 B3 : Addr) : Prop where
  ex : PySem.W.exmOne K (.ref C) (.ref R) = some true
  kC : PySem.W.kitOne K (.ref C) (.ref C) = some true
  kV : PySem.W.kitOne K (.ref C) (.type "ValueError") = some true
  k1 : PySem.W.kitOne K (.ref C) (.ref B1) = some false
  k2 : PySem.W.kitOne K (.ref C) (.ref B2) = some false
  k3 : PySem.W.kitOne K (.ref C) (.ref B3) = some false
section
variable {P : Program} {w : World} {K : PySem.W.Frag} {mg : Str → Option Value} {base : Heap} {f : Addr} {fd : FuncData}
theorem ok_refused {g C R B1 B2 B3 : Addr} {gd : FuncData} (F : Fun K "_law_refused" "_law_refused" s_law_refused f fd) (G : FnOk P w K mg base (L2N.CX P w) 1 g gd ["place"] (spBadAt C)) (mG : mg "fraction_at" = some (.ref g)) (kG : PySem.W.keepIn K (.ref g) = true) (bG : Binds K gd ["place"] [])
    (EC : ExcC K C) (gC : mg "NoFraction" = some (.ref C)) (gR : mg "RopeError" = some (.ref R)) (g1 : mg "BadMove" = some (.ref B1)) (g2 : mg "BadText" = some (.ref B2)) (g3 : mg "NoDance" = some (.ref B3)) (Z : Kin K C R B1 B2 B3)
    (mI : mg "isinstance" = none) (mV : mg "ValueError" = none) (mA : mg "any" = none) : FnOk P w K mg base CX0 2 f fd ["index"] spRefused := by
  refine F.ok sc_law_refused (fun vs H Q E h => ?_) (fun cdv A outer s H vs Q E hr h => ?_)
  · obtain ⟨k, rfl, neg, q⟩ := h
    rfl
  obtain ⟨k, rfl, neg, q⟩ := h
  have bi : bootBuiltins "isinstance" = some (.builtin "isinstance") := by decide +kernel
  have bV : bootBuiltins "ValueError" = some (.type "ValueError") := by decide +kernel
  have bA : bootBuiltins "any" = some (.builtin "any") := by decide +kernel
  refine ⟨_, pss_cons (L2N.ps_try_as (i := 1) (tb := fun W => tDrop (tCallS (spBadAt C) (WE W) (tCons (tVar 0) tNil))) (ts := t_suiterefused K C B1 B2 B3) (Wout := fun _ _ _ _ => False) rfl rfl sc_law_refused.nd rfl rfl ⟨rfl, by decide, Or.inl gR⟩ takes0N
      (fun W pn xe tk _ => pss_one (ps_expr (by exact (pe_callS G hr rfl mG kG bG (fun σ => L2N.passAt tk σ) (by exact (pa_cons (pv 0) pa_nil))))))
      (fun a oe cls d pn hz hf => pss_cons (ps_set (i := 2) sc_law_refused.nd rfl (.inl rfl) (pe_lst (pa_cons (pe_callB (call_isF EC hz hf) rfl mI bi (pa_cons (pv 1) (pa_cons (pe_glob (v := .ref B1) rfl g1 rfl) pa_nil)))
          (pa_cons (pe_callB (call_isF EC hz hf) rfl mI bi (pa_cons (pv 1) (pa_cons (pe_glob (v := .ref B2) rfl g2 rfl) pa_nil))) (pa_cons (pe_callB (call_isF EC hz hf) rfl mI bi (pa_cons (pv 1) (pa_cons (pe_glob (v := .ref B3) rfl g3 rfl) pa_nil))) pa_nil)))))
        (pss_one (ps_ret (pe_and (pe_callB (call_isF EC hz hf) rfl mI bi (pa_cons (pv 1) (pa_cons (pe_glob (v := .ref C) rfl gC rfl) pa_nil)))
          (pe_and (pe_callB (call_isF EC hz hf) rfl mI bi (pa_cons (pv 1) (pa_cons (pe_bltn (v := .ty "ValueError") rfl mV bV rfl) pa_nil))) (pe_one (pe_not (pe_callB (any_hot hz hf) rfl mA bA (pa_cons (pv 2) pa_nil))))))))))
    (pss_one (ps_ret pe_bl)), ?_⟩
  refine ⟨_, rfl, _, rfl, neg, true, Z.ex, fun _ a ha => ?_, fun z => nomatch z⟩
  have own : ∀ (D : Addr) (u : Value), RelV (.ref D) u → u = .ref D := fun D u r => r
  refine ⟨_, rfl, rfl, rfl, _, _, false, rfl, own B1, Z.k1, _, rfl, rfl, rfl, _, _, false, rfl, own B2, Z.k2, _, rfl, rfl, rfl, _, _, false, rfl, own B3, Z.k3, fits (by show 3 ≤ 16777216; decide), fun p hp => ?_⟩
  refine ⟨_, rfl, rfl, rfl, _, _, true, rfl, own C, Z.kC, _, rfl, iteT ?_⟩
  refine ⟨_, rfl, rfl, rfl, _, _, true, rfl, fun u r => r, Z.kV, _, rfl, iteT ?_⟩
  exact ⟨_, rfl, p, [false, false, false], rfl, SqL.of upd_same, _, rfl, q _ (same_new hp _)⟩
end
section
variable {P : Program} {w : World} {K : PySem.W.Frag} {mg : Str → Option Value} {base : Heap} {f : Addr} {fd : FuncData}
theorem ok_law (F : Fun K "law" "law" s_law f fd) (D_tape : Dfn P w K mg base "_law_tape" 3 ["script", "k"] (spTape K)) (D__law_levels : Dfn P w K mg base "_law_levels" 3 ["most"] spLevels) (D_take : Dfn P w K mg base "_law_take" 3 ["tape", "many"] spTake) (D_law_sorted : Dfn P w K mg base "_law_sorted" 3 ["level"] spSorted) (D_fraction_at : Dfn P w K mg base "fraction_at" 3 ["place"] (spFrAt K)) (D_same1 : Dfn P w K mg base "_law_same" 3 ["told", "due"] (spSame 1)) (D_place : Dfn P w K mg base "place" 3 ["fraction"] (spPlace K)) (D_refused : Dfn P w K mg base "_law_refused" 3 ["index"] spRefused) (y_range : mg "range" = none) (y_len : mg "len" = none) (D_sameP : Dfn P w K mg base "_law_same" 3 ["told", "due"] (spSameP K)) : FnOk P w K mg base CX0 4 f fd ["script"] (spLaw K) := by
  refine F.ok sc_law (fun vs H Q E h => ?_) (fun cdv A outer s H vs Q E hr h => ?_)
  · obtain ⟨sa, ns, rfl, hS, h63, q⟩ := h
    rfl
  obtain ⟨sa, ns, rfl, hS, h63, q⟩ := h
  refine ⟨_, (pss_cons (ps_set (i := 1) sc_law.nd rfl (.inl rfl) (pe_do D_tape hr (pa_cons (pv 0) (pa_cons pe_int pa_nil))))
    (pss_cons (ps_set (i := 2) sc_law.nd rfl (.inl rfl) (pe_lst pa_nil))
    (pss_cons (ps_for PassesOwn.never rfl (pi_list (pe_do D__law_levels hr (pa_cons (pe_op op_add pe_int (pe_do D_take hr (pa_cons (pv 1) (pa_cons pe_int pa_nil)))) pa_nil))) (pg_name (i := 3) sc_law.nd rfl (.inl rfl))
    (pss_one (ps_set (i := 2) sc_law.nd rfl (.inl rfl) (pe_op op_cat (pv 2) (pe_do D_law_sorted hr (pa_cons (pv 3) pa_nil))))))
    (pss_cons (ps_for PassesOwn.never rfl (pi_range1 rfl y_range (pa_cons (pe_callB call_len_seq rfl y_len PySem.boot_len (pa_cons (pv 2) pa_nil)) pa_nil)) (pg_name (i := 4) sc_law.nd rfl (.inl rfl))
    (pss_one (ps_if (PW.pt (pw_or (pt_not (pt_val (pe_do D_same1 hr (pa_cons (pe_do D_place hr (pa_cons (pe_ix ix_list (pv 2) (pv 4) (fun _ _ => rfl)) pa_nil)) (pa_cons (pv 4) pa_nil))))) (pw_or1 (pt_not (pt_val (pe_do D_sameP hr (pa_cons (pe_do D_fraction_at hr (pa_cons (pv 4) pa_nil)) (pa_cons (pe_ix ix_list (pv 2) (pv 4) (fun _ _ => rfl)) pa_nil)))))))) (pss_one (ps_ret pe_bl)) pss_nil)))
    (pss_one (ps_ret (pe_and (pe_do D_refused hr (pa_cons (pe_un un_neg pe_int) pa_nil)) (pe_and (pe_do D_refused hr (pa_cons (pe_op op_sub (pe_un un_neg pe_int) (pe_do D_take hr (pa_cons (pv 1) (pa_cons pe_int pa_nil)))) pa_nil)) (pe_one (pe_do D_refused hr (pa_cons (pe_op op_sub pe_int (pe_op op_pow pe_int pe_int)) pa_nil))))))))))), ?_⟩
  have zero : 0 ≤ sizeLine := Nat.zero_le _
  refine ⟨_, rfl, sa, ns, 0, rfl, hS, by decide, fun tp H1 s1 ntp t1 => ?_⟩
  refine ⟨zero, fun r0 hr0 => ?_⟩
  have s0 := same_new hr0 (.lst [])
  have R0 : LvAt (upd H1 r0 (.lst [])) r0 (lvs 0) := LvAt.nil upd_same
  have t10 := t1.same s0
  generalize upd H1 r0 (.lst []) = H10 at *
  refine ⟨_, rfl, tp, 6, rfl, t10, by decide, by decide, fun d H2 d0 d1 b2 t2 => ⟨_, _, rfl, rfl, ?_⟩⟩
  have R2 : LvAt H2 r0 (lvs 0) := R0.but b2 (t1.ne hr0) (fun o ho xs z => by
    obtain ⟨x, y, u, b, e⟩ := t10
    rw [e] at ho
    cases ho; cases z)
  refine ⟨4 + d, rfl, by omega, by omega, fun lp H3 s3 lv => ?_⟩
  have R3 := R2.same s3
  obtain ⟨ps, hl, pl, pn, lv⟩ := lv
  have dn : (4 + d).toNat ≤ 9 := by omega
  generalize (4 + d).toNat = top at *
  have t3 := t2.same s3
  refine ⟨lp, rfl, ⟨_, SqL.of hl⟩, for_list (K := K) (a := lp) (xs := ps.map V.ref) (fun i σ G => ∃ (r : Addr) (x3 x4 : Option V), σ = [some (.ref sa), some (.ref tp), some (.ref r), x3, x4] ∧ Same H3 G ∧ LvAt G r (lvs i)) ?_ ?_ ?_ ?_⟩
  · exact ⟨r0, _, _, rfl, Same.refl _, R3⟩
  · rintro i σ G _ ⟨r, x3, x4, _, sG, _⟩
    exact SqL.of (sG _ _ hl)
  · rintro i x σ G hx ⟨r, x3, x4, rfl, sG, hR⟩
    rw [List.getElem?_map] at hx
    have hips : i < ps.length := by
      cases e : ps[i]? with
      | none => rw [e] at hx; cases hx
      | some u => exact (List.getElem?_eq_some_iff.mp e).1
    have hpi : ps[i]? = some ps[i] := List.getElem?_eq_getElem hips
    rw [hpi] at hx
    cases hx
    generalize ps[i] = lq at hpi ⊢
    obtain ⟨M0, hM0, lM0⟩ := lv i lq hpi
    have i9 : i ≤ 9 := by omega
    have f4 := four_le i9
    have b512 : 2 ^ i ≤ 1000 := Nat.le_trans (Nat.pow_le_pow_right (by decide) i9) (by decide)
    have fa := fw_all i
    obtain ⟨ys, er, yl, _⟩ := id hR
    refine ⟨_, rfl, _, rfl, lq, M0, rfl, hM0.same sG, fun v hv => ?_, lM0.nd, Nat.le_trans lM0.len (by omega), fun pd M G1 u1 hM aM mM => ?_⟩
    · have m := (lM0.mem v).mp hv
      have := stp_size i v m.1 m.2
      exact ⟨m.1, by omega, by omega⟩
    have eM : M = fw i := asc_eq aM fa.1 (fun v => (mM v).trans ((lM0.mem v).trans (fa.2 v).symm))
    subst eM
    obtain ⟨zs, ep, zl, _⟩ := id hM
    have hl1 := lvs_ten (n := i + 1) (by omega)
    have hl2 : (lvs (i + 1)).length = (lvs i).length + (fw i).length := by
      show (lvs i ++ fw i).length = _
      rw [List.length_append]
    refine ⟨r, pd, _, _, rfl, rfl, u1 _ _ er, ep, fits (by rw [List.length_map, List.length_map]; omega), fun r2 hr2 => ?_⟩
    have sr := same_new hr2 (.lst (ys.map V.ref ++ zs.map V.ref))
    exact ⟨r2, _, _, rfl, sG.trans (u1.trans sr), LvAt.cat (hR.same u1) hM sr (u1 _ _ er) ep upd_same⟩
  rintro σ G ⟨r, x3, x4, rfl, sG, hR⟩
  rw [List.length_map, pl] at hR
  have hl1 := lvs_ten (n := top + 1) (by omega)
  obtain ⟨ys, er, yl, yv⟩ := id hR
  refine ⟨_, rfl, r, _, rfl, .inl (SqL.of er), ?_⟩
  refine ⟨((ys.map V.ref).length : Int), rfl, by omega, by rw [List.length_map]; omega, for_range (lo := 0) (n := (((ys.map V.ref).length : Int)).toNat) (fun i σ F => ∃ (x3 x4 : Option V), σ = [some (.ref sa), some (.ref tp), some (.ref r), x3, x4] ∧ Same G F) ?_ ?_ ?_⟩
  · exact ⟨_, _, rfl, Same.refl _⟩
  · rintro i σ F hi ⟨x3, x4, rfl, sF⟩
    rw [List.length_map] at hi
    have iu : i < ys.length := by omega
    have hti : ys[i]? = some ys[i] := List.getElem?_eq_getElem iu
    have hvi : (lvs (top + 1))[i]? = some (lvs (top + 1))[i] := List.getElem?_eq_getElem (by omega)
    generalize ys[i] = t at hti
    generalize (lvs (top + 1))[i] = v at hvi
    have P : Pl v i := ⟨_, hvi⟩
    have m := lvs_mem _ v (List.mem_of_getElem? hvi)
    have T := (yv i t v hti hvi).same sF
    have gt : ∀ z : Int, z = (i : Int) → atI (ys.map V.ref) z = some (V.ref t) := fun z e => at_of (j := i) e (by rw [List.getElem?_map, hti]; rfl)
    refine ⟨_, rfl, _, rfl, r, _, _, _, rfl, rfl, SqL.of (sF _ _ er), gt _ (by omega), t, v, rfl, .inl T, m.1, by omega, fun k' F1 u1 pk => ?_⟩
    have ek := pl_fun pk P
    subst ek
    refine ⟨_, rfl, _, _, .int (k' : Int), rfl, int_is, by rw [Int.zero_add]; exact int_is, _, rfl, iteF ?_⟩
    have kb : k' < 2 ^ 3000 := Nat.lt_trans (show k' < 2 ^ 8 by have : 2 ^ 8 = 256 := rfl; omega) (Nat.pow_lt_pow_right (by decide) (by decide))
    refine ⟨_, rfl, k', by rw [Int.zero_add]; rfl, kb, fun t2 v2 F2 u2 hU p2 => ?_⟩
    have ev := pl_val p2 P
    subst ev
    refine ⟨_, rfl, _, rfl, r, _, _, _, rfl, rfl, SqL.of (u2 _ _ (u1 _ _ (sF _ _ er))), gt _ (by omega), t2, t, v2, rfl, hU, .inl ((T.same u1).same u2), _, rfl, iteF ⟨_, _, rfl, sF.trans (u1.trans u2)⟩⟩
  · rintro σ F ⟨x3, x4, rfl, sF⟩
    have t4 := (t3.same sG).same sF
    refine ⟨_, rfl, -1, rfl, by decide, fun F1 u1 => ⟨_, rfl, iteT ?_⟩⟩
    refine ⟨_, rfl, _, rfl, tp, 99, rfl, t4.same u1, by decide, by decide, fun d2 F2 d20 d21 b6 t6 => ⟨_, _, rfl, rfl, -1 - d2, rfl, by omega, fun F3 u3 => ⟨_, rfl, iteT ?_⟩⟩⟩
    exact ⟨_, _, rfl, rfl, ⟨by decide, by decide, by decide⟩, _, _, rfl, rfl, _, rfl, by decide, fun F4 u4 => q F4⟩
end
theorem all_mk {l : PySem.W.OpenLaw} {w : World} {K : PySem.W.Frag} {h : Heap} {mg : Str → Option Value} {fa : Addr} (X : K.In h) (G : h.Ns mainGlobals mg) (hfa : mg "law" = some (.ref fa))
    {f0 f1 f2 f3 f4 f5 f6 f7 f8 f9 f10 f11 f12 f13 f14 : Addr} {od0 an0 od1 an1 od2 an2 od3 an3 od4 an4 od5 an5 od6 an6 od7 an7 od8 an8 od9 an9 od10 an10 od11 an11 od12 an12 od13 an13 od14 an14 : Option Addr} {sl0 sl1 sl2 sl3 sl4 sl5 sl6 sl7 sl8 sl9 sl10 sl11 sl12 sl13 sl14 : Array (Option Value)}
    {oc0 kV0 dc0 pm0 cd0 ct0 oc1 kV1 dc1 pm1 cd1 ct1 oc2 kV2 dc2 pm2 cd2 ct2 oc3 kV3 dc3 pm3 cd3 ct3 oc4 kV4 dc4 pm4 cd4 ct4 oc5 kV5 dc5 pm5 cd5 ct5 oc6 kV6 dc6 pm6 cd6 ct6 oc7 kV7 dc7 pm7 cd7 ct7 oc8 kV8 dc8 pm8 cd8 ct8 oc9 kV9 dc9 pm9 cd9 ct9 oc10 kV10 dc10 pm10 cd10 ct10 oc11 kV11 dc11 pm11 cd11 ct11 oc12 kV12 dc12 pm12 cd12 ct12 oc13 kV13 dc13 pm13 cd13 ct13 oc14 kV14 dc14 pm14 cd14 ct14 : Value}
    (a0 : PySem.W.nsIn K mainGlobals "quotients" = some (some (.ref f0))) (l0 : K.lookup f0 = some ⟨oc0, od0, .func (PySem.W.fnOf "quotients" "quotients" (defArgs s_quotients) (defBody s_quotients) (defScope s_quotients) .none kV0 dc0 pm0 an0 cd0 ct0), sl0⟩) (c0 : PySem.W.codeIn K cd0 "quotients" = true) (k0 : PySem.W.keepIn K (.ref f0) = true)
    (a1 : PySem.W.nsIn K mainGlobals "from_quotients" = some (some (.ref f1))) (l1 : K.lookup f1 = some ⟨oc1, od1, .func (PySem.W.fnOf "from_quotients" "from_quotients" (defArgs s_from_quotients) (defBody s_from_quotients) (defScope s_from_quotients) .none kV1 dc1 pm1 an1 cd1 ct1), sl1⟩) (c1 : PySem.W.codeIn K cd1 "from_quotients" = true) (k1 : PySem.W.keepIn K (.ref f1) = true)
    (a2 : PySem.W.nsIn K mainGlobals "place" = some (some (.ref f2))) (l2 : K.lookup f2 = some ⟨oc2, od2, .func (PySem.W.fnOf "place" "place" (defArgs s_place) (defBody s_place) (defScope s_place) .none kV2 dc2 pm2 an2 cd2 ct2), sl2⟩) (c2 : PySem.W.codeIn K cd2 "place" = true) (k2 : PySem.W.keepIn K (.ref f2) = true)
    (a3 : PySem.W.nsIn K mainGlobals "among_positive" = some (some (.ref f3))) (l3 : K.lookup f3 = some ⟨oc3, od3, .func (PySem.W.fnOf "among_positive" "among_positive" (defArgs s_among_positive) (defBody s_among_positive) (defScope s_among_positive) .none kV3 dc3 pm3 an3 cd3 ct3), sl3⟩) (c3 : PySem.W.codeIn K cd3 "among_positive" = true) (k3 : PySem.W.keepIn K (.ref f3) = true)
    (a4 : PySem.W.nsIn K mainGlobals "later" = some (some (.ref f4))) (l4 : K.lookup f4 = some ⟨oc4, od4, .func (PySem.W.fnOf "later" "later" (defArgs s_later) (defBody s_later) (defScope s_later) .none kV4 dc4 pm4 an4 cd4 ct4), sl4⟩) (c4 : PySem.W.codeIn K cd4 "later" = true) (k4 : PySem.W.keepIn K (.ref f4) = true)
    (a5 : PySem.W.nsIn K mainGlobals "fraction_at" = some (some (.ref f5))) (l5 : K.lookup f5 = some ⟨oc5, od5, .func (PySem.W.fnOf "fraction_at" "fraction_at" (defArgs s_fraction_at) (defBody s_fraction_at) (defScope s_fraction_at) .none kV5 dc5 pm5 an5 cd5 ct5), sl5⟩) (c5 : PySem.W.codeIn K cd5 "fraction_at" = true) (k5 : PySem.W.keepIn K (.ref f5) = true)
    (a6 : PySem.W.nsIn K mainGlobals "positive_at" = some (some (.ref f6))) (l6 : K.lookup f6 = some ⟨oc6, od6, .func (PySem.W.fnOf "positive_at" "positive_at" (defArgs s_positive_at) (defBody s_positive_at) (defScope s_positive_at) .none kV6 dc6 pm6 an6 cd6 ct6), sl6⟩) (c6 : PySem.W.codeIn K cd6 "positive_at" = true) (k6 : PySem.W.keepIn K (.ref f6) = true)
    (a7 : PySem.W.nsIn K mainGlobals "_law_tape" = some (some (.ref f7))) (l7 : K.lookup f7 = some ⟨oc7, od7, .func (PySem.W.fnOf "_law_tape" "_law_tape" (defArgs s_law_tape) (defBody s_law_tape) (defScope s_law_tape) .none kV7 dc7 pm7 an7 cd7 ct7), sl7⟩) (c7 : PySem.W.codeIn K cd7 "_law_tape" = true) (k7 : PySem.W.keepIn K (.ref f7) = true)
    (a8 : PySem.W.nsIn K mainGlobals "_law_take" = some (some (.ref f8))) (l8 : K.lookup f8 = some ⟨oc8, od8, .func (PySem.W.fnOf "_law_take" "_law_take" (defArgs s_law_take) (defBody s_law_take) (defScope s_law_take) .none kV8 dc8 pm8 an8 cd8 ct8), sl8⟩) (c8 : PySem.W.codeIn K cd8 "_law_take" = true) (k8 : PySem.W.keepIn K (.ref f8) = true)
    (a9 : PySem.W.nsIn K mainGlobals "_law_called" = some (some (.ref f9))) (l9 : K.lookup f9 = some ⟨oc9, od9, .func (PySem.W.fnOf "_law_called" "_law_called" (defArgs s_law_called) (defBody s_law_called) (defScope s_law_called) .none kV9 dc9 pm9 an9 cd9 ct9), sl9⟩) (c9 : PySem.W.codeIn K cd9 "_law_called" = true) (k9 : PySem.W.keepIn K (.ref f9) = true)
    (a10 : PySem.W.nsIn K mainGlobals "_law_same" = some (some (.ref f10))) (l10 : K.lookup f10 = some ⟨oc10, od10, .func (PySem.W.fnOf "_law_same" "_law_same" (defArgs s_law_same) (defBody s_law_same) (defScope s_law_same) .none kV10 dc10 pm10 an10 cd10 ct10), sl10⟩) (c10 : PySem.W.codeIn K cd10 "_law_same" = true) (k10 : PySem.W.keepIn K (.ref f10) = true)
    (a11 : PySem.W.nsIn K mainGlobals "_law_levels" = some (some (.ref f11))) (l11 : K.lookup f11 = some ⟨oc11, od11, .func (PySem.W.fnOf "_law_levels" "_law_levels" (defArgs s_law_levels) (defBody s_law_levels) (defScope s_law_levels) .none kV11 dc11 pm11 an11 cd11 ct11), sl11⟩) (c11 : PySem.W.codeIn K cd11 "_law_levels" = true) (k11 : PySem.W.keepIn K (.ref f11) = true)
    (a12 : PySem.W.nsIn K mainGlobals "_law_sorted" = some (some (.ref f12))) (l12 : K.lookup f12 = some ⟨oc12, od12, .func (PySem.W.fnOf "_law_sorted" "_law_sorted" (defArgs s_law_sorted) (defBody s_law_sorted) (defScope s_law_sorted) .none kV12 dc12 pm12 an12 cd12 ct12), sl12⟩) (c12 : PySem.W.codeIn K cd12 "_law_sorted" = true) (k12 : PySem.W.keepIn K (.ref f12) = true)
    (a13 : PySem.W.nsIn K mainGlobals "_law_refused" = some (some (.ref f13))) (l13 : K.lookup f13 = some ⟨oc13, od13, .func (PySem.W.fnOf "_law_refused" "_law_refused" (defArgs s_law_refused) (defBody s_law_refused) (defScope s_law_refused) .none kV13 dc13 pm13 an13 cd13 ct13), sl13⟩) (c13 : PySem.W.codeIn K cd13 "_law_refused" = true) (k13 : PySem.W.keepIn K (.ref f13) = true)
    (a14 : PySem.W.nsIn K mainGlobals "law" = some (some (.ref f14))) (l14 : K.lookup f14 = some ⟨oc14, od14, .func (PySem.W.fnOf "law" "law" (defArgs s_law) (defBody s_law) (defScope s_law) .none kV14 dc14 pm14 an14 cd14 ct14), sl14⟩) (c14 : PySem.W.codeIn K cd14 "law" = true) (k14 : PySem.W.keepIn K (.ref f14) = true)
    (z_len : PySem.W.nsIn K mainGlobals "len" = some none)
    (z_abs : PySem.W.nsIn K mainGlobals "abs" = some none)
    (z_int : PySem.W.nsIn K mainGlobals "int" = some none)
    (z_range : PySem.W.nsIn K mainGlobals "range" = some none)
    (z_isinstance : PySem.W.nsIn K mainGlobals "isinstance" = some none)
    (z_tuple : PySem.W.nsIn K mainGlobals "tuple" = some none)
    (z_list : PySem.W.nsIn K mainGlobals "list" = some none)
    (z_str : PySem.W.nsIn K mainGlobals "str" = some none)
    (z_bool : PySem.W.nsIn K mainGlobals "bool" = some none)
    (z_any : PySem.W.nsIn K mainGlobals "any" = some none)
    (z_ValueError : PySem.W.nsIn K mainGlobals "ValueError" = some none)
    {dF aD1 aD2 aD3 aD4 : Addr} {oD1 oD2 oD3 oD4 : Option Addr} {w1 w2 w3 w4 w5 w6 w7 w8 : Tok} {nF nD1 nD2 nD3 nD4 : Nat} {sF sD1 sD2 sD3 sD4 : Array (Option Value)} (aF : PySem.W.nsIn K mainGlobals "FIRST" = some (some (.ref dF))) (lF : K.lookup dF = some ⟨.type "tuple", none, .seq #[.ref aD1, .ref aD2, .ref aD3, .ref aD4] nF, sF⟩) (lFD1 : K.lookup aD1 = some ⟨.type "tuple", oD1, .seq #[.int 0 w1, .int 1 w2] nD1, sD1⟩) (lFD2 : K.lookup aD2 = some ⟨.type "tuple", oD2, .seq #[.int (-1) w3, .int 1 w4] nD2, sD2⟩) (lFD3 : K.lookup aD3 = some ⟨.type "tuple", oD3, .seq #[.int 1 w5, .int 1 w6] nD3, sD3⟩) (lFD4 : K.lookup aD4 = some ⟨.type "tuple", oD4, .seq #[.int 1 w7, .int 0 w8] nD4, sD4⟩)
    {C R B1 B2 B3 : Addr}
    (aC : PySem.W.nsIn K mainGlobals "NoFraction" = some (some (.ref C))) (aR : PySem.W.nsIn K mainGlobals "RopeError" = some (some (.ref R))) (a_1 : PySem.W.nsIn K mainGlobals "BadMove" = some (some (.ref B1))) (a_2 : PySem.W.nsIn K mainGlobals "BadText" = some (some (.ref B2))) (a_3 : PySem.W.nsIn K mainGlobals "NoDance" = some (some (.ref B3)))
    (xC : PySem.W.excIn K C [.type "ValueError", .type "Exception", .type "BaseException", .type "object"] "ValueError.__new__" = true) (kC : PySem.W.keepIn K (.ref C) = true) (bC : PySem.W.subIn K (.ref C) (.type "BaseException") = some true) (tC : PySem.W.typeIn K (.ref C) = some (.type "type")) (hC : PySem.W.hasDictIn K C = true)
    (gC : PySem.W.findIn K (.ref C) "__getattribute__" = some (some (.builtin "BaseException.__getattribute__"))) (qC : PySem.W.findIn K (.ref C) "__getattr__" = some none) (cC : PySem.W.findIn K (.ref C) "__class__" = some (some (.builtin "object.__class__"))) (oC : PySem.W.mroIn K C (.type "object") = some true)
    (hsp : PySem.W.specialIn K (.builtin "object.__class__") "__get__" = some (some (.builtin "getset_descriptor.__get__"))) (htk : PySem.W.takesIn K (.builtin "object.__class__") = some true)
    (bR : PySem.W.subIn K (.ref R) (.type "BaseException") = some true) (hR : PySem.W.hasDictIn K R = true) (tR : PySem.W.typeIn K (.ref R) = some (.type "type")) (sCR : PySem.W.subIn K (.ref C) (.ref R) = some true)
    (iC : PySem.W.kitOne K (.ref C) (.ref C) = some true) (iV : PySem.W.kitOne K (.ref C) (.type "ValueError") = some true) (i1 : PySem.W.kitOne K (.ref C) (.ref B1) = some false) (i2 : PySem.W.kitOne K (.ref C) (.ref B2) = some false) (i3 : PySem.W.kitOne K (.ref C) (.ref B3) = some false) :
    ∃ fd : FuncData, (∀ (s : Shared) (v : Value), BindsTo s fd ⟨[v], []⟩ [("script", v)]) ∧ ∀ base : Heap, K.In base → base.Ns mainGlobals mg → FnOk l.prog w K mg base CX0 4 fa fd ["script"] (spLaw K) := by
  have e := hfa.symm.trans (PySem.W.mg_of X G a14)
  cases e
  have F_quotients := fun_mk (st := s_quotients) l0 c0 k0
  have m_quotients := PySem.W.mg_of X G a0
  have b_quotients := F_quotients.binds (ps := ["fraction"]) fun _ _ _ _ _ _ us hl => match us, hl with | [_], _ => rfl
  have F_from_quotients := fun_mk (st := s_from_quotients) l1 c1 k1
  have m_from_quotients := PySem.W.mg_of X G a1
  have b_from_quotients := F_from_quotients.binds (ps := ["parts"]) fun _ _ _ _ _ _ us hl => match us, hl with | [_], _ => rfl
  have F_place := fun_mk (st := s_place) l2 c2 k2
  have m_place := PySem.W.mg_of X G a2
  have b_place := F_place.binds (ps := ["fraction"]) fun _ _ _ _ _ _ us hl => match us, hl with | [_], _ => rfl
  have F_among_positive := fun_mk (st := s_among_positive) l3 c3 k3
  have m_among_positive := PySem.W.mg_of X G a3
  have b_among_positive := F_among_positive.binds (ps := ["fraction"]) fun _ _ _ _ _ _ us hl => match us, hl with | [_], _ => rfl
  have F_later := fun_mk (st := s_later) l4 c4 k4
  have m_later := PySem.W.mg_of X G a4
  have b_later := F_later.binds (ps := ["many", "fewer", "by"]) fun _ _ _ _ _ _ us hl => match us, hl with | [_, _, _], _ => rfl
  have F_fraction_at := fun_mk (st := s_fraction_at) l5 c5 k5
  have m_fraction_at := PySem.W.mg_of X G a5
  have b_fraction_at := F_fraction_at.binds (ps := ["place"]) fun _ _ _ _ _ _ us hl => match us, hl with | [_], _ => rfl
  have F_positive_at := fun_mk (st := s_positive_at) l6 c6 k6
  have m_positive_at := PySem.W.mg_of X G a6
  have b_positive_at := F_positive_at.binds (ps := ["greater", "many", "fewer"]) fun _ _ _ _ _ _ us hl => match us, hl with | [_, _, _], _ => rfl
  have F__law_tape := fun_mk (st := s_law_tape) l7 c7 k7
  have m__law_tape := PySem.W.mg_of X G a7
  have b__law_tape := F__law_tape.binds (ps := ["script", "k"]) fun _ _ _ _ _ _ us hl => match us, hl with | [_, _], _ => rfl
  have F__law_take := fun_mk (st := s_law_take) l8 c8 k8
  have m__law_take := PySem.W.mg_of X G a8
  have b__law_take := F__law_take.binds (ps := ["tape", "many"]) fun _ _ _ _ _ _ us hl => match us, hl with | [_, _], _ => rfl
  have F__law_called := fun_mk (st := s_law_called) l9 c9 k9
  have m__law_called := PySem.W.mg_of X G a9
  have b__law_called := F__law_called.binds (ps := ["value", "letter"]) fun _ _ _ _ _ _ us hl => match us, hl with | [_, _], _ => rfl
  have F__law_same := fun_mk (st := s_law_same) l10 c10 k10
  have m__law_same := PySem.W.mg_of X G a10
  have b__law_same := F__law_same.binds (ps := ["told", "due"]) fun _ _ _ _ _ _ us hl => match us, hl with | [_, _], _ => rfl
  have F__law_levels := fun_mk (st := s_law_levels) l11 c11 k11
  have m__law_levels := PySem.W.mg_of X G a11
  have b__law_levels := F__law_levels.binds (ps := ["most"]) fun _ _ _ _ _ _ us hl => match us, hl with | [_], _ => rfl
  have F__law_sorted := fun_mk (st := s_law_sorted) l12 c12 k12
  have m__law_sorted := PySem.W.mg_of X G a12
  have b__law_sorted := F__law_sorted.binds (ps := ["level"]) fun _ _ _ _ _ _ us hl => match us, hl with | [_], _ => rfl
  have F__law_refused := fun_mk (st := s_law_refused) l13 c13 k13
  have m__law_refused := PySem.W.mg_of X G a13
  have b__law_refused := F__law_refused.binds (ps := ["index"]) fun _ _ _ _ _ _ us hl => match us, hl with | [_], _ => rfl
  have F_law := fun_mk (st := s_law) l14 c14 k14
  have m_law := PySem.W.mg_of X G a14
  have b_law := F_law.binds (ps := ["script"]) fun _ _ _ _ _ _ us hl => match us, hl with | [_], _ => rfl
  have y_len := PySem.W.mg_none_of X G z_len
  have y_abs := PySem.W.mg_none_of X G z_abs
  have y_int := PySem.W.mg_none_of X G z_int
  have y_range := PySem.W.mg_none_of X G z_range
  have y_isinstance := PySem.W.mg_none_of X G z_isinstance
  have y_tuple := PySem.W.mg_none_of X G z_tuple
  have y_list := PySem.W.mg_none_of X G z_list
  have y_str := PySem.W.mg_none_of X G z_str
  have y_bool := PySem.W.mg_none_of X G z_bool
  have y_any := PySem.W.mg_none_of X G z_any
  have y_ValueError := PySem.W.mg_none_of X G z_ValueError
  refine ⟨PySem.W.fnOf "law" "law" (defArgs s_law) (defBody s_law) (defScope s_law) .none kV14 dc14 pm14 an14 cd14 ct14, fun s v => .of_eq rfl, fun base _ _ => ?_⟩
  have kt : ∀ {t : Addr} {v : Int × Int} {o : Option Addr} {x y : Tok} {n : Nat} {s : Array (Option Value)}, K.lookup t = some ⟨.type "tuple", o, .seq #[.int v.1 x, .int v.2 y] n, s⟩ → KT K t v := fun l => ⟨fun _ => .inr ⟨_, _, _, l, rfl, rfl, by rw [sizeLine_eq]; show 2 ≤ 16777216; decide, .cons ⟨_, rfl⟩ (.cons ⟨_, rfl⟩ .nil)⟩, _, l, rfl⟩
  have FK : FirstK K mg dF aD1 aD2 aD3 aD4 := ⟨PySem.W.mg_of X G aF, fun _ => .inr ⟨_, _, _, lF, rfl, rfl, by rw [sizeLine_eq]; show 4 ≤ 16777216; decide, .cons rfl (.cons rfl (.cons rfl (.cons rfl .nil)))⟩, kt (v := (0, 1)) lFD1, kt (v := (-1, 1)) lFD2, kt (v := (1, 1)) lFD3, kt (v := (1, 0)) lFD4⟩
  have FX : FirstX K mg dF aD1 aD2 aD3 aD4 := ⟨FK, _, lF, rfl, rfl⟩
  have D_tape : Dfn l.prog w K mg base "_law_tape" 1 _ (spTape K) := ⟨_, _, ok_tape F__law_tape y_len y_abs y_int, m__law_tape, F__law_tape.kp, b__law_tape⟩
  have D_take : Dfn l.prog w K mg base "_law_take" 1 _ spTake := ⟨_, _, ok_take F__law_take y_int, m__law_take, F__law_take.kp, b__law_take⟩
  have D_called : Dfn l.prog w K mg base "_law_called" 1 _ (spCalled K) := ⟨_, _, ok_called F__law_called, m__law_called, F__law_called.kp, b__law_called⟩
  have D_same0 : Dfn l.prog w K mg base "_law_same" 0 _ (spSame 0) := ⟨_, _, none_same, m__law_same, F__law_same.kp, b__law_same⟩
  have D_same1 : Dfn l.prog w K mg base "_law_same" 1 _ (spSame 1) := ⟨_, _, ok_same F__law_same D_same0 y_isinstance y_tuple y_list y_len y_range y_str y_int y_bool, m__law_same, F__law_same.kp, b__law_same⟩
  have D_quotients : Dfn l.prog w K mg base "quotients" 1 _ (spQuo K) := ⟨_, _, ok_quotients F_quotients y_abs , m_quotients, F_quotients.kp, b_quotients⟩
  have D_later : Dfn l.prog w K mg base "later" 1 _ spLater := ⟨_, _, ok_later F_later y_range , m_later, F_later.kp, b_later⟩
  have D_fromq : Dfn l.prog w K mg base "from_quotients" 1 _ (spFromQ K) := ⟨_, _, ok_fromq F_from_quotients  , m_from_quotients, F_from_quotients.kp, b_from_quotients⟩
  have D_among_positive : Dfn l.prog w K mg base "among_positive" 2 _ (spAmong K) := ⟨_, _, ok_among_positive F_among_positive D_quotients D_later , m_among_positive, F_among_positive.kp, b_among_positive⟩
  have D_positive_at : Dfn l.prog w K mg base "positive_at" 2 _ (spPosAt K) := ⟨_, _, ok_positive_at F_positive_at D_fromq , m_positive_at, F_positive_at.kp, b_positive_at⟩
  have D_place : Dfn l.prog w K mg base "place" 3 _ (spPlace K) := ⟨_, _, ok_place F_place D_among_positive FX, m_place, F_place.kp, b_place⟩
  have D_fraction_at : Dfn l.prog w K mg base "fraction_at" 3 _ (spFrAt K) := ⟨_, _, ok_fraction_at F_fraction_at D_positive_at y_len FX, m_fraction_at, F_fraction_at.kp, b_fraction_at⟩
  have D_sameP : Dfn l.prog w K mg base "_law_same" 2 _ (spSameP K) := ⟨_, _, ok_sameP F__law_same D_same1 y_isinstance y_tuple y_list y_len y_range y_str y_int y_bool, m__law_same, F__law_same.kp, b__law_same⟩
  have D__law_levels : Dfn l.prog w K mg base "_law_levels" 2 _ spLevels := ⟨_, _, ok__law_levels F__law_levels D_called y_range , m__law_levels, F__law_levels.kp, b__law_levels⟩
  have D_law_sorted : Dfn l.prog w K mg base "_law_sorted" 1 _ spSorted := ⟨_, _, ok_law_sorted F__law_sorted y_len , m__law_sorted, F__law_sorted.kp, b__law_sorted⟩
  have EC : Err K mg "NoFraction" C := ⟨PySem.W.mg_of X G aC, xC, kC, bC, tC, hC, gC, qC, cC, oC⟩
  have Z : Kin K C R B1 B2 B3 := ⟨PySem.W.exm_ref bR hR tR sCR, iC, iV, i1, i2, i3⟩
  have D_refused : Dfn l.prog w K mg base "_law_refused" 2 _ spRefused := ⟨_, _, ok_refused F__law_refused (ok_atX F_fraction_at EC) m_fraction_at F_fraction_at.kp b_fraction_at (EC.c hsp htk) EC.g (PySem.W.mg_of X G aR) (PySem.W.mg_of X G a_1) (PySem.W.mg_of X G a_2) (PySem.W.mg_of X G a_3) Z y_isinstance y_ValueError y_any, m__law_refused, F__law_refused.kp, b__law_refused⟩
  exact ok_law F_law (D_tape.mono (by decide)) (D__law_levels.mono (by decide)) (D_take.mono (by decide)) (D_law_sorted.mono (by decide)) D_fraction_at (D_same1.mono (by decide)) D_place (D_refused.mono (by decide)) y_range y_len (D_sameP.mono (by decide))
theorem walk {l : PySem.W.OpenLaw} {q : Program} {loose : List Str} {XP : (Str → Option Value) → Heap → Prop} {YP : World → Heap → Prop} {d : DefRec} {K : Params → PySem.W.Frag} (hn : l.most = some 63) (hdf : d.params.defaults = [])
    (hY : ∀ (w : World) (h : Heap), YP w h → (K w.params).In h)
    (F : ∀ (w : World) (mg : Str → Option Value) (fa : Addr) (h : Heap), (K w.params).In h → h.Ns mainGlobals mg → mg d.name = some (.ref fa) →
      ∃ fd : FuncData, (∀ (s : Shared) (u : Value), BindsTo s fd ⟨[u], []⟩ [("script", u)]) ∧ ∀ base : Heap, (K w.params).In base → base.Ns mainGlobals mg → FnOk l.prog w (K w.params) mg base CX0 4 fa fd ["script"] (spLaw (K w.params))) :
    PySem.W.WalkO q loose XP YP l.row.toRowW d [] (fun f vs => PySem.call f vs) :=
  L2.walk_of (n := 63) (k := 4) (x := "script") (CX := fun _ => CX0) (sp := fun w => spLaw (K w.params)) hn (by decide) hdf ⟨rfl, by decide, by decide⟩ hY F (fun _ _ a ns hl _ hS => ⟨a, ns, rfl, hS, hl, fun _ => rfl⟩) fun _ _ _ _ _ z => z
end Rope
open PySem PySem.W PyProof.Rows
set_option maxRecDepth 100000 in
set_option maxHeartbeats 0 in
theorem PySem.Challenge.cw_ropedance_k24_places_holds : PySem.Challenge.rw_ropedance_k24_places.Holds := by
  w_on; o_law; k_head; (case hw => w_witness2)
  k_fill
  refine Rope.walk (l := PySem.Challenge.rw_ropedance_k24_places) rfl rfl (fun w h Y => PySem.W.kIn_of Y) ?F
  case F =>
    intro w mg fa h KX G hmg
    refine' Rope.all_mk KX G hmg ?a0 ?l0 ?c0 ?k0 ?a1 ?l1 ?c1 ?k1 ?a2 ?l2 ?c2 ?k2 ?a3 ?l3 ?c3 ?k3 ?a4 ?l4 ?c4 ?k4 ?a5 ?l5 ?c5 ?k5 ?a6 ?l6 ?c6 ?k6 ?a7 ?l7 ?c7 ?k7 ?a8 ?l8 ?c8 ?k8 ?a9 ?l9 ?c9 ?k9 ?a10 ?l10 ?c10 ?k10 ?a11 ?l11 ?c11 ?k11 ?a12 ?l12 ?c12 ?k12 ?a13 ?l13 ?c13 ?k13 ?a14 ?l14 ?c14 ?k14 ?z_len ?z_abs ?z_int ?z_range ?z_isinstance ?z_tuple ?z_list ?z_str ?z_bool ?z_any ?z_ValueError ?aF ?lF ?lFD1 ?lFD2 ?lFD3 ?lFD4 ?aC ?aR ?a_1 ?a_2 ?a_3 ?xC ?kC ?bC ?tC ?hC ?gC ?qC ?cC ?oC ?hsp ?htk ?bR ?hR ?tR ?sCR ?iC ?iV ?i1 ?i2 ?i3
    (case a0 => k_is)
    (case l0 => k_is)
    (case c0 => k_is)
    (case k0 => k_is)
    (case a1 => k_is)
    (case l1 => k_is)
    (case c1 => k_is)
    (case k1 => k_is)
    (case a2 => k_is)
    (case l2 => k_is)
    (case c2 => k_is)
    (case k2 => k_is)
    (case a3 => k_is)
    (case l3 => k_is)
    (case c3 => k_is)
    (case k3 => k_is)
    (case a4 => k_is)
    (case l4 => k_is)
    (case c4 => k_is)
    (case k4 => k_is)
    (case a5 => k_is)
    (case l5 => k_is)
    (case c5 => k_is)
    (case k5 => k_is)
    (case a6 => k_is)
    (case l6 => k_is)
    (case c6 => k_is)
    (case k6 => k_is)
    (case a7 => k_is)
    (case l7 => k_is)
    (case c7 => k_is)
    (case k7 => k_is)
    (case a8 => k_is)
    (case l8 => k_is)
    (case c8 => k_is)
    (case k8 => k_is)
    (case a9 => k_is)
    (case l9 => k_is)
    (case c9 => k_is)
    (case k9 => k_is)
    (case a10 => k_is)
    (case l10 => k_is)
    (case c10 => k_is)
    (case k10 => k_is)
    (case a11 => k_is)
    (case l11 => k_is)
    (case c11 => k_is)
    (case k11 => k_is)
    (case a12 => k_is)
    (case l12 => k_is)
    (case c12 => k_is)
    (case k12 => k_is)
    (case a13 => k_is)
    (case l13 => k_is)
    (case c13 => k_is)
    (case k13 => k_is)
    (case a14 => k_is)
    (case l14 => k_is)
    (case c14 => k_is)
    (case k14 => k_is)
    (case z_len => k_is)
    (case z_abs => k_is)
    (case z_int => k_is)
    (case z_range => k_is)
    (case z_isinstance => k_is)
    (case z_tuple => k_is)
    (case z_list => k_is)
    (case z_str => k_is)
    (case z_bool => k_is)
    (case z_any => k_is)
    (case z_ValueError => k_is)
    (case aF => k_is)
    (case lF => k_is)
    (case lFD1 => k_is)
    (case lFD2 => k_is)
    (case lFD3 => k_is)
    (case lFD4 => k_is)
    (case aC => k_is)
    (case aR => k_is)
    (case a_1 => k_is)
    (case a_2 => k_is)
    (case a_3 => k_is)
    (case xC => k_exc)
    (case kC => k_is)
    (case bC => k_is)
    (case tC => k_is)
    (case hC => k_is)
    (case gC => k_is)
    (case qC => k_is)
    (case cC => k_is)
    (case oC => k_is)
    (case hsp => k_is)
    (case htk => k_is)
    (case bR => k_is)
    (case hR => k_is)
    (case tR => k_is)
    (case sCR => first | rfl | k_is)
    (case iC => first | rfl | k_is)
    (case iV => first | rfl | k_is)
    (case i1 => first | rfl | k_is)
    (case i2 => first | rfl | k_is)
    (case i3 => first | rfl | k_is)
