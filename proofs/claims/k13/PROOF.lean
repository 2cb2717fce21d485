import PyProof.Rows.All
import Wide.All
import OpenK.AllK
import Wide.FinOn
import PyProof.StrBlock2
import HandS.ForMost
import HandS.Wide
import HandS.IsInst
import HandS.Exc
import HandS.ExcOwn
import HandS.ExcCtx
import HandS.ExcIs
import HandS.Hot
import HandS.WordsExc
import HandS.Gcd
import HandS.AnyAll
import HandS.Style
import HandS.More
import PySem.Challenge.RW_ropedance_k13_counts_of_colourings
set_option Elab.async false
set_option linter.all false
set_option maxRecDepth 100000
set_option maxHeartbeats 4000000
namespace Rope
open PySem L2


/-! ### texts as lists of codes -/
def S (l : List Nat) : Str := ⟨l.toArray⟩
theorem S_len (l : List Nat) : (S l).length = l.length := by simp [S, Str.length]
theorem S_list (l : List Nat) : (S l).cps.toList = l := by simp [S]
theorem S_size (l : List Nat) : (S l).cps.size = l.length := by simp [S]
theorem S_get (l : List Nat) (i : Nat) : (S l).cps[i]? = l[i]? := by simp [S]
theorem S_inj {l m : List Nat} (h : S l = S m) : l = m := by
  have := congrArg (fun z : Str => z.cps.toList) h
  simpa [S] using this
theorem S_app (l m : List Nat) : S l ++ S m = S (l ++ m) := by
  show Str.append (S l) (S m) = S (l ++ m)
  simp [Str.append, S]
theorem S_mul (l : List Nat) (n : Int) : Txt.mul (S l) n = S (List.replicate n.toNat l).flatten := by
  unfold Txt.mul
  by_cases h1 : n < 1
  · rw [if_pos h1]
    have : n.toNat = 0 := by omega
    rw [this]
    rfl
  · rw [if_neg h1]
    by_cases h2 : (n == 1 || (S l).length == 0) = true
    · rw [if_pos h2]
      simp only [Bool.or_eq_true, beq_iff_eq] at h2
      rcases h2 with h2 | h2
      · subst h2
        show S l = S (List.replicate 1 l).flatten
        simp
      · rw [S_len] at h2
        have : l = [] := List.eq_nil_of_length_eq_zero h2
        subst this
        simp
    · rw [if_neg h2]
      have aux : ∀ (k : Nat) (a : Array Nat), ((List.replicate k (S l).cps).foldl (· ++ ·) a).toList = a.toList ++ (List.replicate k l).flatten := by
        intro k
        induction k with
        | zero => intro a; simp
        | succ k ih =>
          intro a
          rw [List.replicate_succ, List.foldl_cons, ih, List.replicate_succ, List.flatten_cons, Array.toList_append, List.append_assoc, S_list]
      have := aux n.toNat #[]
      unfold S
      congr 1
      apply Array.toList_inj.mp
      rw [show S l = (⟨l.toArray⟩ : Str) from rfl] at this
      rw [this]
      simp
theorem S_cut (l : List Nat) (lo hi : Option Int) : cutS (S l) lo hi = S ((l.drop (HT.sIx l.length 0 lo)).take (HT.sIx l.length l.length hi - HT.sIx l.length 0 lo)) := by
  unfold cutS
  rw [S_len, S_list]
  rfl
theorem S_take (l : List Nat) {m : Int} (h : 0 ≤ m) : cutS (S l) none (some m) = S (l.take m.toNat) := by
  obtain ⟨k, rfl⟩ := Int.eq_ofNat_of_zero_le h
  rw [S_cut, HT.sIx_none, HT.sIx_nat, List.drop_zero, Nat.sub_zero, Int.toNat_natCast]
  congr 1
  by_cases h2 : k ≤ l.length
  · rw [Nat.min_eq_left h2]
  · rw [Nat.min_eq_right (by omega), List.take_of_length_le (Nat.le_refl _), List.take_of_length_le (by omega)]
theorem S_drop (l : List Nat) {m : Int} (h : 0 ≤ m) : cutS (S l) (some m) none = S (l.drop m.toNat) := by
  obtain ⟨k, rfl⟩ := Int.eq_ofNat_of_zero_le h
  rw [S_cut, HT.sIx_none, HT.sIx_nat, Int.toNat_natCast]
  congr 1
  rw [List.take_of_length_le (by simp)]
  by_cases h2 : k ≤ l.length
  · rw [Nat.min_eq_left h2]
  · rw [Nat.min_eq_right (by omega), List.drop_length, List.drop_eq_nil_of_le (by omega)]
/-- a text times an int -/
theorem op_mul_str {X : Cx} : OpR X (binaryOp .Mult) (fun x y H Q => ∃ (l : List Nat) (n : Int), x = .str (S l) ∧ y = .int n ∧ 0 ≤ n ∧ n < 2 ^ 62 ∧ l.length * n.toNat ≤ 16777215 ∧ Q (.str (S (List.replicate n.toNat l).flatten)) H) := by
  intro pins s σ H x y v u Q I rx ry h
  obtain ⟨l, n, rfl, rfl, h0, h1, h2, q⟩ := h
  obtain ⟨t, rfl⟩ := rx
  obtain ⟨t', rfl⟩ := ry
  have e1 : decide (n < -(2 ^ 63 : Int)) = false := decide_eq_false (by omega)
  have e2 : decide (n ≥ 2 ^ 63) = false := decide_eq_false (by omega)
  refine SB.mul ⟨by rw [e1, e2]; rfl, fun z1 z2 => ?_, fun z1 z2 => ?_⟩ fun t' k => ⟨.str _, H, I.tok _, ⟨_, rfl⟩, by rw [S_mul]; exact q⟩
  · rw [S_len]
    have h3 : (l.length : Int) * n ≤ 16777215 := by
      have : ((l.length * n.toNat : Nat) : Int) ≤ 16777215 := Int.ofNat_le.mpr h2
      rw [Int.natCast_mul, Int.toNat_of_nonneg h0] at this
      exact this
    have hn : 0 < n := by omega
    intro hc
    have hc' : (2 ^ 63 - 1) / n < (l.length : Int) := hc
    have := (Int.ediv_lt_iff_lt_mul hn).mp hc'
    omega
  · rw [S_len]
    unfold Builtin.Str.tooLong
    rw [sizeLine_eq]
    exact decide_eq_false (by omega)
/-! ### the calls: a fraction by a letter -/
def called (v : Int × Int) (c : Nat) : Int × Int :=
  if c = 84 then (v.1 + v.2, v.2) else if c = 85 then (v.1 - v.2, v.2) else if 0 < v.1 then (0 - v.2, v.1) else if v.1 < 0 then (v.2, 0 - v.1) else (1, 0)
def run (v : Int × Int) (l : List Nat) : Int × Int := l.foldl called v
theorem run_nil (v : Int × Int) : run v [] = v := rfl
theorem run_app (v : Int × Int) (l m : List Nat) : run v (l ++ m) = run (run v l) m := List.foldl_append
theorem run_take {l : List Nat} {i c : Nat} (v : Int × Int) (h : l[i]? = some c) : run v (l.take (i + 1)) = called (run v (l.take i)) c := by
  rw [List.take_add_one, h, run_app]
  rfl
/-- what a fraction of the laws keeps: q positive or infinite, no common divisor -/
def Good (v : Int × Int) : Prop := (0 < v.2 ∨ v = (1, 0)) ∧ Int.gcd v.1 v.2 = 1
theorem Good.zero : Good (0, 1) := ⟨.inl (by decide), by decide⟩
theorem gcd_add' (p q : Int) : Int.gcd (p + q) q = Int.gcd p q := by
  have := Int.gcd_add_mul_right_left p q 1
  simpa using this
theorem Good.called {v : Int × Int} (h : Good v) (c : Nat) : Good (called v c) := by
  obtain ⟨p, q⟩ := v
  obtain ⟨h1, h2⟩ := h
  simp only at h1 h2
  unfold Rope.called
  by_cases c1 : c = 84
  · rw [if_pos c1]
    refine ⟨?_, ?_⟩
    · rcases h1 with h1 | h1
      · exact .inl h1
      · cases h1; exact .inr rfl
    · show Int.gcd (p + q) q = 1
      rw [gcd_add']; exact h2
  rw [if_neg c1]
  by_cases c2 : c = 85
  · rw [if_pos c2]
    refine ⟨?_, ?_⟩
    · rcases h1 with h1 | h1
      · exact .inl h1
      · cases h1; exact .inr rfl
    · show Int.gcd (p - q) q = 1
      have := gcd_add' (p - q) q
      rw [Int.sub_add_cancel] at this
      rw [← this]; exact h2
  rw [if_neg c2]
  by_cases c3 : 0 < p
  · rw [if_pos (show 0 < (p, q).1 from c3)]
    refine ⟨.inl c3, ?_⟩
    show Int.gcd (0 - q) p = 1
    rw [Int.zero_sub, Int.neg_gcd, Int.gcd_comm]; exact h2
  rw [if_neg (show ¬ 0 < (p, q).1 from c3)]
  by_cases c4 : p < 0
  · rw [if_pos (show (p, q).1 < 0 from c4)]
    refine ⟨.inl (by show 0 < 0 - p; omega), ?_⟩
    show Int.gcd q (0 - p) = 1
    rw [Int.zero_sub, Int.gcd_neg, Int.gcd_comm]; exact h2
  rw [if_neg (show ¬ (p, q).1 < 0 from c4)]
  exact ⟨.inr rfl, by decide⟩
theorem good_run : ∀ (l : List Nat) {v : Int × Int}, Good v → Good (run v l)
  | [], _, h => h
  | c :: r, _, h => good_run r (h.called c)
/-- its size grows by a bit a letter -/
theorem called_size {v : Int × Int} {n : Nat} (h1 : v.1.natAbs ≤ n) (h2 : v.2.natAbs ≤ n) (h0 : 1 ≤ n) (c : Nat) : (called v c).1.natAbs ≤ 2 * n ∧ (called v c).2.natAbs ≤ 2 * n := by
  unfold called
  repeat' split
  all_goals simp only
  all_goals omega
theorem run_size : ∀ (l : List Nat) {v : Int × Int} {n : Nat}, v.1.natAbs ≤ n → v.2.natAbs ≤ n → 1 ≤ n → (run v l).1.natAbs ≤ 2 ^ l.length * n ∧ (run v l).2.natAbs ≤ 2 ^ l.length * n
  | [], v, n, h1, h2, _ => by simpa [run] using ⟨h1, h2⟩
  | c :: r, v, n, h1, h2, h0 => by
    have q := called_size h1 h2 h0 c
    have ih := run_size r q.1 q.2 (by omega)
    have e : 2 ^ (c :: r).length * n = 2 ^ r.length * (2 * n) := by
      rw [List.length_cons, Nat.pow_succ, Nat.mul_assoc]
    rw [e]
    exact ih
/-! ### the divisor -/
theorem gcd_step (x y : Int) : Nat.gcd y.natAbs (x.fmod y).natAbs = Nat.gcd x.natAbs y.natAbs := by
  show Int.gcd y (x.fmod y) = Int.gcd x y
  have e : x.fmod y = x + y * (-(x.fdiv y)) := by
    have := Int.fmod_def x y
    rw [this, Int.mul_neg]
    rfl
  rw [e, Int.gcd_add_mul_left_right, Int.gcd_comm]
theorem fmod_less {x y : Int} (h : y ≠ 0) : (x.fmod y).natAbs < y.natAbs := by
  by_cases h0 : 0 < y
  · rw [Int.fmod_eq_emod_of_nonneg x (by omega)]
    have h1 := Int.emod_nonneg x h
    have h2 := Int.emod_lt_of_pos x h0
    omega
  · have e : x.fmod y = -((-x).fmod (-y)) := by
      have := Int.neg_fmod_neg (a := x) (b := y)
      omega
    rw [e, Int.fmod_eq_emod_of_nonneg _ (by omega)]
    have h1 := Int.emod_nonneg (-x) (b := -y) (by omega)
    have h2 := Int.emod_lt_of_pos (-x) (b := -y) (by omega)
    omega
/-- for letter in text -/
theorem for_str {l : List Nat} {g : TG} {tb : TS} {D : Ends} {σ : L2.St} {H : Hp} (Pv : Nat → L2.St → Hp → Prop) (h0 : Pv 0 σ H)
    (hs : ∀ i c σ H, l[i]? = some c → Pv i σ H → g (.str (S [c])) σ H fun σ2 H2 => tb { D with nx := Pv (i + 1), ct := Pv (i + 1), bk := D.nx } σ2 H2) (hd : ∀ σ H, Pv l.length σ H → D.nx σ H) :
    ∃ W : Nat → Nat → L2.St → Hp → Prop, (∃ m, W 0 m σ H) ∧ ∀ i m σ H, W i m σ H →
      ((Its (S l)).stop i H ∧ D.nx σ H) ∨ ((Its (S l)).go i H ∧ ∃ N : L2.St → Hp → Prop, (∀ σ' H', N σ' H' → ∃ m', m' < m ∧ W (i + 1) m' σ' H') ∧ ∀ x H', (Its (S l)).yld i H x H' → g x σ H' fun σ2 H2 => tb { D with nx := N, ct := N, bk := D.nx } σ2 H2) := by
  refine ⟨fun i m σ H => m = l.length - i ∧ i ≤ l.length ∧ Pv i σ H, ⟨l.length, by simp, Nat.zero_le _, h0⟩, ?_⟩
  rintro i m σ H ⟨rfl, hi, p⟩
  by_cases hlt : i < l.length
  · refine .inr ⟨by show i < (S l).cps.size; rw [S_size]; exact hlt, Pv (i + 1), fun σ' H' p' => ⟨l.length - (i + 1), by omega, rfl, hlt, p'⟩, fun x H' y => ?_⟩
    obtain ⟨e, c, hc, rfl⟩ := y
    subst e
    rw [S_get] at hc
    exact hs i c σ _ hc p
  · have e : i = l.length := by omega
    subst e
    exact .inl ⟨by show (S l).cps.size ≤ l.length; rw [S_size]; exact Nat.le_refl _, hd σ H p⟩

section
open PySem.F HotX
variable {prog : Program} {w : World} {A : Around} {E : Value → Shared → Prop} {s : Shared}
/-- the end of a list's walk while an exception is handled -/
theorem list_end_hot {it l x1 : Addr} {i : Nat} {items : Array Value} {Q : Option Value → Shared → Prop} (hot : HotAt A x1 s.heap) (hne : x1 ≠ it)
    (hit : s.heap.IsListIter it l i) (hl : s.heap.IsList l items) (hx : items[i]? = none)
    (hQ : ∀ h', Heap.ExtBut it s.heap h' → Q none { s with heap := h' }) : wpAny (model prog w) A (pyNext (.ref it)) Q E s := by
  obtain ⟨io, iAt, _, iDat⟩ := id hit
  obtain ⟨lo, lAt, _, ln, lDat⟩ := hl
  obtain ⟨he, xo, xv, xAt, xDat, xCtx⟩ := hot
  have typ := hit.typeIs
  unfold pyNext
  refine wpAny_bind (wpAny_attempt (wpAny_callSpecial?_slot (name := Str.ofString "__next__") typ slot_listiter_next (wpAny_call_entry slot_listiter_next typ entry_listiter_next ?body (args_listiter_next _))))
  -- the list, the place, the items: nothing is left
  show wpAny _ _ (field (.ref it) 0 >>= _) _ _ s; refine wpAny_bind (wpAny_field iAt iDat (x := .ref l) rfl ?_)
  show wpAny _ _ (if (Value.ref l == Value.none) = true then _ else _) _ _ s; rw [if_neg (show ¬ ((Value.ref l == Value.none) = true) from Bool.false_ne_true)]
  show wpAny _ _ (field (.ref it) 1 >>= _) _ _ s; refine wpAny_bind (wpAny_field iAt iDat (x := .int i 0) rfl ?_)
  show wpAny _ _ (seqItems? (.ref l) >>= _) _ _ s; refine wpAny_bind (wpAny_seqItems lAt lDat ?_); simp only [Int.toNat_natCast, hx]
  refine wpAny_bind (wpAny_rule (wpAny_bind (wpAny_setField iAt iDat (by simp) ?stop)))
  -- StopIteration is made and raised on top of the one that is handled
  show wpAny _ _ (newExc (.type "StopIteration") [] >>= _) _ _ _; refine wpAny_bind ?_; simp only [newExc, newTuple]
  refine wpAny_bind (wpAny_newObj_type (wpAny_bind (m := firstArgMember _ _) (wpAny_of_eq (a := Value.none) (by first | rfl | (simp only [firstArgMember]; rfl)) (wpAny_newObj_type ?_ (by size_fits)))) (by size_fits))
  have kept := (Heap.get?_update_other s.heap (Obj.mapFields (·.setIfInBounds 0 .none)) hne.symm).trans xAt
  have far := Heap.lt_size (Heap.get?_push_of_some { cls := .type "tuple", data := .seq #[] } kept)
  refine raiseNew_hot ⟨he, xo, xv, Heap.get?_push_of_some _ (Heap.get?_push_of_some _ kept), xDat, xCtx⟩ (Nat.ne_of_lt far) (Heap.get?_push_size _ rfl) rfl (by first | (simp; done) | (simp; omega) | (simp only [Array.size_append]; simp; omega)) ?_
  refine wpAny_bind (wpAny_isInstance (T := "StopIteration") (b := true) ⟨_, Heap.get?_update_self _ (Heap.get?_push_size _ rfl) rfl, rfl⟩ isSubtype_stop (wpAny_pure (hQ _ fun c u hc e => ?_)))
  have e2 := (Heap.SameBut.update s.heap it (Obj.mapFields (·.setIfInBounds 0 .none))).extBut c u hc e
  have e3 := Heap.get?_push_of_some { cls := .type "tuple", data := .seq #[] } e2
  exact (Heap.get?_update_other _ _ (Nat.ne_of_gt (Heap.lt_size e3))).trans (Heap.get?_push_of_some _ e3)
end
/-- a list walked while an exception is handled -/
theorem walks_list_hot {prog : Program} {w : World} {A : Around} {x1 : Addr} {o1 : Obj} {vs1 : Array Value} (hh : A.handled = some (.ref x1)) (d1 : o1.data = .fields vs1) (c1 : vs1[2]? = some .none) (I ax : Addr) (hne : ax ≠ I) (h1I : x1 ≠ I) (items : Array Value) :
    Walks prog w A I [I, ax, x1] [I] items.size (fun i v => items[i]? = some v) (fun i h => h.IsListIter I ax i ∧ h.IsList ax items ∧ h.get? x1 = some o1) where
  sub := fun b hb => by simp at hb; simp [hb]
  frame := fun _ _ _ st hk => ⟨st.1.at fun o e => hk I (by simp) o e, st.2.1.at fun o e => hk ax (by simp) o e, hk x1 (by simp) _ st.2.2⟩
  item := fun i s Q E hi st hQ => by
    exact wpAny_pyNext_list_item st.1 st.2.1 (x := items[i]) (by simp [hi]) fun h' hit' hs' => hQ _ h' s.toks (by simp [hi]) ⟨hit', st.2.1.extBut hs'.extBut hne, hs'.extBut x1 _ h1I st.2.2⟩ fun b o hb e => hs'.extBut b o (fun h => hb (by simp [h])) e
  done := fun s Q E st hQ => list_end_hot ⟨hh, o1, vs1, st.2.2, d1, c1⟩ h1I st.1 st.2.1 (by simp) fun h' he' => hQ h' s.toks fun b o hb e => he' b o (fun h => hb (by simp [h])) e
  self := fun _ _ _ _ st hQ => wpAny_pyIter_listiter st.1 hQ
section
variable {X : Cx} {a : Addr} {oe : Obj} {cls : Value} {d : Option Addr} {pn : List (Addr × Obj)}
/-- any(list of bools) within an except suite -/
theorem any_hot (hz : L2N.Zn cls d oe) (hf : ∃ vs, oe.data = .fields vs) : CallR (X.suite a ((a, oe) :: pn)) (.builtin "any") (rAny X.K) := fun pins s σ H vs us Q I r ⟨b, bs, ev, hs, q⟩ => by
  subst ev
  obtain ⟨its, rv, hl, _⟩ := Inv.list I hs
  obtain ⟨fv, hd⟩ := hf
  have here := (I.pin (a, oe) (List.mem_append_left _ List.mem_cons_self)).1
  have lt := Heap.lt_size here
  rw [Vals.ref1 r]
  have items := rv.bls
  refine call_any_walk (iter_any hl.isList fun z ez st ne => ?_); subst ez
  refine ⟨_, _, _, _, _, _, _, rfl, walks_list_hot (A := (X.suite a ((a, oe) :: pn)).A.in1) (x1 := a) (o1 := oe) rfl hd (hz.2.2 fv hd) _ b ne (Nat.ne_of_lt lt) its.toArray, ⟨st.1, st.2, Heap.get?_push_of_some _ here⟩, truth_bools items, fun h' tk hk => ?_⟩
  have all : ∀ c u, s.heap.get? c = some u → h'.get? c = some u := fun c u e => hk c u (fun m => by
    rw [List.mem_singleton.mp m] at e
    exact Nat.lt_irrefl _ (Heap.lt_size e)) (Heap.get?_push_of_some _ e)
  refine ⟨.bl (bs.any id), H, I.kept all, ?_, q⟩
  show Value.bool ((List.range its.toArray.size).any fun i => bs.getD i false) = .bool (bs.any id)
  rw [← any_range, items, List.size_toArray, List.length_map]
/-- isinstance(e, c) of the error that the suite holds -/
def rIsF (K : PySem.W.Frag) (D a : Addr) (cls : Value) (d : Option Addr) : List V → Hp → VK → Prop := fun xs H Q => cls = .ref D ∧ d = none ∧ rIsE K D a xs H Q
theorem call_isF {D : Addr} (C : ExcC X.K D) (hz : L2N.Zn cls d oe) (hf : ∃ vs, oe.data = .fields vs) : CallR (X.suite a ((a, oe) :: pn)) (.builtin "isinstance") (rIsF X.K D a cls d) := by
  intro pins s σ H xs us Q I r h
  obtain ⟨rfl, rfl, h⟩ := h
  exact call_isE C hz.zc hf pins s σ H xs us Q I r h
end
theorem takes0N {X : Cx} : L2N.Takes X (fun _ _ _ _ => False) := fun _ _ ⟨_, _, _, _, _, _, _, _, _, _, _, _, _, _, _, _, no⟩ => False.elim no
theorem okX {P : Program} {w : World} {K : PySem.W.Frag} {mg : Str → Option Value} {base : Heap} {x qual : Str} {st : Stmt} {f : Addr} {fd : FuncData} {N ps : List Str} {k : Nat} {sp : Sp} (F : Fun K x qual st f fd) (S : FnScope N ps (defScope st)) (len : ∀ vs H Q E, sp vs H Q E → vs.length = ps.length)
    (hbody : ∀ (cdv : Value) (A : Around) (outer : List Env) (s : Shared) (H : Hp) (vs : List V) (Q : VK) (E : XK), Room k (A.deeper (PyProof.Rows.envOfC qual (defScope st) s.heap.objs.size f cdv)) → sp vs H Q E →
      ∃ t, PSs (cxOf (L2N.CX P w) P w K mg base N qual (defScope st) f cdv A outer s H E) (defBody st) t ∧ t { nx := fun _ H' => Q .non H', rt := Q } (start N vs) H) : FnOk P w K mg base (L2N.CX P w) (k + 1) f fd ps sp := by
  obtain ⟨_, _, _, _, _, _, cdv, _, _, rfl, lk, hcd⟩ := F.ex
  exact fn_of lk hcd S len (hbody cdv)
/-! ### an error class of the program -/
structure Err (K : PySem.W.Frag) (mg : Str → Option Value) (x : Str) (C : Addr) : Prop where
  g : mg x = some (.ref C)
  x : PySem.W.excIn K C [.type "ValueError", .type "Exception", .type "BaseException", .type "object"] "ValueError.__new__" = true
  k : PySem.W.keepIn K (.ref C) = true
  b : PySem.W.subIn K (.ref C) (.type "BaseException") = some true
  t : PySem.W.typeIn K (.ref C) = some (.type "type")
  hd : PySem.W.hasDictIn K C = true
  hg : PySem.W.findIn K (.ref C) "__getattribute__" = some (some (.builtin "BaseException.__getattribute__"))
  hk : PySem.W.findIn K (.ref C) "__getattr__" = some none
  ha : PySem.W.findIn K (.ref C) "__class__" = some (some (.builtin "object.__class__"))
  hm : PySem.W.mroIn K C (.type "object") = some true
theorem Err.c {K : PySem.W.Frag} {mg : Str → Option Value} {x : Str} {C : Addr} (e : Err K mg x C) (hn : PySem.W.specialIn K (.builtin "object.__class__") "__get__" = some (some (.builtin "getset_descriptor.__get__"))) (ht : PySem.W.takesIn K (.builtin "object.__class__") = some true) : ExcC K C :=
  ⟨e.hg, e.hk, e.b, e.hd, e.ha, hn, ht, e.hm⟩
/-- // of great ints, of any sign -/
theorem op_fdivWN {X : Cx} : OpR X (binaryOp .FloorDiv) (rI (fun _ j => j ≠ 0 ∧ j.natAbs.log2 < 9000) fun i j => .int (i.fdiv j)) := opI fun i j _ _ _ _ _ hc q =>
  PyProof.Rows.floordiv_int hc.1 q (.inl (PyProof.noPylong_of_log2 hc.2))

/-! ### text[::-1] -/
theorem rev_pick (l : List Nat) (t : Tok) (a : Tok) : sliceMade (S l) t none none (some (-1, a)) = Made.str (S l.reverse) := by
  have hs : slicePicked (S l) none none (some (-1, a)) = (List.range l.length).reverse := by
    show sliceRange (((S l).length : Int) - 1) (-1) (-1) = _
    rw [S_len, PySem.W.krv_sliceRange, PySem.W.krv_range]
  have hf : ((List.range l.length).reverse.filterMap ((S l).cps[·]?)) = l.reverse := by
    rw [List.filterMap_reverse]
    congr 1
    have : ∀ m : List Nat, (List.range m.length).filterMap (fun i => m[i]?) = m := fun m => by
      induction m with
      | nil => rfl
      | cons c r ih =>
        rw [List.length_cons, List.range_succ_eq_map, List.filterMap_cons, List.filterMap_map]
        show c :: (List.range r.length).filterMap (fun i => r[i]?) = c :: r
        rw [ih]
    have h2 : (fun i => (S l).cps[i]?) = fun i => l[i]? := funext fun i => S_get l i
    rw [h2]
    exact this l
  unfold sliceMade
  rw [hs, hf]
  rfl
def tRevS (te : TE) : TE := fun σ H Q => te σ H fun x H1 => ∃ l : List Nat, x = .str (S l) ∧ l.length ≤ 16777216 ∧ Q (.str (S l.reverse)) H1
theorem pe_revS {X : Cx} {e : Expr} {te : TE} {k : Nat} {p1 p2 p3 pos : Pos} (he : PE X e te) : PE X (.Subscript e (.Slice none none (some (.UnaryOp .USub (.Constant (.int 1) k p1) p2)) p3) pos) (tRevS te) := by
  constructor
  intro pins s σ H Q I hyp
  apply PyProof.Rows.Subscript_
  refine thn (he.run pins s σ H _ I hyp) fun v s1 ⟨x, H1, I1, r1, l, ex, hl, q⟩ => ?_
  subst ex
  obtain ⟨tk, rfl⟩ := r1
  have minus : PO X (some (.UnaryOp .USub (.Constant (.int 1) k p1) p2)) (tPart (tUn (rU fun i => .int (-i)) (tC (.int 1)))) := po_some (pe_un un_neg pe_int)
  apply wpAny_Slice
  refine thn (po_none.run pins s1 σ H1 (fun o G => o = none ∧ G = H1) I1 ⟨rfl, rfl⟩) fun v1 s2 ⟨o1, G1, J1, a1, b1, c1⟩ => ?_
  subst b1; subst c1
  refine thn (po_none.run pins s2 σ G1 (fun o G => o = none ∧ G = G1) J1 ⟨rfl, rfl⟩) fun v2 s3 ⟨o2, G2, J2, a2, b2, c2⟩ => ?_
  subst b2; subst c2
  refine thn (minus.run pins s3 σ G2 (fun o G => o = some (-1) ∧ G = G2) J2 ⟨1, rfl, -1, rfl, rfl, rfl⟩) fun v3 s4 ⟨o3, G3, J3, a3, b3, c3⟩ => ?_
  subst b3; subst c3
  obtain ⟨y1, rfl, g1⟩ := IsPart.raw a1
  obtain ⟨y2, rfl, g2⟩ := IsPart.raw a2
  obtain ⟨y3, rfl, g3⟩ := IsPart.raw a3
  cases y1 with
  | some z => cases g1
  | none =>
  cases y2 with
  | some z => cases g2
  | none =>
  cases y3 with
  | none => cases g3
  | some z =>
  obtain ⟨z1, z2⟩ := z
  have ez : z1 = -1 := Option.some.inj g3
  subst ez
  show wpAny (model X.prog X.w) X.A (PyProof.Rows.subscriptTail e (.Slice none none (some (.UnaryOp .USub (.Constant (.int 1) k p1) p2)) p3) (.str (S l) tk) (.ref s4.heap.objs.size)) (EP X pins σ Q) X.xe { s4 with heap := s4.heap.push { cls := .type "slice", data := .fields #[partValue none, partValue none, partValue (some (-1, z2))] } }
  refine PyProof.Rows.tail_any (ops := [.str (S l) tk, .ref s4.heap.objs.size]) (typeIs_str _ _ _) PySem.F.slot_str_getitem.lookup ?_ (by with_unfolding_all rfl)
  refine wpAny_getItem_str_slice (l := none) (u := none) (st := some (-1, z2)) ⟨_, Heap.get?_push_size _ rfl, rfl, rfl⟩ (by rfl) ?_
  rw [rev_pick]
  exact ⟨by rw [S_len, List.length_reverse, sizeLine_eq]; exact hl, .str _, _, J3.kept (t' := s4.toks + 1) fun b ob w => Heap.get?_push_of_some _ w, ⟨_, rfl⟩, q⟩
/-! ### all(test for x in text), where the test may read what the top has written -/
section
open GxR
variable {X : Cx} {pins : List (Addr × Obj)} {σ : L2.St} {H : Hp} {s : Shared}
def EltG (X : Cx) (scope : Scope) (x : Str) (elt : Expr) (pb : Nat → Bool) : Prop :=
  ∀ (cenv : Env) (A' : Around) (E' : Value → Shared → Prop) (c : Nat) (t : Tok) (z : Shared) (m : Str → Option Value), X.Ok → cenv.scope = scope → cenv.globals = X.env.globals → (∀ b o, X.base.get? b = some o → z.heap.get? b = some o) →
    z.heap.Ns cenv.locals m → m x = some (.str ⟨#[c]⟩ t) → wpAny (model X.prog X.w) A' (eval elt cenv) (fun y z' => y = .bool (pb c) ∧ Keeps z z') E' z
theorem tbl_not {H : Hp} {P : Addr} {ps : Array Value} (hP : H P = some (.tbl ps)) {b : Addr} (h : H b = none) : b ≠ P := fun z => by rw [z, hP] at h; cases h
theorem gen_go {c P : Addr} {elt : Expr} {x : Str} {scope : Scope} {pb : Nat → Bool} {k : Nat} {Q' : Value → Shared → Prop} {a : Str} {o : Obj} {St : Nat → Heap → Prop} {ps : Array Value}
    (hr : Room k X.A) (TB : TabB X.base X.mg c P) (sc : GenS X.env scope x) (hel : EltG X scope x elt pb) (J : L2.Inv X pins σ H s) (hP : H P = some (.tbl ps)) (atP : s.heap.get? P = some { cls := .none, data := .fields ps }) (ltP : P < s.heap.objs.size)
    (W : ∀ A' : Around, A'.handled = none → Walks X.prog X.w A' s.heap.objs.size [s.heap.objs.size] [s.heap.objs.size] a.cps.size (SignAt a) St) (st0 : St 0 (s.heap.push o)) (code : Value) (h3 : Heap) (tk : Nat) (ps' more : Array Value) (em : ps' = ps ++ more)
    (hx : Heap.ExtBut P (s.heap.push o) h3) (hsz : (s.heap.push o).objs.size ≤ h3.objs.size) (h3P : h3.get? P = some { cls := .none, data := .fields ps' }) (ok' : TriplesOk ps'.toList) (lim : (s.heap.push o).NoLimit) (hQ : ∀ g z, Ready X pins σ H P a pb g z → Q' (.ref g) z) :
    wpAny (model X.prog X.w) X.A (builtinsFor X.env.globals X.env.builtins) (fun bi s₄ =>
      ∃ Ia fp wr n₀ Pf St₀ pz F, Value.ref s.heap.objs.size = .ref Ia ∧ (∀ A' : Around, A'.handled = none → Walks X.prog X.w A' Ia fp wr n₀ Pf St₀) ∧ St₀ 0 s₄.heap ∧ (∀ b ∈ fp, b < s₄.heap.objs.size) ∧ s₄.heap.NoLimit ∧ cStatics ∉ wr ∧
        (∀ href : Heap, (∀ b u, s₄.heap.get? b = some u → href.get? b = some u) → QuietGen X.prog X.w (genEnv scope (cloFrom X.env.cells scope.names []) s₄.heap.objs.size code bi X.env) x [] elt (List.range s₄.heap.objs.size) wr Pf pz F href) ∧
        (∀ g h₅ tk gs, gs.bare = true → s₄.heap.objs.size < g → h₅.objs.size = g + 1 → (∀ b u, s₄.heap.get? b = some u → h₅.get? b = some u) →
          WalksS X.prog X.w X.A.in4 g (g :: s₄.heap.objs.size :: List.range s₄.heap.objs.size) (s₄.heap.objs.size :: wr) (GenOnlyQ s₄.gens.size) (passing pz n₀ 0).length (fun j y => ∃ i, (passing pz n₀ 0)[j]? = some i ∧ F i y) (GenAt X.prog X.w X.A.in4 g s₄.gens.size s₄.heap.objs.size (List.range s₄.heap.objs.size) wr pz n₀ F) →
          GenAt X.prog X.w X.A.in4 g s₄.gens.size s₄.heap.objs.size (List.range s₄.heap.objs.size) wr pz n₀ F 0 { s₄ with gens := s₄.gens.push gs, toks := tk, heap := h₅ } → Q' (.ref g) { s₄ with gens := s₄.gens.push gs, toks := tk, heap := h₅ })) X.xe { s with heap := h3, toks := tk } := by
  obtain ⟨bm, ob, q1, q2, q3, q4, q5, q6, q7, q8⟩ := TB.bm
  obtain ⟨cm, cns, cnn⟩ := J.nolimit
  have cP : cStatics ≠ P := fun z => by
    obtain ⟨o2, es, ep, g1, g2, _⟩ := cns
    rw [z, atP] at g1
    cases g1
    cases g2
  have cL : cStatics < s.heap.objs.size := cns.lt
  have big : (s.heap.push o).objs.size = s.heap.objs.size + 1 := Heap.size_push ..
  have kept : ∀ b u, b ≠ P → s.heap.get? b = some u → h3.get? b = some u := fun b u n e => hx b u n (Heap.get?_push_of_some _ e)
  have bases : ∀ b u, X.base.get? b = some u → h3.get? b = some u := fun b u e => kept b u (tbl_not hP (J.bs b u e).2) (J.bk b u e)
  refine wpAny_builtinsFor (m := X.mg) (by rw [J.ok.glob]; exact J.mod.glob.keeps bases) q1 q2 (bases _ _ q5) q6 q7 q8 ?_
  refine ⟨s.heap.objs.size, [s.heap.objs.size], [s.heap.objs.size], a.cps.size, SignAt a, St, fun _ => true, fun i y => ∃ cc, a.cps[i]? = some cc ∧ y = .bool (pb cc), rfl, W, ?_, ?_, lim.extBut hx cP, ?_, ?_, ?_⟩
  · refine (W X.A hr.hd).frame _ _ _ st0 fun b hb u e => hx b u ?_ e
    rw [List.mem_singleton.mp hb]
    exact Nat.ne_of_gt ltP
  · intro b hb
    rw [List.mem_singleton.mp hb]
    exact Nat.lt_of_lt_of_le (by rw [big]; exact Nat.lt_succ_self _) hsz
  · rw [List.mem_singleton]
    exact Nat.ne_of_lt cL
  · intro href hh
    refine ⟨fun A' E' i v s₂ m₂ _ _ _ _ _ => ?_, fun A' E' i v s₂ m₂ _ hv _ hn hm hk => ?_⟩
    · rw [List.forIn_nil]
      exact wpAny_pure ⟨rfl, keeps_refl s₂⟩
    · obtain ⟨cc, u, hcc, rfl⟩ := hv
      refine wpAny_mono (hel _ A' E' cc u s₂ m₂ J.ok rfl rfl (fun b w e => ?_) hn hm) (fun y z r => ⟨⟨cc, hcc, r.1⟩, r.2⟩) fun _ _ e => e
      have lb := Heap.lt_size (J.bk b w e)
      exact hk b (List.mem_range.mpr (Nat.lt_of_lt_of_le (Nat.lt_of_lt_of_le lb (by rw [big]; exact Nat.le_succ _)) hsz)) (by rw [List.mem_singleton]; exact Nat.ne_of_lt lb) w (hh b w (bases b w e))
  · intro g h5 tk5 gs bare _ _ _ W5 at5
    have W6 := W5
    simp only [GxR.passing_true, List.length_range] at W6
    refine hQ g _ ⟨_, _, _, _, _, W6.in4_1, at5, fun j y sj Qj Ej hy hq => ?_, fun z mv => ?_⟩
    · obtain ⟨i, hi, cc, hcc, rfl⟩ := hy
      obtain ⟨_, ei⟩ := List.getElem?_eq_some_iff.mp hi
      rw [List.getElem_range] at ei
      subst ei
      have hq' : Qj (trF pb a.cps.toList j) sj := hq
      rw [trF_some (show a.cps.toList[j]? = some cc by rw [Array.getElem?_toList]; exact hcc)] at hq'
      exact wpAny_truthy_bool hq'
    · have off : ∀ b u, s.heap.get? b = some u → b ∉ h3.objs.size :: [s.heap.objs.size] := fun b u e hb => by
        have l1 := Heap.lt_size e
        have l2 : s.heap.objs.size < h3.objs.size := Nat.lt_of_lt_of_le (by rw [big]; exact Nat.lt_succ_self _) hsz
        rcases List.mem_cons.mp hb with r | r
        · rw [r] at l1; exact absurd (Nat.lt_trans l1 l2) (Nat.lt_irrefl _)
        · rw [List.mem_singleton.mp r] at l1; exact absurd l1 (Nat.lt_irrefl _)
      have five : ∀ b u, h3.get? b = some u → h5.get? b = some u := by assumption
      have L := inv_tab (more := more) (h' := z.heap) (g' := z.gens) (d' := z.drawn) (t' := z.toks) J hP (fun b u n e => mv.heap b u (off b u e) (five b u (kept b u n e))) (by rw [← em]; exact mv.heap P _ (off P _ atP) (five P _ h3P)) (PyProof.Rows.AllBare.movedS (J.bare.push bare) mv)
      rw [sh_eta s z mv.os] at L
      exact ⟨upd H P (.tbl (ps ++ more)), ⟨⟨ps ++ more, upd_same, by rw [← em]; exact ok'⟩, fun b n => upd_ne n⟩, L⟩
theorem gen_signs {c P : Addr} {elt iter : Expr} {x : Str} {px gpos : Pos} {scope : Scope} {pb : Nat → Bool} {te : TE} {k : Nat} {Q' : Value → Shared → Prop} {R : Str → Hp → Prop}
    (hr : Room k X.A) (TB : TabB X.base X.mg c P) (hcode : X.env.code = .ref c) (sc : GenS X.env scope x) (hi : PE X iter te) (hel : EltG X scope x elt pb) (hs : ∀ v, genFold iter X.env v = pure v)
    (I : L2.Inv X pins σ H s) (h : te σ H fun v G => ∃ a : Str, v = .str a ∧ TabG G P ∧ R a G) (hQ : ∀ a G g z, R a G → Ready X pins σ G P a pb g z → Q' (.ref g) z) :
    wpAny (model X.prog X.w) X.A (eval (.GeneratorExp elt [⟨.Name x px, iter, [], 0⟩] scope gpos) X.env) Q' X.xe s := by
  have room : X.A.depth < recursionLimit := by have := hr.dp; omega
  refine wpAny_GeneratorExp_walksQ hr.hd sc.co (closure_ok sc.free) sc.cell sc.dot sc.loc sc.kind room (thn (hi.run pins s σ H _ I h) fun u s1 ⟨v, G, J, rv, a, ev, ⟨ps, hP, ok⟩, hR⟩ => ?_) hs
  subst ev
  obtain ⟨t, rfl⟩ := id rv
  refine wpAny_pyIter_str fun o St W st0 => ?_
  -- the table, the sizes, what is kept
  have atP : s1.heap.get? P = some { cls := .none, data := .fields ps } := J.hok P _ hP
  have ltP : P < s1.heap.objs.size := Heap.lt_size atP
  have atP' : (s1.heap.push o).get? P = some { cls := .none, data := .fields ps } := Heap.get?_push_of_some _ atP
  have cd : PySem.W.CodeHd (s1.heap.push o) c P := TB.code.keeps fun b w e => Heap.get?_push_of_some _ (J.bk b w e)
  have lim : (s1.heap.push o).NoLimit := J.nolimit.push o
  have next : ∀ (code : Value) (h3 : Heap) (tk : Nat) (ps' more : Array Value), ps' = ps ++ more → Heap.ExtBut P (s1.heap.push o) h3 → (s1.heap.push o).objs.size ≤ h3.objs.size → h3.get? P = some { cls := .none, data := .fields ps' } → TriplesOk ps'.toList → _ :=
    fun code h3 tk ps' more em hx hsz h3P ok' => gen_go (elt := elt) hr TB sc hel J hP atP ltP W st0 code h3 tk ps' more em hx hsz h3P ok' lim fun g z rd => hQ a G g z hR rd
  refine ⟨lim, ?_⟩
  cases hf : codeAmong gpos ps.toList with
  | some cv => exact wpAny_genexprCode_hit hcode (cd.code atP' ok) hf (next cv (s1.heap.push o) s1.toks ps #[] (by simp) (Heap.ExtBut.refl _ _) (Nat.le_refl _) atP' ok)
  | none =>
    refine wpAny_genexprCodeX hcode (cd.code atP' ok) (cd.tab atP') hf fun c' h' tk hx hge hlt hco' _ htab' _ => ?_
    obtain ⟨o1, vs, f1, tf, fl, tg, inF, tx, tt, op, _, _, _, _, _, _, _, _, _, htr, _⟩ := hco'
    exact next _ h' tk _ _ rfl hx (Nat.le_trans hge (Nat.le_of_lt hlt)) htab'.2 htr
theorem pe_allG {c P : Addr} {elt iter : Expr} {x : Str} {px p pos gpos : Pos} {scope : Scope} {pb : Nat → Bool} {te : TE} {k : Nat} (hr : Room k X.A) (hg : Gl X "all") (hm : X.mg "all" = none) (TB : TabB X.base X.mg c P) (hcode : X.env.code = .ref c)
    (sc : GenS X.env scope x) (hi : PE X iter te) (hel : EltG X scope x elt pb) (hs : ∀ v, genFold iter X.env v = pure v)
    (he : starEach [.GeneratorExp elt [⟨.Name x px, iter, [], 0⟩] scope gpos] X.env = (false, eval (.GeneratorExp elt [⟨.Name x px, iter, [], 0⟩] scope gpos) X.env) :: starEach [] X.env := by rfl) :
    PE X (.Call (.Name "all" p) [.GeneratorExp elt [⟨.Name x px, iter, [], 0⟩] scope gpos] [] pos) (tAllS P pb te) := by
  constructor
  intro pins s σ H Q I hyp
  have hb : bootBuiltins "all" = some (.builtin "all") := by decide +kernel
  refine wpAny_Call_Name_kw (ld_blt I hg hm hb (PyProof.Rows.callWith_builtin1 ?_ he (by rfl)))
  rw [he]
  show wpAny _ _ (spliced ((false, eval (.GeneratorExp elt [⟨.Name x px, iter, [], 0⟩] scope gpos) X.env) :: backTo pos (starEach [] X.env))) _ _ s
  refine Calls.spliced_cons (gen_signs (R := fun a G => ∀ G', Tabbed P G G' → Q (.bl (a.cps.toList.all pb)) G') hr TB hcode sc hi hel hs I hyp fun a G g z hR rd => Calls.spliced_nil ?_)
  obtain ⟨fp, wr, Gs, F, St, W, st, tr, done⟩ := rd
  refine call_all_walkS (W.self 0 _ _ _ st ⟨g, fp, wr, Gs, _, F, St, _, rfl, W, st, tr, fun z' mv => ?_⟩)
  obtain ⟨G', tb, L⟩ := done z' mv
  refine ⟨.bl _, G', L, rfl, ?_⟩
  rw [all_signs a pb]
  exact hR G' tb
/-- x in D, D a dict that the top has written -/
theorem elt_in {scope : Scope} {x y : Str} {pb : Nat → Bool} {d : Addr} {es : Array DictEntry} {n : Nat} {p1 p2 p3 : Pos} (D : KDict X.K X.w d es n) (gy : X.mg y = some (.ref d)) (hp : ∀ c, ∃ r, PySem.W.nsIn X.K d (S [c]) = some r ∧ r.isSome = pb c)
    (hk : scope.kind = .function) (hl : scope.names.lookup x = some .local) (hy : scope.names.lookup y = some .globalImplicit) (hd : (x == ("__debug__" : Str)) = false := by decide) (hd2 : (y == ("__debug__" : Str)) = false := by decide) :
    EltG X scope x (.Compare (.Name x p1) [.In] [.Name y p2] p3) pb := by
  intro cenv A' E' c t z m ok hs hg hb hn hm
  have kind : cenv.scope.kind = .function := by rw [hs]; exact hk
  refine wpAny_Compare1 (wpAny_Name (wpAny_loadName_local kind (show cenv.scope.names.lookup x = some .local by rw [hs]; exact hl) hn hm ?_) hd)
  refine Calls.Name_function_global kind (show cenv.scope.names.lookup y = some .globalImplicit by rw [hs]; exact hy) (Calls.loadGlobal_global (by rw [hg, ok.glob]; exact ok.mod.glob.keeps hb) gy ?_) hd2
  obtain ⟨r, e1, e2⟩ := hp c
  refine wpAny_in_of (PySem.strKind_is X.prog X.w (S [c]) t) D.low (PySem.W.mapOf_K (prog := X.prog) (ok.mod.kin.keeps hb) D.at_ D.lit) ?_
  rw [PySem.W.find_K D.at_ e1, e2]
  exact ⟨rfl, keeps_tok _ _⟩
end
/-! ### ''.join of texts, comprehensions over a text -/
theorem join_empty (ys : List (List Nat)) : Txt.join (S []) (ys.map S) = S ys.flatten := by
  have go : ∀ (zs : List (List Nat)) (a : Array Nat), ((zs.map S).foldl (fun acc p => acc ++ (S []).cps ++ p.cps) a).toList = a.toList ++ zs.flatten := by
    intro zs
    induction zs with
    | nil => intro a; simp
    | cons z r ih =>
      intro a
      rw [List.map_cons, List.foldl_cons, ih]
      simp [S]
  show Builtin.Str.glued (S []) (ys.map S) = _
  unfold Builtin.Str.glued
  cases ys with
  | nil => rfl
  | cons y r =>
    have := go r (S y).cps
    show (⟨(r.map S).foldl (fun acc p => acc ++ (S []).cps ++ p.cps) (S y).cps⟩ : Str) = _
    unfold S at this ⊢
    congr 1
    apply Array.toList_inj.mp
    rw [this]
    simp
theorem join_signs (l : List Nat) : Txt.join (S []) (l.map fun c => S [c]) = S l := by
  have := join_empty (l.map fun c => [c])
  rw [List.map_map] at this
  rw [show (l.map fun c => S [c]) = l.map (S ∘ fun c => [c]) from rfl, this]
  congr 1
  induction l with
  | nil => rfl
  | cons c r ih => rw [List.map_cons, List.flatten_cons, ih (join_empty _ |>.trans rfl |> fun h => by rw [List.map_map] at h; exact h)]; rfl
theorem sum_ones (l : List Nat) : ((l.map fun c => S [c]).map (·.length)).sum = l.length := by
  induction l with
  | nil => rfl
  | cons c r ih =>
    rw [List.map_cons, List.map_cons, List.sum_cons, ih, S_len, List.length_cons]
    show 1 + r.length = r.length + 1
    omega
theorem lc_str {l : List Nat} {g : TG} {tt : TT} {te : TE} {vs : List Nat} {σ : L2.St} {H1 : Hp} {D : Addr} {Qd : Hp → Prop} (Pv : Nat → Hp → Prop) (h0 : Pv 0 (upd H1 D (.lst [])))
    (hs : ∀ i c H, l[i]? = some c → Pv i H → g (.str (S [c])) (wipe σ vs) H fun σ2 H2 => wipe σ2 vs = wipe σ vs ∧ tt σ2 H2 fun b H3 =>
      if b = true then te σ2 H3 fun y H4 => ∃ acc, H4 D = some (.lst acc) ∧ acc.length < sizeLine ∧ Pv (i + 1) (upd H4 D (.lst (acc ++ [y]))) else Pv (i + 1) H3) (hd : ∀ H, Pv l.length H → Qd H) :
    ∃ W : Nat → Nat → Hp → Prop, (∃ m, W 0 m (upd H1 D (.lst []))) ∧ ∀ i m H, W i m H →
      ((Its (S l)).stop i H ∧ Qd H) ∨ ((Its (S l)).go i H ∧ ∃ Nx : Hp → Prop, (∀ H', Nx H' → ∃ m', m' < m ∧ W (i + 1) m' H') ∧ ∀ x H', (Its (S l)).yld i H x H' → g x (wipe σ vs) H' fun σ2 H2 => wipe σ2 vs = wipe σ vs ∧ tt σ2 H2 fun b H3 =>
        if b = true then te σ2 H3 fun y H4 => ∃ acc, H4 D = some (.lst acc) ∧ acc.length < sizeLine ∧ Nx (upd H4 D (.lst (acc ++ [y]))) else Nx H3) := by
  refine ⟨fun i m H => m = l.length - i ∧ i ≤ l.length ∧ Pv i H, ⟨l.length, by simp, Nat.zero_le _, h0⟩, ?_⟩
  rintro i m H ⟨rfl, hi, p⟩
  by_cases hlt : i < l.length
  · refine .inr ⟨by show i < (S l).cps.size; rw [S_size]; exact hlt, Pv (i + 1), fun H' p' => ⟨l.length - (i + 1), by omega, rfl, hlt, p'⟩, fun x H' y => ?_⟩
    obtain ⟨e, c, hc, rfl⟩ := y
    subst e
    rw [S_get] at hc
    exact hs i c _ hc p
  · have e : i = l.length := by omega
    subst e
    exact .inl ⟨by show (S l).cps.size ≤ l.length; rw [S_size]; exact Nat.le_refl _, hd H p⟩
/-- a def whose code object is told -/
theorem okC {P : Program} {w : World} {K : PySem.W.Frag} {mg : Str → Option Value} {base : Heap} {x qual : Str} {st : Stmt} {f c : Addr} {fd : FuncData} {N ps : List Str} {k : Nat} {sp : Sp} (F : Fun K x qual st f fd) (hc : fd.code = .ref c) (S : FnScope N ps (defScope st)) (len : ∀ vs H Q E, sp vs H Q E → vs.length = ps.length)
    (body : ∀ (A : Around) (outer : List Env) (s : Shared) (H : Hp) (vs : List V) (Q : VK) (E : XK), Room k (A.deeper (PyProof.Rows.envOfC qual (defScope st) s.heap.objs.size f (.ref c))) → sp vs H Q E →
      ∃ t, PSs (cxOf CX0 P w K mg base N qual (defScope st) f (.ref c) A outer s H E).nox (defBody st) t ∧ t { nx := fun _ H' => Q .non H', rt := Q } (start N vs) H) : FnOk P w K mg base CX0 (k + 1) f fd ps sp := by
  obtain ⟨_, _, _, _, _, _, cdv, _, _, rfl, lk, hcd⟩ := F.ex
  have e : cdv = .ref c := hc
  subst e
  refine fn_of lk hcd S len fun A outer s H vs Q E hr h => ?_
  obtain ⟨t, a, b⟩ := body A outer s H vs Q E hr h
  exact ⟨t, a.nox, b⟩
def top (i : Nat) : Stmt := PySem.Challenge.pw_ropedance_k13_counts_of_colourings.main.body.getD i (.Pass ⟨0, 0, 0, 0⟩)
abbrev s_after : Stmt := top 2
theorem sc_after : FnScope ["fraction", "dance", "p", "q", "letter"] ["fraction", "dance"] (defScope s_after) := ⟨rfl, rfl, rfl, by decide +kernel, rfl, by decide +kernel, by decide +kernel⟩
abbrev s_turned : Stmt := top 3
theorem sc_turned : FnScope ["p", "q"] ["p", "q"] (defScope s_turned) := ⟨rfl, rfl, rfl, by decide +kernel, rfl, by decide +kernel, by decide +kernel⟩
abbrev s_number : Stmt := top 5
theorem sc_number : FnScope ["dance"] ["dance"] (defScope s_number) := ⟨rfl, rfl, rfl, by decide +kernel, rfl, by decide +kernel, by decide +kernel⟩
abbrev s_colour_count : Stmt := top 7
theorem sc_colour_count : FnScope ["dance", "way", "n", "p", "q"] ["dance", "way", "n"] (defScope s_colour_count) := ⟨rfl, rfl, rfl, by decide +kernel, rfl, by decide +kernel, by decide +kernel⟩
abbrev s_law_tape : Stmt := top 9
theorem sc_law_tape : FnScope ["script", "k", "cell"] ["script", "k"] (defScope s_law_tape) := ⟨rfl, rfl, rfl, by decide +kernel, rfl, by decide +kernel, by decide +kernel⟩
abbrev s_law_take : Stmt := top 10
theorem sc_law_take : FnScope ["tape", "many", "got", "mixed"] ["tape", "many"] (defScope s_law_take) := ⟨rfl, rfl, rfl, by decide +kernel, rfl, by decide +kernel, by decide +kernel⟩
abbrev s_law_dance : Stmt := top 11
theorem sc_law_dance : FnScope ["tape", "most", "dance", "size", "k"] ["tape", "most"] (defScope s_law_dance) := ⟨rfl, rfl, rfl, by decide +kernel, rfl, by decide +kernel, by decide +kernel⟩
abbrev s_law_same : Stmt := top 12
theorem sc_law_same : FnScope ["told", "due", "k"] ["told", "due"] (defScope s_law_same) := ⟨rfl, rfl, rfl, by decide +kernel, rfl, by decide +kernel, by decide +kernel⟩
abbrev s_law_diagram : Stmt := top 13
theorem sc_law_diagram : FnScope ["dance", "count", "crossings", "ends", "letter", "a", "b", "c", "d"] ["dance"] (defScope s_law_diagram) := ⟨rfl, rfl, rfl, by decide +kernel, rfl, by decide +kernel, by decide +kernel⟩
abbrev s_law_colouring : Stmt := top 14
theorem sc_law_colouring : FnScope ["dance", "first", "second", "colours", "over", "before", "behind"] ["dance", "first", "second"] (defScope s_law_colouring) := ⟨rfl, rfl, rfl, by decide +kernel, rfl, by decide +kernel, by decide +kernel⟩
abbrev s_law_is_closed : Stmt := top 15
theorem sc_law_is_closed : FnScope ["colours", "crossings", "ends", "way", "n", "a", "b", "c", "d", "pairs", "over", "before", "behind", "pair"] ["colours", "crossings", "ends", "way", "n"] (defScope s_law_is_closed) := ⟨rfl, rfl, rfl, by decide +kernel, rfl, by decide +kernel, by decide +kernel⟩
abbrev s_law_lists : Stmt := top 16
theorem sc_law_lists : FnScope ["count", "n", "rows", "k", "longer", "row", "colour"] ["count", "n"] (defScope s_law_lists) := ⟨rfl, rfl, rfl, by decide +kernel, rfl, by decide +kernel, by decide +kernel⟩
abbrev s_law_short : Stmt := top 17
theorem sc_law_short : FnScope ["tape", "dance", "k", "letter"] ["tape"] (defScope s_law_short) := ⟨rfl, rfl, rfl, by decide +kernel, rfl, by decide +kernel, by decide +kernel⟩
abbrev s_law : Stmt := top 18
theorem sc_law : FnScope ["script", "tape", "short", "count", "crossings", "ends", "n", "way", "good", "k", "dance", "second", "one"] ["script"] (defScope s_law) := ⟨rfl, rfl, rfl, by decide +kernel, rfl, by decide +kernel, by decide +kernel⟩
/-! ### heaps, tapes, pairs -/
/-- all that was tracked is as it was, but what stands at a -/
def But (a : Addr) (H H' : Hp) : Prop := ∀ b o, b ≠ a → H b = some o → H' b = some o
theorem But.refl (a : Addr) (H : Hp) : But a H H := fun _ _ _ h => h
theorem But.trans {a : Addr} {H H1 H2 : Hp} (x : But a H H1) (y : But a H1 H2) : But a H H2 := fun b o n h => y b o n (x b o n h)
theorem But.of {a : Addr} {H H' : Hp} (x : Same H H') : But a H H' := fun b o _ h => x b o h
theorem But.upd {a : Addr} {H : Hp} {o : HO} : But a H (upd H a o) := fun b u n h => by rw [upd_ne n]; exact h
theorem But.same {a : Addr} {H0 H H' : Hp} (x : But a H H') (s : Same H0 H) (n : H0 a = none) : Same H0 H' := fun b o h => x b o (ne_of_none h n) (s b o h)
theorem same_new {H : Hp} {p : Addr} (h : H p = none) (o : HO) : Same H (L2.upd H p o) := fun b u q => by rw [upd_ne (ne_of_none q h)]; exact q
theorem Same.tup {K : PySem.W.Frag} {H H' : Hp} {a : Addr} {xs : List V} (e : Same H H') (h : SqT K H a xs) : SqT K H' a xs := by
  rcases h with (h | ⟨o, h⟩) | h
  · exact .inl (.inl (e _ _ h))
  · exact .inl (.inr ⟨o, e _ _ h⟩)
  · exact .inr h
def Tape (H : Hp) (a : Addr) : Prop := ∃ (t c s : Int) (b : Bool), H a = some (.lst [.int t, .bl b, .int c, .int s])
theorem Tape.same {H H' : Hp} {a : Addr} (t : Tape H a) (s : Same H H') : Tape H' a := by
  obtain ⟨x, c, y, b, h⟩ := t
  exact ⟨x, c, y, b, s _ _ h⟩
theorem Tape.ne {H : Hp} {a p : Addr} (t : Tape H a) (h : H p = none) : p ≠ a := by
  obtain ⟨x, c, y, b, e⟩ := t
  exact fun z => by rw [z, e] at h; cases h
theorem But.tup {K : PySem.W.Frag} {a : Addr} {H H' : Hp} {p : Addr} {xs : List V} (x : But a H H') (t : Tape H a) (h : SqT K H p xs) : SqT K H' p xs := by
  obtain ⟨y, c, z, b, e⟩ := t
  rcases h with (h | ⟨o, h⟩) | h
  · exact .inl (.inl (x _ _ (ne_of h e (by intro q; cases q)) h))
  · exact .inl (.inr ⟨o, x _ _ (ne_of h e (by intro q; cases q)) h⟩)
  · exact .inr h
/-- a dance: the letters T, U, R -/
def Lets (l : List Nat) : Prop := ∀ c ∈ l, c = 84 ∨ c = 85 ∨ c = 82
theorem atI_mk {α : Type} {xs : List α} {k : Int} (h0 : 0 ≤ k) (h1 : k < (xs.length : Int)) : ∃ v, atI xs k = some v ∧ v ∈ xs := by
  obtain ⟨n, rfl⟩ := Int.eq_ofNat_of_zero_le h0
  have h : n < xs.length := by omega
  exact ⟨xs[n], atI_nat (List.getElem?_eq_getElem h), List.getElem_mem h⟩
theorem atI_ints {ns : List Int} {k : Int} (h0 : 0 ≤ k) (h1 : k < (ns.length : Int)) : ∃ v : Int, atI (ns.map V.int) k = some (.int v) := by
  obtain ⟨v, e, m⟩ := atI_mk (xs := ns.map V.int) h0 (by rw [List.length_map]; exact h1)
  obtain ⟨i, _, rfl⟩ := List.mem_map.mp m
  exact ⟨i, e⟩
/-! ### a def of the text with its promise, ready to be called -/
structure Dfn (P : Program) (w : World) (K : PySem.W.Frag) (mg : Str → Option Value) (base : Heap) (x : Str) (k : Nat) (ps : List Str) (sp : Sp) : Prop where
  ex : ∃ (f : Addr) (fd : FuncData), FnOk P w K mg base CX0 k f fd ps sp ∧ mg x = some (.ref f) ∧ PySem.W.keepIn K (.ref f) = true ∧ Binds K fd ps []
theorem pe_do {X : Cx} {x : Str} {j : Nat} {ps : List Str} {sp : Sp} {e : Expr} {es : List Expr} {t : TA} {p pos : Pos} (D : Dfn X.prog X.w X.K X.mg X.base x j ps sp) (hr : Room j X.A)
    (ha : PA X (e :: es) t) (hg : Gl X x := by rfl) (hdb : (x == ("__debug__" : Str)) = false := by decide) (he : starEach (e :: es) X.env = (false, eval e X.env) :: starEach es X.env := by rfl) (hpl : (backTo pos (starEach es X.env)).any (·.1) = false := by rfl) :
    PE X (.Call (.Name x p) (e :: es) [] pos) (tCall sp [] E0 t) := by
  obtain ⟨f, fd, ok, mg, kp, bd⟩ := D.ex
  exact pe_call ok hr hg mg kp bd .nil pass0 ha hdb he hpl
theorem Dfn.mono {P : Program} {w : World} {K : PySem.W.Frag} {mg : Str → Option Value} {base : Heap} {x : Str} {j k : Nat} {ps : List Str} {sp : Sp} (D : Dfn P w K mg base x j ps sp) (h : j ≤ k) : Dfn P w K mg base x k ps sp := by
  obtain ⟨f, fd, ok, mg, kp, bd⟩ := D.ex
  exact ⟨f, fd, ok.mono h, mg, kp, bd⟩
section
variable {P : Program} {w : World} {K : PySem.W.Frag} {mg : Str → Option Value} {base : Heap} {f : Addr} {fd : FuncData}
/-! ### the tape of a law -/
def spTape (K : PySem.W.Frag) : Sp := fun vs H Q _ => ∃ (a : Addr) (ns : List Int) (k : Int), vs = [.ref a, .int k] ∧ SqL K H a (ns.map V.int) ∧ 0 ≤ k ∧ ∀ p H', Same H H' → H p = none → Tape H' p → Q (.ref p) H'
theorem ok_tape (F : Fun K "_law_tape" "_law_tape" s_law_tape f fd) (ml : mg "len" = none) (ma : mg "abs" = none) (mi : mg "int" = none) : FnOk P w K mg base CX0 1 f fd ["script", "k"] (spTape K) := by
  refine F.ok sc_law_tape (fun vs H Q E h => ?_) (fun cdv A outer s H vs Q E hr h => ?_)
  · obtain ⟨a, ns, k, rfl, _⟩ := h
    rfl
  obtain ⟨a, ns, k, rfl, hS, hk, q⟩ := h
  refine ⟨_, pss_cons (ps_set (i := 2) sc_law_tape.nd rfl (.inl rfl) pe_int)
    (pss_cons (ps_if (pt_cmpR op_lt (pv 1) (pe_callB call_len_seq rfl ml PySem.boot_len (pa_cons (pv 0) pa_nil)) (nomark _))
        (pss_one (ps_set (i := 2) sc_law_tape.nd rfl (.inl rfl) (pe_callB call_abs rfl ma (by decide +kernel) (pa_cons (pe_ix ix_list (pv 0) (pv 1) (fun _ _ => rfl)) pa_nil)))) pss_nil)
    (pss_one (ps_ret (pe_lst (pa_cons (pv 2) (pa_cons (pe_cmpR op_ge (pv 2) (pe_op op_pow pe_int pe_int) (nomark _)) (pa_cons pe_int
      (pa_cons (pe_op op_modN (pe_callTy call_int1 rfl mi (by decide +kernel) (pa_cons (pe_op op_add (pe_op op_mul (pv 2) pe_int) (pv 1)) pa_nil)) pe_int) pa_nil)))))))), ?_⟩
  refine ⟨_, rfl, _, rfl, a, _, rfl, .inl hS, _, _, rfl, rfl, _, rfl, ?_⟩
  refine ite2 (fun c => ?_) (fun c => ?_)
  · have c' : k < (((ns.map V.int).length : Nat) : Int) := of_decide_eq_true c
    rw [List.length_map] at c'
    obtain ⟨v, hv⟩ := atI_ints hk c'
    refine ⟨_, rfl, _, rfl, a, _, _, _, rfl, rfl, hS, hv, _, rfl, ?_⟩
    refine ⟨_, rfl, _, rfl, _, _, rfl, rfl, ⟨by decide, by decide, by decide⟩, _, _, rfl, rfl, _, rfl, _, _, rfl, rfl, .inr ⟨by decide, by decide⟩, _, rfl, _, _, rfl, rfl, .inl ⟨_, rfl, _, _, rfl, rfl, (show (2147483647 : Int) ≠ 0 by decide), ?_⟩⟩
    exact ⟨(by show 4 ≤ sizeLine; decide), fun p hp => q p _ (same_new hp _) hp ⟨_, _, _, _, upd_same⟩⟩
  · refine ⟨_, rfl, _, rfl, _, _, rfl, rfl, ⟨by decide, by decide, by decide⟩, _, _, rfl, rfl, _, rfl, _, _, rfl, rfl, .inr ⟨by decide, by decide⟩, _, rfl, _, _, rfl, rfl, .inl ⟨_, rfl, _, _, rfl, rfl, (show (2147483647 : Int) ≠ 0 by decide), ?_⟩⟩
    exact ⟨(by show 4 ≤ sizeLine; decide), fun p hp => q p _ (same_new hp _) hp ⟨_, _, _, _, upd_same⟩⟩
def spTake : Sp := fun vs H Q _ => ∃ (a : Addr) (m : Int), vs = [.ref a, .int m] ∧ Tape H a ∧ 0 < m ∧ m < 1073741824 ∧ ∀ r H', 0 ≤ r → r < m → But a H H' → Tape H' a → Q (.int r) H'
theorem ok_take (F : Fun K "_law_take" "_law_take" s_law_take f fd) (mi : mg "int" = none) : FnOk P w K mg base CX0 1 f fd ["tape", "many"] spTake := by
  refine F.ok sc_law_take (fun vs H Q E h => ?_) (fun cdv A outer s H vs Q E hr h => ?_)
  · obtain ⟨a, m, rfl, _⟩ := h
    rfl
  obtain ⟨a, m, rfl, ⟨t, c, sd, b, hT⟩, h0, h1, q⟩ := h
  refine ⟨_, pss_cons (ps_if (PW.pt (pw_and (pt_val (pe_ix ix_list (pv 0) pe_int (fun _ _ => rfl))) (pw_and1 (pt_cmpR op_gt (pe_ix ix_list (pv 0) pe_int (fun _ _ => rfl)) pe_int (nomark _)))))
      (pss_cons (ps_set (i := 2) sc_law_take.nd rfl (.inl rfl) (pe_op op_modN (pe_callTy call_int1 rfl mi (by decide +kernel) (pa_cons (pe_ix ix_list (pv 0) pe_int (fun _ _ => rfl)) pa_nil)) (pv 1)))
      (pss_cons (ps_asg (pe_op op_fdivN (pe_ix ix_list (pv 0) pe_int (fun _ _ => rfl)) (pv 1)) (pg_sub (pv 0) pe_int set_list))
      (pss_one (ps_ret (pv 2))))) pss_nil)
    (pss_cons (ps_asg (pe_op op_add (pe_ix ix_list (pv 0) pe_int (fun _ _ => rfl)) pe_int) (pg_sub (pv 0) pe_int set_list))
    (pss_cons (ps_set (i := 3) sc_law_take.nd rfl (.inl rfl) (pe_op op_modN (pe_callTy call_int1 rfl mi (by decide +kernel) (pa_cons (pe_op op_add (pe_op op_add (pe_op op_mul (pe_ix ix_list (pv 0) pe_int (fun _ _ => rfl)) pe_int) (pe_op op_mul (pe_ix ix_list (pv 0) pe_int (fun _ _ => rfl)) pe_int)) pe_int) pa_nil)) pe_int))
    (pss_cons (ps_set (i := 3) sc_law_take.nd rfl (.inl rfl) (pe_op op_modN (pe_callTy call_int1 rfl mi (by decide +kernel) (pa_cons (pe_op op_add (pe_op op_add (pe_op op_mul (pv 3) pe_int) (pe_op op_mul (pe_op op_fdivN (pv 3) pe_int) pe_int)) (pe_ix ix_list (pv 0) pe_int (fun _ _ => rfl))) pa_nil)) pe_int))
    (pss_one (ps_ret (pe_op op_modN (pe_callTy call_int1 rfl mi (by decide +kernel) (pa_cons (pe_op op_fdivN (pv 3) pe_int) pa_nil)) (pv 1))))))), ?_⟩
  have rest : ∀ x : Int, 0 ≤ x.fmod m ∧ x.fmod m < m := fun x => by
    rw [Int.fmod_eq_emod_of_nonneg x (Int.le_of_lt h0)]
    exact ⟨Int.emod_nonneg x (by omega), Int.emod_lt_of_pos x h0⟩
  refine ⟨_, rfl, a, _, _, _, rfl, rfl, SqL.of hT, rfl, b, rfl, ?_⟩
  refine ite2 (fun hb => ?_) (fun hb => ?_)
  · refine ⟨_, rfl, a, _, _, _, rfl, rfl, SqL.of hT, rfl, _, _, rfl, rfl, _, rfl, ?_⟩
    refine ite2 (fun hc => ?_) (fun hc => ?_)
    · refine ⟨_, rfl, a, _, _, _, rfl, rfl, SqL.of hT, rfl, .inl ⟨_, rfl, _, rfl, _, _, rfl, rfl, (show m ≠ 0 by omega), ?_⟩⟩
      refine ⟨_, rfl, a, _, _, _, rfl, rfl, SqL.of hT, rfl, _, rfl, _, _, rfl, rfl, (show m ≠ 0 ∧ m.natAbs < 1073741824 by omega), _, rfl, a, _, _, _, rfl, rfl, hT, rfl, ?_⟩
      exact ⟨_, rfl, q _ _ (rest _).1 (rest _).2 But.upd ⟨_, _, _, _, upd_same⟩⟩
    · refine ⟨_, rfl, a, _, _, _, rfl, rfl, SqL.of hT, rfl, _, _, rfl, rfl, _, rfl, a, _, _, _, rfl, rfl, hT, rfl, ?_⟩
      refine ⟨_, rfl, a, _, _, _, rfl, rfl, SqL.of upd_same, rfl, _, _, rfl, rfl, .inr ⟨by decide, by decide⟩, _, rfl, a, _, _, _, rfl, rfl, SqL.of upd_same, rfl, _, _, rfl, rfl, .inr ⟨by decide, by decide⟩, _, _, rfl, rfl, _, _, rfl, rfl, .inl ⟨_, rfl, _, _, rfl, rfl, (show (2147483647 : Int) ≠ 0 by decide), ?_⟩⟩
      refine ⟨_, rfl, _, _, rfl, rfl, .inr ⟨by decide, by decide⟩, _, rfl, _, _, rfl, rfl, ⟨by decide, by decide⟩, _, _, rfl, rfl, .inr ⟨by decide, by decide⟩, _, _, rfl, rfl, _, rfl, a, _, _, _, rfl, rfl, SqL.of upd_same, rfl, _, _, rfl, rfl, .inl ⟨_, rfl, _, _, rfl, rfl, (show (2147483399 : Int) ≠ 0 by decide), ?_⟩⟩
      exact ⟨_, rfl, _, _, rfl, rfl, ⟨by decide, by decide⟩, .inl ⟨_, rfl, _, rfl, _, _, rfl, rfl, (show m ≠ 0 by omega), q _ _ (rest _).1 (rest _).2 But.upd ⟨_, _, _, _, upd_same⟩⟩⟩
  · refine ⟨_, rfl, a, _, _, _, rfl, rfl, SqL.of hT, rfl, _, _, rfl, rfl, _, rfl, a, _, _, _, rfl, rfl, hT, rfl, ?_⟩
    refine ⟨_, rfl, a, _, _, _, rfl, rfl, SqL.of upd_same, rfl, _, _, rfl, rfl, .inr ⟨by decide, by decide⟩, _, rfl, a, _, _, _, rfl, rfl, SqL.of upd_same, rfl, _, _, rfl, rfl, .inr ⟨by decide, by decide⟩, _, _, rfl, rfl, _, _, rfl, rfl, .inl ⟨_, rfl, _, _, rfl, rfl, (show (2147483647 : Int) ≠ 0 by decide), ?_⟩⟩
    refine ⟨_, rfl, _, _, rfl, rfl, .inr ⟨by decide, by decide⟩, _, rfl, _, _, rfl, rfl, ⟨by decide, by decide⟩, _, _, rfl, rfl, .inr ⟨by decide, by decide⟩, _, _, rfl, rfl, _, rfl, a, _, _, _, rfl, rfl, SqL.of upd_same, rfl, _, _, rfl, rfl, .inl ⟨_, rfl, _, _, rfl, rfl, (show (2147483399 : Int) ≠ 0 by decide), ?_⟩⟩
    exact ⟨_, rfl, _, _, rfl, rfl, ⟨by decide, by decide⟩, .inl ⟨_, rfl, _, rfl, _, _, rfl, rfl, (show m ≠ 0 by omega), q _ _ (rest _).1 (rest _).2 But.upd ⟨_, _, _, _, upd_same⟩⟩⟩
/-! ### dances, fractions -/
theorem six_letters {r : Int} (h0 : 0 ≤ r) (h1 : r < 6) : ∃ c, atI (("TTUURR" : Str)).cps.toList r = some c ∧ (c = 84 ∨ c = 85 ∨ c = 82) := by
  have e : (("TTUURR" : Str)).cps.toList = [84, 84, 85, 85, 82, 82] := by decide +kernel
  rw [e]
  obtain ⟨c, hc, m⟩ := atI_mk (xs := [84, 84, 85, 85, 82, 82]) h0 h1
  refine ⟨c, hc, ?_⟩
  simp at m
  omega
theorem four_sizes {r : Int} (h0 : 0 ≤ r) (h1 : r < 4) : ∃ z : Int, atI [V.int 1, .int 1, .int 3, .int 9] r = some (.int z) ∧ 1 ≤ z ∧ z ≤ 9 := by
  obtain ⟨c, hc, m⟩ := atI_mk (xs := [V.int 1, .int 1, .int 3, .int 9]) h0 h1
  simp at m
  rcases m with rfl | rfl | rfl
  · exact ⟨1, hc, by decide, by decide⟩
  · exact ⟨3, hc, by decide, by decide⟩
  · exact ⟨9, hc, by decide, by decide⟩
theorem e_empty : (("" : Str)) = S [] := by decide +kernel
theorem sizeLine_big : 16777216 ≤ sizeLine := by rw [sizeLine_eq]; decide
theorem fits {n : Nat} (h : n ≤ 16777216) : n ≤ sizeLine := Nat.le_trans h sizeLine_big
def spDance : Sp := fun vs H Q _ => ∃ (a : Addr) (m : Int), vs = [.ref a, .int m] ∧ Tape H a ∧ 0 ≤ m ∧ m ≤ 1000 ∧ ∀ l H', Lets l → (l.length : Int) ≤ m → But a H H' → Tape H' a → Q (.str (S l)) H'
theorem ok_dance (F : Fun K "_law_dance" "_law_dance" s_law_dance f fd) (DT : Dfn P w K mg base "_law_take" 1 ["tape", "many"] spTake) (mr : mg "range" = none) : FnOk P w K mg base CX0 2 f fd ["tape", "most"] spDance := by
  refine F.ok sc_law_dance (fun vs H Q E h => ?_) (fun cdv A outer s H vs Q E hr h => ?_)
  · obtain ⟨a, m, rfl, _⟩ := h
    rfl
  obtain ⟨a, m, rfl, hT, h0, h1, q⟩ := h
  refine ⟨_, pss_cons (ps_set (i := 2) sc_law_dance.nd rfl (.inl rfl) pe_str)
    (pss_cons (ps_set (i := 3) sc_law_dance.nd rfl (.inl rfl) (pe_ix ix_list (pe_lst (pa_cons pe_int (pa_cons pe_int (pa_cons pe_int (pa_cons pe_int pa_nil))))) (pe_do DT hr (pa_cons (pv 0) (pa_cons pe_int pa_nil))) (fun _ _ => rfl)))
    (pss_cons (ps_for PassesOwn.never rfl (pi_range1 rfl mr (pa_cons (pe_do DT hr (pa_cons (pv 0) (pa_cons (pe_op op_add (pv 1) pe_int) pa_nil))) pa_nil)) (pg_name (i := 4) sc_law_dance.nd rfl (.inl rfl))
      (pss_one (ps_set (i := 2) sc_law_dance.nd rfl (.inl rfl) (pe_op op_add_str (pv 2) (pe_op op_mul_str (pe_ix ix_str pe_str (pe_do DT hr (pa_cons (pv 0) (pa_cons pe_int pa_nil))) (fun _ _ => rfl))
        (pe_op op_add pe_int (pe_do DT hr (pa_cons (pv 0) (pa_cons (pv 3) pa_nil)))))))))
    (pss_one (ps_ret (pe_slice sl_str (pv 2) po_none (po_some (pv 1))))))), ?_⟩
  refine ⟨(by show 4 ≤ sizeLine; exact fits (by decide)), fun p hp => ?_⟩
  have np := hT.ne hp
  refine ⟨_, rfl, a, 4, rfl, hT.same (same_new hp _), by decide, by decide, fun r H1 r0 r1 b1 t1 => ?_⟩
  obtain ⟨z, hz, z1, z9⟩ := four_sizes r0 r1
  refine ⟨p, _, _, _, rfl, rfl, SqL.of (b1 _ _ np upd_same), hz, ?_⟩
  have B1 : But a H H1 := (But.of (same_new hp _)).trans b1
  refine ⟨_, rfl, _, rfl, _, _, rfl, rfl, a, _, rfl, t1, (show 0 < m + 1 by omega), (show m + 1 < 1073741824 by omega), fun r2 H2 r20 r21 b2 t2 => ?_⟩
  refine ⟨r2, rfl, by omega, by omega, for_range (lo := 0) (n := r2.toNat) (fun i σ H' => ∃ (l : List Nat) (v : Option V), σ = [some (.ref a), some (.int m), some (.str (S l)), some (.int z), v] ∧ Lets l ∧ l.length ≤ 9 * i ∧ But a H H' ∧ Tape H' a) ?_ ?_ ?_⟩
  · exact ⟨[], none, by rw [← e_empty]; rfl, fun _ h => (by cases h), Nat.zero_le _, B1.trans b2, t2⟩
  · rintro i σ H' hi ⟨l, v, rfl, hl, hz2, bt, tp⟩
    refine ⟨_, rfl, _, rfl, a, 6, rfl, tp, by decide, by decide, fun r3 H3 r30 r31 b3 t3 => ?_⟩
    obtain ⟨c, hc, hcl⟩ := six_letters r30 r31
    refine ⟨_, _, c, rfl, rfl, (fits (by decide +kernel)), hc, _, rfl, _, rfl, a, z, rfl, t3, by omega, by omega, fun r4 H4 r40 r41 b4 t4 => ?_⟩
    have hn : (1 + r4).toNat ≤ 9 := by omega
    refine ⟨_, _, rfl, rfl, [c], 1 + r4, rfl, rfl, by omega, by omega, by simp only [List.length_singleton]; omega, _, _, rfl, rfl, ?_, ?_⟩
    · rw [S_len, S_len]
      refine fits ?_
      rw [List.length_flatten, List.map_replicate, List.sum_replicate_nat]
      simp only [List.length_singleton]
      omega
    · refine ⟨l ++ (List.replicate (1 + r4).toNat [c]).flatten, _, by rw [S_app]; rfl, fun x hx => ?_, ?_, (bt.trans b3).trans b4, t4⟩
      · rcases List.mem_append.mp hx with hx | hx
        · exact hl x hx
        · obtain ⟨y, hy, hxy⟩ := List.mem_flatten.mp hx
          rw [(List.mem_replicate.mp hy).2] at hxy
          rw [List.mem_singleton.mp hxy]
          exact hcl
      · rw [List.length_append, List.length_flatten, List.map_replicate, List.sum_replicate_nat]
        simp only [List.length_singleton]
        omega
  · rintro σ H' ⟨l, v, rfl, hl, hz2, bt, tp⟩
    refine ⟨_, rfl, _, rfl, _, rfl, _, rfl, (by rw [S_len]; exact fits (by omega)), ?_⟩
    rw [S_take l h0]
    refine q _ _ (fun x hx => hl x (List.mem_of_mem_take hx)) ?_ bt tp
    rw [List.length_take]
    omega
end
section
variable {P : Program} {w : World} {K : PySem.W.Frag} {mg : Str → Option Value} {base : Heap} {f : Addr} {fd : FuncData}
/-! ### the same data -/
inductive Dt where
  | int (i : Int) | str (z : Str) | non | tup (xs : List Dt) | lst (xs : List Dt)
/-- v stands for d, in at most n levels -/
def Is (H : Hp) : Nat → V → Dt → Prop
  | _, v, .int i => v = .int i
  | _, v, .str z => v = .str z
  | _, v, .non => v = .non
  | 0, _, .tup _ => False
  | 0, _, .lst _ => False
  | n + 1, v, .tup ds => ∃ (a : Addr) (xs : List V), v = .ref a ∧ H a = some (.tup xs) ∧ xs.length = ds.length ∧ ds.length ≤ 1000000 ∧ ∀ (i : Nat) (x : V) (d : Dt), xs[i]? = some x → ds[i]? = some d → Is H n x d
  | n + 1, v, .lst ds => ∃ (a : Addr) (xs : List V), v = .ref a ∧ H a = some (.lst xs) ∧ xs.length = ds.length ∧ ds.length ≤ 1000000 ∧ ∀ (i : Nat) (x : V) (d : Dt), xs[i]? = some x → ds[i]? = some d → Is H n x d
def spSame : Nat → Sp
  | 0 => fun _ _ _ _ => False
  | n + 1 => fun vs H Q _ => ∃ (x y : V) (d : Dt), vs = [x, y] ∧ Is H n x d ∧ Is H n y d ∧ Q (.bl true) H
theorem ok_same {n : Nat} (F : Fun K "_law_same" "_law_same" s_law_same f fd) (DS : Dfn P w K mg base "_law_same" n ["told", "due"] (spSame n)) (mI : mg "isinstance" = none) (mT : mg "tuple" = none) (mL : mg "list" = none) (ml : mg "len" = none) (mr : mg "range" = none)
    (ms : mg "str" = none) (mi : mg "int" = none) (mb : mg "bool" = none) : FnOk P w K mg base CX0 (n + 1) f fd ["told", "due"] (spSame (n + 1)) := by
  refine F.ok sc_law_same (fun vs H Q E h => ?_) (fun cdv A outer s H vs Q E hr h => ?_)
  · obtain ⟨x, y, d, rfl, _⟩ := h
    rfl
  obtain ⟨x, y, d, rfl, hx, hy, q⟩ := h
  have bT : bootBuiltins "tuple" = some (.type "tuple") := by decide +kernel
  have bL : bootBuiltins "list" = some (.type "list") := by decide +kernel
  have bS : bootBuiltins "str" = some (.type "str") := by decide +kernel
  have bI : bootBuiltins "int" = some (.type "int") := by decide +kernel
  have bB : bootBuiltins "bool" = some (.type "bool") := by decide +kernel
  have bi : bootBuiltins "isinstance" = some (.builtin "isinstance") := by decide +kernel
  refine ⟨_, pss_cons (ps_if (PW.pt (pw_or (pt_val (pe_callB call_isi rfl mI bi (pa_cons (pv 1) (pa_cons (pe_bltn (v := .ty "tuple") rfl mT bT rfl) pa_nil)))) (pw_or1 (pt_val (pe_callB call_isi rfl mI bi (pa_cons (pv 1) (pa_cons (pe_bltn (v := .ty "list") rfl mL bL rfl) pa_nil)))))))
      (pss_cons (ps_if (PW.pt (pw_or (pt_cmpR op_ne (pe_callB call_isi rfl mI bi (pa_cons (pv 1) (pa_cons (pe_bltn (v := .ty "tuple") rfl mT bT rfl) pa_nil))) (pe_callB call_isi rfl mI bi (pa_cons (pv 0) (pa_cons (pe_bltn (v := .ty "tuple") rfl mT bT rfl) pa_nil))) (nomark _))
          (pw_or1 (pt_cmpR op_ne (pe_callB call_isi rfl mI bi (pa_cons (pv 1) (pa_cons (pe_bltn (v := .ty "list") rfl mL bL rfl) pa_nil))) (pe_callB call_isi rfl mI bi (pa_cons (pv 0) (pa_cons (pe_bltn (v := .ty "list") rfl mL bL rfl) pa_nil))) (nomark _)))))
        (pss_one (ps_ret pe_bl)) pss_nil)
      (pss_cons (ps_if (pt_cmpR op_ne (pe_callB call_len_seq rfl ml PySem.boot_len (pa_cons (pv 0) pa_nil)) (pe_callB call_len_seq rfl ml PySem.boot_len (pa_cons (pv 1) pa_nil)) (nomark _)) (pss_one (ps_ret pe_bl)) pss_nil)
      (pss_cons (ps_for PassesOwn.never rfl (pi_range1 rfl mr (pa_cons (pe_callB call_len_seq rfl ml PySem.boot_len (pa_cons (pv 1) pa_nil)) pa_nil)) (pg_name (i := 2) sc_law_same.nd rfl (.inl rfl))
        (pss_one (ps_if (pt_not (pt_val (pe_do DS hr (pa_cons (pe_ix ix_seq (pv 0) (pv 2) (fun _ _ => rfl)) (pa_cons (pe_ix ix_seq (pv 1) (pv 2) (fun _ _ => rfl)) pa_nil))))) (pss_one (ps_ret pe_bl)) pss_nil)))
      (pss_one (ps_ret pe_bl))))) pss_nil)
    (pss_cons (ps_if (pt_cmpR op_isN (pv 1) pe_non (nomark _)) (pss_one (ps_ret (pe_cmpR op_isN (pv 0) pe_non (nomark _)))) pss_nil)
    (pss_cons (ps_if (pt_val (pe_callB call_isi rfl mI bi (pa_cons (pv 1) (pa_cons (pe_bltn (v := .ty "str") rfl ms bS rfl) pa_nil))))
      (pss_one (ps_ret (pe_and (pe_callB call_isi rfl mI bi (pa_cons (pv 0) (pa_cons (pe_bltn (v := .ty "str") rfl ms bS rfl) pa_nil))) (pe_one (pe_cmpR op_eq (pv 0) (pv 1) (nomark _)))))) pss_nil)
    (pss_one (ps_ret (pe_and (pe_callB call_isi rfl mI bi (pa_cons (pv 0) (pa_cons (pe_bltn (v := .ty "int") rfl mi bI rfl) pa_nil)))
      (pe_and (pe_not (pe_callB call_isi rfl mI bi (pa_cons (pv 0) (pa_cons (pe_bltn (v := .ty "bool") rfl mb bB rfl) pa_nil)))) (pe_one (pe_cmpR op_eq (pv 0) (pv 1) (nomark _))))))))), ?_⟩
  have isn : ∀ (a b : String) (r : Bool), kitB a b = some r → PySem.W.kitOne K (.type a) (.type b) = some r := fun a b r h => kit_ty h
  cases d with
  | int i =>
    cases (show x = .int i by cases n <;> exact hx)
    cases (show y = .int i by cases n <;> exact hy)
    refine ⟨_, rfl, _, _, _, _, false, rfl, .ty _, .base (.int _), kit_ty (by decide +kernel), _, rfl, iteF ?_⟩
    refine ⟨_, rfl, _, _, _, _, false, rfl, .ty _, .base (.int _), kit_ty (by decide +kernel), _, rfl, iteF ?_⟩
    refine ⟨_, rfl, rfl, _, rfl, iteF ?_⟩
    refine ⟨_, rfl, _, _, _, _, false, rfl, .ty _, .base (.int _), kit_ty (by decide +kernel), _, rfl, iteF ?_⟩
    refine ⟨_, rfl, _, _, _, _, true, rfl, .ty _, .base (.int _), kit_ty (by decide +kernel), _, rfl, iteT ?_⟩
    refine ⟨_, rfl, _, _, _, _, false, rfl, .ty _, .base (.int _), kit_ty (by decide +kernel), _, rfl, _, rfl, iteT ?_⟩
    refine ⟨_, rfl, _, rfl, rfl, ?_⟩
    rw [decide_eq_true rfl]
    exact q
  | str z =>
    cases (show x = .str z by cases n <;> exact hx)
    cases (show y = .str z by cases n <;> exact hy)
    refine ⟨_, rfl, _, _, _, _, false, rfl, .ty _, .base (.str _), kit_ty (by decide +kernel), _, rfl, iteF ?_⟩
    refine ⟨_, rfl, _, _, _, _, false, rfl, .ty _, .base (.str _), kit_ty (by decide +kernel), _, rfl, iteF ?_⟩
    refine ⟨_, rfl, rfl, _, rfl, iteF ?_⟩
    refine ⟨_, rfl, _, _, _, _, true, rfl, .ty _, .base (.str _), kit_ty (by decide +kernel), _, rfl, iteT ?_⟩
    refine ⟨_, rfl, _, _, _, _, true, rfl, .ty _, .base (.str _), kit_ty (by decide +kernel), _, rfl, iteT ?_⟩
    refine ⟨_, rfl, _, rfl, rfl, ?_⟩
    rw [decide_eq_true rfl]
    exact q
  | non =>
    cases (show x = .non by cases n <;> exact hx)
    cases (show y = .non by cases n <;> exact hy)
    refine ⟨_, rfl, _, _, _, _, false, rfl, .ty _, .base .non, kit_ty (by decide +kernel), _, rfl, iteF ?_⟩
    refine ⟨_, rfl, _, _, _, _, false, rfl, .ty _, .base .non, kit_ty (by decide +kernel), _, rfl, iteF ?_⟩
    exact ⟨_, rfl, rfl, _, rfl, iteT ⟨_, rfl, rfl, q⟩⟩
  | tup ds =>
    cases n with
    | zero => exact hx.elim
    | succ n =>
      obtain ⟨a, xs, rfl, ha, la, ln, ka⟩ := hx
      obtain ⟨b, ys, rfl, hb, lb, _, kb⟩ := hy
      refine ⟨_, rfl, _, _, _, _, true, rfl, .ty _, .base (.tup hb), kit_ty (by decide +kernel), _, rfl, iteT ?_⟩
      refine ⟨_, rfl, _, _, _, _, true, rfl, .ty _, .base (.tup hb), kit_ty (by decide +kernel), _, rfl, _, _, _, _, true, rfl, .ty _, .base (.tup ha), kit_ty (by decide +kernel), rfl, _, rfl, iteF ?_⟩
      refine ⟨_, rfl, _, _, _, _, false, rfl, .ty _, .base (.tup hb), kit_ty (by decide +kernel), _, rfl, _, _, _, _, false, rfl, .ty _, .base (.tup ha), kit_ty (by decide +kernel), rfl, _, rfl, iteF ?_⟩
      refine ⟨_, rfl, a, xs, rfl, .inr (SqT.of ha), _, rfl, b, ys, rfl, .inr (SqT.of hb), rfl, _, rfl, ?_⟩
      rw [show (decide (V.int (xs.length : Int) = V.int (ys.length : Int))) = true from decide_eq_true (by rw [la, lb])]
      refine iteF ?_
      refine ⟨_, rfl, b, ys, rfl, .inr (SqT.of hb), (ys.length : Int), rfl, by omega, by omega, for_range (lo := 0) (n := (ys.length : Int).toNat) (fun i σ H' => H' = H ∧ ∃ v, σ = [some (.ref a), some (.ref b), v]) ⟨rfl, none, rfl⟩ ?_ ?_⟩
      · rintro i σ _ hi ⟨rfl, v, rfl⟩
        have hi1 : i < ys.length := by omega
        have hi2 : i < xs.length := by omega
        have hi3 : i < ds.length := by omega
        refine ⟨_, rfl, _, rfl, .inr (.inl ⟨a, xs, _, _, rfl, rfl, SqT.of ha, at_of (j := i) (by omega) (List.getElem?_eq_getElem hi2), ?_⟩)⟩
        refine ⟨_, rfl, _, rfl, .inr (.inl ⟨b, ys, _, _, rfl, rfl, SqT.of hb, at_of (j := i) (by omega) (List.getElem?_eq_getElem hi1), ?_⟩)⟩
        refine ⟨_, _, ds[i], rfl, ka i _ _ (List.getElem?_eq_getElem hi2) (List.getElem?_eq_getElem hi3), kb i _ _ (List.getElem?_eq_getElem hi1) (List.getElem?_eq_getElem hi3), _, rfl, iteF ⟨rfl, _, rfl⟩⟩
      · rintro σ _ ⟨rfl, v, rfl⟩
        exact q
  | lst ds =>
    cases n with
    | zero => exact hx.elim
    | succ n =>
      obtain ⟨a, xs, rfl, ha, la, ln, ka⟩ := hx
      obtain ⟨b, ys, rfl, hb, lb, _, kb⟩ := hy
      refine ⟨_, rfl, _, _, _, _, false, rfl, .ty _, .base (.lst hb), kit_ty (by decide +kernel), _, rfl, iteF ?_⟩
      refine ⟨_, rfl, _, _, _, _, true, rfl, .ty _, .base (.lst hb), kit_ty (by decide +kernel), _, rfl, iteT ?_⟩
      refine ⟨_, rfl, _, _, _, _, false, rfl, .ty _, .base (.lst hb), kit_ty (by decide +kernel), _, rfl, _, _, _, _, false, rfl, .ty _, .base (.lst ha), kit_ty (by decide +kernel), rfl, _, rfl, iteF ?_⟩
      refine ⟨_, rfl, _, _, _, _, true, rfl, .ty _, .base (.lst hb), kit_ty (by decide +kernel), _, rfl, _, _, _, _, true, rfl, .ty _, .base (.lst ha), kit_ty (by decide +kernel), rfl, _, rfl, iteF ?_⟩
      refine ⟨_, rfl, a, xs, rfl, .inl (SqL.of ha), _, rfl, b, ys, rfl, .inl (SqL.of hb), rfl, _, rfl, ?_⟩
      rw [show (decide (V.int (xs.length : Int) = V.int (ys.length : Int))) = true from decide_eq_true (by rw [la, lb])]
      refine iteF ?_
      refine ⟨_, rfl, b, ys, rfl, .inl (SqL.of hb), (ys.length : Int), rfl, by omega, by omega, for_range (lo := 0) (n := (ys.length : Int).toNat) (fun i σ H' => H' = H ∧ ∃ v, σ = [some (.ref a), some (.ref b), v]) ⟨rfl, none, rfl⟩ ?_ ?_⟩
      · rintro i σ _ hi ⟨rfl, v, rfl⟩
        have hi1 : i < ys.length := by omega
        have hi2 : i < xs.length := by omega
        have hi3 : i < ds.length := by omega
        refine ⟨_, rfl, _, rfl, .inl ⟨a, xs, _, _, rfl, rfl, SqL.of ha, at_of (j := i) (by omega) (List.getElem?_eq_getElem hi2), ?_⟩⟩
        refine ⟨_, rfl, _, rfl, .inl ⟨b, ys, _, _, rfl, rfl, SqL.of hb, at_of (j := i) (by omega) (List.getElem?_eq_getElem hi1), ?_⟩⟩
        refine ⟨_, _, ds[i], rfl, ka i _ _ (List.getElem?_eq_getElem hi2) (List.getElem?_eq_getElem hi3), kb i _ _ (List.getElem?_eq_getElem hi1) (List.getElem?_eq_getElem hi3), _, rfl, iteF ⟨rfl, _, rfl⟩⟩
      · rintro σ _ ⟨rfl, v, rfl⟩
        exact q
theorem none_same : FnOk P w K mg base CX0 0 f fd ["told", "due"] (spSame 0) := by
  have no : ∀ vs H Q E, ¬ spSame 0 vs H Q E := fun vs H Q E h => h
  exact ⟨fun vs H Q E h => absurd h (no vs H Q E), fun A outer s H args us vs Q E _ _ _ _ h => absurd h (no vs H Q E)⟩
end
theorem sign_eq {c n : Nat} {z : Str} (e : z = S [n]) : (V.str (S [c]) = V.str z) ↔ c = n := by
  subst e
  constructor
  · intro h
    have := S_inj (V.str.inj h)
    simpa using this
  · rintro rfl; rfl
theorem e_T : (("T" : Str)) = S [84] := by decide +kernel
theorem e_U : (("U" : Str)) = S [85] := by decide +kernel
theorem e_R : (("R" : Str)) = S [82] := by decide +kernel
def Tup2 (H : Hp) (t : Addr) (v : Int × Int) : Prop := H t = some (.tup [.int v.1, .int v.2])
theorem Tup2.same {H H' : Hp} {t : Addr} {v : Int × Int} (h : Tup2 H t v) (s : Same H H') : Tup2 H' t v := s _ _ h
theorem Tup2.but {H H' : Hp} {a t : Addr} {v : Int × Int} (h : Tup2 H t v) (s : But a H H') (tp : Tape H a) : Tup2 H' t v := by
  obtain ⟨y, c, z, b, e⟩ := tp
  exact s _ _ (ne_of h e (by intro q; cases q)) h
section
variable {P : Program} {w : World} {K : PySem.W.Frag} {mg : Str → Option Value} {base : Heap} {f : Addr} {fd : FuncData}
/-! ### the program: turned, after -/
def spTurned : Sp := fun vs H Q _ => ∃ p q' : Int, vs = [.int p, .int q'] ∧ ∀ t' H', Same H H' → Tup2 H' t' (called (p, q') 82) → Q (.ref t') H'
theorem ok_turned (F : Fun K "turned" "turned" s_turned f fd) : FnOk P w K mg base CX0 1 f fd ["p", "q"] spTurned := by
  refine F.ok sc_turned (fun vs H Q E h => ?_) (fun cdv A outer s H vs Q E hr h => ?_)
  · obtain ⟨p, q', rfl, _⟩ := h
    rfl
  obtain ⟨p, q', rfl, q⟩ := h
  refine ⟨_, pss_cons (ps_if (pt_cmpR op_eq (pv 0) pe_int (nomark _)) (pss_one (ps_ret (pe_tup (pa_cons pe_int (pa_cons pe_int pa_nil))))) pss_nil)
    (pss_cons (ps_if (pt_cmpR op_lt (pv 0) pe_int (nomark _)) (pss_one (ps_ret (pe_tup (pa_cons (pv 1) (pa_cons (pe_un un_neg (pv 0)) pa_nil))))) pss_nil)
    (pss_one (ps_ret (pe_tup (pa_cons (pe_un un_neg (pv 1)) (pa_cons (pv 0) pa_nil)))))), ?_⟩
  have two : 2 ≤ sizeLine := fits (by decide)
  have e1 : ¬ (82 : Nat) = 84 := by decide
  have e2 : ¬ (82 : Nat) = 85 := by decide
  refine ⟨_, rfl, rfl, _, rfl, ite2 (fun c1 => ?_) (fun c1 => ?_)⟩
  · have k1 : p = 0 := V.int.inj (of_decide_eq_true c1)
    subst k1
    refine ⟨two, fun n hn => q n _ (same_new hn _) ?_⟩
    unfold Tup2 called
    rw [upd_same, if_neg e1, if_neg e2, if_neg (show ¬ (0 : Int) < 0 by decide), if_neg (show ¬ (0 : Int) < 0 by decide)]
  have k1 : ¬ p = 0 := fun z => c1 (decide_eq_true (by rw [z]))
  refine ⟨_, rfl, _, _, rfl, rfl, _, rfl, ite2 (fun c2 => ?_) (fun c2 => ?_)⟩
  · have k2 : p < 0 := of_decide_eq_true c2
    refine ⟨_, rfl, _, rfl, _, rfl, two, fun n hn => q n _ (same_new hn _) ?_⟩
    unfold Tup2 called
    rw [upd_same, if_neg e1, if_neg e2, if_neg (show ¬ (0 : Int) < p by omega), if_pos k2, Int.zero_sub]
  have k2 : ¬ p < 0 := fun z => c2 (decide_eq_true z)
  refine ⟨_, rfl, _, rfl, _, rfl, two, fun n hn => q n _ (same_new hn _) ?_⟩
  unfold Tup2 called
  rw [upd_same, if_neg e1, if_neg e2, if_pos (show (0 : Int) < p by omega), Int.zero_sub]
theorem called_other {v : Int × Int} {c : Nat} (h1 : ¬ c = 84) (h2 : ¬ c = 85) : called v c = called v 82 := by
  unfold called
  rw [if_neg h1, if_neg h2, if_neg (show ¬ (82 : Nat) = 84 by decide), if_neg (show ¬ (82 : Nat) = 85 by decide)]
def spAfter : Sp := fun vs H Q _ => ∃ (t : Addr) (v : Int × Int) (l : List Nat), vs = [.ref t, .str (S l)] ∧ Tup2 H t v ∧ ∀ t' H', Same H H' → Tup2 H' t' (run v l) → Q (.ref t') H'
theorem ok_after (F : Fun K "after" "after" s_after f fd) (DT : Dfn P w K mg base "turned" 1 ["p", "q"] spTurned) : FnOk P w K mg base CX0 2 f fd ["fraction", "dance"] spAfter := by
  refine F.ok sc_after (fun vs H Q E h => ?_) (fun cdv A outer s H vs Q E hr h => ?_)
  · obtain ⟨t, v, l, rfl, _⟩ := h
    rfl
  obtain ⟨t, v, l, rfl, hT, q⟩ := h
  refine ⟨_, pss_cons (ps_asg (pv 0) (pg_tup (by rfl) (pgs_cons (pg_name (i := 2) sc_after.nd rfl (.inl rfl)) (pgs_cons (pg_name (i := 3) sc_after.nd rfl (.inl rfl)) pgs_nil))))
    (pss_cons (ps_for PassesOwn.never rfl (pi_str (pv 1)) (pg_name (i := 4) sc_after.nd rfl (.inl rfl))
      (pss_one (ps_if (pt_cmpR op_eq (pv 4) pe_str (nomark _)) (pss_one (ps_aug (i := 2) sc_after.nd rfl (.inl rfl) (pv 3) ip_add))
        (pss_one (ps_if (pt_cmpR op_eq (pv 4) pe_str (nomark _)) (pss_one (ps_aug (i := 2) sc_after.nd rfl (.inl rfl) (pv 3) ip_sub))
          (pss_one (ps_asg (pe_do DT hr (pa_cons (pv 2) (pa_cons (pv 3) pa_nil))) (pg_tup (by rfl) (pgs_cons (pg_name (i := 2) sc_after.nd rfl (.inl rfl)) (pgs_cons (pg_name (i := 3) sc_after.nd rfl (.inl rfl)) pgs_nil))))))))))
    (pss_one (ps_ret (pe_tup (pa_cons (pv 2) (pa_cons (pv 3) pa_nil)))))), ?_⟩
  refine ⟨_, rfl, t, _, rfl, SqT.of hT, rfl, _, _, rfl, _, _, rfl, rfl, ?_⟩
  refine ⟨_, rfl, _, rfl, for_str (l := l) (fun i σ H' => ∃ (x : Option V), σ = [some (.ref t), some (.str (S l)), some (.int (run v (l.take i)).1), some (.int (run v (l.take i)).2), x] ∧ Same H H') ?_ ?_ ?_⟩
  · exact ⟨none, rfl, Same.refl H⟩
  · rintro i c σ H' hc ⟨x, rfl, sm⟩
    have st := run_take v hc
    generalize run v (l.take i) = u at *
    obtain ⟨p, q'⟩ := u
    refine ⟨_, rfl, rfl, _, rfl, ite2 (fun c1 => ?_) (fun c1 => ?_)⟩
    · have k1 : c = 84 := (sign_eq e_T).mp (of_decide_eq_true c1)
      refine ⟨_, rfl, _, rfl, _, _, rfl, rfl, some (.str (S [c])), ?_, sm⟩
      rw [st]
      unfold called
      rw [if_pos k1]
      rfl
    have k1 : ¬ c = 84 := fun z => c1 (decide_eq_true ((sign_eq e_T).mpr z))
    refine ⟨_, rfl, rfl, _, rfl, ite2 (fun c2 => ?_) (fun c2 => ?_)⟩
    · have k2 : c = 85 := (sign_eq e_U).mp (of_decide_eq_true c2)
      refine ⟨_, rfl, _, rfl, _, _, rfl, rfl, some (.str (S [c])), ?_, sm⟩
      rw [st]
      unfold called
      rw [if_neg k1, if_pos k2]
      rfl
    have k2 : ¬ c = 85 := fun z => c2 (decide_eq_true ((sign_eq e_U).mpr z))
    refine ⟨_, rfl, _, rfl, p, q', rfl, fun t' H2 s2 tt => ?_⟩
    refine ⟨t', _, rfl, SqT.of tt, rfl, _, _, rfl, _, _, rfl, rfl, some (.str (S [c])), ?_, sm.trans s2⟩
    rw [st, called_other k1 k2]
    rfl
  · rintro σ H' ⟨x, rfl, sm⟩
    rw [List.take_of_length_le (Nat.le_refl _)]
    exact ⟨_, rfl, _, rfl, fits (by show 2 ≤ 16777216; decide), fun n hn => q n _ (sm.trans (same_new hn _)) upd_same⟩
end
section
theorem int_is {H : Hp} {n : Nat} {i : Int} : Is H n (.int i) (.int i) := by cases n <;> rfl
theorem str_is {H : Hp} {n : Nat} {z : Str} : Is H n (.str z) (.str z) := by cases n <;> rfl
theorem is_tup {H : Hp} {n : Nat} {a : Addr} {xs : List V} {ds : List Dt} (h : H a = some (.tup xs)) (z : xs.length = ds.length) (m : ds.length ≤ 1000000) (k : ∀ (i : Nat) (x : V) (d : Dt), xs[i]? = some x → ds[i]? = some d → Is H n x d) : Is H (n + 1) (.ref a) (.tup ds) := ⟨a, xs, rfl, h, z, m, k⟩
theorem is_lst {H : Hp} {n : Nat} {a : Addr} {xs : List V} {ds : List Dt} (h : H a = some (.lst xs)) (z : xs.length = ds.length) (m : ds.length ≤ 1000000) (k : ∀ (i : Nat) (x : V) (d : Dt), xs[i]? = some x → ds[i]? = some d → Is H n x d) : Is H (n + 1) (.ref a) (.lst ds) := ⟨a, xs, rfl, h, z, m, k⟩
end
theorem S_eta (z : Str) : S z.cps.toList = z := by
  cases z
  simp [S]
def tx (l : List Nat) : V := .str (S l)
theorem tx_inj {a b : List Nat} (h : tx a = tx b) : a = b := S_inj (V.str.inj h)
theorem tx_iff {a b : List Nat} : V.str (S a) = V.str (S b) ↔ a = b := ⟨fun h => tx_inj h, fun h => by rw [h]⟩
theorem e_TURR : (("TURR" : Str)) = S [84, 85, 82, 82] := by decide +kernel
theorem pick_sign {z : Str} {l : List Nat} (e : z = S l) {r : Int} (h0 : 0 ≤ r) (h1 : r < (l.length : Int)) : ∃ c, atI z.cps.toList r = some c ∧ c ∈ l := by
  subst e
  rw [S_list]
  exact atI_mk h0 h1
section
/-! ### lists of tuples, each by its items -/
def Tl (H : Hp) (p : Addr) (ds : List (List V)) : Prop := ∃ rs : List Addr, H p = some (.lst (rs.map V.ref)) ∧ rs.length = ds.length ∧ ∀ (i : Nat) (r : Addr) (d : List V), rs[i]? = some r → ds[i]? = some d → H r = some (.tup d)
theorem Tl.same {H H' : Hp} {p : Addr} {ds : List (List V)} (h : Tl H p ds) (s : Same H H') : Tl H' p ds := by
  obtain ⟨rs, e, z, k⟩ := h
  exact ⟨rs, s _ _ e, z, fun i r d a b => s _ _ (k i r d a b)⟩
theorem Tl.but {H H' : Hp} {a p : Addr} {ds : List (List V)} {zs : List V} (h : Tl H p ds) (s : But a H H') (ne : p ≠ a) (ha : H a = some (.lst zs)) : Tl H' p ds := by
  obtain ⟨rs, e, z, k⟩ := h
  exact ⟨rs, s _ _ ne e, z, fun i r d x y => s _ _ (ne_of (k i r d x y) ha (by intro q; cases q)) (k i r d x y)⟩
theorem Tl.tape {H H' : Hp} {a p : Addr} {ds : List (List V)} (h : Tl H p ds) (s : But a H H') (ne : p ≠ a) (tp : Tape H a) : Tl H' p ds := by
  obtain ⟨y, c, z, b, e⟩ := tp
  exact h.but s ne e
theorem Tl.nil {H : Hp} {p : Addr} (h : H p = some (.lst [])) : Tl H p [] := ⟨[], h, rfl, fun i r d a _ => by cases a⟩
theorem Tl.lst {H : Hp} {p : Addr} {ds : List (List V)} (h : Tl H p ds) : ∃ xs, H p = some (.lst xs) ∧ xs.length = ds.length := by
  obtain ⟨rs, e, z, k⟩ := h
  exact ⟨_, e, by rw [List.length_map]; exact z⟩
theorem Tl.at {H : Hp} {p : Addr} {ds : List (List V)} (h : Tl H p ds) {i : Nat} {d : List V} (hd : ds[i]? = some d) : ∃ xs r, H p = some (.lst xs) ∧ xs.length = ds.length ∧ xs[i]? = some (.ref r) ∧ H r = some (.tup d) := by
  obtain ⟨rs, e, z, k⟩ := h
  have hi : i < rs.length := by rw [z]; exact (List.getElem?_eq_some_iff.mp hd).1
  refine ⟨_, rs[i], e, by rw [List.length_map]; exact z, by rw [List.getElem?_map, List.getElem?_eq_getElem hi]; rfl, k i _ _ (List.getElem?_eq_getElem hi) hd⟩
/-- a tuple that stands at t is appended -/
theorem Tl.push {H : Hp} {p t : Addr} {ds : List (List V)} {d : List V} (h : Tl H p ds) (ht : H t = some (.tup d)) :
    ∃ xs, H p = some (.lst xs) ∧ xs.length = ds.length ∧ Tl (upd H p (.lst (xs ++ [.ref t]))) p (ds ++ [d]) := by
  obtain ⟨rs, e, z, k⟩ := h
  refine ⟨rs.map V.ref, e, by rw [List.length_map]; exact z, rs ++ [t], by rw [upd_same, List.map_append]; rfl, by rw [List.length_append, List.length_append, z]; rfl, fun i r c' hr hc => ?_⟩
  by_cases hi : i < rs.length
  · rw [List.getElem?_append_left hi] at hr
    rw [List.getElem?_append_left (by omega)] at hc
    have hk := k i r c' hr hc
    rw [upd_ne (ne_of hk e (by intro q; cases q))]
    exact hk
  · rw [List.getElem?_append_right (by omega)] at hr hc
    rw [z] at hr
    by_cases h0 : i - ds.length = 0
    · rw [h0] at hr hc
      cases hr; cases hc
      rw [upd_ne (ne_of ht e (by intro q; cases q))]
      exact ht
    · obtain ⟨m, hm⟩ := Nat.exists_eq_succ_of_ne_zero h0
      rw [hm] at hr
      cases hr
/-- a new list of the same objects: another list at q, its items picked from those at p -/
theorem Tl.pick {H H' : Hp} {p q : Addr} {ds : List (List V)} (h : Tl H p ds) (s : Same H H') (js : List Nat) (hj : ∀ j ∈ js, j < ds.length) {xs : List V} (hp : H p = some (.lst xs)) (hq : H' q = some (.lst (js.filterMap fun j => xs[j]?))) : Tl H' q (js.filterMap fun j => ds[j]?) := by
  obtain ⟨rs, e, z, k⟩ := h
  rw [e] at hp
  cases hp
  refine ⟨js.filterMap fun j => rs[j]?, ?_, ?_, ?_⟩
  · rw [hq, List.map_filterMap]
    congr 3
    funext j
    rw [List.getElem?_map]
  · have : ∀ (js : List Nat), (∀ j ∈ js, j < ds.length) → (js.filterMap fun j => rs[j]?).length = (js.filterMap fun j => ds[j]?).length := by
      intro js
      induction js with
      | nil => intro _; rfl
      | cons j r ih =>
        intro hj
        have h1 := hj j List.mem_cons_self
        rw [List.filterMap_cons, List.filterMap_cons, List.getElem?_eq_getElem h1, List.getElem?_eq_getElem (by omega : j < rs.length)]
        simp only [List.length_cons]
        rw [ih fun x hx => hj x (List.mem_cons_of_mem _ hx)]
    exact this js hj
  · have : ∀ (js : List Nat), (∀ j ∈ js, j < ds.length) → ∀ (i : Nat) (r : Addr) (d : List V), (js.filterMap fun j => rs[j]?)[i]? = some r → (js.filterMap fun j => ds[j]?)[i]? = some d → H' r = some (.tup d) := by
      intro js
      induction js with
      | nil => intro _ i r d hr _; cases hr
      | cons j r ih =>
        intro hj i r d hr hd
        have h1 := hj j List.mem_cons_self
        rw [List.filterMap_cons, List.getElem?_eq_getElem (by omega : j < rs.length)] at hr
        rw [List.filterMap_cons, List.getElem?_eq_getElem h1] at hd
        cases i with
        | zero =>
          cases hr; cases hd
          exact s _ _ (k j _ _ (List.getElem?_eq_getElem (by omega)) (List.getElem?_eq_getElem h1))
        | succ i => exact ih (fun x hx => hj x (List.mem_cons_of_mem _ hx)) i r d hr hd
    exact this js hj
end
section
variable {P : Program} {w : World} {K : PySem.W.Frag} {mg : Str → Option Value} {base : Heap} {f : Addr} {fd : FuncData}
/-! ### diagrams -/
structure Dg where
  n : Nat
  cs : List (Nat × Nat × Nat)
  a : Nat
  b : Nat
  c : Nat
  d : Nat
def dg1 (g : Dg) (c : Nat) : Dg :=
  if c = 82 then ⟨g.n, g.cs, g.c, g.a, g.d, g.b⟩ else if c = 84 then ⟨g.n + 1, g.cs ++ [(g.b, g.d, g.n)], g.a, g.n, g.c, g.b⟩ else ⟨g.n + 1, g.cs ++ [(g.d, g.b, g.n)], g.a, g.d, g.c, g.n⟩
def dg0 : Dg := ⟨2, [], 0, 0, 1, 1⟩
def dg (l : List Nat) : Dg := l.foldl dg1 dg0
theorem dg_take {l : List Nat} {i c : Nat} (h : l[i]? = some c) : dg (l.take (i + 1)) = dg1 (dg (l.take i)) c := by
  unfold dg
  rw [List.take_add_one, h, List.foldl_append]
  rfl
theorem dg_len (l : List Nat) : (dg l).cs.length ≤ l.length := by
  suffices h : ∀ (l : List Nat) (g : Dg), (l.foldl dg1 g).cs.length ≤ g.cs.length + l.length by
    have := h l dg0
    simpa [dg, dg0] using this
  intro l
  induction l with
  | nil => intro g; simp
  | cons c r ih =>
    intro g
    have h1 := ih (dg1 g c)
    have h2 : (dg1 g c).cs.length ≤ g.cs.length + 1 := by
      unfold dg1
      repeat' split
      all_goals simp
    simp only [List.foldl_cons, List.length_cons]
    omega
def t3 (c : Nat × Nat × Nat) : HO := .tup [.int (c.1 : Int), .int (c.2.1 : Int), .int (c.2.2 : Int)]
/-- at p a list of the crossings cs, a tuple each -/
def Crs (H : Hp) (p : Addr) (cs : List (Nat × Nat × Nat)) : Prop := ∃ rs : List Addr, H p = some (.lst (rs.map V.ref)) ∧ rs.length = cs.length ∧ ∀ (i : Nat) (r : Addr) (c : Nat × Nat × Nat), rs[i]? = some r → cs[i]? = some c → H r = some (t3 c)
theorem Crs.same {H H' : Hp} {p : Addr} {cs : List (Nat × Nat × Nat)} (h : Crs H p cs) (s : Same H H') : Crs H' p cs := by
  obtain ⟨rs, e, z, k⟩ := h
  exact ⟨rs, s _ _ e, z, fun i r c a b => s _ _ (k i r c a b)⟩
theorem Crs.but {H H' : Hp} {a p : Addr} {cs : List (Nat × Nat × Nat)} {zs : List V} (h : Crs H p cs) (s : But a H H') (ne : p ≠ a) (ha : H a = some (.lst zs)) : Crs H' p cs := by
  obtain ⟨rs, e, z, k⟩ := h
  exact ⟨rs, s _ _ ne e, z, fun i r c x y => s _ _ (ne_of (k i r c x y) ha (by intro q; cases q)) (k i r c x y)⟩
/-- one more crossing: a new tuple at t, appended -/
theorem Crs.push {H : Hp} {p t : Addr} {cs : List (Nat × Nat × Nat)} (h : Crs H p cs) (ht : H t = none) (c : Nat × Nat × Nat) :
    ∃ xs, upd H t (t3 c) p = some (.lst xs) ∧ xs.length = cs.length ∧ Crs (upd (upd H t (t3 c)) p (.lst (xs ++ [.ref t]))) p (cs ++ [c]) := by
  obtain ⟨rs, e, z, k⟩ := h
  have hpt : p ≠ t := ne_of_none e ht
  refine ⟨rs.map V.ref, by rw [upd_ne hpt]; exact e, by rw [List.length_map]; exact z, rs ++ [t], by rw [upd_same, List.map_append]; rfl, by rw [List.length_append, List.length_append, z]; rfl, fun i r c' hr hc => ?_⟩
  by_cases hi : i < rs.length
  · rw [List.getElem?_append_left hi] at hr
    rw [List.getElem?_append_left (by omega)] at hc
    have hk := k i r c' hr hc
    rw [upd_ne (ne_of hk e (by intro q; cases q)), upd_ne (ne_of_none hk ht)]
    exact hk
  · rw [List.getElem?_append_right (by omega)] at hr hc
    rw [z] at hr
    by_cases h0 : i - cs.length = 0
    · rw [h0] at hr hc
      cases hr; cases hc
      rw [upd_ne (Ne.symm hpt), upd_same]
    · obtain ⟨m, hm⟩ := Nat.exists_eq_succ_of_ne_zero h0
      rw [hm] at hr
      cases hr
def e4 (g : Dg) : HO := .tup [.int (g.a : Int), .int (g.b : Int), .int (g.c : Int), .int (g.d : Int)]
/-- at t a diagram, its list of crossings at p -/
def Diag (H : Hp) (t p : Addr) (g : Dg) : Prop := ∃ e, H t = some (.tup [.int (g.n : Int), .ref p, .ref e]) ∧ H e = some (e4 g) ∧ Crs H p g.cs
theorem Diag.same {H H' : Hp} {t p : Addr} {g : Dg} (h : Diag H t p g) (s : Same H H') : Diag H' t p g := by
  obtain ⟨e, a, b, c⟩ := h
  exact ⟨e, s _ _ a, s _ _ b, c.same s⟩
theorem Diag.but {H H' : Hp} {a t p : Addr} {g : Dg} {zs : List V} (h : Diag H t p g) (s : But a H H') (ne : p ≠ a) (ha : H a = some (.lst zs)) : Diag H' t p g := by
  obtain ⟨e, x, y, c⟩ := h
  exact ⟨e, s _ _ (ne_of x ha (by intro q; cases q)) x, s _ _ (ne_of y ha (by intro q; cases q)) y, c.but s ne ha⟩
def spDiag : Sp := fun vs H Q _ => ∃ l : List Nat, vs = [.str (S l)] ∧ l.length ≤ 1000000 ∧ ∀ (t p : Addr) H', Same H H' → H p = none → Diag H' t p (dg l) → Q (.ref t) H'
end
section
/-! ### colourings -/
def cstep (A : List Int) (c : Nat × Nat × Nat) : List Int := A ++ [2 * A.getD c.1 0 - A.getD c.2.1 0]
def col (cs : List (Nat × Nat × Nat)) (x y : Int) : List Int := cs.foldl cstep [x, y]
theorem col_snoc (cs : List (Nat × Nat × Nat)) (c : Nat × Nat × Nat) (x y : Int) : col (cs ++ [c]) x y = cstep (col cs x y) c := by
  unfold col
  rw [List.foldl_append]
  rfl
theorem col_len (x y : Int) (cs : List (Nat × Nat × Nat)) : (col cs x y).length = cs.length + 2 := by
  suffices h : ∀ (cs : List (Nat × Nat × Nat)) (A : List Int), (cs.foldl cstep A).length = A.length + cs.length by
    have := h cs [x, y]
    unfold col
    rw [this]
    show 2 + _ = _
    omega
  intro cs
  induction cs with
  | nil => intro A; simp
  | cons c r ih =>
    intro A
    rw [List.foldl_cons, ih]
    unfold cstep
    simp only [List.length_append, List.length_cons, List.length_nil]
    omega
theorem getD_left {A B : List Int} {i : Nat} (h : i < A.length) : (A ++ B).getD i 0 = A.getD i 0 := by
  rw [List.getD_eq_getElem?_getD, List.getD_eq_getElem?_getD, List.getElem?_append_left h]
theorem getD_last (A : List Int) (z : Int) : (A ++ [z]).getD A.length 0 = z := by
  rw [List.getD_eq_getElem?_getD, List.getElem?_append_right (Nat.le_refl _), Nat.sub_self]
  rfl
/-- a diagram as the document makes it -/
structure Wf (g : Dg) : Prop where
  n : g.n = g.cs.length + 2
  a : g.a < g.n
  b : g.b < g.n
  c : g.c < g.n
  d : g.d < g.n
  at_ : ∀ (i : Nat) (c : Nat × Nat × Nat), g.cs[i]? = some c → c.2.2 = i + 2 ∧ c.1 < i + 2 ∧ c.2.1 < i + 2
theorem Wf.zero : Wf dg0 := ⟨rfl, by decide, by decide, by decide, by decide, fun i c h => by cases h⟩
theorem wf_push {n : Nat} {cs : List (Nat × Nat × Nat)} {o b : Nat} (hn : n = cs.length + 2) (h : ∀ (i : Nat) (c : Nat × Nat × Nat), cs[i]? = some c → c.2.2 = i + 2 ∧ c.1 < i + 2 ∧ c.2.1 < i + 2) (ho : o < n) (hb : b < n) :
    ∀ (i : Nat) (c : Nat × Nat × Nat), (cs ++ [(o, b, n)])[i]? = some c → c.2.2 = i + 2 ∧ c.1 < i + 2 ∧ c.2.1 < i + 2 := by
  intro i c hc
  by_cases hi : i < cs.length
  · rw [List.getElem?_append_left hi] at hc
    exact h i c hc
  · rw [List.getElem?_append_right (by omega)] at hc
    by_cases h0 : i - cs.length = 0
    · rw [h0] at hc
      cases hc
      exact ⟨by show n = _; omega, by show o < _; omega, by show b < _; omega⟩
    · obtain ⟨m, hm⟩ := Nat.exists_eq_succ_of_ne_zero h0
      rw [hm] at hc
      cases hc
theorem Wf.step {g : Dg} (w : Wf g) (c : Nat) : Wf (dg1 g c) := by
  obtain ⟨n, a, b, cc, d, h⟩ := w
  unfold dg1
  by_cases c1 : c = 82
  · rw [if_pos c1]
    exact ⟨n, cc, a, d, b, h⟩
  rw [if_neg c1]
  by_cases c2 : c = 84
  · rw [if_pos c2]
    exact ⟨by show g.n + 1 = (g.cs ++ [_]).length + 2; rw [List.length_append]; show _ = g.cs.length + 1 + 2; omega, by show g.a < g.n + 1; omega, by show g.n < g.n + 1; omega, by show g.c < g.n + 1; omega, by show g.b < g.n + 1; omega, wf_push n h b d⟩
  · rw [if_neg c2]
    exact ⟨by show g.n + 1 = (g.cs ++ [_]).length + 2; rw [List.length_append]; show _ = g.cs.length + 1 + 2; omega, by show g.a < g.n + 1; omega, by show g.d < g.n + 1; omega, by show g.c < g.n + 1; omega, by show g.n < g.n + 1; omega, wf_push n h d b⟩
theorem wf_run : ∀ (l : List Nat) {g : Dg}, Wf g → Wf (l.foldl dg1 g)
  | [], _, w => w
  | c :: r, _, w => wf_run r (w.step c)
theorem wf_dg (l : List Nat) : Wf (dg l) := wf_run l Wf.zero
/-- the colours at the ends, against the number -/
def EndsAre (g : Dg) (v : Int × Int) (x y : Int) : Prop := ∃ e : Int, (e = 1 ∨ e = -1) ∧
  (col g.cs x y).getD g.b 0 - (col g.cs x y).getD g.a 0 = e * v.1 * (y - x) ∧ (col g.cs x y).getD g.b 0 - (col g.cs x y).getD g.d 0 = e * v.2 * (y - x) ∧
  (col g.cs x y).getD g.a 0 + (col g.cs x y).getD g.d 0 = (col g.cs x y).getD g.b 0 + (col g.cs x y).getD g.c 0
theorem ends_zero (x y : Int) : EndsAre dg0 (0, 1) x y := by
  refine ⟨-1, .inr rfl, ?_, ?_, ?_⟩
  · show x - x = -1 * 0 * (y - x)
    omega
  · show x - y = -1 * 1 * (y - x)
    omega
  · show x + y = x + y
    rfl
theorem ends_step {g : Dg} {v : Int × Int} {x y : Int} (w : Wf g) (gv : Good v) {c : Nat} (hc : c = 84 ∨ c = 85 ∨ c = 82) (h : EndsAre g v x y) : EndsAre (dg1 g c) (called v c) x y := by
  obtain ⟨e, he, h1, h2, h3⟩ := h
  have lA := col_len x y g.cs
  have wn := w.n
  have wa := w.a
  have wb := w.b
  have wc := w.c
  have wd := w.d
  rcases hc with rfl | rfl | rfl
  · have e1 : dg1 g 84 = ⟨g.n + 1, g.cs ++ [(g.b, g.d, g.n)], g.a, g.n, g.c, g.b⟩ := rfl
    have e2 : called v 84 = (v.1 + v.2, v.2) := rfl
    rw [e1, e2]
    refine ⟨e, he, ?_⟩
    show (col (g.cs ++ [(g.b, g.d, g.n)]) x y).getD g.n 0 - (col (g.cs ++ [(g.b, g.d, g.n)]) x y).getD g.a 0 = _ ∧ (col (g.cs ++ [(g.b, g.d, g.n)]) x y).getD g.n 0 - (col (g.cs ++ [(g.b, g.d, g.n)]) x y).getD g.b 0 = _ ∧ (col (g.cs ++ [(g.b, g.d, g.n)]) x y).getD g.a 0 + (col (g.cs ++ [(g.b, g.d, g.n)]) x y).getD g.b 0 = (col (g.cs ++ [(g.b, g.d, g.n)]) x y).getD g.n 0 + (col (g.cs ++ [(g.b, g.d, g.n)]) x y).getD g.c 0
    rw [col_snoc]
    generalize col g.cs x y = A at *
    unfold cstep
    have l1 := getD_last A (2 * A.getD g.b 0 - A.getD g.d 0)
    rw [show A.length = g.n by omega] at l1
    rw [l1, getD_left (show g.a < A.length by omega), getD_left (show g.b < A.length by omega), getD_left (show g.c < A.length by omega)]
    have s : e * (v.1 + v.2) * (y - x) = e * v.1 * (y - x) + e * v.2 * (y - x) := by rw [Int.mul_add, Int.add_mul]
    refine ⟨?_, ?_, ?_⟩
    · show _ = e * (v.1 + v.2) * (y - x)
      rw [s]
      omega
    · show _ = e * v.2 * (y - x)
      omega
    · omega
  · have e1 : dg1 g 85 = ⟨g.n + 1, g.cs ++ [(g.d, g.b, g.n)], g.a, g.d, g.c, g.n⟩ := rfl
    have e2 : called v 85 = (v.1 - v.2, v.2) := rfl
    rw [e1, e2]
    refine ⟨e, he, ?_⟩
    show (col (g.cs ++ [(g.d, g.b, g.n)]) x y).getD g.d 0 - (col (g.cs ++ [(g.d, g.b, g.n)]) x y).getD g.a 0 = _ ∧ (col (g.cs ++ [(g.d, g.b, g.n)]) x y).getD g.d 0 - (col (g.cs ++ [(g.d, g.b, g.n)]) x y).getD g.n 0 = _ ∧ (col (g.cs ++ [(g.d, g.b, g.n)]) x y).getD g.a 0 + (col (g.cs ++ [(g.d, g.b, g.n)]) x y).getD g.n 0 = (col (g.cs ++ [(g.d, g.b, g.n)]) x y).getD g.d 0 + (col (g.cs ++ [(g.d, g.b, g.n)]) x y).getD g.c 0
    rw [col_snoc]
    generalize col g.cs x y = A at *
    unfold cstep
    have l1 := getD_last A (2 * A.getD g.d 0 - A.getD g.b 0)
    rw [show A.length = g.n by omega] at l1
    rw [l1, getD_left (show g.a < A.length by omega), getD_left (show g.d < A.length by omega), getD_left (show g.c < A.length by omega)]
    have s : e * (v.1 - v.2) * (y - x) = e * v.1 * (y - x) - e * v.2 * (y - x) := by rw [Int.mul_sub e v.1 v.2, Int.sub_mul]
    refine ⟨?_, ?_, ?_⟩
    · show _ = e * (v.1 - v.2) * (y - x)
      rw [s]
      omega
    · show _ = e * v.2 * (y - x)
      omega
    · omega
  · have e1 : dg1 g 82 = ⟨g.n, g.cs, g.c, g.a, g.d, g.b⟩ := rfl
    rw [e1]
    unfold called
    rw [if_neg (by decide), if_neg (by decide)]
    by_cases c3 : 0 < v.1
    · rw [if_pos c3]
      refine ⟨-e, by omega, ?_⟩
      show (col g.cs x y).getD g.a 0 - (col g.cs x y).getD g.c 0 = -e * (0 - v.2) * (y - x) ∧ (col g.cs x y).getD g.a 0 - (col g.cs x y).getD g.b 0 = -e * v.1 * (y - x) ∧ (col g.cs x y).getD g.c 0 + (col g.cs x y).getD g.b 0 = (col g.cs x y).getD g.a 0 + (col g.cs x y).getD g.d 0
      have s1 : -e * (0 - v.2) * (y - x) = e * v.2 * (y - x) := by rw [Int.zero_sub, Int.neg_mul_neg]
      have s2 : -e * v.1 * (y - x) = -(e * v.1 * (y - x)) := by rw [Int.neg_mul, Int.neg_mul]
      rw [s1, s2]
      exact ⟨by omega, by omega, by omega⟩
    rw [if_neg c3]
    by_cases c4 : v.1 < 0
    · rw [if_pos c4]
      refine ⟨e, he, ?_⟩
      show (col g.cs x y).getD g.a 0 - (col g.cs x y).getD g.c 0 = e * v.2 * (y - x) ∧ (col g.cs x y).getD g.a 0 - (col g.cs x y).getD g.b 0 = e * (0 - v.1) * (y - x) ∧ (col g.cs x y).getD g.c 0 + (col g.cs x y).getD g.b 0 = (col g.cs x y).getD g.a 0 + (col g.cs x y).getD g.d 0
      have s2 : e * (0 - v.1) * (y - x) = -(e * v.1 * (y - x)) := by rw [Int.zero_sub, Int.mul_neg, Int.neg_mul]
      rw [s2]
      exact ⟨by omega, by omega, by omega⟩
    rw [if_neg c4]
    have z : v.1 = 0 := by omega
    have q1 : v.2 = 1 := by
      have g2 := gv.2
      rw [z, Int.gcd_zero_left] at g2
      rcases gv.1 with h | h
      · omega
      · rw [h] at z; cases z
    refine ⟨e, he, ?_⟩
    show (col g.cs x y).getD g.a 0 - (col g.cs x y).getD g.c 0 = e * 1 * (y - x) ∧ (col g.cs x y).getD g.a 0 - (col g.cs x y).getD g.b 0 = e * 0 * (y - x) ∧ (col g.cs x y).getD g.c 0 + (col g.cs x y).getD g.b 0 = (col g.cs x y).getD g.a 0 + (col g.cs x y).getD g.d 0
    rw [z] at h1
    rw [q1] at h2
    have s3 : e * 0 * (y - x) = 0 := by rw [Int.mul_zero, Int.zero_mul]
    rw [s3] at h1 ⊢
    exact ⟨by omega, by omega, by omega⟩
theorem ends_run : ∀ (l : List Nat) {g : Dg} {v : Int × Int} {x y : Int}, Lets l → Wf g → Good v → EndsAre g v x y → EndsAre (l.foldl dg1 g) (run v l) x y
  | [], _, _, _, _, _, _, _, h => h
  | c :: r, _, _, _, _, hl, w, gv, h => ends_run r (fun x hx => hl x (List.mem_cons_of_mem _ hx)) (w.step c) (gv.called c) (ends_step w gv (hl c List.mem_cons_self) h)
theorem ends_dg {l : List Nat} (hl : Lets l) (x y : Int) : EndsAre (dg l) (run (0, 1) l) x y := ends_run l hl Wf.zero Good.zero (ends_zero x y)
/-- the crossings are kept -/
def Keep (cs : List (Nat × Nat × Nat)) (A : List Int) : Prop := ∀ c ∈ cs, A.getD c.2.1 0 + A.getD c.2.2 0 = 2 * A.getD c.1 0
theorem keep_col {g : Dg} (w : Wf g) (x y : Int) : Keep g.cs (col g.cs x y) := by
  suffices h : ∀ (cs : List (Nat × Nat × Nat)), (∀ (i : Nat) (c : Nat × Nat × Nat), cs[i]? = some c → c.2.2 = i + 2 ∧ c.1 < i + 2 ∧ c.2.1 < i + 2) → Keep cs (col cs x y) from h g.cs w.at_
  intro cs
  suffices h : ∀ (k : Nat) (cs : List (Nat × Nat × Nat)), cs.length = k → (∀ (i : Nat) (c : Nat × Nat × Nat), cs[i]? = some c → c.2.2 = i + 2 ∧ c.1 < i + 2 ∧ c.2.1 < i + 2) → Keep cs (col cs x y) from h _ cs rfl
  intro k
  induction k with
  | zero =>
    intro cs hk _ c hc
    rw [List.eq_nil_of_length_eq_zero hk] at hc
    cases hc
  | succ k ih =>
    intro cs hk hat
    have hne : cs ≠ [] := fun z => by rw [z] at hk; cases hk
    obtain ⟨r, c, rfl⟩ : ∃ r c, cs = r ++ [c] := ⟨cs.dropLast, cs.getLast hne, (List.dropLast_concat_getLast hne).symm⟩
    have hr : r.length = k := by
      rw [List.length_append] at hk
      have : ([c] : List (Nat × Nat × Nat)).length = 1 := rfl
      omega
    have ihr := ih r hr fun i d hd => hat i d (by rw [List.getElem?_append_left (List.getElem?_eq_some_iff.mp hd).1]; exact hd)
    have lr := col_len x y r
    rw [col_snoc]
    intro d hd
    rcases List.mem_append.mp hd with hd | hd
    · obtain ⟨i, hi, e⟩ := List.getElem_of_mem hd
      have := hat i d (by rw [List.getElem?_append_left hi, List.getElem?_eq_getElem hi, e])
      unfold cstep
      rw [getD_left (by omega), getD_left (by omega), getD_left (by omega)]
      exact ihr d hd
    · rw [List.mem_singleton.mp hd]
      have := hat r.length c (by rw [List.getElem?_append_right (Nat.le_refl _), Nat.sub_self]; rfl)
      unfold cstep
      have l1 := getD_last (col r x y) (2 * (col r x y).getD c.1 0 - (col r x y).getD c.2.1 0)
      rw [show (col r x y).length = c.2.2 by omega] at l1
      rw [l1, getD_left (by omega), getD_left (by omega)]
      omega
theorem at_getD {A : List Int} {i : Nat} (h : i < A.length) : atI (A.map V.int) (i : Int) = some (.int (A.getD i 0)) := by
  refine atI_nat (j := i) ?_
  rw [List.getElem?_map, List.getD_eq_getElem?_getD, List.getElem?_eq_getElem h]
  rfl
end
section
/-! ### counts -/
theorem count_one (a : Nat) : ∀ k : Nat, (List.range k).countP (fun r => decide (r = a)) = if a < k then 1 else 0
  | 0 => rfl
  | k + 1 => by
    rw [List.range_succ, List.countP_append, count_one a k, List.countP_singleton]
    by_cases h : a < k
    · rw [if_pos h, if_pos (show a < k + 1 by omega), if_neg (by simp; omega)]
    · rw [if_neg h]
      by_cases e : k = a
      · subst e
        simp
      · rw [if_neg (show ¬ a < k + 1 by omega)]
        simp [e]
theorem dvd_sub_iff {m x y : Int} : m ∣ y - x ↔ y % m = x % m := by
  rw [Int.emod_eq_emod_iff_emod_sub_eq_zero]
  exact ⟨Int.emod_eq_zero_of_dvd, Int.dvd_of_emod_eq_zero⟩
theorem count_mod {m : Nat} (hm : 0 < m) (x : Int) : ∀ g : Nat, (List.range (g * m)).countP (fun r => decide ((m : Int) ∣ ((r : Nat) : Int) - x)) = g
  | 0 => by rw [Nat.zero_mul]; rfl
  | g + 1 => by
    rw [Nat.add_mul, Nat.one_mul, List.range_add, List.countP_append, count_mod hm x g, List.countP_map]
    have m0 : (m : Int) ≠ 0 := by omega
    have h1 := Int.emod_nonneg x m0
    have h2 := Int.emod_lt_of_pos x (show (0 : Int) < m by omega)
    have key : (List.range m).countP ((fun r : Nat => decide ((m : Int) ∣ ((r : Nat) : Int) - x)) ∘ fun r => g * m + r) = (List.range m).countP (fun r => decide (r = (x % m).toNat)) := by
      refine List.countP_congr fun r hr => ?_
      have hr' := List.mem_range.mp hr
      simp only [Function.comp, decide_eq_true_eq]
      rw [dvd_sub_iff, Int.natCast_add, Int.natCast_mul, Int.add_comm, Int.add_mul_emod_self_right, Int.emod_eq_of_lt (by omega) (by omega)]
      omega
    rw [key, count_one, if_pos (by omega)]
/-- how many colours a difference leaves -/
theorem count_gcd {n : Nat} (hn : 0 < n) (p x : Int) : (List.range n).countP (fun r => decide ((n : Int) ∣ p * (((r : Nat) : Int) - x))) = Int.gcd n p := by
  have g0 : 0 < Int.gcd n p := Int.gcd_pos_of_ne_zero_left p (by omega)
  obtain ⟨m, hm⟩ : ∃ m : Nat, n = Int.gcd n p * m := by
    have : Int.gcd n p ∣ n := by
      have := Nat.gcd_dvd_left (n : Int).natAbs p.natAbs
      rwa [Int.natAbs_natCast] at this
    exact this
  have m0 : 0 < m := by
    rcases Nat.eq_zero_or_pos m with h | h
    · rw [h, Nat.mul_zero] at hm; omega
    · exact h
  obtain ⟨p', hp⟩ : ((Int.gcd n p : Nat) : Int) ∣ p := Int.gcd_dvd_right _ _
  have cop : Int.gcd m p' = 1 := by
    have e := Int.gcd_ediv_gcd_ediv_gcd (i := n) (j := p) g0
    have e1 : (n : Int) / ((Int.gcd n p : Nat) : Int) = (m : Int) := by
      have hm' : (n : Int) = ((Int.gcd n p : Nat) : Int) * (m : Int) := by exact_mod_cast hm
      exact Int.ediv_eq_of_eq_mul_right (by omega) hm'
    have e2 : p / ((Int.gcd n p : Nat) : Int) = p' := Int.ediv_eq_of_eq_mul_right (by omega) hp
    rw [e1, e2] at e
    exact e
  have key : (List.range n).countP (fun r => decide ((n : Int) ∣ p * (((r : Nat) : Int) - x))) = (List.range n).countP (fun r => decide ((m : Int) ∣ ((r : Nat) : Int) - x)) := by
    refine List.countP_congr fun r _ => ?_
    simp only [decide_eq_true_eq]
    generalize (r : Int) - x = d
    have hm' : (n : Int) = ((Int.gcd n p : Nat) : Int) * (m : Int) := by exact_mod_cast hm
    generalize ((Int.gcd n p : Nat) : Int) = G at *
    have G0 : G ≠ 0 := fun z => by rw [z, Int.zero_mul] at hm'; omega
    rw [hm', hp, Int.mul_assoc]
    rw [Int.mul_dvd_mul_iff_left G0]
    constructor
    · intro h
      rw [Int.ofNat_dvd_left] at h ⊢
      rw [Int.natAbs_mul] at h
      exact Nat.Coprime.dvd_of_dvd_mul_left (show Nat.gcd m p'.natAbs = 1 from cop) h
    · intro h
      exact Int.dvd_trans h (Int.dvd_mul_left _ _)
  rw [key]
  have := count_mod m0 x (Int.gcd n p)
  rw [← hm] at this
  exact this
/-! ### closed diagrams -/
def oneC (A : List Int) (n : Int) (c : Nat × Nat × Nat) : Bool := decide ((A.getD c.2.1 0 + A.getD c.2.2 0 - 2 * A.getD c.1 0) % n = 0)
def tied (g : Dg) (d : Bool) : List (Nat × Nat) := if d = true then [(g.a, g.c), (g.b, g.d)] else [(g.a, g.b), (g.c, g.d)]
def oneP (A : List Int) (n : Int) (p : Nat × Nat) : Bool := decide ((A.getD p.1 0 - A.getD p.2 0) % n = 0)
def closedB (A : List Int) (g : Dg) (d : Bool) (n : Int) : Bool := g.cs.all (oneC A n) && (tied g d).all (oneP A n)
def side (d : Bool) (v : Int × Int) : Int := if d = true then v.2 else v.1
/-- the ends of a colouring are tied rightly -/
theorem tied_iff {g : Dg} {v : Int × Int} {x y : Int} {n : Int} (h : EndsAre g v x y) (d : Bool) : (tied g d).all (oneP (col g.cs x y) n) = decide (n ∣ side d v * (y - x)) := by
  obtain ⟨e, he, h1, h2, h3⟩ := h
  generalize col g.cs x y = A at *
  have sign : ∀ z : Int, n ∣ e * z ↔ n ∣ z := fun z => by
    rcases he with rfl | rfl
    · rw [Int.one_mul]
    · rw [show -1 * z = -z by omega, Int.dvd_neg]
  rw [Bool.eq_iff_iff, decide_eq_true_eq]
  cases d with
  | false =>
    show ([(g.a, g.b), (g.c, g.d)].all (oneP A n)) = true ↔ n ∣ v.1 * (y - x)
    rw [← sign, ← Int.mul_assoc, ← h1]
    simp only [List.all_cons, List.all_nil, Bool.and_true, Bool.and_eq_true, oneP, decide_eq_true_eq]
    have e2 : A.getD g.c 0 - A.getD g.d 0 = A.getD g.a 0 - A.getD g.b 0 := by omega
    have e3 : A.getD g.a 0 - A.getD g.b 0 = -(A.getD g.b 0 - A.getD g.a 0) := by omega
    rw [e2, e3]
    constructor
    · rintro ⟨h, _⟩
      exact Int.dvd_neg.mp (Int.dvd_of_emod_eq_zero h)
    · intro h
      have := Int.emod_eq_zero_of_dvd (Int.dvd_neg.mpr h)
      exact ⟨this, this⟩
  | true =>
    show ([(g.a, g.c), (g.b, g.d)].all (oneP A n)) = true ↔ n ∣ v.2 * (y - x)
    rw [← sign, ← Int.mul_assoc, ← h2]
    simp only [List.all_cons, List.all_nil, Bool.and_true, Bool.and_eq_true, oneP, decide_eq_true_eq]
    have e2 : A.getD g.a 0 - A.getD g.c 0 = A.getD g.b 0 - A.getD g.d 0 := by omega
    rw [e2]
    constructor
    · rintro ⟨h, _⟩
      exact Int.dvd_of_emod_eq_zero h
    · intro h
      have := Int.emod_eq_zero_of_dvd h
      exact ⟨this, this⟩
theorem closed_col {g : Dg} {v : Int × Int} {x y : Int} {n : Int} (w : Wf g) (h : EndsAre g v x y) (d : Bool) : closedB (col g.cs x y) g d n = decide (n ∣ side d v * (y - x)) := by
  unfold closedB
  rw [tied_iff h d]
  have : g.cs.all (oneC (col g.cs x y) n) = true := by
    rw [List.all_eq_true]
    intro c hc
    have := keep_col w x y c hc
    unfold oneC
    rw [this, Int.sub_self, Int.zero_emod]
    rfl
  rw [this, Bool.true_and]
/-! ### all lists of colours -/
def rowsL : Nat → Nat → List (List Int)
  | 0, _ => [[]]
  | k + 1, n => (rowsL k n).flatMap fun r => (List.range n).map fun c => r ++ [((c : Nat) : Int)]
theorem rows_len {k n : Nat} {r : List Int} : r ∈ rowsL k n → r.length = k := by
  induction k generalizing r with
  | zero => intro h; rw [List.mem_singleton.mp h]; rfl
  | succ k ih =>
    intro h
    obtain ⟨a, ha, hr⟩ := List.mem_flatMap.mp h
    obtain ⟨c, _, rfl⟩ := List.mem_map.mp hr
    rw [List.length_append, ih ha]
    rfl
theorem rows_size (n : Nat) : ∀ k : Nat, (rowsL k n).length = n ^ k
  | 0 => rfl
  | k + 1 => by
    show ((rowsL k n).flatMap _).length = _
    rw [List.length_flatMap]
    have : (rowsL k n).map (fun r => ((List.range n).map fun c : Nat => r ++ [((c : Nat) : Int)]).length) = List.replicate (n ^ k) n := by
      rw [← rows_size n k]
      induction rowsL k n with
      | nil => rfl
      | cons a r ih => rw [List.map_cons, ih, List.length_cons, List.replicate_succ, List.length_map, List.length_range]
    rw [this, List.sum_replicate_nat, Nat.pow_succ]
def cstepM (n : Int) (A : List Int) (c : Nat × Nat × Nat) : List Int := A ++ [(2 * A.getD c.1 0 - A.getD c.2.1 0) % n]
def colM (n : Int) (cs : List (Nat × Nat × Nat)) (x y : Int) : List Int := cs.foldl (cstepM n) [x, y]
def pairsL (n : Nat) : List (Int × Int) := (List.range n).flatMap fun x => (List.range n).map fun y => (((x : Nat) : Int), ((y : Nat) : Int))
theorem colM_len (n x y : Int) (cs : List (Nat × Nat × Nat)) : (colM n cs x y).length = cs.length + 2 := by
  suffices h : ∀ (cs : List (Nat × Nat × Nat)) (A : List Int), (cs.foldl (cstepM n) A).length = A.length + cs.length by
    have := h cs [x, y]
    unfold colM
    rw [this]
    show 2 + _ = _
    omega
  intro cs
  induction cs with
  | nil => intro A; simp
  | cons c r ih =>
    intro A
    rw [List.foldl_cons, ih]
    unfold cstepM
    simp only [List.length_append, List.length_cons, List.length_nil]
    omega
theorem rows_two (n : Nat) : rowsL 2 n = (pairsL n).map fun p => [p.1, p.2] := by
  show ((([[]] : List (List Int)).flatMap fun r => (List.range n).map fun c => r ++ [((c : Nat) : Int)]).flatMap fun r => (List.range n).map fun c => r ++ [((c : Nat) : Int)]) = _
  unfold pairsL
  rw [List.flatMap_cons, List.flatMap_nil, List.append_nil, List.flatMap_map, List.map_flatMap]
  congr 1
  funext x
  rw [List.map_map]
  rfl
/-- one more arc -/
theorem filter_last {n : Nat} (hn : 0 < n) {A : List Int} {cs : List (Nat × Nat × Nat)} {c : Nat × Nat × Nat} (hA : A.length = cs.length + 2) (hat : ∀ (i : Nat) (c : Nat × Nat × Nat), cs[i]? = some c → c.2.2 = i + 2 ∧ c.1 < i + 2 ∧ c.2.1 < i + 2) (hc : c.2.2 = cs.length + 2 ∧ c.1 < cs.length + 2 ∧ c.2.1 < cs.length + 2) :
    ((List.range n).map fun z => A ++ [((z : Nat) : Int)]).filter (fun B => (cs ++ [c]).all (oneC B n)) = if cs.all (oneC A n) = true then [cstepM n A c] else [] := by
  have n0 : (0 : Int) < n := by omega
  have first : ∀ z : Nat, cs.all (oneC (A ++ [((z : Nat) : Int)]) n) = cs.all (oneC A n) := fun z => by
    rw [Bool.eq_iff_iff, List.all_eq_true, List.all_eq_true]
    have : ∀ d ∈ cs, oneC (A ++ [((z : Nat) : Int)]) n d = oneC A n d := fun d hd => by
      obtain ⟨i, hi, e⟩ := List.getElem_of_mem hd
      have := hat i d (by rw [List.getElem?_eq_getElem hi, e])
      unfold oneC
      rw [getD_left (by omega), getD_left (by omega), getD_left (by omega)]
    exact ⟨fun h d hd => by rw [← this d hd]; exact h d hd, fun h d hd => by rw [this d hd]; exact h d hd⟩
  have last : ∀ z : Nat, z < n → oneC (A ++ [((z : Nat) : Int)]) n c = decide (z = ((2 * A.getD c.1 0 - A.getD c.2.1 0) % n).toNat) := fun z hz => by
    unfold oneC
    have l1 := getD_last A ((z : Nat) : Int)
    rw [show A.length = c.2.2 by omega] at l1
    rw [l1, getD_left (by omega), getD_left (by omega)]
    generalize A.getD c.1 0 = a
    generalize A.getD c.2.1 0 = b
    have h1 := Int.emod_nonneg (2 * a - b) (show (n : Int) ≠ 0 by omega)
    have h2 := Int.emod_lt_of_pos (2 * a - b) n0
    rw [decide_eq_decide]
    have e : ((b + (z : Int) - 2 * a) % n = 0) ↔ ((z : Int) % n = (2 * a - b) % n) := by
      rw [Int.emod_eq_emod_iff_emod_sub_eq_zero, show (z : Int) - (2 * a - b) = b + (z : Int) - 2 * a by omega]
    rw [e, Int.emod_eq_of_lt (by omega) (by omega)]
    omega
  have h1 := Int.emod_nonneg (2 * A.getD c.1 0 - A.getD c.2.1 0) (show (n : Int) ≠ 0 by omega)
  have h2 := Int.emod_lt_of_pos (2 * A.getD c.1 0 - A.getD c.2.1 0) n0
  rw [List.filter_map]
  have e1 : (List.range n).filter ((fun B => (cs ++ [c]).all (oneC B n)) ∘ fun z => A ++ [((z : Nat) : Int)]) = (List.range n).filter (fun z => cs.all (oneC A n) && decide (z = ((2 * A.getD c.1 0 - A.getD c.2.1 0) % n).toNat)) := by
    refine List.filter_congr fun z hz => ?_
    have hz' := List.mem_range.mp hz
    show (cs ++ [c]).all (oneC (A ++ [((z : Nat) : Int)]) n) = _
    rw [List.all_append, first z, List.all_cons, List.all_nil, Bool.and_true, last z hz']
  rw [e1]
  cases hall : cs.all (oneC A n) with
  | false =>
    rw [if_neg (by decide)]
    simp
  | true =>
    rw [if_pos rfl]
    have one : ∀ (k a : Nat), a < k → (List.range k).filter (fun z => true && decide (z = a)) = [a] := by
      intro k
      induction k with
      | zero => intro a h; omega
      | succ k ih =>
        intro a h
        rw [List.range_succ, List.filter_append]
        by_cases ha : a < k
        · rw [ih a ha]
          have : ([k].filter fun z => true && decide (z = a)) = [] := by simp; omega
          rw [this, List.append_nil]
        · have hk : k = a := by omega
          subst hk
          have : ((List.range k).filter fun z => true && decide (z = k)) = [] := by
            rw [List.filter_eq_nil_iff]
            intro z hz
            have := List.mem_range.mp hz
            simp
            omega
          rw [this]
          simp
    rw [one n _ (by omega), List.map_singleton]
    unfold cstepM
    rw [Int.toNat_of_nonneg h1]
theorem rows_filter {n : Nat} (hn : 0 < n) : ∀ (k : Nat) (cs : List (Nat × Nat × Nat)), cs.length = k → (∀ (i : Nat) (c : Nat × Nat × Nat), cs[i]? = some c → c.2.2 = i + 2 ∧ c.1 < i + 2 ∧ c.2.1 < i + 2) →
    (rowsL (k + 2) n).filter (fun A => cs.all (oneC A n)) = (pairsL n).map fun p => colM n cs p.1 p.2
  | 0, cs, hk, _ => by
    rw [List.eq_nil_of_length_eq_zero hk, rows_two]
    exact List.filter_eq_self.mpr fun _ _ => rfl
  | k + 1, cs, hk, hat => by
    have hne : cs ≠ [] := fun z => by rw [z] at hk; cases hk
    obtain ⟨r, c, rfl⟩ : ∃ r c, cs = r ++ [c] := ⟨cs.dropLast, cs.getLast hne, (List.dropLast_concat_getLast hne).symm⟩
    have hr : r.length = k := by
      rw [List.length_append] at hk
      have : ([c] : List (Nat × Nat × Nat)).length = 1 := rfl
      omega
    have hatr : ∀ (i : Nat) (c : Nat × Nat × Nat), r[i]? = some c → c.2.2 = i + 2 ∧ c.1 < i + 2 ∧ c.2.1 < i + 2 := fun i d hd => hat i d (by rw [List.getElem?_append_left (List.getElem?_eq_some_iff.mp hd).1]; exact hd)
    have hc := hat r.length c (by rw [List.getElem?_append_right (Nat.le_refl _), Nat.sub_self]; rfl)
    have ih := rows_filter hn k r hr hatr
    show ((rowsL (k + 2) n).flatMap fun A => (List.range n).map fun z => A ++ [((z : Nat) : Int)]).filter _ = _
    rw [List.filter_flatMap]
    have e1 : (rowsL (k + 2) n).flatMap (fun A => ((List.range n).map fun z => A ++ [((z : Nat) : Int)]).filter fun B => (r ++ [c]).all (oneC B n)) = (rowsL (k + 2) n).flatMap (fun A => if r.all (oneC A n) = true then [cstepM n A c] else []) := by
      have gen : ∀ (L : List (List Int)), (∀ A ∈ L, A.length = r.length + 2) → L.flatMap (fun A => ((List.range n).map fun z => A ++ [((z : Nat) : Int)]).filter fun B => (r ++ [c]).all (oneC B n)) = L.flatMap (fun A => if r.all (oneC A n) = true then [cstepM n A c] else []) := by
        intro L
        induction L with
        | nil => intro _; rfl
        | cons A L ih2 =>
          intro hL
          rw [List.flatMap_cons, List.flatMap_cons, ih2 fun B hB => hL B (List.mem_cons_of_mem _ hB), filter_last hn (hL A List.mem_cons_self) hatr hc]
      exact gen _ fun A hA => by rw [rows_len hA, hr]
    rw [e1]
    have e2 : (rowsL (k + 2) n).flatMap (fun A => if r.all (oneC A n) = true then [cstepM n A c] else []) = ((rowsL (k + 2) n).filter fun A => r.all (oneC A n)).map fun A => cstepM n A c := by
      induction rowsL (k + 2) n with
      | nil => rfl
      | cons A L ih2 =>
        rw [List.flatMap_cons, ih2, List.filter_cons]
        by_cases h : r.all (oneC A n) = true
        · rw [if_pos h, if_pos h]; rfl
        · rw [if_neg h, if_neg h]; rfl
    rw [e2, ih, List.map_map]
    congr 1
    funext p
    show cstepM n (colM n r p.1 p.2) c = colM n (r ++ [c]) p.1 p.2
    unfold colM
    rw [List.foldl_append]
    rfl
/-- colours by their rests -/
theorem colM_mod {n : Int} (hn : 0 < n) (x y : Int) : ∀ (cs : List (Nat × Nat × Nat)) (i : Nat), (colM n cs x y).getD i 0 % n = (col cs x y).getD i 0 % n := by
  intro cs
  suffices h : ∀ (cs : List (Nat × Nat × Nat)) (A B : List Int), A.length = B.length → (∀ i, A.getD i 0 % n = B.getD i 0 % n) → ∀ i, (cs.foldl (cstepM n) A).getD i 0 % n = (cs.foldl cstep B).getD i 0 % n from h cs [x, y] [x, y] rfl fun _ => rfl
  intro cs
  induction cs with
  | nil => intro A B _ h; exact h
  | cons c r ih =>
    intro A B hl h
    rw [List.foldl_cons, List.foldl_cons]
    refine ih _ _ ?_ fun i => ?_
    · unfold cstepM cstep
      rw [List.length_append, List.length_append, hl]
      rfl
    · unfold cstepM cstep
      by_cases hi : i < A.length
      · rw [getD_left hi, getD_left (by omega)]
        exact h i
      · by_cases he : i = A.length
        · subst he
          rw [getD_last]
          have l2 := getD_last B (2 * B.getD c.1 0 - B.getD c.2.1 0)
          rw [← hl] at l2
          rw [l2, Int.emod_emod_of_dvd _ (Int.dvd_refl n)]
          have h1 := h c.1
          have h2 := h c.2.1
          rw [Int.emod_eq_emod_iff_emod_sub_eq_zero] at h1 h2 ⊢
          have d1 := Int.dvd_of_emod_eq_zero h1
          have d2 := Int.dvd_of_emod_eq_zero h2
          refine Int.emod_eq_zero_of_dvd ?_
          rw [show 2 * A.getD c.1 0 - A.getD c.2.1 0 - (2 * B.getD c.1 0 - B.getD c.2.1 0) = 2 * (A.getD c.1 0 - B.getD c.1 0) - (A.getD c.2.1 0 - B.getD c.2.1 0) by omega]
          exact Int.dvd_sub (Int.dvd_trans d1 (Int.dvd_mul_left _ _)) d2
        · have out : ∀ (C : List Int) (z : Int), C.length < i → (C ++ [z]).getD i 0 = 0 := fun C z hC => by
            rw [List.getD_eq_getElem?_getD, List.getElem?_eq_none (by rw [List.length_append]; show C.length + 1 ≤ i; omega)]
            rfl
          rw [out A _ (by omega), out B _ (by omega)]
theorem oneP_mod {A B : List Int} {n : Int} (h : ∀ i, A.getD i 0 % n = B.getD i 0 % n) (p : Nat × Nat) : oneP A n p = oneP B n p := by
  unfold oneP
  rw [decide_eq_decide]
  have h1 := h p.1
  have h2 := h p.2
  rw [Int.emod_eq_emod_iff_emod_sub_eq_zero] at h1 h2
  have d1 := Int.dvd_of_emod_eq_zero h1
  have d2 := Int.dvd_of_emod_eq_zero h2
  have dd : n ∣ (A.getD p.1 0 - A.getD p.2 0) - (B.getD p.1 0 - B.getD p.2 0) := by
    rw [show (A.getD p.1 0 - A.getD p.2 0) - (B.getD p.1 0 - B.getD p.2 0) = (A.getD p.1 0 - B.getD p.1 0) - (A.getD p.2 0 - B.getD p.2 0) by omega]
    exact Int.dvd_sub d1 d2
  rw [dvd_sub_iff] at dd
  rw [dd]
theorem closed_count {l : List Nat} (hl : Lets l) {n : Nat} (hn : 0 < n) (d : Bool) : ((rowsL ((dg l).cs.length + 2) n).filter fun A => closedB A (dg l) d n).length = n * Int.gcd n (side d (run (0, 1) l)) := by
  have w := wf_dg l
  have e0 : ((rowsL ((dg l).cs.length + 2) n).filter fun A => closedB A (dg l) d n) = ((rowsL ((dg l).cs.length + 2) n).filter fun A => (dg l).cs.all (oneC A n)).filter fun A => (tied (dg l) d).all (oneP A n) := by
    rw [List.filter_filter]
    refine List.filter_congr fun A _ => ?_
    unfold closedB
    rw [Bool.and_comm]
  rw [e0, rows_filter hn _ _ rfl w.at_, List.filter_map, List.length_map]
  have e1 : (pairsL n).filter ((fun A => (tied (dg l) d).all (oneP A n)) ∘ fun p => colM n (dg l).cs p.1 p.2) = (pairsL n).filter fun p => decide ((n : Int) ∣ side d (run (0, 1) l) * (p.2 - p.1)) := by
    refine List.filter_congr fun p _ => ?_
    show (tied (dg l) d).all (oneP (colM n (dg l).cs p.1 p.2) n) = _
    rw [← tied_iff (ends_dg hl p.1 p.2) d]
    rw [Bool.eq_iff_iff, List.all_eq_true, List.all_eq_true]
    have := oneP_mod (colM_mod (show (0 : Int) < n by omega) p.1 p.2 (dg l).cs)
    exact ⟨fun h t ht => by rw [← this]; exact h t ht, fun h t ht => by rw [this]; exact h t ht⟩
  rw [e1]
  unfold pairsL
  rw [← List.countP_eq_length_filter, List.countP_flatMap]
  have e2 : (List.range n).map (List.countP (fun p : Int × Int => decide ((n : Int) ∣ side d (run (0, 1) l) * (p.2 - p.1))) ∘ fun x => (List.range n).map fun y => (((x : Nat) : Int), ((y : Nat) : Int))) = List.replicate n (Int.gcd n (side d (run (0, 1) l))) := by
    rw [List.eq_replicate_iff]
    refine ⟨by rw [List.length_map, List.length_range], fun b hb => ?_⟩
    obtain ⟨x, _, rfl⟩ := List.mem_map.mp hb
    show List.countP _ _ = _
    rw [List.countP_map]
    exact count_gcd hn _ _
  rw [e2, List.sum_replicate_nat]
theorem closed_second {l : List Nat} (hl : Lets l) {n : Nat} (hn : 0 < n) (d : Bool) : (List.range n).countP (fun s => closedB (col (dg l).cs 0 ((s : Nat) : Int)) (dg l) d n) = Int.gcd n (side d (run (0, 1) l)) := by
  have := count_gcd hn (side d (run (0, 1) l)) 0
  rw [← this]
  refine List.countP_congr fun s _ => ?_
  rw [closed_col (wf_dg l) (ends_dg hl 0 _) d]
/-! ### how many crossings -/
theorem chain_count (l : List Nat) : ∀ (cuts : List Nat) (a f : Nat), PySem.StrLaws.ChainTo (S l) (S [82]) (S l).length a cuts f → cuts.length ≤ (l.drop a).count 82
  | [], a, f, _ => Nat.zero_le _
  | c :: r, a, f, ⟨h1, h2, h3⟩ => by
    have h4 := (PySem.StrLaws.subAt_one (S l) 82 c).mp h2
    rw [S_list] at h4
    have ih := chain_count l r (c + 1) f h3
    obtain ⟨hc, e⟩ := List.getElem?_eq_some_iff.mp h4
    have e1 : l.drop c = 82 :: l.drop (c + 1) := by rw [List.drop_eq_getElem_cons hc, e]
    have e2 : (l.drop c).count 82 ≤ (l.drop a).count 82 := by
      have : l.drop c = (l.drop a).drop (c - a) := by rw [List.drop_drop]; congr 1; omega
      rw [this]
      exact (List.drop_sublist _ _).count_le _
    rw [e1, List.count_cons_self] at e2
    rw [List.length_cons]
    omega
theorem count_R (l : List Nat) : Txt.count (S l) (S [82]) ≤ (l.count 82 : Nat) := by
  unfold Txt.count
  obtain ⟨f, h⟩ := PySem.StrLaws.occ_chain (S l) (S [82]) ((S l).length + 1)
  have := chain_count l _ 0 f h
  rw [List.drop_zero] at this
  exact Int.ofNat_le.mpr this
theorem cs_count (l : List Nat) : (dg l).cs.length + l.count 82 = l.length := by
  suffices h : ∀ (l : List Nat) (g : Dg), (l.foldl dg1 g).cs.length + l.count 82 = g.cs.length + l.length by
    have := h l dg0
    have e : dg0.cs.length = 0 := rfl
    unfold dg
    omega
  intro l
  induction l with
  | nil => intro g; rfl
  | cons c r ih =>
    intro g
    rw [List.foldl_cons, List.length_cons]
    have := ih (dg1 g c)
    by_cases hc : c = 82
    · subst hc
      have e : (dg1 g 82).cs = g.cs := rfl
      rw [List.count_cons_self]
      rw [e] at this
      omega
    · have e : (dg1 g c).cs.length = g.cs.length + 1 := by
        unfold dg1
        rw [if_neg hc]
        split
        · show (g.cs ++ [_]).length = _; rw [List.length_append]; rfl
        · show (g.cs ++ [_]).length = _; rw [List.length_append]; rfl
      rw [List.count_cons_of_ne hc]
      omega
/-! ### what the defs promise -/
def wayS (d : Bool) : Str := if d = true then "down" else "across"
theorem way_down (d : Bool) : decide (V.str (wayS d) = V.str "down") = d := by cases d <;> decide +kernel
theorem way_across (d : Bool) : decide (V.str (wayS d) = V.str "across") = !d := by cases d <;> decide +kernel
def spCol : Sp := fun vs H Q _ => ∃ (l : List Nat) (x y : Int), vs = [.str (S l), .int x, .int y] ∧ l.length ≤ 1000000 ∧ ∀ (p : Addr) H', Same H H' → H p = none → H' p = some (.lst ((col (dg l).cs x y).map V.int)) → Q (.ref p) H'
def spClosed : Sp := fun vs H Q _ => ∃ (cp kp e : Addr) (A : List Int) (l : List Nat) (d : Bool) (n : Int), vs = [.ref cp, .ref kp, .ref e, .str (wayS d), .int n] ∧ H cp = some (.lst (A.map V.int)) ∧ Crs H kp (dg l).cs ∧ H e = some (e4 (dg l)) ∧ A.length = (dg l).n ∧ 0 < n ∧ ∀ H', Same H H' → Q (.bl (closedB A (dg l) d n)) H'
def spCC : Sp := fun vs H Q _ => ∃ (l : List Nat) (d : Bool) (n : Int), vs = [.str (S l), .str (wayS d), .int n] ∧ 0 < n ∧ n ≤ 1000 ∧ ∀ H', Same H H' → Q (.int (n * ((Int.gcd n (side d (run (0, 1) l)) : Nat) : Int))) H'
def spNum : Sp := fun vs H Q _ => ∃ l : List Nat, vs = [.str (S l)] ∧ ∀ t' H', Same H H' → Tup2 H' t' (run (0, 1) l) → Q (.ref t') H'
def spShort : Sp := fun vs H Q _ => ∃ a : Addr, vs = [.ref a] ∧ Tape H a ∧ ∀ (l : List Nat) H', Lets l → l.length ≤ 10 → (dg l).cs.length ≤ 4 → But a H H' → Tape H' a → Q (.str (S l)) H'
/-- a list of lists of ints -/
def Ll (H : Hp) (p : Addr) (rows : List (List Int)) : Prop := ∃ rs : List Addr, H p = some (.lst (rs.map V.ref)) ∧ rs.length = rows.length ∧ ∀ (i : Nat) (r : Addr) (A : List Int), rs[i]? = some r → rows[i]? = some A → r ≠ p ∧ H r = some (.lst (A.map V.int))
theorem Ll.same {H H' : Hp} {p : Addr} {rows : List (List Int)} (h : Ll H p rows) (s : Same H H') : Ll H' p rows := by
  obtain ⟨rs, e, z, k⟩ := h
  exact ⟨rs, s _ _ e, z, fun i r A a b => ⟨(k i r A a b).1, s _ _ (k i r A a b).2⟩⟩
theorem Ll.push {H : Hp} {p q : Addr} {rows : List (List Int)} {A : List Int} (h : Ll H p rows) (hq : H q = some (.lst (A.map V.int))) (ne : q ≠ p) :
    ∃ xs, H p = some (.lst xs) ∧ xs.length = rows.length ∧ Ll (upd H p (.lst (xs ++ [.ref q]))) p (rows ++ [A]) := by
  obtain ⟨rs, e, z, k⟩ := h
  refine ⟨rs.map V.ref, e, by rw [List.length_map]; exact z, rs ++ [q], by rw [upd_same, List.map_append]; rfl, by rw [List.length_append, List.length_append, z]; rfl, fun i r B hr hB => ?_⟩
  by_cases hi : i < rs.length
  · rw [List.getElem?_append_left hi] at hr
    rw [List.getElem?_append_left (by omega)] at hB
    obtain ⟨h1, h2⟩ := k i r B hr hB
    exact ⟨h1, by rw [upd_ne h1]; exact h2⟩
  · rw [List.getElem?_append_right (by omega)] at hr hB
    rw [z] at hr
    by_cases h0 : i - rows.length = 0
    · rw [h0] at hr hB
      cases hr; cases hB
      exact ⟨ne, by rw [upd_ne ne]; exact hq⟩
    · obtain ⟨m, hm⟩ := Nat.exists_eq_succ_of_ne_zero h0
      rw [hm] at hr
      cases hr
def spLists : Sp := fun vs H Q _ => ∃ (k n : Nat), vs = [.int (k : Int), .int (n : Int)] ∧ k ≤ 6 ∧ n ≤ 4 ∧ ∀ (p : Addr) H', Same H H' → Ll H' p (rowsL k n) → Q (.ref p) H'
theorem rows_small {k n : Nat} (hk : k ≤ 6) (hn : n ≤ 4) : (rowsL k n).length ≤ 4096 := by
  rw [rows_size]
  exact Nat.le_trans (Nat.pow_le_pow_left hn k) (Nat.le_trans (Nat.pow_le_pow_right (by decide) hk) (by decide))
end
section
variable {P : Program} {w : World} {K : PySem.W.Frag} {mg : Str → Option Value} {base : Heap} {f : Addr} {fd : FuncData}
theorem ok_num (F : Fun K "number" "number" s_number f fd) (D_after : Dfn P w K mg base "after" 2 ["fraction", "dance"] spAfter)  : FnOk P w K mg base CX0 3 f fd ["dance"] spNum := by
  refine F.ok sc_number (fun vs H Q E h => ?_) (fun cdv A outer s H vs Q E hr h => ?_)
  · obtain ⟨l, rfl, q⟩ := h
    rfl
  obtain ⟨l, rfl, q⟩ := h
  refine ⟨_, (pss_one (ps_ret (pe_do D_after hr (pa_cons (pe_tup (pa_cons pe_int (pa_cons pe_int pa_nil))) (pa_cons (pv 0) pa_nil))))), ?_⟩
  exact ⟨fits (by decide), fun p hp => ⟨_, rfl, p, (0, 1), l, rfl, upd_same, fun t' H' sm tt => q t' H' ((same_new hp _).trans sm) tt⟩⟩
end
section
variable {P : Program} {w : World} {K : PySem.W.Frag} {mg : Str → Option Value} {base : Heap} {f : Addr} {fd : FuncData}
theorem ok_law_diagram (F : Fun K "_law_diagram" "_law_diagram" s_law_diagram f fd)   : FnOk P w K mg base CX0 1 f fd ["dance"] spDiag := by
  refine F.ok sc_law_diagram (fun vs H Q E h => ?_) (fun cdv A outer s H vs Q E hr h => ?_)
  · obtain ⟨l, rfl, hz, q⟩ := h
    rfl
  obtain ⟨l, rfl, hz, q⟩ := h
  refine ⟨_, (pss_cons (ps_set (i := 1) sc_law_diagram.nd rfl (.inl rfl) pe_int)
    (pss_cons (ps_set (i := 2) sc_law_diagram.nd rfl (.inl rfl) (pe_lst pa_nil))
    (pss_cons (ps_set (i := 3) sc_law_diagram.nd rfl (.inl rfl) (pe_tup (pa_cons pe_int (pa_cons pe_int (pa_cons pe_int (pa_cons pe_int pa_nil))))))
    (pss_cons (ps_for PassesOwn.never rfl (pi_str (pv 0)) (pg_name (i := 4) sc_law_diagram.nd rfl (.inl rfl))
    (pss_cons (ps_asg (pv 3) (pg_tup (by rfl) (pgs_cons (pg_name (i := 5) sc_law_diagram.nd rfl (.inl rfl)) (pgs_cons (pg_name (i := 6) sc_law_diagram.nd rfl (.inl rfl)) (pgs_cons (pg_name (i := 7) sc_law_diagram.nd rfl (.inl rfl)) (pgs_cons (pg_name (i := 8) sc_law_diagram.nd rfl (.inl rfl)) pgs_nil))))))
    (pss_one (ps_if (pt_cmpR op_eq (pv 4) pe_str (nomark _)) (pss_one (ps_set (i := 3) sc_law_diagram.nd rfl (.inl rfl) (pe_tup (pa_cons (pv 7) (pa_cons (pv 5) (pa_cons (pv 8) (pa_cons (pv 6) pa_nil))))))) (pss_one (ps_if (pt_cmpR op_eq (pv 4) pe_str (nomark _)) (pss_cons (ps_expr (pe_bm PySem.F.plainAttrs_list PySem.F.slot_list_append PySem.F.type_list_append mt_append (pv 2) (pa_cons (pe_tup (pa_cons (pv 6) (pa_cons (pv 8) (pa_cons (pv 1) pa_nil)))) pa_nil)))
    (pss_cons (ps_set (i := 3) sc_law_diagram.nd rfl (.inl rfl) (pe_tup (pa_cons (pv 5) (pa_cons (pv 1) (pa_cons (pv 7) (pa_cons (pv 6) pa_nil))))))
    (pss_one (ps_set (i := 1) sc_law_diagram.nd rfl (.inl rfl) (pe_op op_add (pv 1) pe_int))))) (pss_cons (ps_expr (pe_bm PySem.F.plainAttrs_list PySem.F.slot_list_append PySem.F.type_list_append mt_append (pv 2) (pa_cons (pe_tup (pa_cons (pv 8) (pa_cons (pv 6) (pa_cons (pv 1) pa_nil)))) pa_nil)))
    (pss_cons (ps_set (i := 3) sc_law_diagram.nd rfl (.inl rfl) (pe_tup (pa_cons (pv 5) (pa_cons (pv 8) (pa_cons (pv 7) (pa_cons (pv 1) pa_nil))))))
    (pss_one (ps_set (i := 1) sc_law_diagram.nd rfl (.inl rfl) (pe_op op_add (pv 1) pe_int)))))))))))
    (pss_one (ps_ret (pe_tup (pa_cons (pv 1) (pa_cons (pv 2) (pa_cons (pv 3) pa_nil)))))))))), ?_⟩
  have sz : 4 ≤ sizeLine := fits (by decide)
  have s3 : 3 ≤ sizeLine := fits (by decide)
  refine ⟨fits (by decide), fun p hp => ⟨sz, fun e0 he0 => ?_⟩⟩
  refine ⟨_, rfl, _, rfl, for_str (l := l) (fun i σ H' => ∃ (e : Addr) (x1 x2 x3 x4 x5 : Option V), σ = [some (.str (S l)), some (.int ((dg (l.take i)).n : Int)), some (.ref p), some (.ref e), x1, x2, x3, x4, x5] ∧ Same H H' ∧ H' e = some (e4 (dg (l.take i))) ∧ Crs H' p (dg (l.take i)).cs) ?_ ?_ ?_⟩
  · refine ⟨e0, _, _, _, _, _, rfl, (same_new hp _).trans (same_new he0 _), upd_same, [], ?_, rfl, fun i r c a _ => by cases a⟩
    rw [upd_ne (ne_of_none upd_same he0), upd_same]
    rfl
  · rintro i c σ H1 hc ⟨e, x1, x2, x3, x4, x5, rfl, sm, he, cr⟩
    have hi : i < l.length := (List.getElem?_eq_some_iff.mp hc).1
    have dl := dg_len (l.take i)
    rw [List.length_take] at dl
    have st := dg_take hc
    generalize dg (l.take i) = g at *
    refine ⟨_, rfl, e, _, rfl, SqT.of he, rfl, _, _, rfl, _, _, rfl, _, _, rfl, _, _, rfl, rfl, ?_⟩
    refine ⟨_, rfl, rfl, _, rfl, ite2 (fun c1 => ?_) (fun c1 => ?_)⟩
    · have k1 : c = 82 := (sign_eq e_R).mp (of_decide_eq_true c1)
      have e1 : dg1 g c = ⟨g.n, g.cs, g.c, g.a, g.d, g.b⟩ := if_pos k1
      rw [e1] at st
      rw [st]
      refine ⟨_, rfl, _, rfl, _, rfl, _, rfl, sz, fun t ht => ⟨t, _, _, _, _, _, rfl, sm.trans (same_new ht _), upd_same, cr.same (same_new ht _)⟩⟩
    have k1 : ¬ c = 82 := fun z => c1 (decide_eq_true ((sign_eq e_R).mpr z))
    refine ⟨_, rfl, rfl, _, rfl, ite2 (fun c2 => ?_) (fun c2 => ?_)⟩
    · have k2 : c = 84 := (sign_eq e_T).mp (of_decide_eq_true c2)
      have e1 : dg1 g c = ⟨g.n + 1, g.cs ++ [(g.b, g.d, g.n)], g.a, g.n, g.c, g.b⟩ := (if_neg k1).trans (if_pos k2)
      rw [e1] at st
      rw [st]
      obtain ⟨rs, hrs, _⟩ := cr
      refine ⟨_, rfl, .inl ⟨rfl, _, SqL.of hrs⟩, _, rfl, _, rfl, _, rfl, s3, fun t ht => ?_⟩
      obtain ⟨xs, hx, hl, cr'⟩ := Crs.push ⟨rs, hrs, ‹_›⟩ ht (g.b, g.d, g.n)
      refine ⟨p, xs, _, rfl, rfl, hx, Nat.lt_of_lt_of_le (show xs.length < 16777216 by omega) sizeLine_big, ?_⟩
      refine ⟨_, rfl, _, rfl, _, rfl, _, rfl, sz, fun t2 ht2 => ⟨_, rfl, _, _, rfl, rfl, t2, _, _, _, _, _, rfl, ?_, upd_same, cr'.same (same_new ht2 _)⟩⟩
      refine Same.trans (fun b o hb => ?_) (same_new ht2 _)
      rw [upd_ne (ne_of_none hb hp), upd_ne (ne_of_none (sm _ _ hb) ht)]
      exact sm _ _ hb
    · have k2 : ¬ c = 84 := fun z => c2 (decide_eq_true ((sign_eq e_T).mpr z))
      have e1 : dg1 g c = ⟨g.n + 1, g.cs ++ [(g.d, g.b, g.n)], g.a, g.d, g.c, g.n⟩ := (if_neg k1).trans (if_neg k2)
      rw [e1] at st
      rw [st]
      obtain ⟨rs, hrs, _⟩ := cr
      refine ⟨_, rfl, .inl ⟨rfl, _, SqL.of hrs⟩, _, rfl, _, rfl, _, rfl, s3, fun t ht => ?_⟩
      obtain ⟨xs, hx, hl, cr'⟩ := Crs.push ⟨rs, hrs, ‹_›⟩ ht (g.d, g.b, g.n)
      refine ⟨p, xs, _, rfl, rfl, hx, Nat.lt_of_lt_of_le (show xs.length < 16777216 by omega) sizeLine_big, ?_⟩
      refine ⟨_, rfl, _, rfl, _, rfl, _, rfl, sz, fun t2 ht2 => ⟨_, rfl, _, _, rfl, rfl, t2, _, _, _, _, _, rfl, ?_, upd_same, cr'.same (same_new ht2 _)⟩⟩
      refine Same.trans (fun b o hb => ?_) (same_new ht2 _)
      rw [upd_ne (ne_of_none hb hp), upd_ne (ne_of_none (sm _ _ hb) ht)]
      exact sm _ _ hb
  · rintro σ H1 ⟨e, x1, x2, x3, x4, x5, rfl, sm, he, cr⟩
    rw [List.take_of_length_le (Nat.le_refl _)] at he cr ⊢
    exact ⟨_, rfl, _, rfl, _, rfl, s3, fun t ht => q t p _ (sm.trans (same_new ht _)) hp ⟨e, upd_same, same_new ht _ _ _ he, cr.same (same_new ht _)⟩⟩
end
section
variable {P : Program} {w : World} {K : PySem.W.Frag} {mg : Str → Option Value} {base : Heap} {f : Addr} {fd : FuncData}
theorem ok_law_colouring (F : Fun K "_law_colouring" "_law_colouring" s_law_colouring f fd) (D_law_diagram : Dfn P w K mg base "_law_diagram" 1 ["dance"] spDiag)  : FnOk P w K mg base CX0 2 f fd ["dance", "first", "second"] spCol := by
  refine F.ok sc_law_colouring (fun vs H Q E h => ?_) (fun cdv A outer s H vs Q E hr h => ?_)
  · obtain ⟨l, x, y, rfl, hz, q⟩ := h
    rfl
  obtain ⟨l, x, y, rfl, hz, q⟩ := h
  refine ⟨_, (pss_cons (ps_set (i := 3) sc_law_colouring.nd rfl (.inl rfl) (pe_lst (pa_cons (pv 1) (pa_cons (pv 2) pa_nil))))
    (pss_cons (ps_for PassesOwn.never rfl (pi_list (pe_ix ix_tup (pe_do D_law_diagram hr (pa_cons (pv 0) pa_nil)) pe_int (fun _ _ => rfl))) (pg_tup (by rfl) (pgs_cons (pg_name (i := 4) sc_law_colouring.nd rfl (.inl rfl)) (pgs_cons (pg_name (i := 5) sc_law_colouring.nd rfl (.inl rfl)) (pgs_cons (pg_name (i := 6) sc_law_colouring.nd rfl (.inl rfl)) pgs_nil))))
    (pss_one (ps_expr (pe_bm PySem.F.plainAttrs_list PySem.F.slot_list_append PySem.F.type_list_append mt_append (pv 3) (pa_cons (pe_op op_sub (pe_op op_mul pe_int (pe_ix ix_list (pv 3) (pv 4) (fun _ _ => rfl))) (pe_ix ix_list (pv 3) (pv 5) (fun _ _ => rfl))) pa_nil)))))
    (pss_one (ps_ret (pv 3))))), ?_⟩
  have two : 2 ≤ sizeLine := fits (by decide)
  refine ⟨_, rfl, _, rfl, two, fun p hp => ?_⟩
  refine ⟨_, rfl, l, rfl, hz, fun t kp H2 s2 nk dgm => ?_⟩
  have hk0 := nk
  obtain ⟨e, ht, he, rs, hrs, zr, kr⟩ := dgm
  have np : p ≠ kp := ne_of_none upd_same nk
  have ep := s2 _ _ (upd_same (H := H) (a := p))
  have wl := wf_dg l
  have dl := dg_len l
  refine ⟨t, _, _, _, rfl, rfl, SqT.of ht, rfl, kp, rfl, ⟨_, SqL.of hrs⟩, for_list (K := K) (a := kp) (xs := rs.map V.ref) (fun i σ G => ∃ (x4 x5 x6 : Option V), σ = [some (.str (S l)), some (.int x), some (.int y), some (.ref p), x4, x5, x6] ∧ But p H2 G ∧ G p = some (.lst ((col ((dg l).cs.take i) x y).map V.int))) ?_ ?_ ?_ ?_⟩
  · exact ⟨_, _, _, rfl, But.refl _ _, ep⟩
  · rintro i σ G _ ⟨x4, x5, x6, _, bt, _⟩
    exact SqL.of (bt _ _ np.symm hrs)
  · rintro i v σ G hv ⟨x4, x5, x6, rfl, bt, hG⟩
    rw [List.getElem?_map] at hv
    cases hr : rs[i]? with
    | none => rw [hr] at hv; cases hv
    | some r =>
      rw [hr] at hv
      cases hv
      have hi : i < (dg l).cs.length := by rw [← zr]; exact (List.getElem?_eq_some_iff.mp hr).1
      have hc : (dg l).cs[i]? = some (dg l).cs[i] := List.getElem?_eq_getElem hi
      generalize (dg l).cs[i] = c at hc
      have tr := kr i r c hr hc
      have trG := bt _ _ (ne_of tr ep (by intro z; cases z)) tr
      obtain ⟨b1, b2, b3⟩ := wl.at_ i c hc
      have lA := col_len x y ((dg l).cs.take i)
      rw [List.length_take] at lA
      have lm : ((col ((dg l).cs.take i) x y).map V.int).length < sizeLine := by
        rw [List.length_map]
        exact Nat.lt_of_lt_of_le (show _ < 16777216 by omega) sizeLine_big
      refine ⟨r, _, rfl, SqT.of trG, rfl, _, _, rfl, _, _, rfl, _, _, rfl, rfl, ?_⟩
      refine ⟨_, rfl, .inl ⟨rfl, _, SqL.of hG⟩, _, rfl, _, rfl, p, _, _, _, rfl, rfl, SqL.of hG, at_getD (by omega), _, _, rfl, rfl, .inl ⟨by decide, by decide⟩, _, rfl, _, rfl, p, _, _, _, rfl, rfl, SqL.of hG, at_getD (by omega), _, _, rfl, rfl, p, _, _, rfl, rfl, hG, lm, ?_⟩
      refine ⟨_, _, _, rfl, bt.trans But.upd, ?_⟩
      rw [upd_same, List.take_add_one, hc]
      show _ = some (HO.lst ((col ((dg l).cs.take i ++ [c]) x y).map V.int))
      rw [col_snoc]
      unfold cstep
      rw [List.map_append]
      rfl
  · rintro σ G ⟨x4, x5, x6, rfl, bt, hG⟩
    rw [List.length_map, zr, List.take_of_length_le (Nat.le_refl _)] at hG
    exact ⟨_, rfl, q p G (fun b o hb => bt _ _ (ne_of_none hb hp) (s2 _ _ (same_new hp _ _ _ hb))) hp hG⟩
end
section
variable {P : Program} {w : World} {K : PySem.W.Frag} {mg : Str → Option Value} {base : Heap} {f : Addr} {fd : FuncData}
theorem ok_closed (F : Fun K "_law_is_closed" "_law_is_closed" s_law_is_closed f fd) (y_int : mg "int" = none) (y_len : mg "len" = none)  : FnOk P w K mg base CX0 1 f fd ["colours", "crossings", "ends", "way", "n"] spClosed := by
  refine F.ok sc_law_is_closed (fun vs H Q E h => ?_) (fun cdv A outer s H vs Q E hr h => ?_)
  · obtain ⟨cp, kp, e, A, l, d, n, rfl, hA, cr, he, lA, n0, q⟩ := h
    rfl
  obtain ⟨cp, kp, e, A, l, d, n, rfl, hA, cr, he, lA, n0, q⟩ := h
  refine ⟨_, (pss_cons (ps_asg (pv 2) (pg_tup (by rfl) (pgs_cons (pg_name (i := 5) sc_law_is_closed.nd rfl (.inl rfl)) (pgs_cons (pg_name (i := 6) sc_law_is_closed.nd rfl (.inl rfl)) (pgs_cons (pg_name (i := 7) sc_law_is_closed.nd rfl (.inl rfl)) (pgs_cons (pg_name (i := 8) sc_law_is_closed.nd rfl (.inl rfl)) pgs_nil))))))
    (pss_cons (ps_set (i := 9) sc_law_is_closed.nd rfl (.inl rfl) (pe_lst (pa_cons (pe_tup (pa_cons (pv 5) (pa_cons (pv 6) pa_nil))) (pa_cons (pe_tup (pa_cons (pv 7) (pa_cons (pv 8) pa_nil))) pa_nil))))
    (pss_cons (ps_if (pt_cmpR op_eq (pv 3) pe_str (nomark _)) (pss_one (ps_set (i := 9) sc_law_is_closed.nd rfl (.inl rfl) (pe_lst (pa_cons (pe_tup (pa_cons (pv 5) (pa_cons (pv 7) pa_nil))) (pa_cons (pe_tup (pa_cons (pv 6) (pa_cons (pv 8) pa_nil))) pa_nil))))) pss_nil)
    (pss_cons (ps_for PassesOwn.never rfl (pi_list (pv 1)) (pg_tup (by rfl) (pgs_cons (pg_name (i := 10) sc_law_is_closed.nd rfl (.inl rfl)) (pgs_cons (pg_name (i := 11) sc_law_is_closed.nd rfl (.inl rfl)) (pgs_cons (pg_name (i := 12) sc_law_is_closed.nd rfl (.inl rfl)) pgs_nil))))
    (pss_one (ps_if (pt_cmpR op_ne (pe_op op_modN (pe_callTy call_int1 rfl y_int (by decide +kernel) (pa_cons (pe_op op_sub (pe_op op_add (pe_ix ix_list (pv 0) (pv 11) (fun _ _ => rfl)) (pe_ix ix_list (pv 0) (pv 12) (fun _ _ => rfl))) (pe_op op_mul pe_int (pe_ix ix_list (pv 0) (pv 10) (fun _ _ => rfl)))) pa_nil)) (pv 4)) pe_int (nomark _)) (pss_one (ps_ret pe_bl)) pss_nil)))
    (pss_one (ps_ret (pe_cmpR op_eq (pe_callB call_len_seq rfl y_len PySem.boot_len (pa_cons (pe_lc (own := [("pair", 13)]) (g := (gName 13)) (by rfl) sc_law_is_closed.nd (pi_list (pv 9)) (blkOk_by (own := [("pair", 13)]) (N := ["colours", "crossings", "ends", "way", "n", "a", "b", "c", "d", "pairs", "over", "before", "behind", "pair"]) (sc := defScope s_law_is_closed) (by decide +kernel)) (fun _ _ _ _ _ => pg_name (i := 13) sc_law_is_closed.nd rfl (Or.inl rfl)) (fun _ _ _ _ _ => (pts_one (pt_cmpR op_ne (pe_op op_modN (pe_callTy call_int1 rfl y_int (by decide +kernel) (pa_cons (pe_op op_sub (pe_ix (r := rIxL K) ix_list (pv 0) (pe_ix (r := rIxT K) ix_tup (pv 13) pe_int (fun _ _ => rfl)) (fun _ _ => rfl)) (pe_ix (r := rIxL K) ix_list (pv 0) (pe_ix (r := rIxT K) ix_tup (pv 13) pe_int (fun _ _ => rfl)) (fun _ _ => rfl))) pa_nil)) (pv 4)) pe_int (nomark _)))) (fun _ _ _ _ _ => (pv 13))) pa_nil)) pe_int (nomark _)))))))), ?_⟩
  have two : 2 ≤ sizeLine := fits (by decide)
  have w := wf_dg l
  have wa := w.a
  have wb := w.b
  have wc := w.c
  have wd := w.d
  have wn := w.n
  obtain ⟨rs, hrs, zr, kr⟩ := cr
  have emod : ∀ z : Int, z.fmod n = z % n := fun z => Int.fmod_eq_emod_of_nonneg z (by omega)
  refine ⟨_, rfl, e, _, rfl, SqT.of he, rfl, _, _, rfl, _, _, rfl, _, _, rfl, _, _, rfl, rfl, ?_⟩
  refine ⟨_, rfl, _, rfl, two, fun t1 h1 => ⟨_, rfl, _, rfl, two, fun t2 h2 => ⟨two, fun pp hpp => ?_⟩⟩⟩
  have S1 := ((same_new h1 (.tup [V.int ((dg l).a : Int), .int ((dg l).b : Int)])).trans (same_new h2 (.tup [V.int ((dg l).c : Int), .int ((dg l).d : Int)]))).trans (same_new hpp (.lst [V.ref t1, .ref t2]))
  have tl2 : ∀ {G : Hp} {p t1 t2 : Addr} {x1 x2 y1 y2 : V}, G p = some (.lst [V.ref t1, .ref t2]) → G t1 = some (.tup [x1, x2]) → G t2 = some (.tup [y1, y2]) → Tl G p [[x1, x2], [y1, y2]] := fun {G p t1 t2 x1 x2 y1 y2} g1 g2 g3 => ⟨[t1, t2], g1, rfl, fun i r c hr hc => by
    match i with
    | 0 => cases hr; cases hc; exact g2
    | 1 => cases hr; cases hc; exact g3
    | i + 2 => cases hr⟩
  have T1 := tl2 (x1 := .int ((dg l).a : Int)) (x2 := .int ((dg l).b : Int)) (y1 := .int ((dg l).c : Int)) (y2 := .int ((dg l).d : Int)) (upd_same (H := upd (upd H t1 (.tup [V.int ((dg l).a : Int), .int ((dg l).b : Int)])) t2 (.tup [V.int ((dg l).c : Int), .int ((dg l).d : Int)])) (a := pp)) (same_new hpp _ _ _ (same_new h2 _ _ _ upd_same)) (same_new hpp _ _ _ upd_same)
  refine ⟨_, rfl, rfl, _, rfl, ?_⟩
  rw [way_down]
  cases d with
  | true =>
    refine iteT ⟨_, rfl, _, rfl, two, fun t3 h3 => ⟨_, rfl, _, rfl, two, fun t4 h4 => ⟨two, fun qp hqp => ?A⟩⟩⟩
    case A =>
      have S2 := S1.trans (((same_new h3 (.tup [V.int ((dg l).a : Int), .int ((dg l).c : Int)])).trans (same_new h4 (.tup [V.int ((dg l).b : Int), .int ((dg l).d : Int)]))).trans (same_new hqp (.lst [V.ref t3, .ref t4])))
      have T2 : Tl _ qp ((tied (dg l) true).map fun p => [V.int (p.1 : Int), .int (p.2 : Int)]) := tl2 (upd_same (a := qp)) (same_new hqp _ _ _ (same_new h4 _ _ _ upd_same)) (same_new hqp _ _ _ upd_same)
      refine ⟨_, rfl, kp, rfl, ⟨_, SqL.of (S2 _ _ hrs)⟩, for_list (K := K) (a := kp) (xs := rs.map V.ref) (fun i σ G => ∃ (x10 x11 x12 x13 : Option V), σ = [some (.ref cp), some (.ref kp), some (.ref e), some (.str (wayS true)), some (.int n), some (.int ((dg l).a : Int)), some (.int ((dg l).b : Int)), some (.int ((dg l).c : Int)), some (.int ((dg l).d : Int)), some (.ref qp), x10, x11, x12, x13] ∧ Same H G ∧ Tl G qp ((tied (dg l) true).map fun p => [V.int (p.1 : Int), .int (p.2 : Int)]) ∧ ((dg l).cs.take i).all (oneC A n) = true) ?_ ?_ ?_ ?_⟩
      · exact ⟨_, _, _, _, rfl, S2, T2, rfl⟩
      · rintro i σ G _ ⟨x10, x11, x12, x13, _, sg, _⟩
        exact SqL.of (sg _ _ hrs)
      · rintro i v σ G hv ⟨x10, x11, x12, x13, rfl, sg, tG, hall⟩
        rw [List.getElem?_map] at hv
        cases hr : rs[i]? with
        | none => rw [hr] at hv; cases hv
        | some r =>
          rw [hr] at hv
          cases hv
          have hi : i < (dg l).cs.length := by rw [← zr]; exact (List.getElem?_eq_some_iff.mp hr).1
          have hc : (dg l).cs[i]? = some (dg l).cs[i] := List.getElem?_eq_getElem hi
          generalize (dg l).cs[i] = c at hc
          have trG := sg _ _ (kr i r c hr hc)
          obtain ⟨b1, b2, b3⟩ := w.at_ i c hc
          have aG := SqL.of (K := K) (sg _ _ hA)
          refine ⟨r, _, rfl, SqT.of trG, rfl, _, _, rfl, _, _, rfl, _, _, rfl, rfl, ?_⟩
          refine ⟨_, rfl, _, rfl, cp, _, _, _, rfl, rfl, aG, at_getD (by omega), _, rfl, _, rfl, cp, _, _, _, rfl, rfl, aG, at_getD (by omega), _, _, rfl, rfl, _, rfl, _, rfl, cp, _, _, _, rfl, rfl, aG, at_getD (by omega), _, _, rfl, rfl, .inl ⟨by decide, by decide⟩, _, _, rfl, rfl, .inl ⟨_, rfl, _, rfl, _, _, rfl, rfl, (show n ≠ 0 by omega), rfl, _, rfl, ?_⟩⟩
          refine ite2 (fun k => ?_) (fun k => ?_)
          · have hne : ¬ (A.getD c.2.1 0 + A.getD c.2.2 0 - 2 * A.getD c.1 0) % n = 0 := fun z => of_decide_eq_false (show decide (V.int ((A.getD c.2.1 0 + A.getD c.2.2 0 - 2 * A.getD c.1 0).fmod n) = V.int 0) = false from by simpa only [Bool.not_eq_true'] using k) (by rw [emod, z])
            have e1 : (dg l).cs.all (oneC A n) = false := by
              rw [List.all_eq_false]
              exact ⟨c, List.mem_of_getElem? hc, by unfold oneC; rw [decide_eq_false hne]; decide⟩
            have q1 := q G sg
            unfold closedB at q1
            rw [e1, Bool.false_and] at q1
            exact q1
          · have heq : (A.getD c.2.1 0 + A.getD c.2.2 0 - 2 * A.getD c.1 0) % n = 0 := by
              rw [← emod]
              exact V.int.inj (by simpa using k)
            refine ⟨_, _, _, _, rfl, sg, tG, ?_⟩
            rw [List.take_add_one, hc, List.all_append, hall]
            show (true && [c].all (oneC A n)) = true
            rw [List.all_cons, List.all_nil]
            unfold oneC
            rw [decide_eq_true heq]
            rfl
      · rintro σ G ⟨x10, x11, x12, x13, rfl, sg, tG, hall⟩
        rw [List.length_map, zr, List.take_of_length_le (Nat.le_refl _)] at hall
        have q1 := fun F (s : Same G F) => q F (sg.trans s)
        unfold closedB at q1
        rw [hall, Bool.true_and] at q1
        obtain ⟨ps, hps, zp, kp'⟩ := tG
        rw [List.length_map] at zp
        have lt2 : ∀ t ∈ tied (dg l) true, t.1 < A.length ∧ t.2 < A.length := by
          intro t ht
          have ht' : t ∈ [((dg l).a, (dg l).c), ((dg l).b, (dg l).d)] := ht
          simp only [List.mem_cons, List.not_mem_nil, or_false] at ht'
          rcases ht' with rfl | rfl
          · exact ⟨by show _ < _; omega, by show _ < _; omega⟩
          · exact ⟨by show _ < _; omega, by show _ < _; omega⟩
        refine ⟨_, rfl, qp, rfl, ⟨_, SqL.of hps⟩, fun D hD => lc_list (K := K) (a := qp) (xs := ps.map V.ref) (fun i F => ∃ ys : List V, Same G F ∧ F D = some (.lst ys) ∧ ys.length ≤ i ∧ (ys = [] ↔ ((tied (dg l) true).take i).all (oneP A n) = true)) ⟨[], same_new hD _, upd_same, Nat.zero_le _, ⟨fun _ => rfl, fun _ => rfl⟩⟩ ?_ ?_ ?_⟩
        · rintro i F _ ⟨ys, sF, _⟩
          exact SqL.of (sF _ _ hps)
        · rintro i v F hv ⟨ys, sF, hF, hy, hys⟩
          rw [List.getElem?_map] at hv
          cases hr : ps[i]? with
          | none => rw [hr] at hv; cases hv
          | some r =>
            rw [hr] at hv
            cases hv
            have hi : i < (tied (dg l) true).length := by rw [← zp]; exact (List.getElem?_eq_some_iff.mp hr).1
            have ht : (tied (dg l) true)[i]? = some (tied (dg l) true)[i] := List.getElem?_eq_getElem hi
            have mt := List.getElem_mem hi
            generalize (tied (dg l) true)[i] = t at ht mt
            obtain ⟨l1, l2⟩ := lt2 t mt
            have trF := sF _ _ (kp' i r _ hr (by rw [List.getElem?_map, ht]; rfl))
            have aF := SqL.of (K := K) (sF _ _ (sg _ _ hA))
            refine ⟨rfl, _, rfl, _, rfl, r, _, _, _, rfl, rfl, SqT.of trF, rfl, cp, _, _, _, rfl, rfl, aF, at_getD l1, _, rfl, _, rfl, r, _, _, _, rfl, rfl, SqT.of trF, rfl, cp, _, _, _, rfl, rfl, aF, at_getD l2, _, _, rfl, rfl, .inl ⟨_, rfl, _, rfl, _, _, rfl, rfl, (show n ≠ 0 by omega), rfl, _, rfl, ?_⟩⟩
            have step : ((tied (dg l) true).take (i + 1)).all (oneP A n) = (((tied (dg l) true).take i).all (oneP A n) && oneP A n t) := by
              rw [List.take_add_one, ht, List.all_append]
              show (_ && [t].all (oneP A n)) = _
              rw [List.all_cons, List.all_nil, Bool.and_true]
            refine ite2 (fun k => ?_) (fun k => ?_)
            · have hne : ¬ (A.getD t.1 0 - A.getD t.2 0) % n = 0 := fun z => of_decide_eq_false (show decide (V.int ((A.getD t.1 0 - A.getD t.2 0).fmod n) = V.int 0) = false from by simpa only [Bool.not_eq_true'] using k) (by rw [emod, z])
              refine ⟨_, rfl, ys, hF, Nat.lt_of_lt_of_le (show ys.length < 16777216 by have : (tied (dg l) true).length = 2 := rfl; omega) sizeLine_big, ys ++ [_], fun b o hb => ?_, upd_same, by rw [List.length_append]; show _ + 1 ≤ _; omega, ?_⟩
              · rw [upd_ne (ne_of_none hb hD)]
                exact sF _ _ hb
              · rw [step]
                unfold oneP
                rw [decide_eq_false hne, Bool.and_false]
                exact ⟨fun z => by simp at z, fun z => by cases z⟩
            · have heq : (A.getD t.1 0 - A.getD t.2 0) % n = 0 := by
                rw [← emod]
                exact V.int.inj (by simpa using k)
              refine ⟨ys, sF, hF, by omega, ?_⟩
              rw [step]
              have e1 : oneP A n t = true := by unfold oneP; rw [decide_eq_true heq]
              rw [e1, Bool.and_true]
              exact hys
        · rintro F ⟨ys, sF, hF, hy, hys⟩
          rw [List.length_map, zp, List.take_of_length_le (Nat.le_refl _)] at hys
          have q2 := q1 F sF
          refine ⟨D, ys, rfl, .inl (SqL.of hF), rfl, ?_⟩
          have e1 : decide (V.int ((ys.length : Nat) : Int) = V.int 0) = (tied (dg l) true).all (oneP A n) := by
            rw [Bool.eq_iff_iff, decide_eq_true_eq, ← hys]
            constructor
            · intro z
              exact List.eq_nil_of_length_eq_zero (by have := V.int.inj z; omega)
            · intro z
              rw [z]
              rfl
          rw [e1]
          exact q2
  | false =>
    refine iteF ?B
    case B =>
      have S2 := S1
      have T2 : Tl _ pp ((tied (dg l) false).map fun p => [V.int (p.1 : Int), .int (p.2 : Int)]) := T1
      refine ⟨_, rfl, kp, rfl, ⟨_, SqL.of (S2 _ _ hrs)⟩, for_list (K := K) (a := kp) (xs := rs.map V.ref) (fun i σ G => ∃ (x10 x11 x12 x13 : Option V), σ = [some (.ref cp), some (.ref kp), some (.ref e), some (.str (wayS false)), some (.int n), some (.int ((dg l).a : Int)), some (.int ((dg l).b : Int)), some (.int ((dg l).c : Int)), some (.int ((dg l).d : Int)), some (.ref pp), x10, x11, x12, x13] ∧ Same H G ∧ Tl G pp ((tied (dg l) false).map fun p => [V.int (p.1 : Int), .int (p.2 : Int)]) ∧ ((dg l).cs.take i).all (oneC A n) = true) ?_ ?_ ?_ ?_⟩
      · exact ⟨_, _, _, _, rfl, S2, T2, rfl⟩
      · rintro i σ G _ ⟨x10, x11, x12, x13, _, sg, _⟩
        exact SqL.of (sg _ _ hrs)
      · rintro i v σ G hv ⟨x10, x11, x12, x13, rfl, sg, tG, hall⟩
        rw [List.getElem?_map] at hv
        cases hr : rs[i]? with
        | none => rw [hr] at hv; cases hv
        | some r =>
          rw [hr] at hv
          cases hv
          have hi : i < (dg l).cs.length := by rw [← zr]; exact (List.getElem?_eq_some_iff.mp hr).1
          have hc : (dg l).cs[i]? = some (dg l).cs[i] := List.getElem?_eq_getElem hi
          generalize (dg l).cs[i] = c at hc
          have trG := sg _ _ (kr i r c hr hc)
          obtain ⟨b1, b2, b3⟩ := w.at_ i c hc
          have aG := SqL.of (K := K) (sg _ _ hA)
          refine ⟨r, _, rfl, SqT.of trG, rfl, _, _, rfl, _, _, rfl, _, _, rfl, rfl, ?_⟩
          refine ⟨_, rfl, _, rfl, cp, _, _, _, rfl, rfl, aG, at_getD (by omega), _, rfl, _, rfl, cp, _, _, _, rfl, rfl, aG, at_getD (by omega), _, _, rfl, rfl, _, rfl, _, rfl, cp, _, _, _, rfl, rfl, aG, at_getD (by omega), _, _, rfl, rfl, .inl ⟨by decide, by decide⟩, _, _, rfl, rfl, .inl ⟨_, rfl, _, rfl, _, _, rfl, rfl, (show n ≠ 0 by omega), rfl, _, rfl, ?_⟩⟩
          refine ite2 (fun k => ?_) (fun k => ?_)
          · have hne : ¬ (A.getD c.2.1 0 + A.getD c.2.2 0 - 2 * A.getD c.1 0) % n = 0 := fun z => of_decide_eq_false (show decide (V.int ((A.getD c.2.1 0 + A.getD c.2.2 0 - 2 * A.getD c.1 0).fmod n) = V.int 0) = false from by simpa only [Bool.not_eq_true'] using k) (by rw [emod, z])
            have e1 : (dg l).cs.all (oneC A n) = false := by
              rw [List.all_eq_false]
              exact ⟨c, List.mem_of_getElem? hc, by unfold oneC; rw [decide_eq_false hne]; decide⟩
            have q1 := q G sg
            unfold closedB at q1
            rw [e1, Bool.false_and] at q1
            exact q1
          · have heq : (A.getD c.2.1 0 + A.getD c.2.2 0 - 2 * A.getD c.1 0) % n = 0 := by
              rw [← emod]
              exact V.int.inj (by simpa using k)
            refine ⟨_, _, _, _, rfl, sg, tG, ?_⟩
            rw [List.take_add_one, hc, List.all_append, hall]
            show (true && [c].all (oneC A n)) = true
            rw [List.all_cons, List.all_nil]
            unfold oneC
            rw [decide_eq_true heq]
            rfl
      · rintro σ G ⟨x10, x11, x12, x13, rfl, sg, tG, hall⟩
        rw [List.length_map, zr, List.take_of_length_le (Nat.le_refl _)] at hall
        have q1 := fun F (s : Same G F) => q F (sg.trans s)
        unfold closedB at q1
        rw [hall, Bool.true_and] at q1
        obtain ⟨ps, hps, zp, kp'⟩ := tG
        rw [List.length_map] at zp
        have lt2 : ∀ t ∈ tied (dg l) false, t.1 < A.length ∧ t.2 < A.length := by
          intro t ht
          have ht' : t ∈ [((dg l).a, (dg l).b), ((dg l).c, (dg l).d)] := ht
          simp only [List.mem_cons, List.not_mem_nil, or_false] at ht'
          rcases ht' with rfl | rfl
          · exact ⟨by show _ < _; omega, by show _ < _; omega⟩
          · exact ⟨by show _ < _; omega, by show _ < _; omega⟩
        refine ⟨_, rfl, pp, rfl, ⟨_, SqL.of hps⟩, fun D hD => lc_list (K := K) (a := pp) (xs := ps.map V.ref) (fun i F => ∃ ys : List V, Same G F ∧ F D = some (.lst ys) ∧ ys.length ≤ i ∧ (ys = [] ↔ ((tied (dg l) false).take i).all (oneP A n) = true)) ⟨[], same_new hD _, upd_same, Nat.zero_le _, ⟨fun _ => rfl, fun _ => rfl⟩⟩ ?_ ?_ ?_⟩
        · rintro i F _ ⟨ys, sF, _⟩
          exact SqL.of (sF _ _ hps)
        · rintro i v F hv ⟨ys, sF, hF, hy, hys⟩
          rw [List.getElem?_map] at hv
          cases hr : ps[i]? with
          | none => rw [hr] at hv; cases hv
          | some r =>
            rw [hr] at hv
            cases hv
            have hi : i < (tied (dg l) false).length := by rw [← zp]; exact (List.getElem?_eq_some_iff.mp hr).1
            have ht : (tied (dg l) false)[i]? = some (tied (dg l) false)[i] := List.getElem?_eq_getElem hi
            have mt := List.getElem_mem hi
            generalize (tied (dg l) false)[i] = t at ht mt
            obtain ⟨l1, l2⟩ := lt2 t mt
            have trF := sF _ _ (kp' i r _ hr (by rw [List.getElem?_map, ht]; rfl))
            have aF := SqL.of (K := K) (sF _ _ (sg _ _ hA))
            refine ⟨rfl, _, rfl, _, rfl, r, _, _, _, rfl, rfl, SqT.of trF, rfl, cp, _, _, _, rfl, rfl, aF, at_getD l1, _, rfl, _, rfl, r, _, _, _, rfl, rfl, SqT.of trF, rfl, cp, _, _, _, rfl, rfl, aF, at_getD l2, _, _, rfl, rfl, .inl ⟨_, rfl, _, rfl, _, _, rfl, rfl, (show n ≠ 0 by omega), rfl, _, rfl, ?_⟩⟩
            have step : ((tied (dg l) false).take (i + 1)).all (oneP A n) = (((tied (dg l) false).take i).all (oneP A n) && oneP A n t) := by
              rw [List.take_add_one, ht, List.all_append]
              show (_ && [t].all (oneP A n)) = _
              rw [List.all_cons, List.all_nil, Bool.and_true]
            refine ite2 (fun k => ?_) (fun k => ?_)
            · have hne : ¬ (A.getD t.1 0 - A.getD t.2 0) % n = 0 := fun z => of_decide_eq_false (show decide (V.int ((A.getD t.1 0 - A.getD t.2 0).fmod n) = V.int 0) = false from by simpa only [Bool.not_eq_true'] using k) (by rw [emod, z])
              refine ⟨_, rfl, ys, hF, Nat.lt_of_lt_of_le (show ys.length < 16777216 by have : (tied (dg l) false).length = 2 := rfl; omega) sizeLine_big, ys ++ [_], fun b o hb => ?_, upd_same, by rw [List.length_append]; show _ + 1 ≤ _; omega, ?_⟩
              · rw [upd_ne (ne_of_none hb hD)]
                exact sF _ _ hb
              · rw [step]
                unfold oneP
                rw [decide_eq_false hne, Bool.and_false]
                exact ⟨fun z => by simp at z, fun z => by cases z⟩
            · have heq : (A.getD t.1 0 - A.getD t.2 0) % n = 0 := by
                rw [← emod]
                exact V.int.inj (by simpa using k)
              refine ⟨ys, sF, hF, by omega, ?_⟩
              rw [step]
              have e1 : oneP A n t = true := by unfold oneP; rw [decide_eq_true heq]
              rw [e1, Bool.and_true]
              exact hys
        · rintro F ⟨ys, sF, hF, hy, hys⟩
          rw [List.length_map, zp, List.take_of_length_le (Nat.le_refl _)] at hys
          have q2 := q1 F sF
          refine ⟨D, ys, rfl, .inl (SqL.of hF), rfl, ?_⟩
          have e1 : decide (V.int ((ys.length : Nat) : Int) = V.int 0) = (tied (dg l) false).all (oneP A n) := by
            rw [Bool.eq_iff_iff, decide_eq_true_eq, ← hys]
            constructor
            · intro z
              exact List.eq_nil_of_length_eq_zero (by have := V.int.inj z; omega)
            · intro z
              rw [z]
              rfl
          rw [e1]
          exact q2
end
section
variable {P : Program} {w : World} {K : PySem.W.Frag} {mg : Str → Option Value} {base : Heap} {f : Addr} {fd : FuncData}
theorem ok_law_lists (F : Fun K "_law_lists" "_law_lists" s_law_lists f fd) (y_range : mg "range" = none)  : FnOk P w K mg base CX0 1 f fd ["count", "n"] spLists := by
  refine F.ok sc_law_lists (fun vs H Q E h => ?_) (fun cdv A outer s H vs Q E hr h => ?_)
  · obtain ⟨k, n, rfl, hk, hn, q⟩ := h
    rfl
  obtain ⟨k, n, rfl, hk, hn, q⟩ := h
  refine ⟨_, (pss_cons (ps_set (i := 2) sc_law_lists.nd rfl (.inl rfl) (pe_lst (pa_cons (pe_lst pa_nil) pa_nil)))
    (pss_cons (ps_for PassesOwn.never rfl (pi_range1 rfl y_range (pa_cons (pv 0) pa_nil)) (pg_name (i := 3) sc_law_lists.nd rfl (.inl rfl))
    (pss_cons (ps_set (i := 4) sc_law_lists.nd rfl (.inl rfl) (pe_lst pa_nil))
    (pss_cons (ps_for PassesOwn.never rfl (pi_list (pv 2)) (pg_name (i := 5) sc_law_lists.nd rfl (.inl rfl))
    (pss_one (ps_for PassesOwn.never rfl (pi_range1 rfl y_range (pa_cons (pv 1) pa_nil)) (pg_name (i := 6) sc_law_lists.nd rfl (.inl rfl))
    (pss_one (ps_expr (pe_bm PySem.F.plainAttrs_list PySem.F.slot_list_append PySem.F.type_list_append mt_append (pv 4) (pa_cons (pe_op op_cat (pv 5) (pe_lst (pa_cons (pv 6) pa_nil))) pa_nil)))))))
    (pss_one (ps_set (i := 2) sc_law_lists.nd rfl (.inl rfl) (pv 4))))))
    (pss_one (ps_ret (pv 2))))), ?_⟩
  refine ⟨fits (by decide), fun r0 h0 => ⟨fits (by show 1 ≤ 16777216; decide), fun p0 hp0 => ?_⟩⟩
  have one : 1 ≤ sizeLine := fits (by decide)
  have start : Ll (upd (upd H r0 (.lst [])) p0 (.lst [V.ref r0])) p0 (rowsL 0 n) := ⟨[r0], upd_same, rfl, fun i r A hr hA => by
    match i with
    | 0 =>
      cases hr; cases hA
      exact ⟨ne_of_none upd_same hp0, by rw [upd_ne (ne_of_none upd_same hp0), upd_same]; rfl⟩
    | i + 1 => cases hr⟩
  refine ⟨_, rfl, (k : Int), rfl, by omega, by omega, for_range (lo := 0) (n := (k : Int).toNat) (fun i σ G => ∃ (rp : Addr) (x3 x4 x5 x6 : Option V), σ = [some (.int (k : Int)), some (.int (n : Int)), some (.ref rp), x3, x4, x5, x6] ∧ Same H G ∧ Ll G rp (rowsL i n)) ?_ ?_ ?_⟩
  · exact ⟨p0, _, _, _, _, rfl, (same_new h0 _).trans (same_new hp0 _), start⟩
  · rintro i σ G0 hi ⟨rp, x3, x4, x5, x6, rfl, sm, ll⟩
    have sz := rows_small (show i + 1 ≤ 6 by omega) hn
    refine ⟨fits (by decide), fun lp hlp => ?_⟩
    have ll0 := ll
    obtain ⟨rs, hrs, zr, kr⟩ := ll
    have SL := same_new hlp (.lst [])
    refine ⟨_, rfl, rp, rfl, ⟨_, SqL.of (SL _ _ hrs)⟩, for_list (K := K) (a := rp) (xs := rs.map V.ref) (fun j σ G => ∃ (x5 x6 : Option V), σ = [some (.int (k : Int)), some (.int (n : Int)), some (.ref rp), some (.int (0 + (i : Int))), some (.ref lp), x5, x6] ∧ Same G0 G ∧ Ll G lp (((rowsL i n).take j).flatMap fun r => (List.range n).map fun c => r ++ [((c : Nat) : Int)])) ?_ ?_ ?_ ?_⟩
    · exact ⟨_, _, rfl, SL, [], upd_same, rfl, fun i r A hr _ => by cases hr⟩
    · rintro j σ G _ ⟨x5, x6, _, sg, _⟩
      exact SqL.of (sg _ _ hrs)
    · rintro j v σ G hv ⟨x5, x6, rfl, sg, lg⟩
      rw [List.getElem?_map] at hv
      cases hr : rs[j]? with
      | none => rw [hr] at hv; cases hv
      | some r =>
        rw [hr] at hv
        cases hv
        have hj : j < (rowsL i n).length := by rw [← zr]; exact (List.getElem?_eq_some_iff.mp hr).1
        have hA : (rowsL i n)[j]? = some (rowsL i n)[j] := List.getElem?_eq_getElem hj
        have mA := List.getElem_mem hj
        generalize (rowsL i n)[j] = A at hA mA
        have tr := (kr j r A hr hA).2
        have nr : r ≠ lp := ne_of_none tr hlp
        have lenA := rows_len mA
        refine ⟨_, rfl, (n : Int), rfl, by omega, by omega, for_range (lo := 0) (n := (n : Int).toNat) (fun c σ F => ∃ (x6 : Option V), σ = [some (.int (k : Int)), some (.int (n : Int)), some (.ref rp), some (.int (0 + (i : Int))), some (.ref lp), some (.ref r), x6] ∧ Same G0 F ∧ Ll F lp ((((rowsL i n).take j).flatMap fun r => (List.range n).map fun c => r ++ [((c : Nat) : Int)]) ++ (List.range c).map fun z => A ++ [((z : Nat) : Int)])) ?_ ?_ ?_⟩
        · exact ⟨_, rfl, sg, by rw [show (List.range 0).map (fun z => A ++ [((z : Nat) : Int)]) = [] from rfl, List.append_nil]; exact lg⟩
        · rintro c σ F hcn ⟨x6, rfl, sf, lf⟩
          obtain ⟨fs, hfs, zf, kf⟩ := lf
          have tF := sf _ _ tr
          have bound : fs.length ≤ 4096 := by
            rw [zf, List.length_append, List.length_map, List.length_range]
            have e1 : (((rowsL i n).take j).flatMap fun r => (List.range n).map fun c => r ++ [((c : Nat) : Int)]).length = j * n := by
              have gen : ∀ (L : List (List Int)), (L.flatMap fun r => (List.range n).map fun c => r ++ [((c : Nat) : Int)]).length = L.length * n := by
                intro L
                induction L with
                | nil => simp
                | cons a t ih => rw [List.flatMap_cons, List.length_append, ih, List.length_map, List.length_range, List.length_cons, Nat.add_mul, Nat.one_mul, Nat.add_comm]
              rw [gen, List.length_take, Nat.min_eq_left (by omega)]
            rw [e1]
            have e2 : (rowsL (i + 1) n).length = (rowsL i n).length * n := by rw [rows_size, rows_size, Nat.pow_succ]
            have e3 : (j + 1) * n ≤ (rowsL i n).length * n := Nat.mul_le_mul_right n hj
            rw [Nat.add_mul, Nat.one_mul] at e3
            omega
          refine ⟨_, rfl, .inl ⟨rfl, _, SqL.of hfs⟩, _, rfl, _, rfl, one, fun sp hsp => ?_⟩
          have tF2 := same_new hsp (.lst [V.int (0 + (c : Int))]) _ _ tF
          refine ⟨r, sp, _, _, rfl, rfl, tF2, upd_same, ?_, fun qp hqp => ?_⟩
          · rw [List.length_map, lenA]
            exact fits (by show i + 1 ≤ _; omega)
          have SS := (same_new hsp (.lst [V.int (0 + (c : Int))])).trans (same_new hqp (.lst (A.map V.int ++ [V.int (0 + (c : Int))])))
          have lf' : Ll F lp ((((rowsL i n).take j).flatMap fun r => (List.range n).map fun c => r ++ [((c : Nat) : Int)]) ++ (List.range c).map fun z => A ++ [((z : Nat) : Int)]) := ⟨fs, hfs, zf, kf⟩
          have nq : qp ≠ lp := (ne_of_none (same_new hsp (.lst [V.int (0 + (c : Int))]) _ _ hfs) hqp).symm
          obtain ⟨xs, ex, lx, lf3⟩ := (lf'.same SS).push (q := qp) (A := A ++ [((c : Nat) : Int)]) (by rw [upd_same, List.map_append, Int.zero_add]; rfl) nq
          refine ⟨lp, xs, _, rfl, rfl, ex, Nat.lt_of_lt_of_le (show xs.length < 16777216 by omega) sizeLine_big, ?_⟩
          refine ⟨_, rfl, fun b o hb => ?_, ?_⟩
          · rw [upd_ne (ne_of_none hb hlp)]
            exact SS _ _ (sf _ _ hb)
          · rw [List.range_succ, List.map_append, ← List.append_assoc]
            exact lf3
        · rintro σ F ⟨x6, rfl, sf, lf⟩
          refine ⟨_, _, rfl, sf, ?_⟩
          rw [Int.toNat_natCast] at lf
          rw [List.take_add_one, hA, List.flatMap_append]
          show Ll F lp (_ ++ ([A].flatMap _))
          rw [List.flatMap_cons, List.flatMap_nil, List.append_nil]
          exact lf
    · rintro σ G ⟨x5, x6, rfl, sg, lg⟩
      rw [List.length_map, zr, List.take_of_length_le (Nat.le_refl _)] at lg
      exact ⟨_, rfl, lp, _, _, _, _, rfl, sm.trans sg, lg⟩
  · rintro σ G ⟨rp, x3, x4, x5, x6, rfl, sm, ll⟩
    exact ⟨_, rfl, q rp G sm ll⟩
end
section
variable {P : Program} {w : World} {K : PySem.W.Frag} {mg : Str → Option Value} {base : Heap} {f : Addr} {fd : FuncData}
theorem ok_law_short (F : Fun K "_law_short" "_law_short" s_law_short f fd) (D_take : Dfn P w K mg base "_law_take" 1 ["tape", "many"] spTake) (y_range : mg "range" = none) (y_len : mg "len" = none)  : FnOk P w K mg base CX0 2 f fd ["tape"] spShort := by
  refine F.ok sc_law_short (fun vs H Q E h => ?_) (fun cdv A outer s H vs Q E hr h => ?_)
  · obtain ⟨a, rfl, hT, q⟩ := h
    rfl
  obtain ⟨a, rfl, hT, q⟩ := h
  refine ⟨_, (pss_cons (ps_set (i := 1) sc_law_short.nd rfl (.inl rfl) pe_str)
    (pss_cons (ps_for PassesOwn.never rfl (pi_range1 rfl y_range (pa_cons (pe_do D_take hr (pa_cons (pv 0) (pa_cons pe_int pa_nil))) pa_nil)) (pg_name (i := 2) sc_law_short.nd rfl (.inl rfl))
    (pss_cons (ps_set (i := 3) sc_law_short.nd rfl (.inl rfl) (pe_ix ix_str pe_str (pe_do D_take hr (pa_cons (pv 0) (pa_cons pe_int pa_nil))) (fun _ _ => rfl)))
    (pss_one (ps_if (PW.pt (pw_or (pt_cmpR op_eq (pv 3) pe_str (nomark _)) (pw_or1 (pt_cmpR op_lt (pe_op op_sub (pe_callB call_len_str rfl y_len PySem.boot_len (pa_cons (pv 1) pa_nil)) (pe_m1 PySem.F.slot_str_count PySem.F.type_str_count mt_count (pv 1) pe_str)) pe_int (nomark _))))) (pss_one (ps_set (i := 1) sc_law_short.nd rfl (.inl rfl) (pe_op op_add_str (pv 1) (pv 3)))) pss_nil))))
    (pss_one (ps_ret (pv 1))))), ?_⟩
  refine ⟨_, rfl, a, 9, rfl, hT, by decide, by decide, fun r H1 r0 r1 b1 t1 => ?_⟩
  refine ⟨r, rfl, by omega, by omega, for_range (lo := 0) (n := r.toNat) (fun i σ G => ∃ (l : List Nat) (x2 x3 : Option V), σ = [some (.ref a), some (.str (S l)), x2, x3] ∧ Lets l ∧ l.length ≤ i ∧ (dg l).cs.length ≤ 4 ∧ But a H G ∧ Tape G a) ?_ ?_ ?_⟩
  · exact ⟨[], _, _, by rw [← e_empty]; rfl, (fun c h => by cases h), Nat.zero_le _, by decide, b1, t1⟩
  · rintro i σ G hi ⟨l, x2, x3, rfl, hl, hz, h4, bt, tp⟩
    refine ⟨_, rfl, a, 4, rfl, tp, by decide, by decide, fun r2 G2 r20 r21 b2 t2 => ?_⟩
    obtain ⟨c, hc, mc⟩ := pick_sign e_TURR r20 r21
    refine ⟨_, _, c, rfl, rfl, fits (by decide +kernel), hc, ?_⟩
    have lc : c = 84 ∨ c = 85 ∨ c = 82 := by
      simp only [List.mem_cons, List.not_mem_nil, or_false] at mc
      omega
    have sl : (S l).length ≤ sizeLine := by rw [S_len]; exact fits (by omega)
    have ca := cs_count l
    have cb := cs_count (l ++ [c])
    rw [List.count_append, List.length_append] at cb
    have c1 : ([c] : List Nat).length = 1 := rfl
    have go : ∀ D : Ends, (dg (l ++ [c])).cs.length ≤ 4 → (∀ (l' : List Nat) (G' : Hp), Lets l' → l'.length ≤ i + 1 → (dg l').cs.length ≤ 4 → But a H G' → Tape G' a → D.nx [some (.ref a), some (.str (S l')), some (.int (0 + (i : Int))), some (.str (S [c]))] G') → tAsg (tOp (fun x y H Q => ∃ i j, x = .str i ∧ y = .str j ∧ i.length + j.length ≤ sizeLine ∧ Q (.str (i ++ j)) H) (tVar 1) (tVar 3)) (gName 1) D [some (.ref a), some (.str (S l)), some (.int (0 + (i : Int))), some (.str (S [c]))] G2 := fun D h5 k => by
      refine ⟨_, rfl, _, rfl, S l, S [c], rfl, rfl, by rw [S_len, S_len]; exact fits (by show _ + 1 ≤ _; omega), ?_⟩
      rw [S_app]
      exact k (l ++ [c]) G2 (fun x hx => by
        rcases List.mem_append.mp hx with hx | hx
        · exact hl x hx
        · rw [List.mem_singleton.mp hx]; exact lc) (by rw [List.length_append]; show _ + 1 ≤ _; omega) h5 (bt.trans b2) t2
    refine ⟨_, rfl, rfl, _, rfl, ite2 (fun k1 => iteT (go _ ?_ fun l' G' a1 a2 a3 a4 a5 => ⟨l', _, _, rfl, a1, a2, a3, a4, a5⟩)) (fun k1 => ?_)⟩
    · have e : c = 82 := (sign_eq e_R).mp (of_decide_eq_true k1)
      subst e
      have : List.count 82 [82] = 1 := rfl
      omega
    rw [e_R]
    refine ⟨_, rfl, _, rfl, sl, _, rfl, ⟨_, rfl⟩, _, _, rfl, rfl, _, _, rfl, rfl, _, _, rfl, rfl, _, rfl, ite2 (fun k2 => (go _ ?_ fun l' G' a1 a2 a3 a4 a5 => ⟨l', _, _, rfl, a1, a2, a3, a4, a5⟩)) (fun k2 => ⟨l, _, _, rfl, hl, by omega, h4, bt.trans b2, t2⟩)⟩
    have := of_decide_eq_true k2
    rw [S_len] at this
    have cr := count_R l
    have : List.count 82 [c] ≤ 1 := by
      have := List.count_le_length (a := 82) (l := [c])
      omega
    omega
  · rintro σ G ⟨l, x2, x3, rfl, hl, hz, h4, bt, tp⟩
    exact ⟨_, rfl, q l G hl (by omega) h4 bt tp⟩
end
section
variable {P : Program} {w : World} {K : PySem.W.Frag} {mg : Str → Option Value} {base : Heap} {f : Addr} {fd : FuncData}
theorem ok_colour_count (F : Fun K "colour_count" "colour_count" s_colour_count f fd) (D_num : Dfn P w K mg base "number" 3 ["dance"] spNum) (mgcd : mg "gcd" = some (.builtin "math.gcd")) : FnOk P w K mg base CX0 4 f fd ["dance", "way", "n"] spCC := by
  refine F.ok sc_colour_count (fun vs H Q E h => ?_) (fun cdv A outer s H vs Q E hr h => ?_)
  · obtain ⟨l, d, n, rfl, n0, n1, q⟩ := h
    rfl
  obtain ⟨l, d, n, rfl, n0, n1, q⟩ := h
  refine ⟨_, (pss_cons (ps_asg (pe_do D_num hr (pa_cons (pv 0) pa_nil)) (pg_tup (by rfl) (pgs_cons (pg_name (i := 3) sc_colour_count.nd rfl (.inl rfl)) (pgs_cons (pg_name (i := 4) sc_colour_count.nd rfl (.inl rfl)) pgs_nil))))
    (pss_one (ps_ret (pe_op op_mul (pv 2) (pe_callBfun cr_gcd rfl mgcd (pa_cons (pv 2) (pa_cons (pe_ifExp (pt_cmpR op_eq (pv 1) pe_str (nomark _)) (pv 3) (pv 4)) pa_nil))))))), ?_⟩
  refine ⟨_, rfl, l, rfl, fun t' H' sm tt => ⟨t', _, rfl, SqT.of tt, rfl, _, _, rfl, _, _, rfl, rfl, ?_⟩⟩
  refine ⟨_, rfl, _, rfl, _, rfl, rfl, _, rfl, ?_⟩
  rw [way_across]
  have q1 := q H' sm
  cases d with
  | false => exact iteT ⟨_, rfl, _, _, rfl, _, _, rfl, rfl, .inl ⟨by omega, by omega⟩, q1⟩
  | true => exact iteF ⟨_, rfl, _, _, rfl, _, _, rfl, rfl, .inl ⟨by omega, by omega⟩, q1⟩
end
def spLaw (K : PySem.W.Frag) : Sp := fun vs H Q _ => ∃ (a : Addr) (ns : List Int), vs = [.ref a] ∧ SqL K H a (ns.map V.int) ∧ ns.length ≤ 63 ∧ ∀ H', Q (.bl true) H'
theorem way_at {i : Nat} {y : V} (h : [V.str "across", V.str "down"][i]? = some y) : ∃ d : Bool, y = .str (wayS d) := by
  match i with
  | 0 => cases h; exact ⟨false, rfl⟩
  | 1 => cases h; exact ⟨true, rfl⟩
  | i + 2 => cases h
section
variable {P : Program} {w : World} {K : PySem.W.Frag} {mg : Str → Option Value} {base : Heap} {f : Addr} {fd : FuncData}
theorem ok_law (F : Fun K "law" "law" s_law f fd) (D_tape : Dfn P w K mg base "_law_tape" 4 ["script", "k"] (spTape K)) (D_law_short : Dfn P w K mg base "_law_short" 4 ["tape"] spShort) (D_law_diagram : Dfn P w K mg base "_law_diagram" 4 ["dance"] spDiag) (D_take : Dfn P w K mg base "_law_take" 4 ["tape", "many"] spTake) (D_law_lists : Dfn P w K mg base "_law_lists" 4 ["count", "n"] spLists) (D_closed : Dfn P w K mg base "_law_is_closed" 4 ["colours", "crossings", "ends", "way", "n"] spClosed) (D_same1 : Dfn P w K mg base "_law_same" 4 ["told", "due"] (spSame 1)) (D_colour_count : Dfn P w K mg base "colour_count" 4 ["dance", "way", "n"] spCC) (D_dance : Dfn P w K mg base "_law_dance" 4 ["tape", "most"] spDance) (D_law_colouring : Dfn P w K mg base "_law_colouring" 4 ["dance", "first", "second"] spCol) (y_len : mg "len" = none) (y_range : mg "range" = none) (y_int : mg "int" = none)  : FnOk P w K mg base CX0 5 f fd ["script"] (spLaw K) := by
  refine F.ok sc_law (fun vs H Q E h => ?_) (fun cdv A outer s H vs Q E hr h => ?_)
  · obtain ⟨sa, ns, rfl, hS, h63, q⟩ := h
    rfl
  obtain ⟨sa, ns, rfl, hS, h63, q⟩ := h
  refine ⟨_, (pss_cons (ps_set (i := 1) sc_law.nd rfl (.inl rfl) (pe_do D_tape hr (pa_cons (pv 0) (pa_cons pe_int pa_nil))))
    (pss_cons (ps_set (i := 2) sc_law.nd rfl (.inl rfl) (pe_do D_law_short hr (pa_cons (pv 1) pa_nil)))
    (pss_cons (ps_asg (pe_do D_law_diagram hr (pa_cons (pv 2) pa_nil)) (pg_tup (by rfl) (pgs_cons (pg_name (i := 3) sc_law.nd rfl (.inl rfl)) (pgs_cons (pg_name (i := 4) sc_law.nd rfl (.inr rfl)) (pgs_cons (pg_name (i := 5) sc_law.nd rfl (.inr rfl)) pgs_nil)))))
    (pss_cons (ps_set (i := 6) sc_law.nd rfl (.inr rfl) (pe_op op_add pe_int (pe_do D_take hr (pa_cons (pv 1) (pa_cons (pe_ix ix_list (pe_lst (pa_cons pe_int (pa_cons pe_int (pa_cons pe_int (pa_cons pe_int (pa_cons pe_int pa_nil)))))) (pe_op op_sub (pv 3) pe_int) (fun _ _ => rfl)) pa_nil)))))
    (pss_cons (ps_for PassesOwn.never rfl (pi_list (pe_lst (pa_cons pe_str (pa_cons pe_str pa_nil)))) (pg_name (i := 7) sc_law.nd rfl (.inr rfl))
    (pss_cons (ps_setLc (i := 8) (own := [("one", 12)]) (g := (gName 12)) (by rfl) sc_law.nd rfl rfl (sw_true rfl rfl rfl (by decide +kernel)) (pi_list (pe_do D_law_lists hr (pa_cons (pv 3) (pa_cons (pv 6) pa_nil)))) (blkOk_by (own := [("one", 12)]) (N := ["script", "tape", "short", "count", "crossings", "ends", "n", "way", "good", "k", "dance", "second", "one"]) (sc := defScope s_law) (by decide +kernel)) (fun _ _ _ _ _ => pg_name (i := 12) sc_law.nd rfl (Or.inl rfl)) (fun _ _ _ _ _ => (pts_one (pt_val (pe_do D_closed hr (pa_cons (pv 12) (pa_cons (pv 4) (pa_cons (pv 5) (pa_cons (pv 7) (pa_cons (pv 6) pa_nil))))))))) (fun _ _ _ _ _ => (pv 12)))
    (pss_one (ps_if (pt_not (pt_val (pe_do D_same1 hr (pa_cons (pe_do D_colour_count hr (pa_cons (pv 2) (pa_cons (pv 7) (pa_cons (pv 6) pa_nil)))) (pa_cons (pe_callB call_len_seq rfl y_len PySem.boot_len (pa_cons (pv 8) pa_nil)) pa_nil))))) (pss_one (ps_ret pe_bl)) pss_nil))))
    (pss_cons (ps_for PassesOwn.never rfl (pi_range1 rfl y_range (pa_cons pe_int pa_nil)) (pg_name (i := 9) sc_law.nd rfl (.inl rfl))
    (pss_cons (ps_set (i := 1) sc_law.nd rfl (.inl rfl) (pe_do D_tape hr (pa_cons (pv 0) (pa_cons (pe_op op_add pe_int (pv 9)) pa_nil))))
    (pss_cons (ps_set (i := 10) sc_law.nd rfl (.inl rfl) (pe_do D_dance hr (pa_cons (pv 1) (pa_cons pe_int pa_nil))))
    (pss_cons (ps_asg (pe_do D_law_diagram hr (pa_cons (pv 10) pa_nil)) (pg_tup (by rfl) (pgs_cons (pg_name (i := 3) sc_law.nd rfl (.inl rfl)) (pgs_cons (pg_name (i := 4) sc_law.nd rfl (.inr rfl)) (pgs_cons (pg_name (i := 5) sc_law.nd rfl (.inr rfl)) pgs_nil)))))
    (pss_cons (ps_set (i := 6) sc_law.nd rfl (.inr rfl) (pe_op op_add pe_int (pe_do D_take hr (pa_cons (pv 1) (pa_cons (pe_ix ix_list (pe_lst (pa_cons pe_int (pa_cons pe_int (pa_cons pe_int pa_nil)))) (pe_do D_take hr (pa_cons (pv 1) (pa_cons pe_int pa_nil))) (fun _ _ => rfl)) pa_nil)))))
    (pss_one (ps_for PassesOwn.never rfl (pi_list (pe_lst (pa_cons pe_str (pa_cons pe_str pa_nil)))) (pg_name (i := 7) sc_law.nd rfl (.inr rfl))
    (pss_cons (ps_set (i := 8) sc_law.nd rfl (.inl rfl) pe_int)
    (pss_cons (ps_for PassesOwn.never rfl (pi_range1 rfl y_range (pa_cons (pv 6) pa_nil)) (pg_name (i := 11) sc_law.nd rfl (.inl rfl))
    (pss_one (ps_set (i := 8) sc_law.nd rfl (.inl rfl) (pe_op op_add (pv 8) (pe_callTy call_int1 rfl y_int (by decide +kernel) (pa_cons (pe_do D_closed hr (pa_cons (pe_do D_law_colouring hr (pa_cons (pv 10) (pa_cons pe_int (pa_cons (pv 11) pa_nil)))) (pa_cons (pv 4) (pa_cons (pv 5) (pa_cons (pv 7) (pa_cons (pv 6) pa_nil)))))) pa_nil))))))
    (pss_one (ps_if (pt_not (pt_val (pe_do D_same1 hr (pa_cons (pe_do D_colour_count hr (pa_cons (pv 10) (pa_cons (pv 7) (pa_cons (pv 6) pa_nil)))) (pa_cons (pe_op op_mul (pv 6) (pv 8)) pa_nil))))) (pss_one (ps_ret pe_bl)) pss_nil)))))))))))
    (pss_one (ps_ret pe_bl)))))))), ?_⟩
  have two : 2 ≤ sizeLine := fits (by decide)
  have n4 : ∀ l : List Nat, (dg l).n = (dg l).cs.length + 2 := fun l => (wf_dg l).n
  refine ⟨_, rfl, sa, ns, 0, rfl, hS, by decide, fun tp H1 s1 ntp t1 => ?_⟩
  refine ⟨_, rfl, tp, rfl, t1, fun l H2 hl hz h4 b2 t2 => ?_⟩
  have S2 : Same H H2 := ((But.of s1).trans b2).same (Same.refl H) ntp
  refine ⟨_, rfl, l, rfl, by omega, fun td kp H3 s3 nk dgm => ?_⟩
  obtain ⟨e, ht, he, cr⟩ := dgm
  have nl := n4 l
  refine ⟨td, _, rfl, SqT.of ht, rfl, _, _, rfl, _, _, rfl, _, _, rfl, rfl, ?_⟩
  refine ⟨_, rfl, fits (by decide), fun lp hlp => ?_⟩
  have t3 := t2.same s3
  obtain ⟨z, hzz, mz⟩ := atI_mk (xs := [V.int 4, .int 4, .int 4, .int 3, .int 3]) (k := ((dg l).n : Int) - 2) (by omega) (by show _ < (5 : Int); omega)
  obtain ⟨zz, rfl, z0, z1⟩ : ∃ zz : Int, z = .int zz ∧ 0 < zz ∧ zz ≤ 4 := by
    simp only [List.mem_cons, List.not_mem_nil, or_false] at mz
    rcases mz with rfl | rfl | rfl | rfl | rfl
    all_goals first | exact ⟨4, rfl, by decide, by decide⟩ | exact ⟨3, rfl, by decide, by decide⟩
  refine ⟨_, rfl, _, _, rfl, rfl, lp, _, _, _, rfl, rfl, SqL.of upd_same, hzz, tp, zz, rfl, t3.same (same_new hlp _), z0, by omega, fun r H4 r0 r1 b4 t4 => ⟨_, _, rfl, rfl, ?_⟩⟩
  have B34 := (But.of (same_new hlp (.lst [V.int 4, .int 4, .int 4, .int 3, .int 3]))).trans b4
  have nkp : kp ≠ tp := (t2.ne nk)
  have S4 : Same H H4 := ((((But.of s1).trans b2).trans (But.of s3)).trans B34).same (Same.refl H) ntp
  have cr4 : Crs H4 kp (dg l).cs := by
    obtain ⟨y1, y2, y3, y4, ey⟩ := t3
    exact cr.but B34 nkp ey
  have he4 : H4 e = some (e4 (dg l)) := by
    obtain ⟨y1, y2, y3, y4, ey⟩ := t3
    exact B34 _ _ (ne_of he ey (by intro z; cases z)) he
  obtain ⟨m, hm⟩ := Int.eq_ofNat_of_zero_le (show 0 ≤ 1 + r by omega)
  refine ⟨two, fun wp hwp => ⟨wp, rfl, ⟨_, SqL.of upd_same⟩, for_list (K := K) (a := wp) (xs := [V.str "across", V.str "down"]) (fun i σ G => ∃ (x7 x8 x9 x10 x11 x12 : Option V), σ = [some (.ref sa), some (.ref tp), some (.str (S l)), some (.int ((dg l).n : Int)), some (.ref kp), some (.ref e), some (.int (m : Int)), x7, x8, x9, x10, x11, x12] ∧ Same (upd H4 wp (.lst [V.str "across", V.str "down"])) G) ?_ ?_ ?_ ?_⟩⟩
  · exact ⟨_, _, _, _, _, _, by rw [← show 1 + r = (m : Int) from hm]; rfl, Same.refl _⟩
  · rintro i σ G _ ⟨x7, x8, x9, x10, x11, x12, _, sg⟩
    exact SqL.of (sg _ _ upd_same)
  · rintro i y σ G hy ⟨x7, x8, x9, x10, x11, x12, rfl, sg⟩
    obtain ⟨d, rfl⟩ := way_at hy
    have SG := (same_new hwp (.lst [V.str "across", V.str "down"])).trans sg
    refine ⟨_, rfl, _, rfl, (dg l).n, m, rfl, by omega, by omega, fun rp F sF ll => ?_⟩
    have SF := SG.trans sF
    have llF := ll
    obtain ⟨rs, hrs, zr, kr⟩ := ll
    refine ⟨rp, rfl, ⟨_, SqL.of hrs⟩, fun D hD => lc_list (K := K) (a := rp) (xs := rs.map V.ref) (fun i F2 => ∃ ys : List V, Same F F2 ∧ F2 D = some (.lst ys) ∧ ys.length = (((rowsL (dg l).n m).take i).filter fun A => closedB A (dg l) d m).length) ⟨[], same_new hD _, upd_same, rfl⟩ ?_ ?_ ?_⟩
    · rintro i F2 _ ⟨ys, s2', _⟩
      exact SqL.of (s2' _ _ hrs)
    · rintro i v F2 hv ⟨ys, sF2, hF2, hys⟩
      rw [List.getElem?_map] at hv
      cases hr : rs[i]? with
      | none => rw [hr] at hv; cases hv
      | some r =>
        rw [hr] at hv
        cases hv
        have hi : i < (rowsL (dg l).n m).length := by rw [← zr]; exact (List.getElem?_eq_some_iff.mp hr).1
        have hA : (rowsL (dg l).n m)[i]? = some (rowsL (dg l).n m)[i] := List.getElem?_eq_getElem hi
        have mA := List.getElem_mem hi
        generalize (rowsL (dg l).n m)[i] = A at hA mA
        have trF := sF2 _ _ (kr i r A hr hA).2
        have S5 := SF.trans sF2
        refine ⟨rfl, _, rfl, _, rfl, _, rfl, _, rfl, _, rfl, r, kp, e, A, l, d, (m : Int), rfl, trF, cr4.same S5, S5 _ _ he4, rows_len mA, by omega, fun F3 s3' => ⟨_, rfl, ?_⟩⟩
        have hstep : (((rowsL (dg l).n m).take (i + 1)).filter fun A => closedB A (dg l) d m) = (((rowsL (dg l).n m).take i).filter fun A => closedB A (dg l) d m) ++ [A].filter fun A => closedB A (dg l) d m := by
          rw [List.take_add_one, hA, List.filter_append]
          rfl
        have hsz : ((rowsL (dg l).n m).take i).length ≤ 4096 := by
          have := rows_small (k := (dg l).n) (n := m) (by omega) (by omega)
          rw [List.length_take]
          omega
        have hfl := List.length_filter_le (fun A => closedB A (dg l) d m) ((rowsL (dg l).n m).take i)
        cases hcb : closedB A (dg l) d m with
        | true =>
          refine ite2 (fun _ => ?_) (fun z => absurd rfl z)
          refine ⟨_, rfl, ys, s3' _ _ hF2, Nat.lt_of_lt_of_le (show ys.length < 16777216 by omega) sizeLine_big, ys ++ [_], fun b o hb => ?_, upd_same, ?_⟩
          · rw [upd_ne (ne_of_none hb hD)]
            exact s3' _ _ (sF2 _ _ hb)
          · rw [hstep, List.length_append, List.length_append, hys, List.filter_cons, if_pos hcb]
            rfl
        | false =>
          refine ite2 (fun z => by cases z) (fun _ => ?_)
          refine ⟨ys, sF2.trans s3', s3' _ _ hF2, ?_⟩
          rw [hstep, List.length_append, hys, List.filter_cons, if_neg (by rw [hcb]; decide)]
          rfl
    · rintro F2 ⟨ys, sF2, hF2, hys⟩
      rw [List.length_map, zr, List.take_of_length_le (Nat.le_refl _), nl, closed_count hl (by omega) d] at hys
      refine ⟨_, rfl, _, rfl, _, rfl, l, d, (m : Int), rfl, by omega, by omega, fun F3 s3' => ?_⟩
      refine ⟨_, rfl, D, ys, rfl, .inl (SqL.of (s3' _ _ hF2)), _, _, .int _, rfl, int_is, ?_, _, rfl, iteF ⟨_, _, _, _, _, _, rfl, (sg.trans (sF.trans sF2)).trans s3'⟩⟩
      have : ((ys.length : Nat) : Int) = (m : Int) * ((Int.gcd m (side d (run (0, 1) l)) : Nat) : Int) := by rw [hys, Int.natCast_mul]
      rw [this]
      exact int_is
  · rintro σ G ⟨x7, x8, x9, x10, x11, x12, rfl, sg⟩
    have SG := S4.trans ((same_new hwp (.lst [V.str "across", V.str "down"])).trans sg)
    refine ⟨5, rfl, by decide, by decide, for_range (lo := 0) (n := 5) (fun i σ F => ∃ (y1 y2 y3 y4 y5 y6 y7 y8 y9 y10 y11 y12 : Option V), σ = [some (.ref sa), y1, y2, y3, y4, y5, y6, y7, y8, y9, y10, y11, y12] ∧ Same H F) ?_ ?_ ?_⟩
    · exact ⟨_, _, _, _, _, _, _, _, _, _, _, _, rfl, SG⟩
    · clear hm
      rintro i σ F0 hi ⟨y1, y2, y3, y4, y5, y6, y7, y8, y9, y10, y11, y12, rfl, sF0⟩
      refine ⟨_, rfl, _, rfl, _, _, rfl, rfl, sa, ns, 1 + (0 + (i : Int)), rfl, sF0.seq hS, by omega, fun tp F1 s1 ntp t1 => ?_⟩
      refine ⟨_, rfl, tp, 40, rfl, t1, by decide, by decide, fun l F2 hl hz b2 t2 => ?_⟩
      refine ⟨_, rfl, l, rfl, by omega, fun td kp F3 s3 nk dgm => ?_⟩
      obtain ⟨e, ht, he, cr⟩ := dgm
      have nl := n4 l
      refine ⟨td, _, rfl, SqT.of ht, rfl, _, _, rfl, _, _, rfl, _, _, rfl, rfl, ?_⟩
      have t3 := t2.same s3
      refine ⟨_, rfl, fits (by decide), fun lp hlp => ?_⟩
      have nlp := t3.ne hlp
      refine ⟨_, rfl, tp, 3, rfl, t3.same (same_new hlp _), by decide, by decide, fun r F4 r0 r1 b4 t4 => ?_⟩
      obtain ⟨z, hzz, mz⟩ := atI_mk (xs := [V.int 4, .int 12, .int 60]) r0 r1
      obtain ⟨zz, rfl, z0, z1⟩ : ∃ zz : Int, z = .int zz ∧ 0 < zz ∧ zz ≤ 60 := by
        simp only [List.mem_cons, List.not_mem_nil, or_false] at mz
        rcases mz with rfl | rfl | rfl
        · exact ⟨4, rfl, by decide, by decide⟩
        · exact ⟨12, rfl, by decide, by decide⟩
        · exact ⟨60, rfl, by decide, by decide⟩
      refine ⟨lp, _, _, _, rfl, rfl, SqL.of (b4 _ _ nlp upd_same), hzz, tp, zz, rfl, t4, z0, by omega, fun r5 F5 r50 r51 b5 t5 => ⟨_, _, rfl, rfl, ?_⟩⟩
      have B35 := ((But.of (same_new hlp (.lst [V.int 4, .int 12, .int 60]))).trans b4).trans b5
      have nkp : kp ≠ tp := t2.ne nk
      have S5 : Same F0 F5 := ((((But.of s1).trans b2).trans (But.of s3)).trans B35).same (Same.refl _) ntp
      have cr5 : Crs F5 kp (dg l).cs := by
        obtain ⟨y1, y2, y3, y4, ey⟩ := t3
        exact cr.but B35 nkp ey
      have he5 : F5 e = some (e4 (dg l)) := by
        obtain ⟨y1, y2, y3, y4, ey⟩ := t3
        exact B35 _ _ (ne_of he ey (by intro z; cases z)) he
      obtain ⟨m, hm⟩ := Int.eq_ofNat_of_zero_le (show 0 ≤ 1 + r5 by omega)
      refine ⟨two, fun wp hwp => ⟨wp, rfl, ⟨_, SqL.of upd_same⟩, for_list (K := K) (a := wp) (xs := [V.str "across", V.str "down"]) (fun j σ G => ∃ (z2 z7 z8 z9 z11 z12 : Option V), σ = [some (.ref sa), some (.ref tp), z2, some (.int ((dg l).n : Int)), some (.ref kp), some (.ref e), some (.int (m : Int)), z7, z8, z9, some (.str (S l)), z11, z12] ∧ Same (upd F5 wp (.lst [V.str "across", V.str "down"])) G) ?_ ?_ ?_ ?_⟩⟩
      · exact ⟨_, _, _, _, _, _, by rw [← show 1 + r5 = (m : Int) from hm]; rfl, Same.refl _⟩
      · rintro j σ G _ ⟨z2, z7, z8, z9, z11, z12, _, sg⟩
        exact SqL.of (sg _ _ upd_same)
      · rintro j y σ G hy ⟨z2, z7, z8, z9, z11, z12, rfl, sg⟩
        obtain ⟨d, rfl⟩ := way_at hy
        have SG := (same_new hwp (.lst [V.str "across", V.str "down"])).trans sg
        refine ⟨_, rfl, (m : Int), rfl, by omega, by omega, for_range (lo := 0) (n := (m : Int).toNat) (fun c σ G2 => ∃ (w11 : Option V), σ = [some (.ref sa), some (.ref tp), z2, some (.int ((dg l).n : Int)), some (.ref kp), some (.ref e), some (.int (m : Int)), some (.str (wayS d)), some (.int (((List.range c).countP fun s => closedB (col (dg l).cs 0 ((s : Nat) : Int)) (dg l) d m : Nat) : Int)), z9, some (.str (S l)), w11, z12] ∧ Same G G2) ?_ ?_ ?_⟩
        · exact ⟨_, rfl, Same.refl _⟩
        · rintro c σ G2 hc ⟨w11, rfl, s2'⟩
          have SG2 := SG.trans s2'
          refine ⟨_, rfl, _, rfl, _, rfl, l, 0, 0 + (c : Int), rfl, by omega, fun cp G3 s3' ncp hcp => ?_⟩
          have SG3 := SG2.trans s3'
          refine ⟨_, rfl, _, rfl, _, rfl, _, rfl, cp, kp, e, _, l, d, (m : Int), rfl, hcp, cr5.same SG3, SG3 _ _ he5, by rw [col_len, nl], by omega, fun G4 s4' => ?_⟩
          refine .inr ⟨_, rfl, _, _, rfl, rfl, some (.int (0 + (c : Int))), ?_, (s2'.trans s3').trans s4'⟩
          have e1 : (List.range (c + 1)).countP (fun s => closedB (col (dg l).cs 0 ((s : Nat) : Int)) (dg l) d m) = (List.range c).countP (fun s => closedB (col (dg l).cs 0 ((s : Nat) : Int)) (dg l) d m) + (if closedB (col (dg l).cs 0 (c : Int)) (dg l) d m = true then 1 else 0) := by
            rw [List.range_succ, List.countP_append, List.countP_singleton]
          rw [e1, Int.zero_add]
          cases closedB (col (dg l).cs 0 (c : Int)) (dg l) d m <;> rfl
        · rintro σ G2 ⟨w11, rfl, s2'⟩
          rw [Int.toNat_natCast, closed_second hl (by omega) d]
          refine ⟨_, rfl, _, rfl, _, rfl, l, d, (m : Int), rfl, by omega, by omega, fun G3 s3' => ?_⟩
          exact ⟨_, rfl, _, rfl, _, _, rfl, rfl, .inl ⟨by omega, by omega⟩, _, _, .int _, rfl, int_is, int_is, _, rfl, iteF ⟨_, _, _, _, _, _, rfl, (sg.trans s2').trans s3'⟩⟩
      · rintro σ G ⟨z2, z7, z8, z9, z11, z12, rfl, sg⟩
        exact ⟨_, _, _, _, _, _, _, _, _, _, _, _, rfl, sF0.trans (S5.trans ((same_new hwp (.lst [V.str "across", V.str "down"])).trans sg))⟩
    · rintro σ F ⟨y1, y2, y3, y4, y5, y6, y7, y8, y9, y10, y11, y12, rfl, sF⟩
      exact q F
end
theorem all_mk {l : PySem.W.OpenLaw} {w : World} {K : PySem.W.Frag} {h : Heap} {mg : Str → Option Value} {fa : Addr} (X : K.In h) (G : h.Ns mainGlobals mg) (hfa : mg "law" = some (.ref fa))
    {f0 f1 f2 f3 f4 f5 f6 f7 f8 f9 f10 f11 f12 f13 : Addr} {od0 an0 od1 an1 od2 an2 od3 an3 od4 an4 od5 an5 od6 an6 od7 an7 od8 an8 od9 an9 od10 an10 od11 an11 od12 an12 od13 an13 : Option Addr} {sl0 sl1 sl2 sl3 sl4 sl5 sl6 sl7 sl8 sl9 sl10 sl11 sl12 sl13 : Array (Option Value)}
    {oc0 kV0 dc0 pm0 cd0 ct0 oc1 kV1 dc1 pm1 cd1 ct1 oc2 kV2 dc2 pm2 cd2 ct2 oc3 kV3 dc3 pm3 cd3 ct3 oc4 kV4 dc4 pm4 cd4 ct4 oc5 kV5 dc5 pm5 cd5 ct5 oc6 kV6 dc6 pm6 cd6 ct6 oc7 kV7 dc7 pm7 cd7 ct7 oc8 kV8 dc8 pm8 cd8 ct8 oc9 kV9 dc9 pm9 cd9 ct9 oc10 kV10 dc10 pm10 cd10 ct10 oc11 kV11 dc11 pm11 cd11 ct11 oc12 kV12 dc12 pm12 cd12 ct12 oc13 kV13 dc13 pm13 cd13 ct13 : Value}
    (a0 : PySem.W.nsIn K mainGlobals "after" = some (some (.ref f0))) (l0 : K.lookup f0 = some ⟨oc0, od0, .func (PySem.W.fnOf "after" "after" (defArgs s_after) (defBody s_after) (defScope s_after) .none kV0 dc0 pm0 an0 cd0 ct0), sl0⟩) (c0 : PySem.W.codeIn K cd0 "after" = true) (k0 : PySem.W.keepIn K (.ref f0) = true)
    (a1 : PySem.W.nsIn K mainGlobals "turned" = some (some (.ref f1))) (l1 : K.lookup f1 = some ⟨oc1, od1, .func (PySem.W.fnOf "turned" "turned" (defArgs s_turned) (defBody s_turned) (defScope s_turned) .none kV1 dc1 pm1 an1 cd1 ct1), sl1⟩) (c1 : PySem.W.codeIn K cd1 "turned" = true) (k1 : PySem.W.keepIn K (.ref f1) = true)
    (a2 : PySem.W.nsIn K mainGlobals "number" = some (some (.ref f2))) (l2 : K.lookup f2 = some ⟨oc2, od2, .func (PySem.W.fnOf "number" "number" (defArgs s_number) (defBody s_number) (defScope s_number) .none kV2 dc2 pm2 an2 cd2 ct2), sl2⟩) (c2 : PySem.W.codeIn K cd2 "number" = true) (k2 : PySem.W.keepIn K (.ref f2) = true)
    (a3 : PySem.W.nsIn K mainGlobals "colour_count" = some (some (.ref f3))) (l3 : K.lookup f3 = some ⟨oc3, od3, .func (PySem.W.fnOf "colour_count" "colour_count" (defArgs s_colour_count) (defBody s_colour_count) (defScope s_colour_count) .none kV3 dc3 pm3 an3 cd3 ct3), sl3⟩) (c3 : PySem.W.codeIn K cd3 "colour_count" = true) (k3 : PySem.W.keepIn K (.ref f3) = true)
    (a4 : PySem.W.nsIn K mainGlobals "_law_tape" = some (some (.ref f4))) (l4 : K.lookup f4 = some ⟨oc4, od4, .func (PySem.W.fnOf "_law_tape" "_law_tape" (defArgs s_law_tape) (defBody s_law_tape) (defScope s_law_tape) .none kV4 dc4 pm4 an4 cd4 ct4), sl4⟩) (c4 : PySem.W.codeIn K cd4 "_law_tape" = true) (k4 : PySem.W.keepIn K (.ref f4) = true)
    (a5 : PySem.W.nsIn K mainGlobals "_law_take" = some (some (.ref f5))) (l5 : K.lookup f5 = some ⟨oc5, od5, .func (PySem.W.fnOf "_law_take" "_law_take" (defArgs s_law_take) (defBody s_law_take) (defScope s_law_take) .none kV5 dc5 pm5 an5 cd5 ct5), sl5⟩) (c5 : PySem.W.codeIn K cd5 "_law_take" = true) (k5 : PySem.W.keepIn K (.ref f5) = true)
    (a6 : PySem.W.nsIn K mainGlobals "_law_dance" = some (some (.ref f6))) (l6 : K.lookup f6 = some ⟨oc6, od6, .func (PySem.W.fnOf "_law_dance" "_law_dance" (defArgs s_law_dance) (defBody s_law_dance) (defScope s_law_dance) .none kV6 dc6 pm6 an6 cd6 ct6), sl6⟩) (c6 : PySem.W.codeIn K cd6 "_law_dance" = true) (k6 : PySem.W.keepIn K (.ref f6) = true)
    (a7 : PySem.W.nsIn K mainGlobals "_law_same" = some (some (.ref f7))) (l7 : K.lookup f7 = some ⟨oc7, od7, .func (PySem.W.fnOf "_law_same" "_law_same" (defArgs s_law_same) (defBody s_law_same) (defScope s_law_same) .none kV7 dc7 pm7 an7 cd7 ct7), sl7⟩) (c7 : PySem.W.codeIn K cd7 "_law_same" = true) (k7 : PySem.W.keepIn K (.ref f7) = true)
    (a8 : PySem.W.nsIn K mainGlobals "_law_diagram" = some (some (.ref f8))) (l8 : K.lookup f8 = some ⟨oc8, od8, .func (PySem.W.fnOf "_law_diagram" "_law_diagram" (defArgs s_law_diagram) (defBody s_law_diagram) (defScope s_law_diagram) .none kV8 dc8 pm8 an8 cd8 ct8), sl8⟩) (c8 : PySem.W.codeIn K cd8 "_law_diagram" = true) (k8 : PySem.W.keepIn K (.ref f8) = true)
    (a9 : PySem.W.nsIn K mainGlobals "_law_colouring" = some (some (.ref f9))) (l9 : K.lookup f9 = some ⟨oc9, od9, .func (PySem.W.fnOf "_law_colouring" "_law_colouring" (defArgs s_law_colouring) (defBody s_law_colouring) (defScope s_law_colouring) .none kV9 dc9 pm9 an9 cd9 ct9), sl9⟩) (c9 : PySem.W.codeIn K cd9 "_law_colouring" = true) (k9 : PySem.W.keepIn K (.ref f9) = true)
    (a10 : PySem.W.nsIn K mainGlobals "_law_is_closed" = some (some (.ref f10))) (l10 : K.lookup f10 = some ⟨oc10, od10, .func (PySem.W.fnOf "_law_is_closed" "_law_is_closed" (defArgs s_law_is_closed) (defBody s_law_is_closed) (defScope s_law_is_closed) .none kV10 dc10 pm10 an10 cd10 ct10), sl10⟩) (c10 : PySem.W.codeIn K cd10 "_law_is_closed" = true) (k10 : PySem.W.keepIn K (.ref f10) = true)
    (a11 : PySem.W.nsIn K mainGlobals "_law_lists" = some (some (.ref f11))) (l11 : K.lookup f11 = some ⟨oc11, od11, .func (PySem.W.fnOf "_law_lists" "_law_lists" (defArgs s_law_lists) (defBody s_law_lists) (defScope s_law_lists) .none kV11 dc11 pm11 an11 cd11 ct11), sl11⟩) (c11 : PySem.W.codeIn K cd11 "_law_lists" = true) (k11 : PySem.W.keepIn K (.ref f11) = true)
    (a12 : PySem.W.nsIn K mainGlobals "_law_short" = some (some (.ref f12))) (l12 : K.lookup f12 = some ⟨oc12, od12, .func (PySem.W.fnOf "_law_short" "_law_short" (defArgs s_law_short) (defBody s_law_short) (defScope s_law_short) .none kV12 dc12 pm12 an12 cd12 ct12), sl12⟩) (c12 : PySem.W.codeIn K cd12 "_law_short" = true) (k12 : PySem.W.keepIn K (.ref f12) = true)
    (a13 : PySem.W.nsIn K mainGlobals "law" = some (some (.ref f13))) (l13 : K.lookup f13 = some ⟨oc13, od13, .func (PySem.W.fnOf "law" "law" (defArgs s_law) (defBody s_law) (defScope s_law) .none kV13 dc13 pm13 an13 cd13 ct13), sl13⟩) (c13 : PySem.W.codeIn K cd13 "law" = true) (k13 : PySem.W.keepIn K (.ref f13) = true)
    (z_len : PySem.W.nsIn K mainGlobals "len" = some none)
    (z_abs : PySem.W.nsIn K mainGlobals "abs" = some none)
    (z_int : PySem.W.nsIn K mainGlobals "int" = some none)
    (z_range : PySem.W.nsIn K mainGlobals "range" = some none)
    (z_isinstance : PySem.W.nsIn K mainGlobals "isinstance" = some none)
    (z_tuple : PySem.W.nsIn K mainGlobals "tuple" = some none)
    (z_list : PySem.W.nsIn K mainGlobals "list" = some none)
    (z_str : PySem.W.nsIn K mainGlobals "str" = some none)
    (z_bool : PySem.W.nsIn K mainGlobals "bool" = some none)
    (agcd : PySem.W.nsIn K mainGlobals "gcd" = some (some (.builtin "math.gcd"))) :
    ∃ fd : FuncData, (∀ (s : Shared) (v : Value), BindsTo s fd ⟨[v], []⟩ [("script", v)]) ∧ ∀ base : Heap, K.In base → base.Ns mainGlobals mg → FnOk l.prog w K mg base CX0 5 fa fd ["script"] (spLaw K) := by
  have e := hfa.symm.trans (PySem.W.mg_of X G a13)
  cases e
  have F_after := fun_mk (st := s_after) l0 c0 k0
  have m_after := PySem.W.mg_of X G a0
  have b_after := F_after.binds (ps := ["fraction", "dance"]) fun _ _ _ _ _ _ us hl => match us, hl with | [_, _], _ => rfl
  have F_turned := fun_mk (st := s_turned) l1 c1 k1
  have m_turned := PySem.W.mg_of X G a1
  have b_turned := F_turned.binds (ps := ["p", "q"]) fun _ _ _ _ _ _ us hl => match us, hl with | [_, _], _ => rfl
  have F_number := fun_mk (st := s_number) l2 c2 k2
  have m_number := PySem.W.mg_of X G a2
  have b_number := F_number.binds (ps := ["dance"]) fun _ _ _ _ _ _ us hl => match us, hl with | [_], _ => rfl
  have F_colour_count := fun_mk (st := s_colour_count) l3 c3 k3
  have m_colour_count := PySem.W.mg_of X G a3
  have b_colour_count := F_colour_count.binds (ps := ["dance", "way", "n"]) fun _ _ _ _ _ _ us hl => match us, hl with | [_, _, _], _ => rfl
  have F__law_tape := fun_mk (st := s_law_tape) l4 c4 k4
  have m__law_tape := PySem.W.mg_of X G a4
  have b__law_tape := F__law_tape.binds (ps := ["script", "k"]) fun _ _ _ _ _ _ us hl => match us, hl with | [_, _], _ => rfl
  have F__law_take := fun_mk (st := s_law_take) l5 c5 k5
  have m__law_take := PySem.W.mg_of X G a5
  have b__law_take := F__law_take.binds (ps := ["tape", "many"]) fun _ _ _ _ _ _ us hl => match us, hl with | [_, _], _ => rfl
  have F__law_dance := fun_mk (st := s_law_dance) l6 c6 k6
  have m__law_dance := PySem.W.mg_of X G a6
  have b__law_dance := F__law_dance.binds (ps := ["tape", "most"]) fun _ _ _ _ _ _ us hl => match us, hl with | [_, _], _ => rfl
  have F__law_same := fun_mk (st := s_law_same) l7 c7 k7
  have m__law_same := PySem.W.mg_of X G a7
  have b__law_same := F__law_same.binds (ps := ["told", "due"]) fun _ _ _ _ _ _ us hl => match us, hl with | [_, _], _ => rfl
  have F__law_diagram := fun_mk (st := s_law_diagram) l8 c8 k8
  have m__law_diagram := PySem.W.mg_of X G a8
  have b__law_diagram := F__law_diagram.binds (ps := ["dance"]) fun _ _ _ _ _ _ us hl => match us, hl with | [_], _ => rfl
  have F__law_colouring := fun_mk (st := s_law_colouring) l9 c9 k9
  have m__law_colouring := PySem.W.mg_of X G a9
  have b__law_colouring := F__law_colouring.binds (ps := ["dance", "first", "second"]) fun _ _ _ _ _ _ us hl => match us, hl with | [_, _, _], _ => rfl
  have F__law_is_closed := fun_mk (st := s_law_is_closed) l10 c10 k10
  have m__law_is_closed := PySem.W.mg_of X G a10
  have b__law_is_closed := F__law_is_closed.binds (ps := ["colours", "crossings", "ends", "way", "n"]) fun _ _ _ _ _ _ us hl => match us, hl with | [_, _, _, _, _], _ => rfl
  have F__law_lists := fun_mk (st := s_law_lists) l11 c11 k11
  have m__law_lists := PySem.W.mg_of X G a11
  have b__law_lists := F__law_lists.binds (ps := ["count", "n"]) fun _ _ _ _ _ _ us hl => match us, hl with | [_, _], _ => rfl
  have F__law_short := fun_mk (st := s_law_short) l12 c12 k12
  have m__law_short := PySem.W.mg_of X G a12
  have b__law_short := F__law_short.binds (ps := ["tape"]) fun _ _ _ _ _ _ us hl => match us, hl with | [_], _ => rfl
  have F_law := fun_mk (st := s_law) l13 c13 k13
  have m_law := PySem.W.mg_of X G a13
  have b_law := F_law.binds (ps := ["script"]) fun _ _ _ _ _ _ us hl => match us, hl with | [_], _ => rfl
  have y_len := PySem.W.mg_none_of X G z_len
  have y_abs := PySem.W.mg_none_of X G z_abs
  have y_int := PySem.W.mg_none_of X G z_int
  have y_range := PySem.W.mg_none_of X G z_range
  have y_isinstance := PySem.W.mg_none_of X G z_isinstance
  have y_tuple := PySem.W.mg_none_of X G z_tuple
  have y_list := PySem.W.mg_none_of X G z_list
  have y_str := PySem.W.mg_none_of X G z_str
  have y_bool := PySem.W.mg_none_of X G z_bool
  refine ⟨PySem.W.fnOf "law" "law" (defArgs s_law) (defBody s_law) (defScope s_law) .none kV13 dc13 pm13 an13 cd13 ct13, fun s v => .of_eq rfl, fun base _ _ => ?_⟩
  have D_tape : Dfn l.prog w K mg base "_law_tape" 1 _ (spTape K) := ⟨_, _, ok_tape F__law_tape y_len y_abs y_int, m__law_tape, F__law_tape.kp, b__law_tape⟩
  have D_take : Dfn l.prog w K mg base "_law_take" 1 _ spTake := ⟨_, _, ok_take F__law_take y_int, m__law_take, F__law_take.kp, b__law_take⟩
  have D_dance : Dfn l.prog w K mg base "_law_dance" 2 _ spDance := ⟨_, _, ok_dance F__law_dance D_take y_range, m__law_dance, F__law_dance.kp, b__law_dance⟩
  have D_same0 : Dfn l.prog w K mg base "_law_same" 0 _ (spSame 0) := ⟨_, _, none_same, m__law_same, F__law_same.kp, b__law_same⟩
  have D_same1 : Dfn l.prog w K mg base "_law_same" 1 _ (spSame 1) := ⟨_, _, ok_same F__law_same D_same0 y_isinstance y_tuple y_list y_len y_range y_str y_int y_bool, m__law_same, F__law_same.kp, b__law_same⟩
  have D_turned : Dfn l.prog w K mg base "turned" 1 _ spTurned := ⟨_, _, ok_turned F_turned, m_turned, F_turned.kp, b_turned⟩
  have D_after : Dfn l.prog w K mg base "after" 2 _ spAfter := ⟨_, _, ok_after F_after D_turned, m_after, F_after.kp, b_after⟩
  have D_num : Dfn l.prog w K mg base "number" 3 _ spNum := ⟨_, _, ok_num F_number D_after , m_number, F_number.kp, b_number⟩
  have D_law_diagram : Dfn l.prog w K mg base "_law_diagram" 1 _ spDiag := ⟨_, _, ok_law_diagram F__law_diagram  , m__law_diagram, F__law_diagram.kp, b__law_diagram⟩
  have D_law_colouring : Dfn l.prog w K mg base "_law_colouring" 2 _ spCol := ⟨_, _, ok_law_colouring F__law_colouring D_law_diagram , m__law_colouring, F__law_colouring.kp, b__law_colouring⟩
  have D_closed : Dfn l.prog w K mg base "_law_is_closed" 1 _ spClosed := ⟨_, _, ok_closed F__law_is_closed y_int y_len , m__law_is_closed, F__law_is_closed.kp, b__law_is_closed⟩
  have D_law_lists : Dfn l.prog w K mg base "_law_lists" 1 _ spLists := ⟨_, _, ok_law_lists F__law_lists y_range , m__law_lists, F__law_lists.kp, b__law_lists⟩
  have D_law_short : Dfn l.prog w K mg base "_law_short" 2 _ spShort := ⟨_, _, ok_law_short F__law_short D_take y_range y_len , m__law_short, F__law_short.kp, b__law_short⟩
  have D_colour_count : Dfn l.prog w K mg base "colour_count" 4 _ spCC := ⟨_, _, ok_colour_count F_colour_count D_num (PySem.W.mg_of X G agcd), m_colour_count, F_colour_count.kp, b_colour_count⟩
  exact ok_law F_law (D_tape.mono (by decide)) (D_law_short.mono (by decide)) (D_law_diagram.mono (by decide)) (D_take.mono (by decide)) (D_law_lists.mono (by decide)) (D_closed.mono (by decide)) (D_same1.mono (by decide)) D_colour_count (D_dance.mono (by decide)) (D_law_colouring.mono (by decide)) y_len y_range y_int
theorem walk {l : PySem.W.OpenLaw} {q : Program} {loose : List Str} {XP : (Str → Option Value) → Heap → Prop} {YP : World → Heap → Prop} {d : DefRec} {K : Params → PySem.W.Frag} (hn : l.most = some 63) (hdf : d.params.defaults = [])
    (hY : ∀ (w : World) (h : Heap), YP w h → (K w.params).In h)
    (F : ∀ (w : World) (mg : Str → Option Value) (fa : Addr) (h : Heap), (K w.params).In h → h.Ns mainGlobals mg → mg d.name = some (.ref fa) →
      ∃ fd : FuncData, (∀ (s : Shared) (u : Value), BindsTo s fd ⟨[u], []⟩ [("script", u)]) ∧ ∀ base : Heap, (K w.params).In base → base.Ns mainGlobals mg → FnOk l.prog w (K w.params) mg base CX0 5 fa fd ["script"] (spLaw (K w.params))) :
    PySem.W.WalkO q loose XP YP l.row.toRowW d [] (fun f vs => PySem.call f vs) :=
  L2.walk_of (n := 63) (k := 5) (x := "script") (CX := fun _ => CX0) (sp := fun w => spLaw (K w.params)) hn (by decide) hdf ⟨rfl, by decide, by decide⟩ hY F (fun _ _ a ns hl _ hS => ⟨a, ns, rfl, hS, hl, fun _ => rfl⟩) fun _ _ _ _ _ z => z
end Rope
open PySem PySem.W PyProof.Rows
set_option maxRecDepth 100000 in
set_option maxHeartbeats 0 in
theorem PySem.Challenge.cw_ropedance_k13_counts_of_colourings_holds : PySem.Challenge.rw_ropedance_k13_counts_of_colourings.Holds := by
  w_on; o_law; k_head; (case hw => w_witness2)
  k_fill
  refine Rope.walk (l := PySem.Challenge.rw_ropedance_k13_counts_of_colourings) rfl rfl (fun w h Y => PySem.W.kIn_of Y) ?F
  case F =>
    intro w mg fa h KX G hmg
    refine' Rope.all_mk KX G hmg ?a0 ?l0 ?c0 ?k0 ?a1 ?l1 ?c1 ?k1 ?a2 ?l2 ?c2 ?k2 ?a3 ?l3 ?c3 ?k3 ?a4 ?l4 ?c4 ?k4 ?a5 ?l5 ?c5 ?k5 ?a6 ?l6 ?c6 ?k6 ?a7 ?l7 ?c7 ?k7 ?a8 ?l8 ?c8 ?k8 ?a9 ?l9 ?c9 ?k9 ?a10 ?l10 ?c10 ?k10 ?a11 ?l11 ?c11 ?k11 ?a12 ?l12 ?c12 ?k12 ?a13 ?l13 ?c13 ?k13 ?z_len ?z_abs ?z_int ?z_range ?z_isinstance ?z_tuple ?z_list ?z_str ?z_bool ?agcd
    (case a0 => k_is)
    (case l0 => k_is)
    (case c0 => k_is)
    (case k0 => k_is)
    (case a1 => k_is)
    (case l1 => k_is)
    (case c1 => k_is)
    (case k1 => k_is)
    (case a2 => k_is)
    (case l2 => k_is)
    (case c2 => k_is)
    (case k2 => k_is)
    (case a3 => k_is)
    (case l3 => k_is)
    (case c3 => k_is)
    (case k3 => k_is)
    (case a4 => k_is)
    (case l4 => k_is)
    (case c4 => k_is)
    (case k4 => k_is)
    (case a5 => k_is)
    (case l5 => k_is)
    (case c5 => k_is)
    (case k5 => k_is)
    (case a6 => k_is)
    (case l6 => k_is)
    (case c6 => k_is)
    (case k6 => k_is)
    (case a7 => k_is)
    (case l7 => k_is)
    (case c7 => k_is)
    (case k7 => k_is)
    (case a8 => k_is)
    (case l8 => k_is)
    (case c8 => k_is)
    (case k8 => k_is)
    (case a9 => k_is)
    (case l9 => k_is)
    (case c9 => k_is)
    (case k9 => k_is)
    (case a10 => k_is)
    (case l10 => k_is)
    (case c10 => k_is)
    (case k10 => k_is)
    (case a11 => k_is)
    (case l11 => k_is)
    (case c11 => k_is)
    (case k11 => k_is)
    (case a12 => k_is)
    (case l12 => k_is)
    (case c12 => k_is)
    (case k12 => k_is)
    (case a13 => k_is)
    (case l13 => k_is)
    (case c13 => k_is)
    (case k13 => k_is)
    (case z_len => k_is)
    (case z_abs => k_is)
    (case z_int => k_is)
    (case z_range => k_is)
    (case z_isinstance => k_is)
    (case z_tuple => k_is)
    (case z_list => k_is)
    (case z_str => k_is)
    (case z_bool => k_is)
    (case agcd => k_is)
