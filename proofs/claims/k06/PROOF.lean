import PyProof.Rows.All
import Wide.All
import OpenK.AllK
import Wide.FinOn
import PyProof.StrBlock2
import HandS.ForMost
import HandS.Wide
import HandS.IsInst
import HandS.Exc
import HandS.ExcOwn
import HandS.ExcCtx
import HandS.ExcIs
import HandS.Hot
import HandS.WordsExc
import HandS.Gcd
import HandS.AnyAll
import HandS.Style
import HandS.More
import HandS.TryOnly
import HandS.ListEq
import PySem.Challenge.RW_ropedance_k06_rows_of_moves
set_option Elab.async false
set_option linter.all false
set_option maxRecDepth 100000
set_option maxHeartbeats 4000000
namespace Rope
open PySem L2


/-! ### texts as lists of codes -/
def S (l : List Nat) : Str := ⟨l.toArray⟩
theorem S_len (l : List Nat) : (S l).length = l.length := by simp [S, Str.length]
theorem S_list (l : List Nat) : (S l).cps.toList = l := by simp [S]
theorem S_size (l : List Nat) : (S l).cps.size = l.length := by simp [S]
theorem S_get (l : List Nat) (i : Nat) : (S l).cps[i]? = l[i]? := by simp [S]
theorem S_inj {l m : List Nat} (h : S l = S m) : l = m := by
  have := congrArg (fun z : Str => z.cps.toList) h
  simpa [S] using this
theorem S_app (l m : List Nat) : S l ++ S m = S (l ++ m) := by
  show Str.append (S l) (S m) = S (l ++ m)
  simp [Str.append, S]
theorem S_mul (l : List Nat) (n : Int) : Txt.mul (S l) n = S (List.replicate n.toNat l).flatten := by
  unfold Txt.mul
  by_cases h1 : n < 1
  · rw [if_pos h1]
    have : n.toNat = 0 := by omega
    rw [this]
    rfl
  · rw [if_neg h1]
    by_cases h2 : (n == 1 || (S l).length == 0) = true
    · rw [if_pos h2]
      simp only [Bool.or_eq_true, beq_iff_eq] at h2
      rcases h2 with h2 | h2
      · subst h2
        show S l = S (List.replicate 1 l).flatten
        simp
      · rw [S_len] at h2
        have : l = [] := List.eq_nil_of_length_eq_zero h2
        subst this
        simp
    · rw [if_neg h2]
      have aux : ∀ (k : Nat) (a : Array Nat), ((List.replicate k (S l).cps).foldl (· ++ ·) a).toList = a.toList ++ (List.replicate k l).flatten := by
        intro k
        induction k with
        | zero => intro a; simp
        | succ k ih =>
          intro a
          rw [List.replicate_succ, List.foldl_cons, ih, List.replicate_succ, List.flatten_cons, Array.toList_append, List.append_assoc, S_list]
      have := aux n.toNat #[]
      unfold S
      congr 1
      apply Array.toList_inj.mp
      rw [show S l = (⟨l.toArray⟩ : Str) from rfl] at this
      rw [this]
      simp
theorem S_cut (l : List Nat) (lo hi : Option Int) : cutS (S l) lo hi = S ((l.drop (HT.sIx l.length 0 lo)).take (HT.sIx l.length l.length hi - HT.sIx l.length 0 lo)) := by
  unfold cutS
  rw [S_len, S_list]
  rfl
theorem S_take (l : List Nat) {m : Int} (h : 0 ≤ m) : cutS (S l) none (some m) = S (l.take m.toNat) := by
  obtain ⟨k, rfl⟩ := Int.eq_ofNat_of_zero_le h
  rw [S_cut, HT.sIx_none, HT.sIx_nat, List.drop_zero, Nat.sub_zero, Int.toNat_natCast]
  congr 1
  by_cases h2 : k ≤ l.length
  · rw [Nat.min_eq_left h2]
  · rw [Nat.min_eq_right (by omega), List.take_of_length_le (Nat.le_refl _), List.take_of_length_le (by omega)]
theorem S_drop (l : List Nat) {m : Int} (h : 0 ≤ m) : cutS (S l) (some m) none = S (l.drop m.toNat) := by
  obtain ⟨k, rfl⟩ := Int.eq_ofNat_of_zero_le h
  rw [S_cut, HT.sIx_none, HT.sIx_nat, Int.toNat_natCast]
  congr 1
  rw [List.take_of_length_le (by simp)]
  by_cases h2 : k ≤ l.length
  · rw [Nat.min_eq_left h2]
  · rw [Nat.min_eq_right (by omega), List.drop_length, List.drop_eq_nil_of_le (by omega)]
/-- a text times an int -/
theorem op_mul_str {X : Cx} : OpR X (binaryOp .Mult) (fun x y H Q => ∃ (l : List Nat) (n : Int), x = .str (S l) ∧ y = .int n ∧ 0 ≤ n ∧ n < 2 ^ 62 ∧ l.length * n.toNat ≤ 16777215 ∧ Q (.str (S (List.replicate n.toNat l).flatten)) H) := by
  intro pins s σ H x y v u Q I rx ry h
  obtain ⟨l, n, rfl, rfl, h0, h1, h2, q⟩ := h
  obtain ⟨t, rfl⟩ := rx
  obtain ⟨t', rfl⟩ := ry
  have e1 : decide (n < -(2 ^ 63 : Int)) = false := decide_eq_false (by omega)
  have e2 : decide (n ≥ 2 ^ 63) = false := decide_eq_false (by omega)
  refine SB.mul ⟨by rw [e1, e2]; rfl, fun z1 z2 => ?_, fun z1 z2 => ?_⟩ fun t' k => ⟨.str _, H, I.tok _, ⟨_, rfl⟩, by rw [S_mul]; exact q⟩
  · rw [S_len]
    have h3 : (l.length : Int) * n ≤ 16777215 := by
      have : ((l.length * n.toNat : Nat) : Int) ≤ 16777215 := Int.ofNat_le.mpr h2
      rw [Int.natCast_mul, Int.toNat_of_nonneg h0] at this
      exact this
    have hn : 0 < n := by omega
    intro hc
    have hc' : (2 ^ 63 - 1) / n < (l.length : Int) := hc
    have := (Int.ediv_lt_iff_lt_mul hn).mp hc'
    omega
  · rw [S_len]
    unfold Builtin.Str.tooLong
    rw [sizeLine_eq]
    exact decide_eq_false (by omega)
/-! ### the calls: a fraction by a letter -/
def called (v : Int × Int) (c : Nat) : Int × Int :=
  if c = 84 then (v.1 + v.2, v.2) else if c = 85 then (v.1 - v.2, v.2) else if 0 < v.1 then (0 - v.2, v.1) else if v.1 < 0 then (v.2, 0 - v.1) else (1, 0)
def run (v : Int × Int) (l : List Nat) : Int × Int := l.foldl called v
theorem run_nil (v : Int × Int) : run v [] = v := rfl
theorem run_app (v : Int × Int) (l m : List Nat) : run v (l ++ m) = run (run v l) m := List.foldl_append
theorem run_take {l : List Nat} {i c : Nat} (v : Int × Int) (h : l[i]? = some c) : run v (l.take (i + 1)) = called (run v (l.take i)) c := by
  rw [List.take_add_one, h, run_app]
  rfl
/-- what a fraction of the laws keeps: q positive or infinite, no common divisor -/
def Good (v : Int × Int) : Prop := (0 < v.2 ∨ v = (1, 0)) ∧ Int.gcd v.1 v.2 = 1
theorem Good.zero : Good (0, 1) := ⟨.inl (by decide), by decide⟩
theorem gcd_add' (p q : Int) : Int.gcd (p + q) q = Int.gcd p q := by
  have := Int.gcd_add_mul_right_left p q 1
  simpa using this
theorem Good.called {v : Int × Int} (h : Good v) (c : Nat) : Good (called v c) := by
  obtain ⟨p, q⟩ := v
  obtain ⟨h1, h2⟩ := h
  simp only at h1 h2
  unfold Rope.called
  by_cases c1 : c = 84
  · rw [if_pos c1]
    refine ⟨?_, ?_⟩
    · rcases h1 with h1 | h1
      · exact .inl h1
      · cases h1; exact .inr rfl
    · show Int.gcd (p + q) q = 1
      rw [gcd_add']; exact h2
  rw [if_neg c1]
  by_cases c2 : c = 85
  · rw [if_pos c2]
    refine ⟨?_, ?_⟩
    · rcases h1 with h1 | h1
      · exact .inl h1
      · cases h1; exact .inr rfl
    · show Int.gcd (p - q) q = 1
      have := gcd_add' (p - q) q
      rw [Int.sub_add_cancel] at this
      rw [← this]; exact h2
  rw [if_neg c2]
  by_cases c3 : 0 < p
  · rw [if_pos (show 0 < (p, q).1 from c3)]
    refine ⟨.inl c3, ?_⟩
    show Int.gcd (0 - q) p = 1
    rw [Int.zero_sub, Int.neg_gcd, Int.gcd_comm]; exact h2
  rw [if_neg (show ¬ 0 < (p, q).1 from c3)]
  by_cases c4 : p < 0
  · rw [if_pos (show (p, q).1 < 0 from c4)]
    refine ⟨.inl (by show 0 < 0 - p; omega), ?_⟩
    show Int.gcd q (0 - p) = 1
    rw [Int.zero_sub, Int.gcd_neg, Int.gcd_comm]; exact h2
  rw [if_neg (show ¬ (p, q).1 < 0 from c4)]
  exact ⟨.inr rfl, by decide⟩
theorem good_run : ∀ (l : List Nat) {v : Int × Int}, Good v → Good (run v l)
  | [], _, h => h
  | c :: r, _, h => good_run r (h.called c)
/-- its size grows by a bit a letter -/
theorem called_size {v : Int × Int} {n : Nat} (h1 : v.1.natAbs ≤ n) (h2 : v.2.natAbs ≤ n) (h0 : 1 ≤ n) (c : Nat) : (called v c).1.natAbs ≤ 2 * n ∧ (called v c).2.natAbs ≤ 2 * n := by
  unfold called
  repeat' split
  all_goals simp only
  all_goals omega
theorem run_size : ∀ (l : List Nat) {v : Int × Int} {n : Nat}, v.1.natAbs ≤ n → v.2.natAbs ≤ n → 1 ≤ n → (run v l).1.natAbs ≤ 2 ^ l.length * n ∧ (run v l).2.natAbs ≤ 2 ^ l.length * n
  | [], v, n, h1, h2, _ => by simpa [run] using ⟨h1, h2⟩
  | c :: r, v, n, h1, h2, h0 => by
    have q := called_size h1 h2 h0 c
    have ih := run_size r q.1 q.2 (by omega)
    have e : 2 ^ (c :: r).length * n = 2 ^ r.length * (2 * n) := by
      rw [List.length_cons, Nat.pow_succ, Nat.mul_assoc]
    rw [e]
    exact ih
/-! ### the divisor -/
theorem gcd_step (x y : Int) : Nat.gcd y.natAbs (x.fmod y).natAbs = Nat.gcd x.natAbs y.natAbs := by
  show Int.gcd y (x.fmod y) = Int.gcd x y
  have e : x.fmod y = x + y * (-(x.fdiv y)) := by
    have := Int.fmod_def x y
    rw [this, Int.mul_neg]
    rfl
  rw [e, Int.gcd_add_mul_left_right, Int.gcd_comm]
theorem fmod_less {x y : Int} (h : y ≠ 0) : (x.fmod y).natAbs < y.natAbs := by
  by_cases h0 : 0 < y
  · rw [Int.fmod_eq_emod_of_nonneg x (by omega)]
    have h1 := Int.emod_nonneg x h
    have h2 := Int.emod_lt_of_pos x h0
    omega
  · have e : x.fmod y = -((-x).fmod (-y)) := by
      have := Int.neg_fmod_neg (a := x) (b := y)
      omega
    rw [e, Int.fmod_eq_emod_of_nonneg _ (by omega)]
    have h1 := Int.emod_nonneg (-x) (b := -y) (by omega)
    have h2 := Int.emod_lt_of_pos (-x) (b := -y) (by omega)
    omega
/-- for letter in text -/
theorem for_str {l : List Nat} {g : TG} {tb : TS} {D : Ends} {σ : L2.St} {H : Hp} (Pv : Nat → L2.St → Hp → Prop) (h0 : Pv 0 σ H)
    (hs : ∀ i c σ H, l[i]? = some c → Pv i σ H → g (.str (S [c])) σ H fun σ2 H2 => tb { D with nx := Pv (i + 1), ct := Pv (i + 1), bk := D.nx } σ2 H2) (hd : ∀ σ H, Pv l.length σ H → D.nx σ H) :
    ∃ W : Nat → Nat → L2.St → Hp → Prop, (∃ m, W 0 m σ H) ∧ ∀ i m σ H, W i m σ H →
      ((Its (S l)).stop i H ∧ D.nx σ H) ∨ ((Its (S l)).go i H ∧ ∃ N : L2.St → Hp → Prop, (∀ σ' H', N σ' H' → ∃ m', m' < m ∧ W (i + 1) m' σ' H') ∧ ∀ x H', (Its (S l)).yld i H x H' → g x σ H' fun σ2 H2 => tb { D with nx := N, ct := N, bk := D.nx } σ2 H2) := by
  refine ⟨fun i m σ H => m = l.length - i ∧ i ≤ l.length ∧ Pv i σ H, ⟨l.length, by simp, Nat.zero_le _, h0⟩, ?_⟩
  rintro i m σ H ⟨rfl, hi, p⟩
  by_cases hlt : i < l.length
  · refine .inr ⟨by show i < (S l).cps.size; rw [S_size]; exact hlt, Pv (i + 1), fun σ' H' p' => ⟨l.length - (i + 1), by omega, rfl, hlt, p'⟩, fun x H' y => ?_⟩
    obtain ⟨e, c, hc, rfl⟩ := y
    subst e
    rw [S_get] at hc
    exact hs i c σ _ hc p
  · have e : i = l.length := by omega
    subst e
    exact .inl ⟨by show (S l).cps.size ≤ l.length; rw [S_size]; exact Nat.le_refl _, hd σ H p⟩

section
open PySem.F HotX
variable {prog : Program} {w : World} {A : Around} {E : Value → Shared → Prop} {s : Shared}
/-- the end of a list's walk while an exception is handled -/
theorem list_end_hot {it l x1 : Addr} {i : Nat} {items : Array Value} {Q : Option Value → Shared → Prop} (hot : HotAt A x1 s.heap) (hne : x1 ≠ it)
    (hit : s.heap.IsListIter it l i) (hl : s.heap.IsList l items) (hx : items[i]? = none)
    (hQ : ∀ h', Heap.ExtBut it s.heap h' → Q none { s with heap := h' }) : wpAny (model prog w) A (pyNext (.ref it)) Q E s := by
  obtain ⟨io, iAt, _, iDat⟩ := id hit
  obtain ⟨lo, lAt, _, ln, lDat⟩ := hl
  obtain ⟨he, xo, xv, xAt, xDat, xCtx⟩ := hot
  have typ := hit.typeIs
  unfold pyNext
  refine wpAny_bind (wpAny_attempt (wpAny_callSpecial?_slot (name := Str.ofString "__next__") typ slot_listiter_next (wpAny_call_entry slot_listiter_next typ entry_listiter_next ?body (args_listiter_next _))))
  -- the list, the place, the items: nothing is left
  show wpAny _ _ (field (.ref it) 0 >>= _) _ _ s; refine wpAny_bind (wpAny_field iAt iDat (x := .ref l) rfl ?_)
  show wpAny _ _ (if (Value.ref l == Value.none) = true then _ else _) _ _ s; rw [if_neg (show ¬ ((Value.ref l == Value.none) = true) from Bool.false_ne_true)]
  show wpAny _ _ (field (.ref it) 1 >>= _) _ _ s; refine wpAny_bind (wpAny_field iAt iDat (x := .int i 0) rfl ?_)
  show wpAny _ _ (seqItems? (.ref l) >>= _) _ _ s; refine wpAny_bind (wpAny_seqItems lAt lDat ?_); simp only [Int.toNat_natCast, hx]
  refine wpAny_bind (wpAny_rule (wpAny_bind (wpAny_setField iAt iDat (by simp) ?stop)))
  -- StopIteration is made and raised on top of the one that is handled
  show wpAny _ _ (newExc (.type "StopIteration") [] >>= _) _ _ _; refine wpAny_bind ?_; simp only [newExc, newTuple]
  refine wpAny_bind (wpAny_newObj_type (wpAny_bind (m := firstArgMember _ _) (wpAny_of_eq (a := Value.none) (by first | rfl | (simp only [firstArgMember]; rfl)) (wpAny_newObj_type ?_ (by size_fits)))) (by size_fits))
  have kept := (Heap.get?_update_other s.heap (Obj.mapFields (·.setIfInBounds 0 .none)) hne.symm).trans xAt
  have far := Heap.lt_size (Heap.get?_push_of_some { cls := .type "tuple", data := .seq #[] } kept)
  refine raiseNew_hot ⟨he, xo, xv, Heap.get?_push_of_some _ (Heap.get?_push_of_some _ kept), xDat, xCtx⟩ (Nat.ne_of_lt far) (Heap.get?_push_size _ rfl) rfl (by first | (simp; done) | (simp; omega) | (simp only [Array.size_append]; simp; omega)) ?_
  refine wpAny_bind (wpAny_isInstance (T := "StopIteration") (b := true) ⟨_, Heap.get?_update_self _ (Heap.get?_push_size _ rfl) rfl, rfl⟩ isSubtype_stop (wpAny_pure (hQ _ fun c u hc e => ?_)))
  have e2 := (Heap.SameBut.update s.heap it (Obj.mapFields (·.setIfInBounds 0 .none))).extBut c u hc e
  have e3 := Heap.get?_push_of_some { cls := .type "tuple", data := .seq #[] } e2
  exact (Heap.get?_update_other _ _ (Nat.ne_of_gt (Heap.lt_size e3))).trans (Heap.get?_push_of_some _ e3)
end
/-- a list walked while an exception is handled -/
theorem walks_list_hot {prog : Program} {w : World} {A : Around} {x1 : Addr} {o1 : Obj} {vs1 : Array Value} (hh : A.handled = some (.ref x1)) (d1 : o1.data = .fields vs1) (c1 : vs1[2]? = some .none) (I ax : Addr) (hne : ax ≠ I) (h1I : x1 ≠ I) (items : Array Value) :
    Walks prog w A I [I, ax, x1] [I] items.size (fun i v => items[i]? = some v) (fun i h => h.IsListIter I ax i ∧ h.IsList ax items ∧ h.get? x1 = some o1) where
  sub := fun b hb => by simp at hb; simp [hb]
  frame := fun _ _ _ st hk => ⟨st.1.at fun o e => hk I (by simp) o e, st.2.1.at fun o e => hk ax (by simp) o e, hk x1 (by simp) _ st.2.2⟩
  item := fun i s Q E hi st hQ => by
    exact wpAny_pyNext_list_item st.1 st.2.1 (x := items[i]) (by simp [hi]) fun h' hit' hs' => hQ _ h' s.toks (by simp [hi]) ⟨hit', st.2.1.extBut hs'.extBut hne, hs'.extBut x1 _ h1I st.2.2⟩ fun b o hb e => hs'.extBut b o (fun h => hb (by simp [h])) e
  done := fun s Q E st hQ => list_end_hot ⟨hh, o1, vs1, st.2.2, d1, c1⟩ h1I st.1 st.2.1 (by simp) fun h' he' => hQ h' s.toks fun b o hb e => he' b o (fun h => hb (by simp [h])) e
  self := fun _ _ _ _ st hQ => wpAny_pyIter_listiter st.1 hQ
section
variable {X : Cx} {a : Addr} {oe : Obj} {cls : Value} {d : Option Addr} {pn : List (Addr × Obj)}
/-- any(list of bools) within an except suite -/
theorem any_hot (hz : L2N.Zn cls d oe) (hf : ∃ vs, oe.data = .fields vs) : CallR (X.suite a ((a, oe) :: pn)) (.builtin "any") (rAny X.K) := fun pins s σ H vs us Q I r ⟨b, bs, ev, hs, q⟩ => by
  subst ev
  obtain ⟨its, rv, hl, _⟩ := Inv.list I hs
  obtain ⟨fv, hd⟩ := hf
  have here := (I.pin (a, oe) (List.mem_append_left _ List.mem_cons_self)).1
  have lt := Heap.lt_size here
  rw [Vals.ref1 r]
  have items := rv.bls
  refine call_any_walk (iter_any hl.isList fun z ez st ne => ?_); subst ez
  refine ⟨_, _, _, _, _, _, _, rfl, walks_list_hot (A := (X.suite a ((a, oe) :: pn)).A.in1) (x1 := a) (o1 := oe) rfl hd (hz.2.2 fv hd) _ b ne (Nat.ne_of_lt lt) its.toArray, ⟨st.1, st.2, Heap.get?_push_of_some _ here⟩, truth_bools items, fun h' tk hk => ?_⟩
  have all : ∀ c u, s.heap.get? c = some u → h'.get? c = some u := fun c u e => hk c u (fun m => by
    rw [List.mem_singleton.mp m] at e
    exact Nat.lt_irrefl _ (Heap.lt_size e)) (Heap.get?_push_of_some _ e)
  refine ⟨.bl (bs.any id), H, I.kept all, ?_, q⟩
  show Value.bool ((List.range its.toArray.size).any fun i => bs.getD i false) = .bool (bs.any id)
  rw [← any_range, items, List.size_toArray, List.length_map]
/-- isinstance(e, c) of the error that the suite holds -/
def rIsF (K : PySem.W.Frag) (D a : Addr) (cls : Value) (d : Option Addr) : List V → Hp → VK → Prop := fun xs H Q => cls = .ref D ∧ d = none ∧ rIsE K D a xs H Q
theorem call_isF {D : Addr} (C : ExcC X.K D) (hz : L2N.Zn cls d oe) (hf : ∃ vs, oe.data = .fields vs) : CallR (X.suite a ((a, oe) :: pn)) (.builtin "isinstance") (rIsF X.K D a cls d) := by
  intro pins s σ H xs us Q I r h
  obtain ⟨rfl, rfl, h⟩ := h
  exact call_isE C hz.zc hf pins s σ H xs us Q I r h
end
theorem takes0N {X : Cx} : L2N.Takes X (fun _ _ _ _ => False) := fun _ _ ⟨_, _, _, _, _, _, _, _, _, _, _, _, _, _, _, _, no⟩ => False.elim no
theorem okX {P : Program} {w : World} {K : PySem.W.Frag} {mg : Str → Option Value} {base : Heap} {x qual : Str} {st : Stmt} {f : Addr} {fd : FuncData} {N ps : List Str} {k : Nat} {sp : Sp} (F : Fun K x qual st f fd) (S : FnScope N ps (defScope st)) (len : ∀ vs H Q E, sp vs H Q E → vs.length = ps.length)
    (hbody : ∀ (cdv : Value) (A : Around) (outer : List Env) (s : Shared) (H : Hp) (vs : List V) (Q : VK) (E : XK), Room k (A.deeper (PyProof.Rows.envOfC qual (defScope st) s.heap.objs.size f cdv)) → sp vs H Q E →
      ∃ t, PSs (cxOf (L2N.CX P w) P w K mg base N qual (defScope st) f cdv A outer s H E) (defBody st) t ∧ t { nx := fun _ H' => Q .non H', rt := Q } (start N vs) H) : FnOk P w K mg base (L2N.CX P w) (k + 1) f fd ps sp := by
  obtain ⟨_, _, _, _, _, _, cdv, _, _, rfl, lk, hcd⟩ := F.ex
  exact fn_of lk hcd S len (hbody cdv)
/-! ### an error class of the program -/
structure Err (K : PySem.W.Frag) (mg : Str → Option Value) (x : Str) (C : Addr) : Prop where
  g : mg x = some (.ref C)
  x : PySem.W.excIn K C [.type "ValueError", .type "Exception", .type "BaseException", .type "object"] "ValueError.__new__" = true
  k : PySem.W.keepIn K (.ref C) = true
  b : PySem.W.subIn K (.ref C) (.type "BaseException") = some true
  t : PySem.W.typeIn K (.ref C) = some (.type "type")
  hd : PySem.W.hasDictIn K C = true
  hg : PySem.W.findIn K (.ref C) "__getattribute__" = some (some (.builtin "BaseException.__getattribute__"))
  hk : PySem.W.findIn K (.ref C) "__getattr__" = some none
  ha : PySem.W.findIn K (.ref C) "__class__" = some (some (.builtin "object.__class__"))
  hm : PySem.W.mroIn K C (.type "object") = some true
theorem Err.c {K : PySem.W.Frag} {mg : Str → Option Value} {x : Str} {C : Addr} (e : Err K mg x C) (hn : PySem.W.specialIn K (.builtin "object.__class__") "__get__" = some (some (.builtin "getset_descriptor.__get__"))) (ht : PySem.W.takesIn K (.builtin "object.__class__") = some true) : ExcC K C :=
  ⟨e.hg, e.hk, e.b, e.hd, e.ha, hn, ht, e.hm⟩
/-- // of great ints, of any sign -/
theorem op_fdivWN {X : Cx} : OpR X (binaryOp .FloorDiv) (rI (fun _ j => j ≠ 0 ∧ j.natAbs.log2 < 9000) fun i j => .int (i.fdiv j)) := opI fun i j _ _ _ _ _ hc q =>
  PyProof.Rows.floordiv_int hc.1 q (.inl (PyProof.noPylong_of_log2 hc.2))

/-! ### text[::-1] -/
theorem rev_pick (l : List Nat) (t : Tok) (a : Tok) : sliceMade (S l) t none none (some (-1, a)) = Made.str (S l.reverse) := by
  have hs : slicePicked (S l) none none (some (-1, a)) = (List.range l.length).reverse := by
    show sliceRange (((S l).length : Int) - 1) (-1) (-1) = _
    rw [S_len, PySem.W.krv_sliceRange, PySem.W.krv_range]
  have hf : ((List.range l.length).reverse.filterMap ((S l).cps[·]?)) = l.reverse := by
    rw [List.filterMap_reverse]
    congr 1
    have : ∀ m : List Nat, (List.range m.length).filterMap (fun i => m[i]?) = m := fun m => by
      induction m with
      | nil => rfl
      | cons c r ih =>
        rw [List.length_cons, List.range_succ_eq_map, List.filterMap_cons, List.filterMap_map]
        show c :: (List.range r.length).filterMap (fun i => r[i]?) = c :: r
        rw [ih]
    have h2 : (fun i => (S l).cps[i]?) = fun i => l[i]? := funext fun i => S_get l i
    rw [h2]
    exact this l
  unfold sliceMade
  rw [hs, hf]
  rfl
def tRevS (te : TE) : TE := fun σ H Q => te σ H fun x H1 => ∃ l : List Nat, x = .str (S l) ∧ l.length ≤ 16777216 ∧ Q (.str (S l.reverse)) H1
theorem pe_revS {X : Cx} {e : Expr} {te : TE} {k : Nat} {p1 p2 p3 pos : Pos} (he : PE X e te) : PE X (.Subscript e (.Slice none none (some (.UnaryOp .USub (.Constant (.int 1) k p1) p2)) p3) pos) (tRevS te) := by
  constructor
  intro pins s σ H Q I hyp
  apply PyProof.Rows.Subscript_
  refine thn (he.run pins s σ H _ I hyp) fun v s1 ⟨x, H1, I1, r1, l, ex, hl, q⟩ => ?_
  subst ex
  obtain ⟨tk, rfl⟩ := r1
  have minus : PO X (some (.UnaryOp .USub (.Constant (.int 1) k p1) p2)) (tPart (tUn (rU fun i => .int (-i)) (tC (.int 1)))) := po_some (pe_un un_neg pe_int)
  apply wpAny_Slice
  refine thn (po_none.run pins s1 σ H1 (fun o G => o = none ∧ G = H1) I1 ⟨rfl, rfl⟩) fun v1 s2 ⟨o1, G1, J1, a1, b1, c1⟩ => ?_
  subst b1; subst c1
  refine thn (po_none.run pins s2 σ G1 (fun o G => o = none ∧ G = G1) J1 ⟨rfl, rfl⟩) fun v2 s3 ⟨o2, G2, J2, a2, b2, c2⟩ => ?_
  subst b2; subst c2
  refine thn (minus.run pins s3 σ G2 (fun o G => o = some (-1) ∧ G = G2) J2 ⟨1, rfl, -1, rfl, rfl, rfl⟩) fun v3 s4 ⟨o3, G3, J3, a3, b3, c3⟩ => ?_
  subst b3; subst c3
  obtain ⟨y1, rfl, g1⟩ := IsPart.raw a1
  obtain ⟨y2, rfl, g2⟩ := IsPart.raw a2
  obtain ⟨y3, rfl, g3⟩ := IsPart.raw a3
  cases y1 with
  | some z => cases g1
  | none =>
  cases y2 with
  | some z => cases g2
  | none =>
  cases y3 with
  | none => cases g3
  | some z =>
  obtain ⟨z1, z2⟩ := z
  have ez : z1 = -1 := Option.some.inj g3
  subst ez
  show wpAny (model X.prog X.w) X.A (PyProof.Rows.subscriptTail e (.Slice none none (some (.UnaryOp .USub (.Constant (.int 1) k p1) p2)) p3) (.str (S l) tk) (.ref s4.heap.objs.size)) (EP X pins σ Q) X.xe { s4 with heap := s4.heap.push { cls := .type "slice", data := .fields #[partValue none, partValue none, partValue (some (-1, z2))] } }
  refine PyProof.Rows.tail_any (ops := [.str (S l) tk, .ref s4.heap.objs.size]) (typeIs_str _ _ _) PySem.F.slot_str_getitem.lookup ?_ (by with_unfolding_all rfl)
  refine wpAny_getItem_str_slice (l := none) (u := none) (st := some (-1, z2)) ⟨_, Heap.get?_push_size _ rfl, rfl, rfl⟩ (by rfl) ?_
  rw [rev_pick]
  exact ⟨by rw [S_len, List.length_reverse, sizeLine_eq]; exact hl, .str _, _, J3.kept (t' := s4.toks + 1) fun b ob w => Heap.get?_push_of_some _ w, ⟨_, rfl⟩, q⟩
/-! ### all(test for x in text), where the test may read what the top has written -/
section
open GxR
variable {X : Cx} {pins : List (Addr × Obj)} {σ : L2.St} {H : Hp} {s : Shared}
def EltG (X : Cx) (scope : Scope) (x : Str) (elt : Expr) (pb : Nat → Bool) : Prop :=
  ∀ (cenv : Env) (A' : Around) (E' : Value → Shared → Prop) (c : Nat) (t : Tok) (z : Shared) (m : Str → Option Value), X.Ok → cenv.scope = scope → cenv.globals = X.env.globals → (∀ b o, X.base.get? b = some o → z.heap.get? b = some o) →
    z.heap.Ns cenv.locals m → m x = some (.str ⟨#[c]⟩ t) → wpAny (model X.prog X.w) A' (eval elt cenv) (fun y z' => y = .bool (pb c) ∧ Keeps z z') E' z
theorem tbl_not {H : Hp} {P : Addr} {ps : Array Value} (hP : H P = some (.tbl ps)) {b : Addr} (h : H b = none) : b ≠ P := fun z => by rw [z, hP] at h; cases h
theorem gen_go {c P : Addr} {elt : Expr} {x : Str} {scope : Scope} {pb : Nat → Bool} {k : Nat} {Q' : Value → Shared → Prop} {a : Str} {o : Obj} {St : Nat → Heap → Prop} {ps : Array Value}
    (hr : Room k X.A) (TB : TabB X.base X.mg c P) (sc : GenS X.env scope x) (hel : EltG X scope x elt pb) (J : L2.Inv X pins σ H s) (hP : H P = some (.tbl ps)) (atP : s.heap.get? P = some { cls := .none, data := .fields ps }) (ltP : P < s.heap.objs.size)
    (W : ∀ A' : Around, A'.handled = none → Walks X.prog X.w A' s.heap.objs.size [s.heap.objs.size] [s.heap.objs.size] a.cps.size (SignAt a) St) (st0 : St 0 (s.heap.push o)) (code : Value) (h3 : Heap) (tk : Nat) (ps' more : Array Value) (em : ps' = ps ++ more)
    (hx : Heap.ExtBut P (s.heap.push o) h3) (hsz : (s.heap.push o).objs.size ≤ h3.objs.size) (h3P : h3.get? P = some { cls := .none, data := .fields ps' }) (ok' : TriplesOk ps'.toList) (lim : (s.heap.push o).NoLimit) (hQ : ∀ g z, Ready X pins σ H P a pb g z → Q' (.ref g) z) :
    wpAny (model X.prog X.w) X.A (builtinsFor X.env.globals X.env.builtins) (fun bi s₄ =>
      ∃ Ia fp wr n₀ Pf St₀ pz F, Value.ref s.heap.objs.size = .ref Ia ∧ (∀ A' : Around, A'.handled = none → Walks X.prog X.w A' Ia fp wr n₀ Pf St₀) ∧ St₀ 0 s₄.heap ∧ (∀ b ∈ fp, b < s₄.heap.objs.size) ∧ s₄.heap.NoLimit ∧ cStatics ∉ wr ∧
        (∀ href : Heap, (∀ b u, s₄.heap.get? b = some u → href.get? b = some u) → QuietGen X.prog X.w (genEnv scope (cloFrom X.env.cells scope.names []) s₄.heap.objs.size code bi X.env) x [] elt (List.range s₄.heap.objs.size) wr Pf pz F href) ∧
        (∀ g h₅ tk gs, gs.bare = true → s₄.heap.objs.size < g → h₅.objs.size = g + 1 → (∀ b u, s₄.heap.get? b = some u → h₅.get? b = some u) →
          WalksS X.prog X.w X.A.in4 g (g :: s₄.heap.objs.size :: List.range s₄.heap.objs.size) (s₄.heap.objs.size :: wr) (GenOnlyQ s₄.gens.size) (passing pz n₀ 0).length (fun j y => ∃ i, (passing pz n₀ 0)[j]? = some i ∧ F i y) (GenAt X.prog X.w X.A.in4 g s₄.gens.size s₄.heap.objs.size (List.range s₄.heap.objs.size) wr pz n₀ F) →
          GenAt X.prog X.w X.A.in4 g s₄.gens.size s₄.heap.objs.size (List.range s₄.heap.objs.size) wr pz n₀ F 0 { s₄ with gens := s₄.gens.push gs, toks := tk, heap := h₅ } → Q' (.ref g) { s₄ with gens := s₄.gens.push gs, toks := tk, heap := h₅ })) X.xe { s with heap := h3, toks := tk } := by
  obtain ⟨bm, ob, q1, q2, q3, q4, q5, q6, q7, q8⟩ := TB.bm
  obtain ⟨cm, cns, cnn⟩ := J.nolimit
  have cP : cStatics ≠ P := fun z => by
    obtain ⟨o2, es, ep, g1, g2, _⟩ := cns
    rw [z, atP] at g1
    cases g1
    cases g2
  have cL : cStatics < s.heap.objs.size := cns.lt
  have big : (s.heap.push o).objs.size = s.heap.objs.size + 1 := Heap.size_push ..
  have kept : ∀ b u, b ≠ P → s.heap.get? b = some u → h3.get? b = some u := fun b u n e => hx b u n (Heap.get?_push_of_some _ e)
  have bases : ∀ b u, X.base.get? b = some u → h3.get? b = some u := fun b u e => kept b u (tbl_not hP (J.bs b u e).2) (J.bk b u e)
  refine wpAny_builtinsFor (m := X.mg) (by rw [J.ok.glob]; exact J.mod.glob.keeps bases) q1 q2 (bases _ _ q5) q6 q7 q8 ?_
  refine ⟨s.heap.objs.size, [s.heap.objs.size], [s.heap.objs.size], a.cps.size, SignAt a, St, fun _ => true, fun i y => ∃ cc, a.cps[i]? = some cc ∧ y = .bool (pb cc), rfl, W, ?_, ?_, lim.extBut hx cP, ?_, ?_, ?_⟩
  · refine (W X.A hr.hd).frame _ _ _ st0 fun b hb u e => hx b u ?_ e
    rw [List.mem_singleton.mp hb]
    exact Nat.ne_of_gt ltP
  · intro b hb
    rw [List.mem_singleton.mp hb]
    exact Nat.lt_of_lt_of_le (by rw [big]; exact Nat.lt_succ_self _) hsz
  · rw [List.mem_singleton]
    exact Nat.ne_of_lt cL
  · intro href hh
    refine ⟨fun A' E' i v s₂ m₂ _ _ _ _ _ => ?_, fun A' E' i v s₂ m₂ _ hv _ hn hm hk => ?_⟩
    · rw [List.forIn_nil]
      exact wpAny_pure ⟨rfl, keeps_refl s₂⟩
    · obtain ⟨cc, u, hcc, rfl⟩ := hv
      refine wpAny_mono (hel _ A' E' cc u s₂ m₂ J.ok rfl rfl (fun b w e => ?_) hn hm) (fun y z r => ⟨⟨cc, hcc, r.1⟩, r.2⟩) fun _ _ e => e
      have lb := Heap.lt_size (J.bk b w e)
      exact hk b (List.mem_range.mpr (Nat.lt_of_lt_of_le (Nat.lt_of_lt_of_le lb (by rw [big]; exact Nat.le_succ _)) hsz)) (by rw [List.mem_singleton]; exact Nat.ne_of_lt lb) w (hh b w (bases b w e))
  · intro g h5 tk5 gs bare _ _ _ W5 at5
    have W6 := W5
    simp only [GxR.passing_true, List.length_range] at W6
    refine hQ g _ ⟨_, _, _, _, _, W6.in4_1, at5, fun j y sj Qj Ej hy hq => ?_, fun z mv => ?_⟩
    · obtain ⟨i, hi, cc, hcc, rfl⟩ := hy
      obtain ⟨_, ei⟩ := List.getElem?_eq_some_iff.mp hi
      rw [List.getElem_range] at ei
      subst ei
      have hq' : Qj (trF pb a.cps.toList j) sj := hq
      rw [trF_some (show a.cps.toList[j]? = some cc by rw [Array.getElem?_toList]; exact hcc)] at hq'
      exact wpAny_truthy_bool hq'
    · have off : ∀ b u, s.heap.get? b = some u → b ∉ h3.objs.size :: [s.heap.objs.size] := fun b u e hb => by
        have l1 := Heap.lt_size e
        have l2 : s.heap.objs.size < h3.objs.size := Nat.lt_of_lt_of_le (by rw [big]; exact Nat.lt_succ_self _) hsz
        rcases List.mem_cons.mp hb with r | r
        · rw [r] at l1; exact absurd (Nat.lt_trans l1 l2) (Nat.lt_irrefl _)
        · rw [List.mem_singleton.mp r] at l1; exact absurd l1 (Nat.lt_irrefl _)
      have five : ∀ b u, h3.get? b = some u → h5.get? b = some u := by assumption
      have L := inv_tab (more := more) (h' := z.heap) (g' := z.gens) (d' := z.drawn) (t' := z.toks) J hP (fun b u n e => mv.heap b u (off b u e) (five b u (kept b u n e))) (by rw [← em]; exact mv.heap P _ (off P _ atP) (five P _ h3P)) (PyProof.Rows.AllBare.movedS (J.bare.push bare) mv)
      rw [sh_eta s z mv.os] at L
      exact ⟨upd H P (.tbl (ps ++ more)), ⟨⟨ps ++ more, upd_same, by rw [← em]; exact ok'⟩, fun b n => upd_ne n⟩, L⟩
theorem gen_signs {c P : Addr} {elt iter : Expr} {x : Str} {px gpos : Pos} {scope : Scope} {pb : Nat → Bool} {te : TE} {k : Nat} {Q' : Value → Shared → Prop} {R : Str → Hp → Prop}
    (hr : Room k X.A) (TB : TabB X.base X.mg c P) (hcode : X.env.code = .ref c) (sc : GenS X.env scope x) (hi : PE X iter te) (hel : EltG X scope x elt pb) (hs : ∀ v, genFold iter X.env v = pure v)
    (I : L2.Inv X pins σ H s) (h : te σ H fun v G => ∃ a : Str, v = .str a ∧ TabG G P ∧ R a G) (hQ : ∀ a G g z, R a G → Ready X pins σ G P a pb g z → Q' (.ref g) z) :
    wpAny (model X.prog X.w) X.A (eval (.GeneratorExp elt [⟨.Name x px, iter, [], 0⟩] scope gpos) X.env) Q' X.xe s := by
  have room : X.A.depth < recursionLimit := by have := hr.dp; omega
  refine wpAny_GeneratorExp_walksQ hr.hd sc.co (closure_ok sc.free) sc.cell sc.dot sc.loc sc.kind room (thn (hi.run pins s σ H _ I h) fun u s1 ⟨v, G, J, rv, a, ev, ⟨ps, hP, ok⟩, hR⟩ => ?_) hs
  subst ev
  obtain ⟨t, rfl⟩ := id rv
  refine wpAny_pyIter_str fun o St W st0 => ?_
  -- the table, the sizes, what is kept
  have atP : s1.heap.get? P = some { cls := .none, data := .fields ps } := J.hok P _ hP
  have ltP : P < s1.heap.objs.size := Heap.lt_size atP
  have atP' : (s1.heap.push o).get? P = some { cls := .none, data := .fields ps } := Heap.get?_push_of_some _ atP
  have cd : PySem.W.CodeHd (s1.heap.push o) c P := TB.code.keeps fun b w e => Heap.get?_push_of_some _ (J.bk b w e)
  have lim : (s1.heap.push o).NoLimit := J.nolimit.push o
  have next : ∀ (code : Value) (h3 : Heap) (tk : Nat) (ps' more : Array Value), ps' = ps ++ more → Heap.ExtBut P (s1.heap.push o) h3 → (s1.heap.push o).objs.size ≤ h3.objs.size → h3.get? P = some { cls := .none, data := .fields ps' } → TriplesOk ps'.toList → _ :=
    fun code h3 tk ps' more em hx hsz h3P ok' => gen_go (elt := elt) hr TB sc hel J hP atP ltP W st0 code h3 tk ps' more em hx hsz h3P ok' lim fun g z rd => hQ a G g z hR rd
  refine ⟨lim, ?_⟩
  cases hf : codeAmong gpos ps.toList with
  | some cv => exact wpAny_genexprCode_hit hcode (cd.code atP' ok) hf (next cv (s1.heap.push o) s1.toks ps #[] (by simp) (Heap.ExtBut.refl _ _) (Nat.le_refl _) atP' ok)
  | none =>
    refine wpAny_genexprCodeX hcode (cd.code atP' ok) (cd.tab atP') hf fun c' h' tk hx hge hlt hco' _ htab' _ => ?_
    obtain ⟨o1, vs, f1, tf, fl, tg, inF, tx, tt, op, _, _, _, _, _, _, _, _, _, htr, _⟩ := hco'
    exact next _ h' tk _ _ rfl hx (Nat.le_trans hge (Nat.le_of_lt hlt)) htab'.2 htr
theorem pe_allG {c P : Addr} {elt iter : Expr} {x : Str} {px p pos gpos : Pos} {scope : Scope} {pb : Nat → Bool} {te : TE} {k : Nat} (hr : Room k X.A) (hg : Gl X "all") (hm : X.mg "all" = none) (TB : TabB X.base X.mg c P) (hcode : X.env.code = .ref c)
    (sc : GenS X.env scope x) (hi : PE X iter te) (hel : EltG X scope x elt pb) (hs : ∀ v, genFold iter X.env v = pure v)
    (he : starEach [.GeneratorExp elt [⟨.Name x px, iter, [], 0⟩] scope gpos] X.env = (false, eval (.GeneratorExp elt [⟨.Name x px, iter, [], 0⟩] scope gpos) X.env) :: starEach [] X.env := by rfl) :
    PE X (.Call (.Name "all" p) [.GeneratorExp elt [⟨.Name x px, iter, [], 0⟩] scope gpos] [] pos) (tAllS P pb te) := by
  constructor
  intro pins s σ H Q I hyp
  have hb : bootBuiltins "all" = some (.builtin "all") := by decide +kernel
  refine wpAny_Call_Name_kw (ld_blt I hg hm hb (PyProof.Rows.callWith_builtin1 ?_ he (by rfl)))
  rw [he]
  show wpAny _ _ (spliced ((false, eval (.GeneratorExp elt [⟨.Name x px, iter, [], 0⟩] scope gpos) X.env) :: backTo pos (starEach [] X.env))) _ _ s
  refine Calls.spliced_cons (gen_signs (R := fun a G => ∀ G', Tabbed P G G' → Q (.bl (a.cps.toList.all pb)) G') hr TB hcode sc hi hel hs I hyp fun a G g z hR rd => Calls.spliced_nil ?_)
  obtain ⟨fp, wr, Gs, F, St, W, st, tr, done⟩ := rd
  refine call_all_walkS (W.self 0 _ _ _ st ⟨g, fp, wr, Gs, _, F, St, _, rfl, W, st, tr, fun z' mv => ?_⟩)
  obtain ⟨G', tb, L⟩ := done z' mv
  refine ⟨.bl _, G', L, rfl, ?_⟩
  rw [all_signs a pb]
  exact hR G' tb
/-- x in D, D a dict that the top has written -/
theorem elt_in {scope : Scope} {x y : Str} {pb : Nat → Bool} {d : Addr} {es : Array DictEntry} {n : Nat} {p1 p2 p3 : Pos} (D : KDict X.K X.w d es n) (gy : X.mg y = some (.ref d)) (hp : ∀ c, ∃ r, PySem.W.nsIn X.K d (S [c]) = some r ∧ r.isSome = pb c)
    (hk : scope.kind = .function) (hl : scope.names.lookup x = some .local) (hy : scope.names.lookup y = some .globalImplicit) (hd : (x == ("__debug__" : Str)) = false := by decide) (hd2 : (y == ("__debug__" : Str)) = false := by decide) :
    EltG X scope x (.Compare (.Name x p1) [.In] [.Name y p2] p3) pb := by
  intro cenv A' E' c t z m ok hs hg hb hn hm
  have kind : cenv.scope.kind = .function := by rw [hs]; exact hk
  refine wpAny_Compare1 (wpAny_Name (wpAny_loadName_local kind (show cenv.scope.names.lookup x = some .local by rw [hs]; exact hl) hn hm ?_) hd)
  refine Calls.Name_function_global kind (show cenv.scope.names.lookup y = some .globalImplicit by rw [hs]; exact hy) (Calls.loadGlobal_global (by rw [hg, ok.glob]; exact ok.mod.glob.keeps hb) gy ?_) hd2
  obtain ⟨r, e1, e2⟩ := hp c
  refine wpAny_in_of (PySem.strKind_is X.prog X.w (S [c]) t) D.low (PySem.W.mapOf_K (prog := X.prog) (ok.mod.kin.keeps hb) D.at_ D.lit) ?_
  rw [PySem.W.find_K D.at_ e1, e2]
  exact ⟨rfl, keeps_tok _ _⟩
end
/-! ### ''.join of texts, comprehensions over a text -/
theorem join_empty (ys : List (List Nat)) : Txt.join (S []) (ys.map S) = S ys.flatten := by
  have go : ∀ (zs : List (List Nat)) (a : Array Nat), ((zs.map S).foldl (fun acc p => acc ++ (S []).cps ++ p.cps) a).toList = a.toList ++ zs.flatten := by
    intro zs
    induction zs with
    | nil => intro a; simp
    | cons z r ih =>
      intro a
      rw [List.map_cons, List.foldl_cons, ih]
      simp [S]
  show Builtin.Str.glued (S []) (ys.map S) = _
  unfold Builtin.Str.glued
  cases ys with
  | nil => rfl
  | cons y r =>
    have := go r (S y).cps
    show (⟨(r.map S).foldl (fun acc p => acc ++ (S []).cps ++ p.cps) (S y).cps⟩ : Str) = _
    unfold S at this ⊢
    congr 1
    apply Array.toList_inj.mp
    rw [this]
    simp
theorem join_signs (l : List Nat) : Txt.join (S []) (l.map fun c => S [c]) = S l := by
  have := join_empty (l.map fun c => [c])
  rw [List.map_map] at this
  rw [show (l.map fun c => S [c]) = l.map (S ∘ fun c => [c]) from rfl, this]
  congr 1
  induction l with
  | nil => rfl
  | cons c r ih => rw [List.map_cons, List.flatten_cons, ih (join_empty _ |>.trans rfl |> fun h => by rw [List.map_map] at h; exact h)]; rfl
theorem sum_ones (l : List Nat) : ((l.map fun c => S [c]).map (·.length)).sum = l.length := by
  induction l with
  | nil => rfl
  | cons c r ih =>
    rw [List.map_cons, List.map_cons, List.sum_cons, ih, S_len, List.length_cons]
    show 1 + r.length = r.length + 1
    omega
theorem lc_str {l : List Nat} {g : TG} {tt : TT} {te : TE} {vs : List Nat} {σ : L2.St} {H1 : Hp} {D : Addr} {Qd : Hp → Prop} (Pv : Nat → Hp → Prop) (h0 : Pv 0 (upd H1 D (.lst [])))
    (hs : ∀ i c H, l[i]? = some c → Pv i H → g (.str (S [c])) (wipe σ vs) H fun σ2 H2 => wipe σ2 vs = wipe σ vs ∧ tt σ2 H2 fun b H3 =>
      if b = true then te σ2 H3 fun y H4 => ∃ acc, H4 D = some (.lst acc) ∧ acc.length < sizeLine ∧ Pv (i + 1) (upd H4 D (.lst (acc ++ [y]))) else Pv (i + 1) H3) (hd : ∀ H, Pv l.length H → Qd H) :
    ∃ W : Nat → Nat → Hp → Prop, (∃ m, W 0 m (upd H1 D (.lst []))) ∧ ∀ i m H, W i m H →
      ((Its (S l)).stop i H ∧ Qd H) ∨ ((Its (S l)).go i H ∧ ∃ Nx : Hp → Prop, (∀ H', Nx H' → ∃ m', m' < m ∧ W (i + 1) m' H') ∧ ∀ x H', (Its (S l)).yld i H x H' → g x (wipe σ vs) H' fun σ2 H2 => wipe σ2 vs = wipe σ vs ∧ tt σ2 H2 fun b H3 =>
        if b = true then te σ2 H3 fun y H4 => ∃ acc, H4 D = some (.lst acc) ∧ acc.length < sizeLine ∧ Nx (upd H4 D (.lst (acc ++ [y]))) else Nx H3) := by
  refine ⟨fun i m H => m = l.length - i ∧ i ≤ l.length ∧ Pv i H, ⟨l.length, by simp, Nat.zero_le _, h0⟩, ?_⟩
  rintro i m H ⟨rfl, hi, p⟩
  by_cases hlt : i < l.length
  · refine .inr ⟨by show i < (S l).cps.size; rw [S_size]; exact hlt, Pv (i + 1), fun H' p' => ⟨l.length - (i + 1), by omega, rfl, hlt, p'⟩, fun x H' y => ?_⟩
    obtain ⟨e, c, hc, rfl⟩ := y
    subst e
    rw [S_get] at hc
    exact hs i c _ hc p
  · have e : i = l.length := by omega
    subst e
    exact .inl ⟨by show (S l).cps.size ≤ l.length; rw [S_size]; exact Nat.le_refl _, hd H p⟩
/-- a def whose code object is told -/
theorem okC {P : Program} {w : World} {K : PySem.W.Frag} {mg : Str → Option Value} {base : Heap} {x qual : Str} {st : Stmt} {f c : Addr} {fd : FuncData} {N ps : List Str} {k : Nat} {sp : Sp} (F : Fun K x qual st f fd) (hc : fd.code = .ref c) (S : FnScope N ps (defScope st)) (len : ∀ vs H Q E, sp vs H Q E → vs.length = ps.length)
    (body : ∀ (A : Around) (outer : List Env) (s : Shared) (H : Hp) (vs : List V) (Q : VK) (E : XK), Room k (A.deeper (PyProof.Rows.envOfC qual (defScope st) s.heap.objs.size f (.ref c))) → sp vs H Q E →
      ∃ t, PSs (cxOf CX0 P w K mg base N qual (defScope st) f (.ref c) A outer s H E).nox (defBody st) t ∧ t { nx := fun _ H' => Q .non H', rt := Q } (start N vs) H) : FnOk P w K mg base CX0 (k + 1) f fd ps sp := by
  obtain ⟨_, _, _, _, _, _, cdv, _, _, rfl, lk, hcd⟩ := F.ex
  have e : cdv = .ref c := hc
  subst e
  refine fn_of lk hcd S len fun A outer s H vs Q E hr h => ?_
  obtain ⟨t, a, b⟩ := body A outer s H vs Q E hr h
  exact ⟨t, a.nox, b⟩
def top (i : Nat) : Stmt := PySem.Challenge.pw_ropedance_k06_rows_of_moves.main.body.getD i (.Pass ⟨0, 0, 0, 0⟩)
abbrev s_is_move : Stmt := top 6
theorem sc_is_move : FnScope ["move", "place", "old", "new", "word"] ["move"] (defScope s_is_move) := ⟨rfl, rfl, rfl, by decide +kernel, rfl, by decide +kernel, by decide +kernel⟩
abbrev s_made : Stmt := top 7
theorem sc_made : FnScope ["dance", "move", "place", "old", "new", "behind"] ["dance", "move"] (defScope s_made) := ⟨rfl, rfl, rfl, by decide +kernel, rfl, by decide +kernel, by decide +kernel⟩
abbrev s_leads : Stmt := top 8
theorem sc_leads : FnScope ["one", "moves", "other", "dance", "move"] ["one", "moves", "other"] (defScope s_leads) := ⟨rfl, rfl, rfl, by decide +kernel, rfl, by decide +kernel, by decide +kernel⟩
abbrev s_law_tape : Stmt := top 10
theorem sc_law_tape : FnScope ["script", "k", "cell"] ["script", "k"] (defScope s_law_tape) := ⟨rfl, rfl, rfl, by decide +kernel, rfl, by decide +kernel, by decide +kernel⟩
abbrev s_law_take : Stmt := top 11
theorem sc_law_take : FnScope ["tape", "many", "got", "mixed"] ["tape", "many"] (defScope s_law_take) := ⟨rfl, rfl, rfl, by decide +kernel, rfl, by decide +kernel, by decide +kernel⟩
abbrev s_law_dance : Stmt := top 12
theorem sc_law_dance : FnScope ["tape", "most", "dance", "size", "k"] ["tape", "most"] (defScope s_law_dance) := ⟨rfl, rfl, rfl, by decide +kernel, rfl, by decide +kernel, by decide +kernel⟩
abbrev s_law_same : Stmt := top 13
theorem sc_law_same : FnScope ["told", "due", "k"] ["told", "due"] (defScope s_law_same) := ⟨rfl, rfl, rfl, by decide +kernel, rfl, by decide +kernel, by decide +kernel⟩
abbrev s_law_says : Stmt := top 14
theorem sc_law_says : FnScope ["told", "due"] ["told", "due"] (defScope s_law_says) := ⟨rfl, rfl, rfl, by decide +kernel, rfl, by decide +kernel, by decide +kernel⟩
abbrev s_law_is_move : Stmt := top 15
theorem sc_law_is_move : FnScope ["move", "place", "old", "new"] ["move"] (defScope s_law_is_move) := ⟨rfl, rfl, rfl, by decide +kernel, rfl, by decide +kernel, by decide +kernel⟩
abbrev s_law_made : Stmt := top 16
theorem sc_law_made : FnScope ["dance", "move", "place", "old", "new"] ["dance", "move"] (defScope s_law_made) := ⟨rfl, rfl, rfl, by decide +kernel, rfl, by decide +kernel, by decide +kernel⟩
abbrev s_law_put : Stmt := top 17
theorem sc_law_put : FnScope ["tape", "dance", "word", "spot"] ["tape", "dance"] (defScope s_law_put) := ⟨rfl, rfl, rfl, by decide +kernel, rfl, by decide +kernel, by decide +kernel⟩
abbrev s_law_taken : Stmt := top 18
theorem sc_law_taken : FnScope ["tape", "dance", "found", "spot", "word"] ["tape", "dance"] (defScope s_law_taken) := ⟨rfl, rfl, rfl, by decide +kernel, rfl, by decide +kernel, by decide +kernel⟩
abbrev s_law_moves : Stmt := top 19
theorem sc_law_moves : FnScope ["tape", "dance", "most", "moves", "k", "move"] ["tape", "dance", "most"] (defScope s_law_moves) := ⟨rfl, rfl, rfl, by decide +kernel, rfl, by decide +kernel, by decide +kernel⟩
abbrev s_law_near_word : Stmt := top 20
theorem sc_law_near_word : FnScope ["tape", "word", "spot", "letter", "choice", "k"] ["tape"] (defScope s_law_near_word) := ⟨rfl, rfl, rfl, by decide +kernel, rfl, by decide +kernel, by decide +kernel⟩
abbrev s_law_odd_move : Stmt := top 21
theorem sc_law_odd_move : FnScope ["tape", "move", "words", "choice", "place", "old", "new", "word", "spot"] ["tape", "move"] (defScope s_law_odd_move) := ⟨rfl, rfl, rfl, by decide +kernel, rfl, by decide +kernel, by decide +kernel⟩
abbrev s_law_leads : Stmt := top 22
theorem sc_law_leads : FnScope ["one", "moves", "other", "dance", "move"] ["one", "moves", "other"] (defScope s_law_leads) := ⟨rfl, rfl, rfl, by decide +kernel, rfl, by decide +kernel, by decide +kernel⟩
abbrev s_law_changed : Stmt := top 23
theorem sc_law_changed : FnScope ["tape", "moves", "choice", "spot"] ["tape", "moves"] (defScope s_law_changed) := ⟨rfl, rfl, rfl, by decide +kernel, rfl, by decide +kernel, by decide +kernel⟩
abbrev s_law_holds : Stmt := top 24
theorem sc_law_holds : FnScope ["one", "moves", "other", "passed"] ["one", "moves", "other"] (defScope s_law_holds) := ⟨rfl, rfl, rfl, by decide +kernel, rfl, by decide +kernel, by decide +kernel⟩
abbrev s_law_plain : Stmt := top 25
theorem sc_law_plain : FnScope ["one", "move", "place", "old", "new", "letter"] ["one", "move"] (defScope s_law_plain) := ⟨rfl, rfl, rfl, by decide +kernel, rfl, by decide +kernel, by decide +kernel⟩
abbrev s_law_single : Stmt := top 26
theorem sc_law_single : FnScope ["one", "move", "other"] ["one", "move"] (defScope s_law_single) := ⟨rfl, rfl, rfl, by decide +kernel, rfl, by decide +kernel, by decide +kernel⟩
abbrev s_law : Stmt := top 27
theorem sc_law : FnScope ["script", "k", "tape", "one", "moves", "other", "j", "odd"] ["script"] (defScope s_law) := ⟨rfl, rfl, rfl, by decide +kernel, rfl, by decide +kernel, by decide +kernel⟩
/-! ### heaps, tapes, pairs -/
/-- all that was tracked is as it was, but what stands at a -/
def But (a : Addr) (H H' : Hp) : Prop := ∀ b o, b ≠ a → H b = some o → H' b = some o
theorem But.refl (a : Addr) (H : Hp) : But a H H := fun _ _ _ h => h
theorem But.trans {a : Addr} {H H1 H2 : Hp} (x : But a H H1) (y : But a H1 H2) : But a H H2 := fun b o n h => y b o n (x b o n h)
theorem But.of {a : Addr} {H H' : Hp} (x : Same H H') : But a H H' := fun b o _ h => x b o h
theorem But.upd {a : Addr} {H : Hp} {o : HO} : But a H (upd H a o) := fun b u n h => by rw [upd_ne n]; exact h
theorem But.same {a : Addr} {H0 H H' : Hp} (x : But a H H') (s : Same H0 H) (n : H0 a = none) : Same H0 H' := fun b o h => x b o (ne_of_none h n) (s b o h)
theorem same_new {H : Hp} {p : Addr} (h : H p = none) (o : HO) : Same H (L2.upd H p o) := fun b u q => by rw [upd_ne (ne_of_none q h)]; exact q
theorem Same.tup {K : PySem.W.Frag} {H H' : Hp} {a : Addr} {xs : List V} (e : Same H H') (h : SqT K H a xs) : SqT K H' a xs := by
  rcases h with (h | ⟨o, h⟩) | h
  · exact .inl (.inl (e _ _ h))
  · exact .inl (.inr ⟨o, e _ _ h⟩)
  · exact .inr h
def Tape (H : Hp) (a : Addr) : Prop := ∃ (t c s : Int) (b : Bool), H a = some (.lst [.int t, .bl b, .int c, .int s])
theorem Tape.same {H H' : Hp} {a : Addr} (t : Tape H a) (s : Same H H') : Tape H' a := by
  obtain ⟨x, c, y, b, h⟩ := t
  exact ⟨x, c, y, b, s _ _ h⟩
theorem Tape.ne {H : Hp} {a p : Addr} (t : Tape H a) (h : H p = none) : p ≠ a := by
  obtain ⟨x, c, y, b, e⟩ := t
  exact fun z => by rw [z, e] at h; cases h
theorem But.tup {K : PySem.W.Frag} {a : Addr} {H H' : Hp} {p : Addr} {xs : List V} (x : But a H H') (t : Tape H a) (h : SqT K H p xs) : SqT K H' p xs := by
  obtain ⟨y, c, z, b, e⟩ := t
  rcases h with (h | ⟨o, h⟩) | h
  · exact .inl (.inl (x _ _ (ne_of h e (by intro q; cases q)) h))
  · exact .inl (.inr ⟨o, x _ _ (ne_of h e (by intro q; cases q)) h⟩)
  · exact .inr h
/-- a dance: the letters T, U, R -/
def Lets (l : List Nat) : Prop := ∀ c ∈ l, c = 84 ∨ c = 85 ∨ c = 82
theorem atI_mk {α : Type} {xs : List α} {k : Int} (h0 : 0 ≤ k) (h1 : k < (xs.length : Int)) : ∃ v, atI xs k = some v ∧ v ∈ xs := by
  obtain ⟨n, rfl⟩ := Int.eq_ofNat_of_zero_le h0
  have h : n < xs.length := by omega
  exact ⟨xs[n], atI_nat (List.getElem?_eq_getElem h), List.getElem_mem h⟩
theorem atI_ints {ns : List Int} {k : Int} (h0 : 0 ≤ k) (h1 : k < (ns.length : Int)) : ∃ v : Int, atI (ns.map V.int) k = some (.int v) := by
  obtain ⟨v, e, m⟩ := atI_mk (xs := ns.map V.int) h0 (by rw [List.length_map]; exact h1)
  obtain ⟨i, _, rfl⟩ := List.mem_map.mp m
  exact ⟨i, e⟩
/-! ### a def of the text with its promise, ready to be called -/
structure Dfn (P : Program) (w : World) (K : PySem.W.Frag) (mg : Str → Option Value) (base : Heap) (x : Str) (k : Nat) (ps : List Str) (sp : Sp) : Prop where
  ex : ∃ (f : Addr) (fd : FuncData), FnOk P w K mg base CX0 k f fd ps sp ∧ mg x = some (.ref f) ∧ PySem.W.keepIn K (.ref f) = true ∧ Binds K fd ps []
theorem pe_do {X : Cx} {x : Str} {j : Nat} {ps : List Str} {sp : Sp} {e : Expr} {es : List Expr} {t : TA} {p pos : Pos} (D : Dfn X.prog X.w X.K X.mg X.base x j ps sp) (hr : Room j X.A)
    (ha : PA X (e :: es) t) (hg : Gl X x := by rfl) (hdb : (x == ("__debug__" : Str)) = false := by decide) (he : starEach (e :: es) X.env = (false, eval e X.env) :: starEach es X.env := by rfl) (hpl : (backTo pos (starEach es X.env)).any (·.1) = false := by rfl) :
    PE X (.Call (.Name x p) (e :: es) [] pos) (tCall sp [] E0 t) := by
  obtain ⟨f, fd, ok, mg, kp, bd⟩ := D.ex
  exact pe_call ok hr hg mg kp bd .nil pass0 ha hdb he hpl
theorem Dfn.mono {P : Program} {w : World} {K : PySem.W.Frag} {mg : Str → Option Value} {base : Heap} {x : Str} {j k : Nat} {ps : List Str} {sp : Sp} (D : Dfn P w K mg base x j ps sp) (h : j ≤ k) : Dfn P w K mg base x k ps sp := by
  obtain ⟨f, fd, ok, mg, kp, bd⟩ := D.ex
  exact ⟨f, fd, ok.mono h, mg, kp, bd⟩
section
variable {P : Program} {w : World} {K : PySem.W.Frag} {mg : Str → Option Value} {base : Heap} {f : Addr} {fd : FuncData}
/-! ### the tape of a law -/
def spTape (K : PySem.W.Frag) : Sp := fun vs H Q _ => ∃ (a : Addr) (ns : List Int) (k : Int), vs = [.ref a, .int k] ∧ SqL K H a (ns.map V.int) ∧ 0 ≤ k ∧ ∀ p H', Same H H' → H p = none → Tape H' p → Q (.ref p) H'
theorem ok_tape (F : Fun K "_law_tape" "_law_tape" s_law_tape f fd) (ml : mg "len" = none) (ma : mg "abs" = none) (mi : mg "int" = none) : FnOk P w K mg base CX0 1 f fd ["script", "k"] (spTape K) := by
  refine F.ok sc_law_tape (fun vs H Q E h => ?_) (fun cdv A outer s H vs Q E hr h => ?_)
  · obtain ⟨a, ns, k, rfl, _⟩ := h
    rfl
  obtain ⟨a, ns, k, rfl, hS, hk, q⟩ := h
  refine ⟨_, pss_cons (ps_set (i := 2) sc_law_tape.nd rfl (.inl rfl) pe_int)
    (pss_cons (ps_if (pt_cmpR op_lt (pv 1) (pe_callB call_len_seq rfl ml PySem.boot_len (pa_cons (pv 0) pa_nil)) (nomark _))
        (pss_one (ps_set (i := 2) sc_law_tape.nd rfl (.inl rfl) (pe_callB call_abs rfl ma (by decide +kernel) (pa_cons (pe_ix ix_list (pv 0) (pv 1) (fun _ _ => rfl)) pa_nil)))) pss_nil)
    (pss_one (ps_ret (pe_lst (pa_cons (pv 2) (pa_cons (pe_cmpR op_ge (pv 2) (pe_op op_pow pe_int pe_int) (nomark _)) (pa_cons pe_int
      (pa_cons (pe_op op_modN (pe_callTy call_int1 rfl mi (by decide +kernel) (pa_cons (pe_op op_add (pe_op op_mul (pv 2) pe_int) (pv 1)) pa_nil)) pe_int) pa_nil)))))))), ?_⟩
  refine ⟨_, rfl, _, rfl, a, _, rfl, .inl hS, _, _, rfl, rfl, _, rfl, ?_⟩
  refine ite2 (fun c => ?_) (fun c => ?_)
  · have c' : k < (((ns.map V.int).length : Nat) : Int) := of_decide_eq_true c
    rw [List.length_map] at c'
    obtain ⟨v, hv⟩ := atI_ints hk c'
    refine ⟨_, rfl, _, rfl, a, _, _, _, rfl, rfl, hS, hv, _, rfl, ?_⟩
    refine ⟨_, rfl, _, rfl, _, _, rfl, rfl, ⟨by decide, by decide, by decide⟩, _, _, rfl, rfl, _, rfl, _, _, rfl, rfl, .inr ⟨by decide, by decide⟩, _, rfl, _, _, rfl, rfl, .inl ⟨_, rfl, _, _, rfl, rfl, (show (2147483647 : Int) ≠ 0 by decide), ?_⟩⟩
    exact ⟨(by show 4 ≤ sizeLine; decide), fun p hp => q p _ (same_new hp _) hp ⟨_, _, _, _, upd_same⟩⟩
  · refine ⟨_, rfl, _, rfl, _, _, rfl, rfl, ⟨by decide, by decide, by decide⟩, _, _, rfl, rfl, _, rfl, _, _, rfl, rfl, .inr ⟨by decide, by decide⟩, _, rfl, _, _, rfl, rfl, .inl ⟨_, rfl, _, _, rfl, rfl, (show (2147483647 : Int) ≠ 0 by decide), ?_⟩⟩
    exact ⟨(by show 4 ≤ sizeLine; decide), fun p hp => q p _ (same_new hp _) hp ⟨_, _, _, _, upd_same⟩⟩
def spTake : Sp := fun vs H Q _ => ∃ (a : Addr) (m : Int), vs = [.ref a, .int m] ∧ Tape H a ∧ 0 < m ∧ m < 1073741824 ∧ ∀ r H', 0 ≤ r → r < m → But a H H' → Tape H' a → Q (.int r) H'
theorem ok_take (F : Fun K "_law_take" "_law_take" s_law_take f fd) (mi : mg "int" = none) : FnOk P w K mg base CX0 1 f fd ["tape", "many"] spTake := by
  refine F.ok sc_law_take (fun vs H Q E h => ?_) (fun cdv A outer s H vs Q E hr h => ?_)
  · obtain ⟨a, m, rfl, _⟩ := h
    rfl
  obtain ⟨a, m, rfl, ⟨t, c, sd, b, hT⟩, h0, h1, q⟩ := h
  refine ⟨_, pss_cons (ps_if (PW.pt (pw_and (pt_val (pe_ix ix_list (pv 0) pe_int (fun _ _ => rfl))) (pw_and1 (pt_cmpR op_gt (pe_ix ix_list (pv 0) pe_int (fun _ _ => rfl)) pe_int (nomark _)))))
      (pss_cons (ps_set (i := 2) sc_law_take.nd rfl (.inl rfl) (pe_op op_modN (pe_callTy call_int1 rfl mi (by decide +kernel) (pa_cons (pe_ix ix_list (pv 0) pe_int (fun _ _ => rfl)) pa_nil)) (pv 1)))
      (pss_cons (ps_asg (pe_op op_fdivN (pe_ix ix_list (pv 0) pe_int (fun _ _ => rfl)) (pv 1)) (pg_sub (pv 0) pe_int set_list))
      (pss_one (ps_ret (pv 2))))) pss_nil)
    (pss_cons (ps_asg (pe_op op_add (pe_ix ix_list (pv 0) pe_int (fun _ _ => rfl)) pe_int) (pg_sub (pv 0) pe_int set_list))
    (pss_cons (ps_set (i := 3) sc_law_take.nd rfl (.inl rfl) (pe_op op_modN (pe_callTy call_int1 rfl mi (by decide +kernel) (pa_cons (pe_op op_add (pe_op op_add (pe_op op_mul (pe_ix ix_list (pv 0) pe_int (fun _ _ => rfl)) pe_int) (pe_op op_mul (pe_ix ix_list (pv 0) pe_int (fun _ _ => rfl)) pe_int)) pe_int) pa_nil)) pe_int))
    (pss_cons (ps_set (i := 3) sc_law_take.nd rfl (.inl rfl) (pe_op op_modN (pe_callTy call_int1 rfl mi (by decide +kernel) (pa_cons (pe_op op_add (pe_op op_add (pe_op op_mul (pv 3) pe_int) (pe_op op_mul (pe_op op_fdivN (pv 3) pe_int) pe_int)) (pe_ix ix_list (pv 0) pe_int (fun _ _ => rfl))) pa_nil)) pe_int))
    (pss_one (ps_ret (pe_op op_modN (pe_callTy call_int1 rfl mi (by decide +kernel) (pa_cons (pe_op op_fdivN (pv 3) pe_int) pa_nil)) (pv 1))))))), ?_⟩
  have rest : ∀ x : Int, 0 ≤ x.fmod m ∧ x.fmod m < m := fun x => by
    rw [Int.fmod_eq_emod_of_nonneg x (Int.le_of_lt h0)]
    exact ⟨Int.emod_nonneg x (by omega), Int.emod_lt_of_pos x h0⟩
  refine ⟨_, rfl, a, _, _, _, rfl, rfl, SqL.of hT, rfl, b, rfl, ?_⟩
  refine ite2 (fun hb => ?_) (fun hb => ?_)
  · refine ⟨_, rfl, a, _, _, _, rfl, rfl, SqL.of hT, rfl, _, _, rfl, rfl, _, rfl, ?_⟩
    refine ite2 (fun hc => ?_) (fun hc => ?_)
    · refine ⟨_, rfl, a, _, _, _, rfl, rfl, SqL.of hT, rfl, .inl ⟨_, rfl, _, rfl, _, _, rfl, rfl, (show m ≠ 0 by omega), ?_⟩⟩
      refine ⟨_, rfl, a, _, _, _, rfl, rfl, SqL.of hT, rfl, _, rfl, _, _, rfl, rfl, (show m ≠ 0 ∧ m.natAbs < 1073741824 by omega), _, rfl, a, _, _, _, rfl, rfl, hT, rfl, ?_⟩
      exact ⟨_, rfl, q _ _ (rest _).1 (rest _).2 But.upd ⟨_, _, _, _, upd_same⟩⟩
    · refine ⟨_, rfl, a, _, _, _, rfl, rfl, SqL.of hT, rfl, _, _, rfl, rfl, _, rfl, a, _, _, _, rfl, rfl, hT, rfl, ?_⟩
      refine ⟨_, rfl, a, _, _, _, rfl, rfl, SqL.of upd_same, rfl, _, _, rfl, rfl, .inr ⟨by decide, by decide⟩, _, rfl, a, _, _, _, rfl, rfl, SqL.of upd_same, rfl, _, _, rfl, rfl, .inr ⟨by decide, by decide⟩, _, _, rfl, rfl, _, _, rfl, rfl, .inl ⟨_, rfl, _, _, rfl, rfl, (show (2147483647 : Int) ≠ 0 by decide), ?_⟩⟩
      refine ⟨_, rfl, _, _, rfl, rfl, .inr ⟨by decide, by decide⟩, _, rfl, _, _, rfl, rfl, ⟨by decide, by decide⟩, _, _, rfl, rfl, .inr ⟨by decide, by decide⟩, _, _, rfl, rfl, _, rfl, a, _, _, _, rfl, rfl, SqL.of upd_same, rfl, _, _, rfl, rfl, .inl ⟨_, rfl, _, _, rfl, rfl, (show (2147483399 : Int) ≠ 0 by decide), ?_⟩⟩
      exact ⟨_, rfl, _, _, rfl, rfl, ⟨by decide, by decide⟩, .inl ⟨_, rfl, _, rfl, _, _, rfl, rfl, (show m ≠ 0 by omega), q _ _ (rest _).1 (rest _).2 But.upd ⟨_, _, _, _, upd_same⟩⟩⟩
  · refine ⟨_, rfl, a, _, _, _, rfl, rfl, SqL.of hT, rfl, _, _, rfl, rfl, _, rfl, a, _, _, _, rfl, rfl, hT, rfl, ?_⟩
    refine ⟨_, rfl, a, _, _, _, rfl, rfl, SqL.of upd_same, rfl, _, _, rfl, rfl, .inr ⟨by decide, by decide⟩, _, rfl, a, _, _, _, rfl, rfl, SqL.of upd_same, rfl, _, _, rfl, rfl, .inr ⟨by decide, by decide⟩, _, _, rfl, rfl, _, _, rfl, rfl, .inl ⟨_, rfl, _, _, rfl, rfl, (show (2147483647 : Int) ≠ 0 by decide), ?_⟩⟩
    refine ⟨_, rfl, _, _, rfl, rfl, .inr ⟨by decide, by decide⟩, _, rfl, _, _, rfl, rfl, ⟨by decide, by decide⟩, _, _, rfl, rfl, .inr ⟨by decide, by decide⟩, _, _, rfl, rfl, _, rfl, a, _, _, _, rfl, rfl, SqL.of upd_same, rfl, _, _, rfl, rfl, .inl ⟨_, rfl, _, _, rfl, rfl, (show (2147483399 : Int) ≠ 0 by decide), ?_⟩⟩
    exact ⟨_, rfl, _, _, rfl, rfl, ⟨by decide, by decide⟩, .inl ⟨_, rfl, _, rfl, _, _, rfl, rfl, (show m ≠ 0 by omega), q _ _ (rest _).1 (rest _).2 But.upd ⟨_, _, _, _, upd_same⟩⟩⟩
/-! ### dances, fractions -/
theorem six_letters {r : Int} (h0 : 0 ≤ r) (h1 : r < 6) : ∃ c, atI (("TTUURR" : Str)).cps.toList r = some c ∧ (c = 84 ∨ c = 85 ∨ c = 82) := by
  have e : (("TTUURR" : Str)).cps.toList = [84, 84, 85, 85, 82, 82] := by decide +kernel
  rw [e]
  obtain ⟨c, hc, m⟩ := atI_mk (xs := [84, 84, 85, 85, 82, 82]) h0 h1
  refine ⟨c, hc, ?_⟩
  simp at m
  omega
theorem four_sizes {r : Int} (h0 : 0 ≤ r) (h1 : r < 4) : ∃ z : Int, atI [V.int 1, .int 1, .int 3, .int 9] r = some (.int z) ∧ 1 ≤ z ∧ z ≤ 9 := by
  obtain ⟨c, hc, m⟩ := atI_mk (xs := [V.int 1, .int 1, .int 3, .int 9]) h0 h1
  simp at m
  rcases m with rfl | rfl | rfl
  · exact ⟨1, hc, by decide, by decide⟩
  · exact ⟨3, hc, by decide, by decide⟩
  · exact ⟨9, hc, by decide, by decide⟩
theorem e_empty : (("" : Str)) = S [] := by decide +kernel
theorem sizeLine_big : 16777216 ≤ sizeLine := by rw [sizeLine_eq]; decide
theorem fits {n : Nat} (h : n ≤ 16777216) : n ≤ sizeLine := Nat.le_trans h sizeLine_big
def spDance : Sp := fun vs H Q _ => ∃ (a : Addr) (m : Int), vs = [.ref a, .int m] ∧ Tape H a ∧ 0 ≤ m ∧ m ≤ 1000 ∧ ∀ l H', Lets l → (l.length : Int) ≤ m → But a H H' → Tape H' a → Q (.str (S l)) H'
theorem ok_dance (F : Fun K "_law_dance" "_law_dance" s_law_dance f fd) (DT : Dfn P w K mg base "_law_take" 1 ["tape", "many"] spTake) (mr : mg "range" = none) : FnOk P w K mg base CX0 2 f fd ["tape", "most"] spDance := by
  refine F.ok sc_law_dance (fun vs H Q E h => ?_) (fun cdv A outer s H vs Q E hr h => ?_)
  · obtain ⟨a, m, rfl, _⟩ := h
    rfl
  obtain ⟨a, m, rfl, hT, h0, h1, q⟩ := h
  refine ⟨_, pss_cons (ps_set (i := 2) sc_law_dance.nd rfl (.inl rfl) pe_str)
    (pss_cons (ps_set (i := 3) sc_law_dance.nd rfl (.inl rfl) (pe_ix ix_list (pe_lst (pa_cons pe_int (pa_cons pe_int (pa_cons pe_int (pa_cons pe_int pa_nil))))) (pe_do DT hr (pa_cons (pv 0) (pa_cons pe_int pa_nil))) (fun _ _ => rfl)))
    (pss_cons (ps_for PassesOwn.never rfl (pi_range1 rfl mr (pa_cons (pe_do DT hr (pa_cons (pv 0) (pa_cons (pe_op op_add (pv 1) pe_int) pa_nil))) pa_nil)) (pg_name (i := 4) sc_law_dance.nd rfl (.inl rfl))
      (pss_one (ps_set (i := 2) sc_law_dance.nd rfl (.inl rfl) (pe_op op_add_str (pv 2) (pe_op op_mul_str (pe_ix ix_str pe_str (pe_do DT hr (pa_cons (pv 0) (pa_cons pe_int pa_nil))) (fun _ _ => rfl))
        (pe_op op_add pe_int (pe_do DT hr (pa_cons (pv 0) (pa_cons (pv 3) pa_nil)))))))))
    (pss_one (ps_ret (pe_slice sl_str (pv 2) po_none (po_some (pv 1))))))), ?_⟩
  refine ⟨(by show 4 ≤ sizeLine; exact fits (by decide)), fun p hp => ?_⟩
  have np := hT.ne hp
  refine ⟨_, rfl, a, 4, rfl, hT.same (same_new hp _), by decide, by decide, fun r H1 r0 r1 b1 t1 => ?_⟩
  obtain ⟨z, hz, z1, z9⟩ := four_sizes r0 r1
  refine ⟨p, _, _, _, rfl, rfl, SqL.of (b1 _ _ np upd_same), hz, ?_⟩
  have B1 : But a H H1 := (But.of (same_new hp _)).trans b1
  refine ⟨_, rfl, _, rfl, _, _, rfl, rfl, a, _, rfl, t1, (show 0 < m + 1 by omega), (show m + 1 < 1073741824 by omega), fun r2 H2 r20 r21 b2 t2 => ?_⟩
  refine ⟨r2, rfl, by omega, by omega, for_range (lo := 0) (n := r2.toNat) (fun i σ H' => ∃ (l : List Nat) (v : Option V), σ = [some (.ref a), some (.int m), some (.str (S l)), some (.int z), v] ∧ Lets l ∧ l.length ≤ 9 * i ∧ But a H H' ∧ Tape H' a) ?_ ?_ ?_⟩
  · exact ⟨[], none, by rw [← e_empty]; rfl, fun _ h => (by cases h), Nat.zero_le _, B1.trans b2, t2⟩
  · rintro i σ H' hi ⟨l, v, rfl, hl, hz2, bt, tp⟩
    refine ⟨_, rfl, _, rfl, a, 6, rfl, tp, by decide, by decide, fun r3 H3 r30 r31 b3 t3 => ?_⟩
    obtain ⟨c, hc, hcl⟩ := six_letters r30 r31
    refine ⟨_, _, c, rfl, rfl, (fits (by decide +kernel)), hc, _, rfl, _, rfl, a, z, rfl, t3, by omega, by omega, fun r4 H4 r40 r41 b4 t4 => ?_⟩
    have hn : (1 + r4).toNat ≤ 9 := by omega
    refine ⟨_, _, rfl, rfl, [c], 1 + r4, rfl, rfl, by omega, by omega, by simp only [List.length_singleton]; omega, _, _, rfl, rfl, ?_, ?_⟩
    · rw [S_len, S_len]
      refine fits ?_
      rw [List.length_flatten, List.map_replicate, List.sum_replicate_nat]
      simp only [List.length_singleton]
      omega
    · refine ⟨l ++ (List.replicate (1 + r4).toNat [c]).flatten, _, by rw [S_app]; rfl, fun x hx => ?_, ?_, (bt.trans b3).trans b4, t4⟩
      · rcases List.mem_append.mp hx with hx | hx
        · exact hl x hx
        · obtain ⟨y, hy, hxy⟩ := List.mem_flatten.mp hx
          rw [(List.mem_replicate.mp hy).2] at hxy
          rw [List.mem_singleton.mp hxy]
          exact hcl
      · rw [List.length_append, List.length_flatten, List.map_replicate, List.sum_replicate_nat]
        simp only [List.length_singleton]
        omega
  · rintro σ H' ⟨l, v, rfl, hl, hz2, bt, tp⟩
    refine ⟨_, rfl, _, rfl, _, rfl, _, rfl, (by rw [S_len]; exact fits (by omega)), ?_⟩
    rw [S_take l h0]
    refine q _ _ (fun x hx => hl x (List.mem_of_mem_take hx)) ?_ bt tp
    rw [List.length_take]
    omega
end
section
variable {P : Program} {w : World} {K : PySem.W.Frag} {mg : Str → Option Value} {base : Heap} {f : Addr} {fd : FuncData}
/-! ### the same data -/
inductive Dt where
  | int (i : Int) | str (z : Str) | non | tup (xs : List Dt) | lst (xs : List Dt)
/-- v stands for d, in at most n levels -/
def Is (H : Hp) : Nat → V → Dt → Prop
  | _, v, .int i => v = .int i
  | _, v, .str z => v = .str z
  | _, v, .non => v = .non
  | 0, _, .tup _ => False
  | 0, _, .lst _ => False
  | n + 1, v, .tup ds => ∃ (a : Addr) (xs : List V), v = .ref a ∧ H a = some (.tup xs) ∧ xs.length = ds.length ∧ ds.length ≤ 1000000 ∧ ∀ (i : Nat) (x : V) (d : Dt), xs[i]? = some x → ds[i]? = some d → Is H n x d
  | n + 1, v, .lst ds => ∃ (a : Addr) (xs : List V), v = .ref a ∧ H a = some (.lst xs) ∧ xs.length = ds.length ∧ ds.length ≤ 1000000 ∧ ∀ (i : Nat) (x : V) (d : Dt), xs[i]? = some x → ds[i]? = some d → Is H n x d
def spSame : Nat → Sp
  | 0 => fun _ _ _ _ => False
  | n + 1 => fun vs H Q _ => ∃ (x y : V) (d : Dt), vs = [x, y] ∧ Is H n x d ∧ Is H n y d ∧ Q (.bl true) H
theorem ok_same {n : Nat} (F : Fun K "_law_same" "_law_same" s_law_same f fd) (DS : Dfn P w K mg base "_law_same" n ["told", "due"] (spSame n)) (mI : mg "isinstance" = none) (mT : mg "tuple" = none) (mL : mg "list" = none) (ml : mg "len" = none) (mr : mg "range" = none)
    (ms : mg "str" = none) (mi : mg "int" = none) (mb : mg "bool" = none) : FnOk P w K mg base CX0 (n + 1) f fd ["told", "due"] (spSame (n + 1)) := by
  refine F.ok sc_law_same (fun vs H Q E h => ?_) (fun cdv A outer s H vs Q E hr h => ?_)
  · obtain ⟨x, y, d, rfl, _⟩ := h
    rfl
  obtain ⟨x, y, d, rfl, hx, hy, q⟩ := h
  have bT : bootBuiltins "tuple" = some (.type "tuple") := by decide +kernel
  have bL : bootBuiltins "list" = some (.type "list") := by decide +kernel
  have bS : bootBuiltins "str" = some (.type "str") := by decide +kernel
  have bI : bootBuiltins "int" = some (.type "int") := by decide +kernel
  have bB : bootBuiltins "bool" = some (.type "bool") := by decide +kernel
  have bi : bootBuiltins "isinstance" = some (.builtin "isinstance") := by decide +kernel
  refine ⟨_, pss_cons (ps_if (PW.pt (pw_or (pt_val (pe_callB call_isi rfl mI bi (pa_cons (pv 1) (pa_cons (pe_bltn (v := .ty "tuple") rfl mT bT rfl) pa_nil)))) (pw_or1 (pt_val (pe_callB call_isi rfl mI bi (pa_cons (pv 1) (pa_cons (pe_bltn (v := .ty "list") rfl mL bL rfl) pa_nil)))))))
      (pss_cons (ps_if (PW.pt (pw_or (pt_cmpR op_ne (pe_callB call_isi rfl mI bi (pa_cons (pv 1) (pa_cons (pe_bltn (v := .ty "tuple") rfl mT bT rfl) pa_nil))) (pe_callB call_isi rfl mI bi (pa_cons (pv 0) (pa_cons (pe_bltn (v := .ty "tuple") rfl mT bT rfl) pa_nil))) (nomark _))
          (pw_or1 (pt_cmpR op_ne (pe_callB call_isi rfl mI bi (pa_cons (pv 1) (pa_cons (pe_bltn (v := .ty "list") rfl mL bL rfl) pa_nil))) (pe_callB call_isi rfl mI bi (pa_cons (pv 0) (pa_cons (pe_bltn (v := .ty "list") rfl mL bL rfl) pa_nil))) (nomark _)))))
        (pss_one (ps_ret pe_bl)) pss_nil)
      (pss_cons (ps_if (pt_cmpR op_ne (pe_callB call_len_seq rfl ml PySem.boot_len (pa_cons (pv 0) pa_nil)) (pe_callB call_len_seq rfl ml PySem.boot_len (pa_cons (pv 1) pa_nil)) (nomark _)) (pss_one (ps_ret pe_bl)) pss_nil)
      (pss_cons (ps_for PassesOwn.never rfl (pi_range1 rfl mr (pa_cons (pe_callB call_len_seq rfl ml PySem.boot_len (pa_cons (pv 1) pa_nil)) pa_nil)) (pg_name (i := 2) sc_law_same.nd rfl (.inl rfl))
        (pss_one (ps_if (pt_not (pt_val (pe_do DS hr (pa_cons (pe_ix ix_seq (pv 0) (pv 2) (fun _ _ => rfl)) (pa_cons (pe_ix ix_seq (pv 1) (pv 2) (fun _ _ => rfl)) pa_nil))))) (pss_one (ps_ret pe_bl)) pss_nil)))
      (pss_one (ps_ret pe_bl))))) pss_nil)
    (pss_cons (ps_if (pt_cmpR op_isN (pv 1) pe_non (nomark _)) (pss_one (ps_ret (pe_cmpR op_isN (pv 0) pe_non (nomark _)))) pss_nil)
    (pss_cons (ps_if (pt_val (pe_callB call_isi rfl mI bi (pa_cons (pv 1) (pa_cons (pe_bltn (v := .ty "str") rfl ms bS rfl) pa_nil))))
      (pss_one (ps_ret (pe_and (pe_callB call_isi rfl mI bi (pa_cons (pv 0) (pa_cons (pe_bltn (v := .ty "str") rfl ms bS rfl) pa_nil))) (pe_one (pe_cmpR op_eq (pv 0) (pv 1) (nomark _)))))) pss_nil)
    (pss_one (ps_ret (pe_and (pe_callB call_isi rfl mI bi (pa_cons (pv 0) (pa_cons (pe_bltn (v := .ty "int") rfl mi bI rfl) pa_nil)))
      (pe_and (pe_not (pe_callB call_isi rfl mI bi (pa_cons (pv 0) (pa_cons (pe_bltn (v := .ty "bool") rfl mb bB rfl) pa_nil)))) (pe_one (pe_cmpR op_eq (pv 0) (pv 1) (nomark _))))))))), ?_⟩
  have isn : ∀ (a b : String) (r : Bool), kitB a b = some r → PySem.W.kitOne K (.type a) (.type b) = some r := fun a b r h => kit_ty h
  cases d with
  | int i =>
    cases (show x = .int i by cases n <;> exact hx)
    cases (show y = .int i by cases n <;> exact hy)
    refine ⟨_, rfl, _, _, _, _, false, rfl, .ty _, .base (.int _), kit_ty (by decide +kernel), _, rfl, iteF ?_⟩
    refine ⟨_, rfl, _, _, _, _, false, rfl, .ty _, .base (.int _), kit_ty (by decide +kernel), _, rfl, iteF ?_⟩
    refine ⟨_, rfl, rfl, _, rfl, iteF ?_⟩
    refine ⟨_, rfl, _, _, _, _, false, rfl, .ty _, .base (.int _), kit_ty (by decide +kernel), _, rfl, iteF ?_⟩
    refine ⟨_, rfl, _, _, _, _, true, rfl, .ty _, .base (.int _), kit_ty (by decide +kernel), _, rfl, iteT ?_⟩
    refine ⟨_, rfl, _, _, _, _, false, rfl, .ty _, .base (.int _), kit_ty (by decide +kernel), _, rfl, _, rfl, iteT ?_⟩
    refine ⟨_, rfl, _, rfl, rfl, ?_⟩
    rw [decide_eq_true rfl]
    exact q
  | str z =>
    cases (show x = .str z by cases n <;> exact hx)
    cases (show y = .str z by cases n <;> exact hy)
    refine ⟨_, rfl, _, _, _, _, false, rfl, .ty _, .base (.str _), kit_ty (by decide +kernel), _, rfl, iteF ?_⟩
    refine ⟨_, rfl, _, _, _, _, false, rfl, .ty _, .base (.str _), kit_ty (by decide +kernel), _, rfl, iteF ?_⟩
    refine ⟨_, rfl, rfl, _, rfl, iteF ?_⟩
    refine ⟨_, rfl, _, _, _, _, true, rfl, .ty _, .base (.str _), kit_ty (by decide +kernel), _, rfl, iteT ?_⟩
    refine ⟨_, rfl, _, _, _, _, true, rfl, .ty _, .base (.str _), kit_ty (by decide +kernel), _, rfl, iteT ?_⟩
    refine ⟨_, rfl, _, rfl, rfl, ?_⟩
    rw [decide_eq_true rfl]
    exact q
  | non =>
    cases (show x = .non by cases n <;> exact hx)
    cases (show y = .non by cases n <;> exact hy)
    refine ⟨_, rfl, _, _, _, _, false, rfl, .ty _, .base .non, kit_ty (by decide +kernel), _, rfl, iteF ?_⟩
    refine ⟨_, rfl, _, _, _, _, false, rfl, .ty _, .base .non, kit_ty (by decide +kernel), _, rfl, iteF ?_⟩
    exact ⟨_, rfl, rfl, _, rfl, iteT ⟨_, rfl, rfl, q⟩⟩
  | tup ds =>
    cases n with
    | zero => exact hx.elim
    | succ n =>
      obtain ⟨a, xs, rfl, ha, la, ln, ka⟩ := hx
      obtain ⟨b, ys, rfl, hb, lb, _, kb⟩ := hy
      refine ⟨_, rfl, _, _, _, _, true, rfl, .ty _, .base (.tup hb), kit_ty (by decide +kernel), _, rfl, iteT ?_⟩
      refine ⟨_, rfl, _, _, _, _, true, rfl, .ty _, .base (.tup hb), kit_ty (by decide +kernel), _, rfl, _, _, _, _, true, rfl, .ty _, .base (.tup ha), kit_ty (by decide +kernel), rfl, _, rfl, iteF ?_⟩
      refine ⟨_, rfl, _, _, _, _, false, rfl, .ty _, .base (.tup hb), kit_ty (by decide +kernel), _, rfl, _, _, _, _, false, rfl, .ty _, .base (.tup ha), kit_ty (by decide +kernel), rfl, _, rfl, iteF ?_⟩
      refine ⟨_, rfl, a, xs, rfl, .inr (SqT.of ha), _, rfl, b, ys, rfl, .inr (SqT.of hb), rfl, _, rfl, ?_⟩
      rw [show (decide (V.int (xs.length : Int) = V.int (ys.length : Int))) = true from decide_eq_true (by rw [la, lb])]
      refine iteF ?_
      refine ⟨_, rfl, b, ys, rfl, .inr (SqT.of hb), (ys.length : Int), rfl, by omega, by omega, for_range (lo := 0) (n := (ys.length : Int).toNat) (fun i σ H' => H' = H ∧ ∃ v, σ = [some (.ref a), some (.ref b), v]) ⟨rfl, none, rfl⟩ ?_ ?_⟩
      · rintro i σ _ hi ⟨rfl, v, rfl⟩
        have hi1 : i < ys.length := by omega
        have hi2 : i < xs.length := by omega
        have hi3 : i < ds.length := by omega
        refine ⟨_, rfl, _, rfl, .inr (.inl ⟨a, xs, _, _, rfl, rfl, SqT.of ha, at_of (j := i) (by omega) (List.getElem?_eq_getElem hi2), ?_⟩)⟩
        refine ⟨_, rfl, _, rfl, .inr (.inl ⟨b, ys, _, _, rfl, rfl, SqT.of hb, at_of (j := i) (by omega) (List.getElem?_eq_getElem hi1), ?_⟩)⟩
        refine ⟨_, _, ds[i], rfl, ka i _ _ (List.getElem?_eq_getElem hi2) (List.getElem?_eq_getElem hi3), kb i _ _ (List.getElem?_eq_getElem hi1) (List.getElem?_eq_getElem hi3), _, rfl, iteF ⟨rfl, _, rfl⟩⟩
      · rintro σ _ ⟨rfl, v, rfl⟩
        exact q
  | lst ds =>
    cases n with
    | zero => exact hx.elim
    | succ n =>
      obtain ⟨a, xs, rfl, ha, la, ln, ka⟩ := hx
      obtain ⟨b, ys, rfl, hb, lb, _, kb⟩ := hy
      refine ⟨_, rfl, _, _, _, _, false, rfl, .ty _, .base (.lst hb), kit_ty (by decide +kernel), _, rfl, iteF ?_⟩
      refine ⟨_, rfl, _, _, _, _, true, rfl, .ty _, .base (.lst hb), kit_ty (by decide +kernel), _, rfl, iteT ?_⟩
      refine ⟨_, rfl, _, _, _, _, false, rfl, .ty _, .base (.lst hb), kit_ty (by decide +kernel), _, rfl, _, _, _, _, false, rfl, .ty _, .base (.lst ha), kit_ty (by decide +kernel), rfl, _, rfl, iteF ?_⟩
      refine ⟨_, rfl, _, _, _, _, true, rfl, .ty _, .base (.lst hb), kit_ty (by decide +kernel), _, rfl, _, _, _, _, true, rfl, .ty _, .base (.lst ha), kit_ty (by decide +kernel), rfl, _, rfl, iteF ?_⟩
      refine ⟨_, rfl, a, xs, rfl, .inl (SqL.of ha), _, rfl, b, ys, rfl, .inl (SqL.of hb), rfl, _, rfl, ?_⟩
      rw [show (decide (V.int (xs.length : Int) = V.int (ys.length : Int))) = true from decide_eq_true (by rw [la, lb])]
      refine iteF ?_
      refine ⟨_, rfl, b, ys, rfl, .inl (SqL.of hb), (ys.length : Int), rfl, by omega, by omega, for_range (lo := 0) (n := (ys.length : Int).toNat) (fun i σ H' => H' = H ∧ ∃ v, σ = [some (.ref a), some (.ref b), v]) ⟨rfl, none, rfl⟩ ?_ ?_⟩
      · rintro i σ _ hi ⟨rfl, v, rfl⟩
        have hi1 : i < ys.length := by omega
        have hi2 : i < xs.length := by omega
        have hi3 : i < ds.length := by omega
        refine ⟨_, rfl, _, rfl, .inl ⟨a, xs, _, _, rfl, rfl, SqL.of ha, at_of (j := i) (by omega) (List.getElem?_eq_getElem hi2), ?_⟩⟩
        refine ⟨_, rfl, _, rfl, .inl ⟨b, ys, _, _, rfl, rfl, SqL.of hb, at_of (j := i) (by omega) (List.getElem?_eq_getElem hi1), ?_⟩⟩
        refine ⟨_, _, ds[i], rfl, ka i _ _ (List.getElem?_eq_getElem hi2) (List.getElem?_eq_getElem hi3), kb i _ _ (List.getElem?_eq_getElem hi1) (List.getElem?_eq_getElem hi3), _, rfl, iteF ⟨rfl, _, rfl⟩⟩
      · rintro σ _ ⟨rfl, v, rfl⟩
        exact q
theorem none_same : FnOk P w K mg base CX0 0 f fd ["told", "due"] (spSame 0) := by
  have no : ∀ vs H Q E, ¬ spSame 0 vs H Q E := fun vs H Q E h => h
  exact ⟨fun vs H Q E h => absurd h (no vs H Q E), fun A outer s H args us vs Q E _ _ _ _ h => absurd h (no vs H Q E)⟩
end
theorem sign_eq {c n : Nat} {z : Str} (e : z = S [n]) : (V.str (S [c]) = V.str z) ↔ c = n := by
  subst e
  constructor
  · intro h
    have := S_inj (V.str.inj h)
    simpa using this
  · rintro rfl; rfl
theorem e_T : (("T" : Str)) = S [84] := by decide +kernel
theorem e_U : (("U" : Str)) = S [85] := by decide +kernel
theorem e_R : (("R" : Str)) = S [82] := by decide +kernel
section
variable {P : Program} {w : World} {K : PySem.W.Frag} {mg : Str → Option Value} {base : Heap} {f : Addr} {fd : FuncData}
def spSays : Sp := fun vs H Q _ => ∃ b : Bool, vs = [.bl b, .bl b] ∧ Q (.bl true) H
theorem ok_says (F : Fun K "_law_says" "_law_says" s_law_says f fd) (mI : mg "isinstance" = none) (mb : mg "bool" = none) : FnOk P w K mg base CX0 1 f fd ["told", "due"] spSays := by
  refine F.ok sc_law_says (fun vs H Q E h => ?_) (fun cdv A outer s H vs Q E hr h => ?_)
  · obtain ⟨b, rfl, _⟩ := h
    rfl
  obtain ⟨b, rfl, q⟩ := h
  have bB : bootBuiltins "bool" = some (.type "bool") := by decide +kernel
  have bi : bootBuiltins "isinstance" = some (.builtin "isinstance") := by decide +kernel
  refine ⟨_, pss_one (ps_ret (pe_and (pe_callB call_isi rfl mI bi (pa_cons (pv 0) (pa_cons (pe_bltn (v := .ty "bool") rfl mb bB rfl) pa_nil))) (pe_one (pe_cmpR op_eq (pv 0) (pv 1) (nomark _))))), ?_⟩
  refine ⟨_, rfl, _, _, _, _, true, rfl, .ty _, .base (.bl _), kit_ty (by decide +kernel), _, rfl, iteT ?_⟩
  refine ⟨_, rfl, _, rfl, rfl, ?_⟩
  rw [decide_eq_true rfl]
  exact q
end
section
theorem int_is {H : Hp} {n : Nat} {i : Int} : Is H n (.int i) (.int i) := by cases n <;> rfl
theorem str_is {H : Hp} {n : Nat} {z : Str} : Is H n (.str z) (.str z) := by cases n <;> rfl
theorem is_tup {H : Hp} {n : Nat} {a : Addr} {xs : List V} {ds : List Dt} (h : H a = some (.tup xs)) (z : xs.length = ds.length) (m : ds.length ≤ 1000000) (k : ∀ (i : Nat) (x : V) (d : Dt), xs[i]? = some x → ds[i]? = some d → Is H n x d) : Is H (n + 1) (.ref a) (.tup ds) := ⟨a, xs, rfl, h, z, m, k⟩
theorem is_lst {H : Hp} {n : Nat} {a : Addr} {xs : List V} {ds : List Dt} (h : H a = some (.lst xs)) (z : xs.length = ds.length) (m : ds.length ≤ 1000000) (k : ∀ (i : Nat) (x : V) (d : Dt), xs[i]? = some x → ds[i]? = some d → Is H n x d) : Is H (n + 1) (.ref a) (.lst ds) := ⟨a, xs, rfl, h, z, m, k⟩
end
section
/-! ### lists of tuples, each by its items -/
def Tl (H : Hp) (p : Addr) (ds : List (List V)) : Prop := ∃ rs : List Addr, H p = some (.lst (rs.map V.ref)) ∧ rs.length = ds.length ∧ ∀ (i : Nat) (r : Addr) (d : List V), rs[i]? = some r → ds[i]? = some d → H r = some (.tup d)
theorem Tl.same {H H' : Hp} {p : Addr} {ds : List (List V)} (h : Tl H p ds) (s : Same H H') : Tl H' p ds := by
  obtain ⟨rs, e, z, k⟩ := h
  exact ⟨rs, s _ _ e, z, fun i r d a b => s _ _ (k i r d a b)⟩
theorem Tl.but {H H' : Hp} {a p : Addr} {ds : List (List V)} {zs : List V} (h : Tl H p ds) (s : But a H H') (ne : p ≠ a) (ha : H a = some (.lst zs)) : Tl H' p ds := by
  obtain ⟨rs, e, z, k⟩ := h
  exact ⟨rs, s _ _ ne e, z, fun i r d x y => s _ _ (ne_of (k i r d x y) ha (by intro q; cases q)) (k i r d x y)⟩
theorem Tl.tape {H H' : Hp} {a p : Addr} {ds : List (List V)} (h : Tl H p ds) (s : But a H H') (ne : p ≠ a) (tp : Tape H a) : Tl H' p ds := by
  obtain ⟨y, c, z, b, e⟩ := tp
  exact h.but s ne e
theorem Tl.nil {H : Hp} {p : Addr} (h : H p = some (.lst [])) : Tl H p [] := ⟨[], h, rfl, fun i r d a _ => by cases a⟩
theorem Tl.lst {H : Hp} {p : Addr} {ds : List (List V)} (h : Tl H p ds) : ∃ xs, H p = some (.lst xs) ∧ xs.length = ds.length := by
  obtain ⟨rs, e, z, k⟩ := h
  exact ⟨_, e, by rw [List.length_map]; exact z⟩
theorem Tl.at {H : Hp} {p : Addr} {ds : List (List V)} (h : Tl H p ds) {i : Nat} {d : List V} (hd : ds[i]? = some d) : ∃ xs r, H p = some (.lst xs) ∧ xs.length = ds.length ∧ xs[i]? = some (.ref r) ∧ H r = some (.tup d) := by
  obtain ⟨rs, e, z, k⟩ := h
  have hi : i < rs.length := by rw [z]; exact (List.getElem?_eq_some_iff.mp hd).1
  refine ⟨_, rs[i], e, by rw [List.length_map]; exact z, by rw [List.getElem?_map, List.getElem?_eq_getElem hi]; rfl, k i _ _ (List.getElem?_eq_getElem hi) hd⟩
/-- a tuple that stands at t is appended -/
theorem Tl.push {H : Hp} {p t : Addr} {ds : List (List V)} {d : List V} (h : Tl H p ds) (ht : H t = some (.tup d)) :
    ∃ xs, H p = some (.lst xs) ∧ xs.length = ds.length ∧ Tl (upd H p (.lst (xs ++ [.ref t]))) p (ds ++ [d]) := by
  obtain ⟨rs, e, z, k⟩ := h
  refine ⟨rs.map V.ref, e, by rw [List.length_map]; exact z, rs ++ [t], by rw [upd_same, List.map_append]; rfl, by rw [List.length_append, List.length_append, z]; rfl, fun i r c' hr hc => ?_⟩
  by_cases hi : i < rs.length
  · rw [List.getElem?_append_left hi] at hr
    rw [List.getElem?_append_left (by omega)] at hc
    have hk := k i r c' hr hc
    rw [upd_ne (ne_of hk e (by intro q; cases q))]
    exact hk
  · rw [List.getElem?_append_right (by omega)] at hr hc
    rw [z] at hr
    by_cases h0 : i - ds.length = 0
    · rw [h0] at hr hc
      cases hr; cases hc
      rw [upd_ne (ne_of ht e (by intro q; cases q))]
      exact ht
    · obtain ⟨m, hm⟩ := Nat.exists_eq_succ_of_ne_zero h0
      rw [hm] at hr
      cases hr
/-- a new list of the same objects: another list at q, its items picked from those at p -/
theorem Tl.pick {H H' : Hp} {p q : Addr} {ds : List (List V)} (h : Tl H p ds) (s : Same H H') (js : List Nat) (hj : ∀ j ∈ js, j < ds.length) {xs : List V} (hp : H p = some (.lst xs)) (hq : H' q = some (.lst (js.filterMap fun j => xs[j]?))) : Tl H' q (js.filterMap fun j => ds[j]?) := by
  obtain ⟨rs, e, z, k⟩ := h
  rw [e] at hp
  cases hp
  refine ⟨js.filterMap fun j => rs[j]?, ?_, ?_, ?_⟩
  · rw [hq, List.map_filterMap]
    congr 3
    funext j
    rw [List.getElem?_map]
  · have : ∀ (js : List Nat), (∀ j ∈ js, j < ds.length) → (js.filterMap fun j => rs[j]?).length = (js.filterMap fun j => ds[j]?).length := by
      intro js
      induction js with
      | nil => intro _; rfl
      | cons j r ih =>
        intro hj
        have h1 := hj j List.mem_cons_self
        rw [List.filterMap_cons, List.filterMap_cons, List.getElem?_eq_getElem h1, List.getElem?_eq_getElem (by omega : j < rs.length)]
        simp only [List.length_cons]
        rw [ih fun x hx => hj x (List.mem_cons_of_mem _ hx)]
    exact this js hj
  · have : ∀ (js : List Nat), (∀ j ∈ js, j < ds.length) → ∀ (i : Nat) (r : Addr) (d : List V), (js.filterMap fun j => rs[j]?)[i]? = some r → (js.filterMap fun j => ds[j]?)[i]? = some d → H' r = some (.tup d) := by
      intro js
      induction js with
      | nil => intro _ i r d hr _; cases hr
      | cons j r ih =>
        intro hj i r d hr hd
        have h1 := hj j List.mem_cons_self
        rw [List.filterMap_cons, List.getElem?_eq_getElem (by omega : j < rs.length)] at hr
        rw [List.filterMap_cons, List.getElem?_eq_getElem h1] at hd
        cases i with
        | zero =>
          cases hr; cases hd
          exact s _ _ (k j _ _ (List.getElem?_eq_getElem (by omega)) (List.getElem?_eq_getElem h1))
        | succ i => exact ih (fun x hx => hj x (List.mem_cons_of_mem _ hx)) i r d hr hd
    exact this js hj
end
section
/-! ### moves -/
structure Mv where
  pl : Int
  o : List Nat
  n : List Nat
def wds : List (List Nat) := [[84, 85], [85, 84], [82, 82], [84, 82, 84, 82, 84, 82]]
def wF : List Nat := [82, 84, 82]
def isMv (m : Mv) : Bool := (decide (m.o = []) != decide (m.n = [])) && (decide (m.o ++ m.n ∈ wds) || (decide (m.pl = 0) && decide (m.o ++ m.n = wF)))
def canMv (d : List Nat) (m : Mv) : Bool := decide (0 ≤ m.pl) && (decide (m.pl ≤ d.length) && decide ((d.drop m.pl.toNat).take m.o.length = m.o))
def doMv (d : List Nat) (m : Mv) : List Nat := d.take m.pl.toNat ++ m.n ++ d.drop (m.pl.toNat + m.o.length)
def mkMv (d : List Nat) (m : Mv) : Option (List Nat) := if isMv m = true ∧ canMv d m = true then some (doMv d m) else none
theorem mkMv_some {d : List Nat} {m : Mv} (h1 : isMv m = true) (h2 : canMv d m = true) : mkMv d m = some (doMv d m) := if_pos ⟨h1, h2⟩
theorem mkMv_not {d : List Nat} {m : Mv} (h1 : isMv m = false) : mkMv d m = none := if_neg fun z => by rw [h1] at z; cases z.1
theorem mkMv_cannot {d : List Nat} {m : Mv} (h1 : canMv d m = false) : mkMv d m = none := if_neg fun z => by rw [h1] at z; cases z.2
def Mv.vs (m : Mv) : List V := [.int m.pl, .str (S m.o), .str (S m.n)]
def Tm (H : Hp) (t : Addr) (m : Mv) : Prop := H t = some (.tup m.vs)
theorem Tm.same {H H' : Hp} {t : Addr} {m : Mv} (h : Tm H t m) (s : Same H H') : Tm H' t m := s _ _ h
theorem Tm.but {H H' : Hp} {a t : Addr} {m : Mv} (h : Tm H t m) (s : But a H H') (tp : Tape H a) : Tm H' t m := by
  obtain ⟨y, c, z, b, e⟩ := tp
  exact s _ _ (ne_of h e (by intro q; cases q)) h
theorem e_TU : (("TU" : Str)) = S [84, 85] := by decide +kernel
theorem e_UT : (("UT" : Str)) = S [85, 84] := by decide +kernel
theorem e_RR : (("RR" : Str)) = S [82, 82] := by decide +kernel
theorem e_RTR : (("RTR" : Str)) = S wF := by decide +kernel
theorem e_six : (("TRTRTR" : Str)) = S [84, 82, 84, 82, 84, 82] := by decide +kernel
theorem e_near : (("TURS_t" : Str)) = S [84, 85, 82, 83, 95, 116] := by decide +kernel
theorem e_TUR : (("TUR" : Str)) = S [84, 85, 82] := by decide +kernel
def tx (l : List Nat) : V := .str (S l)
theorem tx_inj {a b : List Nat} (h : tx a = tx b) : a = b := S_inj (V.str.inj h)
theorem tx_iff {a b : List Nat} : V.str (S a) = V.str (S b) ↔ a = b := ⟨fun h => tx_inj h, fun h => by rw [h]⟩
theorem four_words : [V.str "TU", .str "UT", .str "RR", .str "TRTRTR"] = wds.map tx := by
  rw [e_TU, e_UT, e_RR, e_six]
  rfl
theorem eqV_str (a b : List Nat) : eqV (.str (S a)) (.str (S b)) = decide (a = b) := by
  show (S a == S b) = _
  by_cases h : a = b
  · subst h
    rw [decide_eq_true rfl]
    exact beq_self_eq_true _
  · rw [decide_eq_false h]
    exact beq_eq_false_iff_ne.mpr fun z => h (S_inj z)
theorem inV_strs (w : List Nat) (ws : List (List Nat)) : inV (.str (S w)) (ws.map tx) = decide (w ∈ ws) := by
  unfold inV
  induction ws with
  | nil => simp
  | cons a r ih =>
    rw [List.map_cons, List.any_cons, ih]
    show (eqV (.str (S a)) (.str (S w)) || _) = _
    rw [eqV_str, Bool.eq_iff_iff]
    simp only [Bool.or_eq_true, decide_eq_true_eq, List.mem_cons]
    constructor
    · rintro (h | h)
      · exact .inl h.symm
      · exact .inr h
    · rintro (h | h)
      · exact .inl h.symm
      · exact .inr h
theorem flat_strs (ws : List (List Nat)) : (ws.map tx).all flatV = true := by
  rw [List.all_eq_true]
  intro x hx
  obtain ⟨w, _, rfl⟩ := List.mem_map.mp hx
  rfl
theorem S_mid (l : List Nat) {p : Int} (h : 0 ≤ p) (k : Nat) : cutS (S l) (some p) (some (p + (k : Int))) = S ((l.drop p.toNat).take k) := by
  obtain ⟨n, rfl⟩ := Int.eq_ofNat_of_zero_le h
  have e : ((n : Int) + (k : Int)) = ((n + k : Nat) : Int) := rfl
  rw [S_cut, e, HT.sIx_nat, HT.sIx_nat, Int.toNat_natCast]
  congr 1
  by_cases h2 : n ≤ l.length
  · rw [Nat.min_eq_left h2]
    by_cases h3 : n + k ≤ l.length
    · rw [Nat.min_eq_left h3]
      congr 1
      omega
    · rw [Nat.min_eq_right (by omega), List.take_of_length_le (by rw [List.length_drop]; omega), List.take_of_length_le (by rw [List.length_drop]; omega)]
  · rw [List.drop_eq_nil_of_le (show l.length ≤ min n l.length by omega), List.drop_eq_nil_of_le (show l.length ≤ n by omega), List.take_nil, List.take_nil]
theorem pick_strs {ws : List (List Nat)} {r : Int} (h0 : 0 ≤ r) (h1 : r < (ws.length : Int)) : ∃ u, atI (ws.map tx) r = some (.str (S u)) ∧ u ∈ ws := by
  obtain ⟨c, hc, m⟩ := atI_mk (xs := ws.map tx) h0 (by rw [List.length_map]; exact h1)
  obtain ⟨u, hu, rfl⟩ := List.mem_map.mp m
  exact ⟨u, hc, hu⟩
theorem pick_ints {ns : List Int} {r : Int} (h0 : 0 ≤ r) (h1 : r < (ns.length : Int)) : ∃ u, atI (ns.map V.int) r = some (.int u) ∧ u ∈ ns := by
  obtain ⟨c, hc, m⟩ := atI_mk (xs := ns.map V.int) h0 (by rw [List.length_map]; exact h1)
  obtain ⟨u, hu, rfl⟩ := List.mem_map.mp m
  exact ⟨u, hc, hu⟩
theorem pick_sign {z : Str} {l : List Nat} (e : z = S l) {r : Int} (h0 : 0 ≤ r) (h1 : r < (l.length : Int)) : ∃ c, atI z.cps.toList r = some c ∧ c ∈ l := by
  subst e
  rw [S_list]
  exact atI_mk h0 h1
theorem isMv_empty {m : Mv} : isMv m = true → m.o = [] ∨ m.n = [] := by
  intro h
  unfold isMv at h
  by_cases h1 : m.o = []
  · exact .inl h1
  · by_cases h2 : m.n = []
    · exact .inr h2
    · rw [decide_eq_false h1, decide_eq_false h2] at h
      cases h
/-- short enough to be handled -/
structure Mv.Fit (m : Mv) (k : Nat) : Prop where
  o : m.o.length ≤ k
  n : m.n.length ≤ k
theorem Mv.Fit.mono {m : Mv} {j k : Nat} (h : m.Fit j) (l : j ≤ k) : m.Fit k := ⟨Nat.le_trans h.o l, Nat.le_trans h.n l⟩
theorem doMv_len {d : List Nat} {m : Mv} {k : Nat} (h : m.Fit k) : (doMv d m).length ≤ d.length + k := by
  unfold doMv
  have := h.n
  simp only [List.length_append, List.length_take, List.length_drop]
  omega
def tMade : Option (List Nat) → V
  | some d => .str (S d)
  | none => .non
def spIsMove : Sp := fun vs H Q _ => ∃ (t : Addr) (m : Mv), vs = [.ref t] ∧ Tm H t m ∧ m.Fit 100000 ∧ ∀ H', Same H H' → Q (.bl (isMv m)) H'
def spLawMade : Sp := fun vs H Q _ => ∃ (d : List Nat) (t : Addr) (m : Mv), vs = [.str (S d), .ref t] ∧ Tm H t m ∧ m.Fit 100000 ∧ d.length ≤ 1000000 ∧ ∀ H', Same H H' → Q (tMade (mkMv d m)) H'
/-- made, where the move can be made -/
def spMade : Sp := fun vs H Q _ => ∃ (d : List Nat) (t : Addr) (m : Mv) (x : List Nat), vs = [.str (S d), .ref t] ∧ Tm H t m ∧ m.Fit 100000 ∧ d.length ≤ 1000000 ∧ mkMv d m = some x ∧ ∀ H', Same H H' → Q (.str (S x)) H'
/-- made, both ways -/
def spMadeX (C : Addr) : Sp := fun vs H Q E => ∃ (d : List Nat) (t : Addr) (m : Mv), vs = [.str (S d), .ref t] ∧ Tm H t m ∧ m.Fit 100000 ∧ d.length ≤ 1000000 ∧ (∀ x, mkMv d m = some x → ∀ H', Same H H' → Q (.str (S x)) H') ∧ (mkMv d m = none → ∀ H', Same H H' → E (.ref C) none H')
/-- what the drawn moves keep -/
def Cn (d : List Nat) (m : Mv) : Prop := isMv m = true ∧ canMv d m = true ∧ m.Fit 6
def spPut : Sp := fun vs H Q _ => ∃ (a : Addr) (d : List Nat), vs = [.ref a, .str (S d)] ∧ Tape H a ∧ d.length ≤ 1000000 ∧ ∀ (t : Addr) (m : Mv) H', Cn d m → m.o = [] → But a H H' → Tape H' a → Tm H' t m → Q (.ref t) H'
def spTaken : Sp := fun vs H Q _ => ∃ (a : Addr) (d : List Nat), vs = [.ref a, .str (S d)] ∧ Tape H a ∧ d.length ≤ 1000000 ∧ ∀ (t : Addr) (m : Mv) H', Cn d m → But a H H' → Tape H' a → Tm H' t m → Q (.ref t) H'
def spNear : Sp := fun vs H Q _ => ∃ (a : Addr), vs = [.ref a] ∧ Tape H a ∧ ∀ (u : List Nat) H', u.length ≤ 20 → But a H H' → Tape H' a → Q (.str (S u)) H'
def spOdd : Sp := fun vs H Q _ => ∃ (a t0 : Addr) (m0 : Mv) (k : Nat), vs = [.ref a, .ref t0] ∧ Tape H a ∧ Tm H t0 m0 ∧ m0.Fit k ∧ 20 ≤ k ∧ k ≤ 10000 ∧ ∀ (t : Addr) (m : Mv) H', m.Fit (2 * k) → But a H H' → Tape H' a → Tm H' t m → Q (.ref t) H'
theorem wds_len {u : List Nat} (h : u ∈ wds) : u.length ≤ 6 ∧ 2 ≤ u.length := by
  simp only [wds, List.mem_cons, List.not_mem_nil, or_false] at h
  rcases h with rfl | rfl | rfl | rfl <;> decide
theorem Cn.put {d u : List Nat} {p : Int} (h : u ∈ wds) (h0 : 0 ≤ p) (h1 : p ≤ d.length) : Cn d ⟨p, [], u⟩ := by
  have hl := wds_len h
  have hu : u ≠ [] := fun z => by subst z; simp at hl
  refine ⟨?_, ?_, ⟨Nat.zero_le _, hl.1⟩⟩
  · unfold isMv
    simp only [decide_true, decide_eq_false hu, List.nil_append, decide_eq_true h]
    rfl
  · unfold canMv
    simp only [decide_eq_true h0, decide_eq_true h1, List.length_nil, List.take_zero, decide_true, Bool.and_true]
theorem Cn.putF (d : List Nat) : Cn d ⟨0, [], wF⟩ := by
  refine ⟨by decide, ?_, ⟨Nat.zero_le _, by decide⟩⟩
  unfold canMv
  simp only [List.length_nil, List.take_zero, decide_true, Bool.and_true, Int.le_refl, Bool.true_and]
  exact decide_eq_true (Int.natCast_nonneg _)
theorem Cn.take {d u : List Nat} {p : Int} (h : u ∈ wds) (h0 : 0 ≤ p) (h1 : p ≤ d.length) (e : (d.drop p.toNat).take u.length = u) : Cn d ⟨p, u, []⟩ := by
  have hl := wds_len h
  have hu : u ≠ [] := fun z => by subst z; simp at hl
  refine ⟨?_, ?_, ⟨hl.1, Nat.zero_le _⟩⟩
  · unfold isMv
    simp only [decide_true, decide_eq_false hu, List.append_nil, decide_eq_true h]
    rfl
  · unfold canMv
    simp only [decide_eq_true h0, decide_eq_true h1, decide_eq_true e, Bool.and_true]
theorem Cn.takeF {d : List Nat} (e : d.take 3 = wF) : Cn d ⟨0, wF, []⟩ := by
  refine ⟨by decide, ?_, ⟨by decide, Nat.zero_le _⟩⟩
  unfold canMv
  have : (List.drop (Int.toNat 0) d).take wF.length = wF := e
  simp only [decide_eq_true this, decide_true, Bool.and_true, Int.le_refl, Bool.true_and]
  exact decide_eq_true (Int.natCast_nonneg _)
theorem S_eta (z : Str) : S z.cps.toList = z := by
  cases z
  simp [S]
theorem pick_zs {zs : List Str} {n : Nat} (hz : ∀ z ∈ zs, z.length ≤ n) {r : Int} (h0 : 0 ≤ r) (h1 : r < (zs.length : Int)) : ∃ u : List Nat, atI (zs.map V.str) r = some (.str (S u)) ∧ u.length ≤ n := by
  obtain ⟨c, hc, m⟩ := atI_mk (xs := zs.map V.str) h0 (by rw [List.length_map]; exact h1)
  obtain ⟨z, hm, rfl⟩ := List.mem_map.mp m
  refine ⟨z.cps.toList, by rw [S_eta]; exact hc, ?_⟩
  have := hz z hm
  rw [← S_eta z, S_len] at this
  exact this
theorem mkMv_inv {d x : List Nat} {m : Mv} (h : mkMv d m = some x) : isMv m = true ∧ canMv d m = true ∧ x = doMv d m := by
  unfold mkMv at h
  by_cases c : isMv m = true ∧ canMv d m = true
  · rw [if_pos c] at h
    exact ⟨c.1, c.2, (Option.some.inj h).symm⟩
  · rw [if_neg c] at h
    cases h
theorem canMv_inv {d : List Nat} {m : Mv} (h : canMv d m = true) : 0 ≤ m.pl ∧ m.pl ≤ d.length ∧ (d.drop m.pl.toNat).take m.o.length = m.o := by
  unfold canMv at h
  simp only [Bool.and_eq_true, decide_eq_true_eq] at h
  exact h
def spHolds : Sp := fun vs H Q _ => ∃ (d : List Nat) (t : Addr) (m : Mv), vs = [.str (S d), .ref t] ∧ Tm H t m ∧ m.Fit 100000 ∧ d.length ≤ 1000000 ∧ ∀ H', Same H H' → Q (.bl true) H'
theorem pick_two {t1 t2 : Addr} {m1 m2 : Mv} {H : Hp} {d : List Nat} (h1 : Tm H t1 m1) (h2 : Tm H t2 m2) (c1 : Cn d m1) (c2 : Cn d m2) {r : Int} (r0 : 0 ≤ r) (r1 : r < 2) : ∃ (t : Addr) (m : Mv), atI [V.ref t1, .ref t2] r = some (.ref t) ∧ Tm H t m ∧ Cn d m := by
  have : r = 0 ∨ r = 1 := by omega
  rcases this with rfl | rfl
  · exact ⟨t1, m1, rfl, h1, c1⟩
  · exact ⟨t2, m2, rfl, h2, c2⟩
end
section
/-! ### == of two lists of the same objects -/
theorem vals_refs : ∀ {rs : List Addr} {its : List Value}, Vals (rs.map V.ref) its → its = rs.map Value.ref
  | [], _, h => by cases h; rfl
  | a :: r, _, h => by
    cases h with
    | cons h1 h2 =>
      have e1 : _ = Value.ref a := h1
      rw [e1, vals_refs h2]
      rfl
theorem eqP_self {prog : Program} {w : World} {A : Around} {s : Shared} (a : Addr) : SeqAt.EqP prog w A s (.ref a) (.ref a) true := fun E Q hq => by
  unfold eqBool
  refine wpAny_holding ?_
  exact wpAny_ite_split (fun _ => wpAny_bind (wpAny_rule (wpAny_pure hq))) (fun z => absurd (beq_self_eq_true _) z)
theorem op_eq_sameL {X : Cx} (hu : X.A.units < cLine) : OpR X (compareOp .Eq) (fun x y H Q => ∃ (p q : Addr) (rs : List Addr), x = .ref p ∧ y = .ref q ∧ SqL X.K H p (rs.map V.ref) ∧ SqL X.K H q (rs.map V.ref) ∧ Q (.bl true) H) := by
  intro pins s σ H x y v u Q I rx ry h
  obtain ⟨p, q, rs, rfl, rfl, hp, hq, hQ⟩ := h
  cases rx
  cases ry
  obtain ⟨its, r1, l1, _⟩ := I.list hp
  obtain ⟨its2, r2, l2, _⟩ := I.list hq
  have e1 := vals_refs r1
  have e2 := vals_refs r2
  subst e1 e2
  refine SeqAt.rcP_lists (e := fun _ => true) l1.isList l2.isList rfl hu (fun j h1 h2 => ?_) _ _ ?_
  · have hj : j < rs.length := by simpa using h1
    have e : ((rs.map Value.ref).toArray)[j] = Value.ref rs[j] := by simp
    rw [e]
    exact eqP_self _
  · refine ⟨.bl true, H, I, ?_, hQ⟩
    show Value.bool _ = Value.bool true
    congr 1
    simp
/-! ### rows of moves -/
def FitAll (ms : List Mv) (k : Nat) : Prop := ∀ m ∈ ms, m.Fit k
def led (d : List Nat) (ms : List Mv) : Option (List Nat) := ms.foldl (fun o m => o.bind fun x => mkMv x m) (some d)
theorem led_take {d : List Nat} {ms : List Mv} {i : Nat} {m : Mv} (h : ms[i]? = some m) : led d (ms.take (i + 1)) = (led d (ms.take i)).bind fun x => mkMv x m := by
  unfold led
  rw [List.take_add_one, h, List.foldl_append]
  rfl
theorem led_none (ms : List Mv) : ms.foldl (fun o m => o.bind fun x => mkMv x m) none = none := by
  induction ms with
  | nil => rfl
  | cons m r ih => exact ih
theorem led_stop {d : List Nat} {ms : List Mv} {i : Nat} (h : led d (ms.take i) = none) : led d ms = none := by
  have : led d ms = (ms.drop i).foldl (fun o m => o.bind fun x => mkMv x m) (led d (ms.take i)) := by
    unfold led
    rw [← List.foldl_append, List.take_append_drop]
  rw [this, h]
  exact led_none _
theorem mkMv_len {d x : List Nat} {m : Mv} {k : Nat} (f : m.Fit k) (h : mkMv d m = some x) : x.length ≤ d.length + k := by
  obtain ⟨_, _, rfl⟩ := mkMv_inv h
  exact doMv_len f
/-- items that stand for moves -/
def Mi (H : Hp) (k : Nat) (y : V) : Prop := ∃ (r : Addr) (m : Mv), y = .ref r ∧ Tm H r m ∧ m.Fit k
def Ml (H : Hp) (p : Addr) (k n : Nat) : Prop := ∃ xs, H p = some (.lst xs) ∧ xs.length ≤ n ∧ ∀ y ∈ xs, Mi H k y
theorem Mi.same {H H' : Hp} {k : Nat} {y : V} (h : Mi H k y) (s : Same H H') : Mi H' k y := by
  obtain ⟨r, m, e, t, f⟩ := h
  exact ⟨r, m, e, t.same s, f⟩
theorem Mi.but {H H' : Hp} {a : Addr} {k : Nat} {y : V} (h : Mi H k y) (s : But a H H') (tp : Tape H a) : Mi H' k y := by
  obtain ⟨r, m, e, t, f⟩ := h
  exact ⟨r, m, e, t.but s tp, f⟩
theorem Mi.mono {H : Hp} {k k' : Nat} {y : V} (h : Mi H k y) (l : k ≤ k') : Mi H k' y := by
  obtain ⟨r, m, e, t, f⟩ := h
  exact ⟨r, m, e, t, f.mono l⟩
theorem Ml.same {H H' : Hp} {p : Addr} {k n : Nat} (h : Ml H p k n) (s : Same H H') : Ml H' p k n := by
  obtain ⟨xs, e, z, a⟩ := h
  exact ⟨xs, s _ _ e, z, fun y hy => (a y hy).same s⟩
theorem Ml.tape {H H' : Hp} {a p : Addr} {k n : Nat} (h : Ml H p k n) (s : But a H H') (ne : p ≠ a) (tp : Tape H a) : Ml H' p k n := by
  obtain ⟨xs, e, z, al⟩ := h
  exact ⟨xs, s _ _ ne e, z, fun y hy => (al y hy).but s tp⟩
theorem Ml.tl {H : Hp} {p : Addr} {k n : Nat} (h : Ml H p k n) : ∃ ms : List Mv, Tl H p (ms.map Mv.vs) ∧ FitAll ms k ∧ ms.length ≤ n := by
  obtain ⟨xs, e, z, al⟩ := h
  suffices h : ∀ xs : List V, (∀ y ∈ xs, Mi H k y) → ∃ (rs : List Addr) (ms : List Mv), xs = rs.map V.ref ∧ rs.length = ms.length ∧ FitAll ms k ∧ ∀ (i : Nat) (r : Addr) (m : Mv), rs[i]? = some r → ms[i]? = some m → Tm H r m by
    obtain ⟨rs, ms, rfl, lz, fa, pw⟩ := h xs al
    refine ⟨ms, ⟨rs, e, by rw [List.length_map]; exact lz, fun i r d hr hd => ?_⟩, fa, by rw [← lz]; rw [List.length_map] at z; exact z⟩
    rw [List.getElem?_map] at hd
    cases hm : ms[i]? with
    | none => rw [hm] at hd; cases hd
    | some m =>
      rw [hm] at hd
      cases hd
      exact pw i r m hr hm
  intro xs
  induction xs with
  | nil => intro _; exact ⟨[], [], rfl, rfl, (fun m hm => by cases hm), fun i r m hr _ => by cases hr⟩
  | cons x r ih =>
    intro al
    obtain ⟨rs, ms, rfl, lz, fa, pw⟩ := ih fun y hy => al y (List.mem_cons_of_mem _ hy)
    obtain ⟨a, m, rfl, t, f⟩ := al x List.mem_cons_self
    refine ⟨a :: rs, m :: ms, rfl, by rw [List.length_cons, List.length_cons, lz], fun y hy => ?_, fun i r' m' hr hm => ?_⟩
    · rcases List.mem_cons.mp hy with rfl | hy
      · exact f
      · exact fa y hy
    · cases i with
      | zero => cases hr; cases hm; exact t
      | succ i => exact pw i r' m' hr hm
theorem Tl.ml {H : Hp} {p : Addr} {ms : List Mv} {k n : Nat} (h : Tl H p (ms.map Mv.vs)) (f : FitAll ms k) (z : ms.length ≤ n) : Ml H p k n := by
  obtain ⟨rs, e, lz, pw⟩ := h
  rw [List.length_map] at lz
  refine ⟨_, e, by rw [List.length_map, lz]; exact z, fun y hy => ?_⟩
  obtain ⟨i, hi, rfl⟩ := List.getElem_of_mem hy
  rw [List.length_map] at hi
  have hm : i < ms.length := by omega
  refine ⟨rs[i], ms[i], by rw [List.getElem_map], pw i _ _ (List.getElem?_eq_getElem hi) (by rw [List.getElem?_map, List.getElem?_eq_getElem hm]; rfl), f _ (List.getElem_mem hm)⟩
theorem cutV_mem {xs : List V} {lo hi : Option Int} {y : V} (h : y ∈ cutV xs lo hi) : y ∈ xs := List.mem_of_mem_drop (List.mem_of_mem_take h)
def spLeads : Sp := fun vs H Q _ => ∃ (o e : List Nat) (p : Addr) (ms : List Mv), vs = [.str (S o), .ref p, .str (S e)] ∧ Tl H p (ms.map Mv.vs) ∧ FitAll ms 200 ∧ ms.length ≤ 1000 ∧ o.length ≤ 1000 ∧ ∀ H', Same H H' → Q (.bl (decide (led o ms = some e))) H'
def spRow : Sp := fun vs H Q _ => ∃ (o e : List Nat) (p : Addr), vs = [.str (S o), .ref p, .str (S e)] ∧ Ml H p 200 1000 ∧ o.length ≤ 1000 ∧ ∀ H', Same H H' → Q (.bl true) H'
def spMoves : Sp := fun vs H Q _ => ∃ (a : Addr) (d : List Nat) (n : Int), vs = [.ref a, .str (S d), .int n] ∧ Tape H a ∧ d.length ≤ 40 ∧ 0 ≤ n ∧ n ≤ 100 ∧ ∀ (t p : Addr) (ms : List Mv) (x : List Nat) H', But a H H' → Tape H' a → H p = none → H' t = some (.tup [.ref p, .str (S x)]) → Tl H' p (ms.map Mv.vs) → FitAll ms 6 → (ms.length : Int) ≤ n → led d ms = some x → x.length ≤ 100 → Q (.ref t) H'
def spChanged : Sp := fun vs H Q _ => ∃ (a p : Addr) (k n : Nat), vs = [.ref a, .ref p] ∧ Tape H a ∧ p ≠ a ∧ Ml H p k n ∧ n ≤ 1000 ∧ 20 ≤ k ∧ k ≤ 1000 ∧ ∀ (p' : Addr) H', But a H H' → Tape H' a → p' ≠ a → Ml H' p' (2 * k) (3 * n + 1) → Q (.ref p') H'
def spPlain : Sp := fun vs H Q _ => ∃ (o : List Nat) (t : Addr) (m : Mv), vs = [.str (S o), .ref t] ∧ Tm H t m ∧ m.Fit 200 ∧ o.length ≤ 1000 ∧ (∀ H', Same H H' → Q .non H') ∧ ∀ x H', Same H H' → Q (.str (S x)) H'
def spSingle : Sp := fun vs H Q _ => ∃ (o : List Nat) (t : Addr) (m : Mv), vs = [.str (S o), .ref t] ∧ Tm H t m ∧ m.Fit 200 ∧ o.length ≤ 1000 ∧ ∀ H', Same H H' → Q (.bl true) H'
end
section
variable {P : Program} {w : World} {K : PySem.W.Frag} {mg : Str → Option Value} {base : Heap} {f : Addr} {fd : FuncData}
theorem ok_law_is_move (F : Fun K "_law_is_move" "_law_is_move" s_law_is_move f fd)   : FnOk P w K mg base CX0 1 f fd ["move"] spIsMove := by
  refine F.ok sc_law_is_move (fun vs H Q E h => ?_) (fun cdv A outer s H vs Q E hr h => ?_)
  · obtain ⟨t, m, rfl, hT, hf, q⟩ := h
    rfl
  obtain ⟨t, m, rfl, hT, hf, q⟩ := h
  refine ⟨_, (pss_cons (ps_asg (pv 0) (pg_tup (by rfl) (pgs_cons (pg_name (i := 1) sc_law_is_move.nd rfl (.inl rfl)) (pgs_cons (pg_name (i := 2) sc_law_is_move.nd rfl (.inl rfl)) (pgs_cons (pg_name (i := 3) sc_law_is_move.nd rfl (.inl rfl)) pgs_nil)))))
    (pss_cons (ps_if (pt_cmpR op_eq (pe_cmpR op_eq (pv 2) pe_str (nomark _)) (pe_cmpR op_eq (pv 3) pe_str (nomark _)) (nomark _)) (pss_one (ps_ret pe_bl)) pss_nil)
    (pss_one (ps_ret (pe_or (pe_cmpR op_in_seq (pe_op op_add_str (pv 2) (pv 3)) (pe_tup (pa_cons pe_str (pa_cons pe_str (pa_cons pe_str (pa_cons pe_str pa_nil))))) (by rfl)) (pe_one (pe_and (pe_cmpR op_eq (pv 1) pe_int (nomark _)) (pe_one (pe_cmpR op_eq (pe_op op_add_str (pv 2) (pv 3)) pe_str (nomark _)))))))))), ?_⟩
  have z1 := hf.o
  have z2 := hf.n
  have sz : (S m.o).length + (S m.n).length ≤ sizeLine := by rw [S_len, S_len]; exact fits (by omega)
  have ee : ∀ l : List Nat, (decide (V.str (S l) = V.str "")) = decide (l = []) := fun l => by rw [e_empty]; exact decide_eq_decide.mpr tx_iff
  refine ⟨_, rfl, t, _, rfl, SqT.of hT, rfl, _, _, rfl, _, _, rfl, _, _, rfl, rfl, ?_⟩
  refine ⟨_, rfl, rfl, _, rfl, rfl, rfl, _, rfl, ?_⟩
  rw [ee, ee]
  refine ite2 (fun c => ?_) (fun c => ?_)
  · have c' : decide (m.o = []) = decide (m.n = []) := V.bl.inj (of_decide_eq_true c)
    have e : isMv m = false := by unfold isMv; rw [c', bne_self_eq_false, Bool.false_and]
    have := q H (Same.refl H)
    rw [e] at this
    exact this
  · have c' : decide (m.o = []) ≠ decide (m.n = []) := fun z => c (decide_eq_true (congrArg V.bl z))
    have e : isMv m = (decide (m.o ++ m.n ∈ wds) || (decide (m.pl = 0) && decide (m.o ++ m.n = wF))) := by unfold isMv; rw [bne_iff_ne.mpr c', Bool.true_and]
    rw [e] at q
    refine ⟨_, rfl, _, rfl, _, _, rfl, rfl, sz, fits (by decide), fun p hp => ⟨p, _, rfl, .inr (SqT.of upd_same), rfl, rfl, ?_⟩⟩
    rw [four_words, S_app]
    refine ⟨_, rfl, ?_⟩
    rw [show (if false = true then !(inV (V.str (S (m.o ++ m.n))) (wds.map tx)) else inV (V.str (S (m.o ++ m.n))) (wds.map tx)) = decide (m.o ++ m.n ∈ wds) from inV_strs _ _]
    have q1 := fun o => q _ (same_new hp o)
    refine ite2 (fun c1 => ?_) (fun c1 => ?_)
    · rw [c1, Bool.true_or] at q1
      exact q1 _
    · rw [Bool.not_eq_true] at c1
      rw [c1, Bool.false_or] at q1
      refine ⟨_, rfl, rfl, _, rfl, ite2 (fun c2 => ?_) (fun c2 => ?_)⟩
      · have k2 : m.pl = 0 := V.int.inj (of_decide_eq_true c2)
        rw [decide_eq_true k2, Bool.true_and] at q1
        refine ⟨_, rfl, _, rfl, _, _, rfl, rfl, sz, rfl, ?_⟩
        rw [S_app, e_RTR, show decide (V.str (S (m.o ++ m.n)) = V.str (S wF)) = decide (m.o ++ m.n = wF) from decide_eq_decide.mpr tx_iff]
        exact q1 _
      · have k2 : ¬ m.pl = 0 := fun z => c2 (decide_eq_true (congrArg V.int z))
        rw [decide_eq_false k2, Bool.false_and] at q1
        exact q1 _
end
section
variable {P : Program} {w : World} {K : PySem.W.Frag} {mg : Str → Option Value} {base : Heap} {f : Addr} {fd : FuncData}
theorem ok_is_move (F : Fun K "is_move" "is_move" s_is_move f fd)  {dW : Addr} {tF : Tok} (gW : mg "WORDS" = some (.ref dW)) (hW : ∀ H, SqT K H dW (wds.map tx)) (gF : mg "WORD_IN_FRONT" = some (.str "RTR" tF)) : FnOk P w K mg base CX0 1 f fd ["move"] spIsMove := by
  refine F.ok sc_is_move (fun vs H Q E h => ?_) (fun cdv A outer s H vs Q E hr h => ?_)
  · obtain ⟨t, m, rfl, hT, hf, q⟩ := h
    rfl
  obtain ⟨t, m, rfl, hT, hf, q⟩ := h
  refine ⟨_, (pss_cons (ps_asg (pv 0) (pg_tup (by rfl) (pgs_cons (pg_name (i := 1) sc_is_move.nd rfl (.inl rfl)) (pgs_cons (pg_name (i := 2) sc_is_move.nd rfl (.inl rfl)) (pgs_cons (pg_name (i := 3) sc_is_move.nd rfl (.inl rfl)) pgs_nil)))))
    (pss_cons (ps_if (PW.pt (pw_and (pt_cmpR op_ne (pv 2) pe_str (nomark _)) (pw_and1 (pt_cmpR op_ne (pv 3) pe_str (nomark _))))) (pss_one (ps_ret pe_bl)) pss_nil)
    (pss_cons (ps_set (i := 4) sc_is_move.nd rfl (.inl rfl) (pe_op op_add_str (pv 2) (pv 3)))
    (pss_one (ps_ret (pe_or (pe_cmpR op_in_seq (pv 4) (pe_glob (v := .ref dW) rfl gW rfl) (by rfl)) (pe_one (pe_and (pe_cmpR op_eq (pv 1) pe_int (nomark _)) (pe_one (pe_cmpR op_eq (pv 4) (pe_glob (v := .str "RTR") rfl gF ⟨_, rfl⟩) (nomark _))))))))))), ?_⟩
  have z1 := hf.o
  have z2 := hf.n
  have sz : (S m.o).length + (S m.n).length ≤ sizeLine := by rw [S_len, S_len]; exact fits (by omega)
  have ee : ∀ l : List Nat, (decide (V.str (S l) = V.str "")) = decide (l = []) := fun l => by rw [e_empty]; exact decide_eq_decide.mpr tx_iff
  have q1 := q H (Same.refl H)
  have rest : m.o = [] ∨ m.n = [] → (isMv m = (decide (m.o ++ m.n ∈ wds) || (decide (m.pl = 0) && decide (m.o ++ m.n = wF)))) := fun h => by
    unfold isMv
    by_cases h1 : m.o = [] <;> by_cases h2 : m.n = []
    · rw [h1, h2]
      rw [show decide (([] : List Nat) ++ [] ∈ wds) = false by decide, show decide (([] : List Nat) ++ [] = wF) = false by decide]
      simp
    · rw [decide_eq_true h1, decide_eq_false h2]; simp
    · rw [decide_eq_true h2, decide_eq_false h1]; simp
    · exact (h.elim h1 h2).elim
  refine ⟨_, rfl, t, _, rfl, SqT.of hT, rfl, _, _, rfl, _, _, rfl, _, _, rfl, rfl, ?_⟩
  refine ⟨_, rfl, rfl, _, rfl, ?_⟩
  rw [ee]
  refine ite2 (fun c => ?A) (fun c => iteF ?B)
  case' A =>
    refine ⟨_, rfl, rfl, _, rfl, ?_⟩
    rw [ee]
    refine ite2 (fun c2 => ?D) (fun c2 => ?C)
  case D =>
    have n1 : ¬ m.o = [] := by simpa using c
    have n2 : ¬ m.n = [] := by simpa using c2
    have e : isMv m = false := by unfold isMv; rw [decide_eq_false n1, decide_eq_false n2]; rfl
    rw [e] at q1
    exact q1
  all_goals
    have hh : m.o = [] ∨ m.n = [] := by first | exact .inr (by simpa using c2) | exact .inl (by simpa using c)
    rw [rest hh] at q1
    refine ⟨_, rfl, _, rfl, _, _, rfl, rfl, sz, ?_⟩
    refine ⟨_, rfl, dW, _, rfl, .inr (hW H), rfl, flat_strs _, ?_⟩
    rw [S_app]
    refine ⟨_, rfl, ?_⟩
    rw [show (if false = true then !(inV (V.str (S (m.o ++ m.n))) (wds.map tx)) else inV (V.str (S (m.o ++ m.n))) (wds.map tx)) = decide (m.o ++ m.n ∈ wds) from inV_strs _ _]
    refine ite2 (fun c1 => ?_) (fun c1 => ?_)
    · rw [c1, Bool.true_or] at q1
      exact q1
    · rw [Bool.not_eq_true] at c1
      rw [c1, Bool.false_or] at q1
      refine ⟨_, rfl, rfl, _, rfl, ite2 (fun c2 => ?_) (fun c2 => ?_)⟩
      · have k2 : m.pl = 0 := V.int.inj (of_decide_eq_true c2)
        rw [decide_eq_true k2, Bool.true_and] at q1
        refine ⟨_, rfl, rfl, ?_⟩
        rw [e_RTR, show decide (V.str (S (m.o ++ m.n)) = V.str (S wF)) = decide (m.o ++ m.n = wF) from decide_eq_decide.mpr tx_iff]
        exact q1
      · have k2 : ¬ m.pl = 0 := fun z => c2 (decide_eq_true (congrArg V.int z))
        rw [decide_eq_false k2, Bool.false_and] at q1
        exact q1
end
section
variable {P : Program} {w : World} {K : PySem.W.Frag} {mg : Str → Option Value} {base : Heap} {f : Addr} {fd : FuncData}
theorem ok_law_made (F : Fun K "_law_made" "_law_made" s_law_made f fd) (D_law_is_move : Dfn P w K mg base "_law_is_move" 1 ["move"] spIsMove) (y_len : mg "len" = none)  : FnOk P w K mg base CX0 2 f fd ["dance", "move"] spLawMade := by
  refine F.ok sc_law_made (fun vs H Q E h => ?_) (fun cdv A outer s H vs Q E hr h => ?_)
  · obtain ⟨d, t, m, rfl, hT, hf, hd, q⟩ := h
    rfl
  obtain ⟨d, t, m, rfl, hT, hf, hd, q⟩ := h
  refine ⟨_, (pss_cons (ps_asg (pv 1) (pg_tup (by rfl) (pgs_cons (pg_name (i := 2) sc_law_made.nd rfl (.inl rfl)) (pgs_cons (pg_name (i := 3) sc_law_made.nd rfl (.inl rfl)) (pgs_cons (pg_name (i := 4) sc_law_made.nd rfl (.inl rfl)) pgs_nil)))))
    (pss_cons (ps_if (PW.pt (pw_or (pt_not (pt_val (pe_do D_law_is_move hr (pa_cons (pv 1) pa_nil)))) (pw_or (pt_cmpR op_lt (pv 2) pe_int (nomark _)) (pw_or1 (pt_cmpR op_gt (pv 2) (pe_callB call_len_str rfl y_len PySem.boot_len (pa_cons (pv 0) pa_nil)) (nomark _)))))) (pss_one (ps_ret pe_non)) pss_nil)
    (pss_cons (ps_if (pt_cmpR op_ne (pe_slice sl_str (pv 0) (po_some (pv 2)) (po_some (pe_op op_add (pv 2) (pe_callB call_len_str rfl y_len PySem.boot_len (pa_cons (pv 3) pa_nil))))) (pv 3) (nomark _)) (pss_one (ps_ret pe_non)) pss_nil)
    (pss_one (ps_ret (pe_op op_add_str (pe_op op_add_str (pe_slice sl_str (pv 0) po_none (po_some (pv 2))) (pv 4)) (pe_slice sl_str (pv 0) (po_some (pe_op op_add (pv 2) (pe_callB call_len_str rfl y_len PySem.boot_len (pa_cons (pv 3) pa_nil)))) po_none))))))), ?_⟩
  have z1 := hf.o
  have z2 := hf.n
  refine ⟨_, rfl, t, _, rfl, SqT.of hT, rfl, _, _, rfl, _, _, rfl, _, _, rfl, rfl, ?_⟩
  refine ⟨_, rfl, t, m, rfl, hT, hf, fun H1 s1 => ?_⟩
  have q1 := q H1 s1
  refine ⟨_, rfl, ?_⟩
  cases e : isMv m with
  | false =>
    rw [mkMv_not e] at q1
    exact iteT q1
  | true =>
    refine iteF ?_
    refine ⟨_, rfl, _, _, rfl, rfl, _, rfl, ite2 (fun c1 => ?_) (fun c1 => ?_)⟩
    · have k1 : m.pl < 0 := of_decide_eq_true c1
      have ec : canMv d m = false := by unfold canMv; rw [decide_eq_false (by omega), Bool.false_and]
      rw [mkMv_cannot ec] at q1
      exact iteT q1
    have k1 : 0 ≤ m.pl := by
      have : ¬ m.pl < 0 := fun z => c1 (decide_eq_true z)
      omega
    refine ⟨_, rfl, _, rfl, _, rfl, by rw [S_len]; exact fits (by omega), _, _, rfl, rfl, _, rfl, ?_⟩
    rw [S_len]
    refine ite2 (fun c2 => ?_) (fun c2 => ?_)
    · have k2 : (d.length : Int) < m.pl := of_decide_eq_true c2
      have ec : canMv d m = false := by unfold canMv; rw [decide_eq_false (show ¬ m.pl ≤ d.length by omega), Bool.false_and, Bool.and_false]
      rw [mkMv_cannot ec] at q1
      exact q1
    have k2 : m.pl ≤ d.length := by
      have : ¬ (d.length : Int) < m.pl := fun z => c2 (decide_eq_true z)
      omega
    refine ⟨_, rfl, _, rfl, _, rfl, _, rfl, _, rfl, _, rfl, by rw [S_len]; exact fits (by omega), _, _, rfl, rfl, _, rfl, _, rfl, by rw [S_len]; exact fits (by omega), ?_⟩
    rw [S_len, S_mid d k1]
    refine ⟨_, rfl, rfl, _, rfl, ?_⟩
    rw [show decide (V.str (S ((d.drop m.pl.toNat).take m.o.length)) = V.str (S m.o)) = decide ((d.drop m.pl.toNat).take m.o.length = m.o) from decide_eq_decide.mpr tx_iff]
    refine ite2 (fun c3 => ?_) (fun c3 => ?_)
    · have k3 : ¬ (d.drop m.pl.toNat).take m.o.length = m.o := by simpa using c3
      have ec : canMv d m = false := by unfold canMv; rw [decide_eq_false k3, Bool.and_false, Bool.and_false]
      rw [mkMv_cannot ec] at q1
      exact q1
    · have k3 : (d.drop m.pl.toNat).take m.o.length = m.o := by simpa using c3
      have ec : canMv d m = true := by unfold canMv; rw [decide_eq_true k1, decide_eq_true k2, decide_eq_true k3]; rfl
      rw [mkMv_some e ec] at q1
      refine ⟨_, rfl, _, rfl, _, rfl, _, rfl, by rw [S_len]; exact fits (by omega), ?_⟩
      rw [S_take d k1]
      refine ⟨_, rfl, _, _, rfl, rfl, ?_, ?_⟩
      · rw [S_len, S_len, List.length_take]; exact fits (by omega)
      refine ⟨_, rfl, _, rfl, _, rfl, _, rfl, by rw [S_len]; exact fits (by omega), _, _, rfl, rfl, _, rfl, _, rfl, by rw [S_len]; exact fits (by omega), ?_⟩
      rw [S_len, S_app, S_drop d (show 0 ≤ m.pl + (m.o.length : Int) by omega), show (m.pl + (m.o.length : Int)).toNat = m.pl.toNat + m.o.length by omega]
      refine ⟨_, _, rfl, rfl, ?_, ?_⟩
      · rw [S_len, S_len, List.length_append, List.length_take, List.length_drop]; exact fits (by omega)
      rw [S_app]
      exact q1
end
section
variable {P : Program} {w : World} {K : PySem.W.Frag} {mg : Str → Option Value} {base : Heap} {f : Addr} {fd : FuncData}
theorem ok_law_put (F : Fun K "_law_put" "_law_put" s_law_put f fd) (D_take : Dfn P w K mg base "_law_take" 1 ["tape", "many"] spTake) (y_len : mg "len" = none)  : FnOk P w K mg base CX0 2 f fd ["tape", "dance"] spPut := by
  refine F.ok sc_law_put (fun vs H Q E h => ?_) (fun cdv A outer s H vs Q E hr h => ?_)
  · obtain ⟨a, d, rfl, hT, hd, q⟩ := h
    rfl
  obtain ⟨a, d, rfl, hT, hd, q⟩ := h
  refine ⟨_, (pss_cons (ps_set (i := 2) sc_law_put.nd rfl (.inl rfl) (pe_ix ix_list (pe_lst (pa_cons pe_str (pa_cons pe_str (pa_cons pe_str (pa_cons pe_str (pa_cons pe_str (pa_cons pe_str pa_nil))))))) (pe_do D_take hr (pa_cons (pv 0) (pa_cons pe_int pa_nil))) (fun _ _ => rfl)))
    (pss_cons (ps_set (i := 3) sc_law_put.nd rfl (.inl rfl) (pe_do D_take hr (pa_cons (pv 0) (pa_cons (pe_op op_add (pe_callB call_len_str rfl y_len PySem.boot_len (pa_cons (pv 1) pa_nil)) pe_int) pa_nil))))
    (pss_cons (ps_if (pt_cmpR op_eq (pv 2) pe_str (nomark _)) (pss_one (ps_set (i := 3) sc_law_put.nd rfl (.inl rfl) pe_int)) pss_nil)
    (pss_one (ps_ret (pe_tup (pa_cons (pv 3) (pa_cons pe_str (pa_cons (pv 2) pa_nil))))))))), ?_⟩
  refine ⟨fits (by decide), fun p hp => ?_⟩
  have np := hT.ne hp
  refine ⟨_, rfl, a, 6, rfl, hT.same (same_new hp _), by decide, by decide, fun r H1 r0 r1 b1 t1 => ?_⟩
  rw [e_TU, e_UT, e_RR, e_six, e_RTR] at *
  obtain ⟨u, hu, hm⟩ := pick_strs (ws := [[84, 85], [85, 84], [82, 82], [82, 82], [84, 82, 84, 82, 84, 82], wF]) r0 r1
  refine ⟨p, _, _, _, rfl, rfl, SqL.of (b1 _ _ np upd_same), hu, ?_⟩
  have B1 : But a H H1 := (But.of (same_new hp _)).trans b1
  refine ⟨_, rfl, _, rfl, _, rfl, by rw [S_len]; exact fits (by omega), _, _, rfl, rfl, a, _, rfl, t1, by rw [S_len]; omega, by rw [S_len]; omega, fun r2 H2 r20 r21 b2 t2 => ?_⟩
  rw [S_len] at r21
  have B2 := B1.trans b2
  have s3 : 3 ≤ sizeLine := fits (by decide)
  refine ⟨_, rfl, rfl, _, rfl, ite2 (fun c1 => ?_) (fun c1 => ?_)⟩
  · have k1 : u = wF := tx_inj (of_decide_eq_true c1)
    subst k1
    refine ⟨_, rfl, _, rfl, s3, fun t ht => q t ⟨0, [], wF⟩ _ (Cn.putF d) rfl (B2.trans (But.of (same_new ht _))) (t2.same (same_new ht _)) ?_⟩
    unfold Tm Mv.vs
    rw [upd_same, e_empty]
  · have k1 : ¬ u = wF := fun z => c1 (decide_eq_true (by rw [z]))
    have hw : u ∈ wds := by
      simp only [List.mem_cons, List.not_mem_nil, or_false] at hm
      rcases hm with h | h | h | h | h | h
      · rw [h]; decide
      · rw [h]; decide
      · rw [h]; decide
      · rw [h]; decide
      · rw [h]; decide
      · exact (k1 h).elim
    refine ⟨_, rfl, _, rfl, s3, fun t ht => q t ⟨r2, [], u⟩ _ (Cn.put hw r20 (by omega)) rfl (B2.trans (But.of (same_new ht _))) (t2.same (same_new ht _)) ?_⟩
    unfold Tm Mv.vs
    rw [upd_same, e_empty]
end
section
variable {P : Program} {w : World} {K : PySem.W.Frag} {mg : Str → Option Value} {base : Heap} {f : Addr} {fd : FuncData}
theorem ok_law_taken (F : Fun K "_law_taken" "_law_taken" s_law_taken f fd) (D_law_put : Dfn P w K mg base "_law_put" 2 ["tape", "dance"] spPut) (D_take : Dfn P w K mg base "_law_take" 2 ["tape", "many"] spTake) (y_range : mg "range" = none) (y_len : mg "len" = none)  : FnOk P w K mg base CX0 3 f fd ["tape", "dance"] spTaken := by
  refine F.ok sc_law_taken (fun vs H Q E h => ?_) (fun cdv A outer s H vs Q E hr h => ?_)
  · obtain ⟨a, d, rfl, hT, hd, q⟩ := h
    rfl
  obtain ⟨a, d, rfl, hT, hd, q⟩ := h
  refine ⟨_, (pss_cons (ps_set (i := 2) sc_law_taken.nd rfl (.inl rfl) (pe_lst pa_nil))
    (pss_cons (ps_for PassesOwn.never rfl (pi_range1 rfl y_range (pa_cons (pe_callB call_len_str rfl y_len PySem.boot_len (pa_cons (pv 1) pa_nil)) pa_nil)) (pg_name (i := 3) sc_law_taken.nd rfl (.inl rfl))
    (pss_one (ps_for PassesOwn.never rfl (pi_list (pe_lst (pa_cons pe_str (pa_cons pe_str (pa_cons pe_str (pa_cons pe_str pa_nil)))))) (pg_name (i := 4) sc_law_taken.nd rfl (.inl rfl))
    (pss_one (ps_if (pt_cmpR op_eq (pe_slice sl_str (pv 1) (po_some (pv 3)) (po_some (pe_op op_add (pv 3) (pe_callB call_len_str rfl y_len PySem.boot_len (pa_cons (pv 4) pa_nil))))) (pv 4) (nomark _)) (pss_one (ps_expr (pe_bm PySem.F.plainAttrs_list PySem.F.slot_list_append PySem.F.type_list_append mt_append (pv 2) (pa_cons (pe_tup (pa_cons (pv 3) (pa_cons (pv 4) (pa_cons pe_str pa_nil)))) pa_nil)))) pss_nil)))))
    (pss_cons (ps_if (pt_cmpR op_eq (pe_slice sl_str (pv 1) po_none (po_some pe_int)) pe_str (nomark _)) (pss_one (ps_expr (pe_bm PySem.F.plainAttrs_list PySem.F.slot_list_append PySem.F.type_list_append mt_append (pv 2) (pa_cons (pe_tup (pa_cons pe_int (pa_cons pe_str (pa_cons pe_str pa_nil)))) pa_nil)))) pss_nil)
    (pss_cons (ps_if (pt_cmpR op_eq (pe_callB call_len_seq rfl y_len PySem.boot_len (pa_cons (pv 2) pa_nil)) pe_int (nomark _)) (pss_one (ps_ret (pe_do D_law_put hr (pa_cons (pv 0) (pa_cons (pv 1) pa_nil))))) pss_nil)
    (pss_one (ps_ret (pe_ix ix_list (pv 2) (pe_do D_take hr (pa_cons (pv 0) (pa_cons (pe_callB call_len_seq rfl y_len PySem.boot_len (pa_cons (pv 2) pa_nil)) pa_nil))) (fun _ _ => rfl)))))))), ?_⟩
  have s3 : 3 ≤ sizeLine := fits (by decide)
  refine ⟨fits (by decide), fun p hp => ?_⟩
  have np := hT.ne hp
  refine ⟨_, rfl, _, rfl, by rw [S_len]; exact fits (by omega), (d.length : Int), by rw [S_len], by omega, by omega, for_range (lo := 0) (n := (d.length : Int).toNat) (fun i σ H' => ∃ (x1 x2 : Option V) (ms : List Mv), σ = [some (.ref a), some (.str (S d)), some (.ref p), x1, x2] ∧ Same H H' ∧ Tl H' p (ms.map Mv.vs) ∧ (∀ m ∈ ms, Cn d m) ∧ ms.length ≤ 4 * i) ?_ ?_ ?_⟩
  · exact ⟨_, _, [], rfl, same_new hp _, Tl.nil upd_same, (fun m hm => by cases hm), Nat.zero_le _⟩
  · rintro i σ H1 hi ⟨x1, x2, ms, rfl, sm, tl, hms, hz⟩
    refine ⟨fits (by decide), fun lp hlp => ?_⟩
    have ne1 : lp ≠ p := by
      obtain ⟨xs, e, _⟩ := tl.lst
      exact (ne_of_none e hlp).symm
    refine ⟨lp, rfl, ⟨_, SqL.of upd_same⟩, for_list (K := K) (a := lp) (xs := wds.map tx) (fun j σ G => ∃ (x2 : Option V) (ms : List Mv), σ = [some (.ref a), some (.str (S d)), some (.ref p), some (.int (0 + (i : Int))), x2] ∧ Same H G ∧ G lp = some (.lst (wds.map tx)) ∧ Tl G p (ms.map Mv.vs) ∧ (∀ m ∈ ms, Cn d m) ∧ ms.length ≤ 4 * i + j) ?_ ?_ ?_ ?_⟩
    · refine ⟨_, ms, rfl, sm.trans (same_new hlp _), ?_, tl.same (same_new hlp _), hms, hz⟩
      rw [upd_same, four_words]
    · rintro j σ G _ ⟨x2, ms, _, _, hl, _⟩
      exact SqL.of hl
    · rintro j y σ G hj ⟨x2, ms, rfl, sg, hl, tl, hms, hz⟩
      rw [List.getElem?_map] at hj
      cases hu : wds[j]? with
      | none => rw [hu] at hj; cases hj
      | some u =>
        rw [hu] at hj
        cases hj
        have mu : u ∈ wds := List.mem_of_getElem? hu
        have lu := wds_len mu
        have hj4 : j < 4 := (List.getElem?_eq_some_iff.mp hu).1
        refine ⟨_, rfl, _, rfl, _, rfl, _, rfl, _, rfl, _, rfl, by rw [S_len]; exact fits (by omega), _, _, rfl, rfl, _, rfl, _, rfl, by rw [S_len]; exact fits (by omega), ?_⟩
        rw [S_len, S_mid d (show (0 : Int) ≤ 0 + (i : Int) by omega)]
        refine ⟨_, rfl, rfl, _, rfl, ite2 (fun c1 => ?_) (fun c1 => ?_)⟩
        · have k1 : (d.drop (0 + (i : Int)).toNat).take u.length = u := tx_inj (of_decide_eq_true c1)
          have cn : Cn d ⟨0 + (i : Int), u, []⟩ := Cn.take mu (by omega) (by omega) k1
          obtain ⟨xs0, e0, _⟩ := tl.lst
          refine ⟨_, rfl, .inl ⟨rfl, _, SqL.of e0⟩, _, rfl, _, rfl, s3, fun t ht => ?_⟩
          have ht1 : upd G t (.tup [.int (0 + (i : Int)), .str (S u), .str ""]) t = some (.tup (Mv.vs ⟨0 + (i : Int), u, []⟩)) := by rw [upd_same, e_empty]; rfl
          obtain ⟨xs, ex, lx, tl'⟩ := (tl.same (same_new ht _)).push ht1
          refine ⟨p, xs, _, rfl, rfl, ex, ?_, ?_⟩
          · rw [lx, List.length_map]; exact Nat.lt_of_lt_of_le (show ms.length < 16777216 by omega) sizeLine_big
          refine ⟨_, ms ++ [⟨0 + (i : Int), u, []⟩], rfl, fun b o hb => ?_, ?_, by rw [List.map_append]; exact tl', fun m hm => ?_, by rw [List.length_append]; show ms.length + 1 ≤ _; omega⟩
          · rw [upd_ne (ne_of_none hb hp), upd_ne (ne_of_none (sg _ _ hb) ht)]; exact sg _ _ hb
          · rw [upd_ne ne1, upd_ne (ne_of_none hl ht)]; exact hl
          · rcases List.mem_append.mp hm with hm | hm
            · exact hms m hm
            · rw [List.mem_singleton.mp hm]; exact cn
        · exact ⟨_, ms, rfl, sg, hl, tl, hms, by omega⟩
    · rintro σ G ⟨x2, ms, rfl, sg, hl, tl, hms, hz⟩
      exact ⟨_, _, ms, rfl, sg, tl, hms, by have : (wds.map tx).length = 4 := rfl; omega⟩
  · rintro σ H1 ⟨x1, x2, ms, rfl, sm, tl, hms, hz⟩
    rw [Int.toNat_natCast] at hz
    refine ⟨_, rfl, _, rfl, _, rfl, by rw [S_len]; exact fits (by omega), ?_⟩
    rw [S_take d (show (0 : Int) ≤ 3 by decide)]
    refine ⟨rfl, _, rfl, ?_⟩
    rw [e_RTR, show decide (V.str (S (List.take (Int.toNat 3) d)) = V.str (S wF)) = decide (d.take 3 = wF) from decide_eq_decide.mpr tx_iff]
    refine ite2 (fun c1 => ?A) (fun c1 => ?B)
    case' A =>
      have cn := Cn.takeF (of_decide_eq_true c1)
      obtain ⟨xs0, e0, _⟩ := tl.lst
      refine ⟨_, rfl, .inl ⟨rfl, _, SqL.of e0⟩, s3, fun t ht => ?_⟩
      have ht1 : upd H1 t (.tup [.int 0, .str "RTR", .str ""]) t = some (.tup (Mv.vs ⟨0, wF, []⟩)) := by rw [upd_same, e_empty, e_RTR]; rfl
      obtain ⟨xs, ex, lx, tl2⟩ := (tl.same (same_new ht _)).push ht1
      refine ⟨p, xs, _, rfl, rfl, ex, ?_, ?_⟩
      · rw [lx, List.length_map]; exact Nat.lt_of_lt_of_le (show ms.length < 16777216 by omega) sizeLine_big
      have sm' : Same H (upd (upd H1 t (.tup [.int 0, .str "RTR", .str ""])) p (.lst (xs ++ [.ref t]))) := fun b o hb => by
        rw [upd_ne (ne_of_none hb hp), upd_ne (ne_of_none (sm _ _ hb) ht)]; exact sm _ _ hb
      obtain ⟨ms', tl', hms', hz'⟩ : ∃ ms' : List Mv, Tl (upd (upd H1 t (.tup [.int 0, .str "RTR", .str ""])) p (.lst (xs ++ [.ref t]))) p (ms'.map Mv.vs) ∧ (∀ m ∈ ms', Cn d m) ∧ ms'.length ≤ 4 * d.length + 1 := by
        refine ⟨ms ++ [⟨0, wF, []⟩], by rw [List.map_append]; exact tl2, fun m hm => ?_, by rw [List.length_append]; show ms.length + 1 ≤ _; omega⟩
        rcases List.mem_append.mp hm with hm | hm
        · exact hms m hm
        · rw [List.mem_singleton.mp hm]; exact cn
    case' B =>
      have sm' := sm
      obtain ⟨ms', tl', hms', hz'⟩ : ∃ ms' : List Mv, Tl H1 p (ms'.map Mv.vs) ∧ (∀ m ∈ ms', Cn d m) ∧ ms'.length ≤ 4 * d.length + 1 := ⟨ms, tl, hms, by omega⟩
    all_goals
      have T2 := hT.same sm'
      obtain ⟨xs2, e2, l2⟩ := tl'.lst
      rw [List.length_map] at l2
      refine ⟨_, rfl, p, _, rfl, .inl (SqL.of e2), rfl, _, rfl, ite2 (fun c2 => ?_) (fun c2 => ?_)⟩
      · refine ⟨_, rfl, _, rfl, a, d, rfl, T2, hd, fun t m H3 cn _ b3 t3 tm => q t m H3 cn ((But.of sm').trans b3) t3 tm⟩
      · have k2 : ms'.length ≠ 0 := fun z => c2 (by rw [l2, z]; rfl)
        refine ⟨_, rfl, _, rfl, _, rfl, p, _, rfl, .inl (SqL.of e2), a, _, rfl, T2, by rw [l2]; omega, by rw [l2]; omega, fun r H3 r0 r1 b3 t3 => ?_⟩
        rw [l2] at r1
        have hlt : r.toNat < ms'.length := by omega
        have tl3 := tl'.tape b3 np T2
        obtain ⟨xs3, rr, e3, l3, at3, tup3⟩ := tl3.at (i := r.toNat) (d := Mv.vs ms'[r.toNat]) (by rw [List.getElem?_map, List.getElem?_eq_getElem hlt]; rfl)
        refine ⟨p, _, _, _, rfl, rfl, SqL.of e3, ?_, q rr _ H3 (hms' _ (List.getElem_mem hlt)) ((But.of sm').trans b3) t3 tup3⟩
        have := atI_nat (j := r.toNat) at3
        rw [Int.toNat_of_nonneg r0] at this
        exact this
end
section
variable {P : Program} {w : World} {K : PySem.W.Frag} {mg : Str → Option Value} {base : Heap} {f : Addr} {fd : FuncData}
theorem ok_near_word (F : Fun K "_law_near_word" "_law_near_word" s_law_near_word f fd) (D_take : Dfn P w K mg base "_law_take" 1 ["tape", "many"] spTake) (y_len : mg "len" = none) (y_range : mg "range" = none)  : FnOk P w K mg base CX0 2 f fd ["tape"] spNear := by
  refine F.ok sc_law_near_word (fun vs H Q E h => ?_) (fun cdv A outer s H vs Q E hr h => ?_)
  · obtain ⟨a, rfl, hT, q⟩ := h
    rfl
  obtain ⟨a, rfl, hT, q⟩ := h
  refine ⟨_, (pss_cons (ps_set (i := 1) sc_law_near_word.nd rfl (.inl rfl) (pe_ix ix_list (pe_lst (pa_cons pe_str (pa_cons pe_str (pa_cons pe_str (pa_cons pe_str (pa_cons pe_str pa_nil)))))) (pe_do D_take hr (pa_cons (pv 0) (pa_cons pe_int pa_nil))) (fun _ _ => rfl)))
    (pss_cons (ps_set (i := 2) sc_law_near_word.nd rfl (.inl rfl) (pe_do D_take hr (pa_cons (pv 0) (pa_cons (pe_op op_add (pe_callB call_len_str rfl y_len PySem.boot_len (pa_cons (pv 1) pa_nil)) pe_int) pa_nil))))
    (pss_cons (ps_set (i := 3) sc_law_near_word.nd rfl (.inl rfl) (pe_ix ix_str pe_str (pe_do D_take hr (pa_cons (pv 0) (pa_cons pe_int pa_nil))) (fun _ _ => rfl)))
    (pss_cons (ps_set (i := 4) sc_law_near_word.nd rfl (.inl rfl) (pe_do D_take hr (pa_cons (pv 0) (pa_cons pe_int pa_nil))))
    (pss_cons (ps_if (pt_cmpR op_eq (pv 4) pe_int (nomark _)) (pss_one (ps_ret (pe_op op_add_str (pe_op op_add_str (pe_slice sl_str (pv 1) po_none (po_some (pv 2))) (pv 3)) (pe_slice sl_str (pv 1) (po_some (pv 2)) po_none)))) pss_nil)
    (pss_cons (ps_if (pt_cmpR op_eq (pv 4) pe_int (nomark _)) (pss_one (ps_ret (pe_op op_add_str (pe_slice sl_str (pv 1) po_none (po_some (pv 2))) (pe_slice sl_str (pv 1) (po_some (pe_op op_add (pv 2) pe_int)) po_none)))) pss_nil)
    (pss_cons (ps_if (pt_cmpR op_eq (pv 4) pe_int (nomark _)) (pss_one (ps_ret (pe_op op_add_str (pe_op op_add_str (pe_slice sl_str (pv 1) po_none (po_some (pv 2))) (pv 3)) (pe_slice sl_str (pv 1) (po_some (pe_op op_add (pv 2) pe_int)) po_none)))) pss_nil)
    (pss_one (ps_ret (pe_join pe_str (pe_lc (own := [("k", 5)]) (g := (gName 5)) (tt := tYes) (by rfl) sc_law_near_word.nd (pi_range1 rfl y_range (pa_cons (pe_do D_take hr (pa_cons (pv 0) (pa_cons pe_int pa_nil))) pa_nil)) (blkOk_by (own := [("k", 5)]) (N := ["tape", "word", "spot", "letter", "choice", "k"]) (sc := defScope s_law_near_word) (by decide +kernel)) (fun _ _ _ _ _ => pg_name (i := 5) sc_law_near_word.nd rfl (Or.inl rfl)) (fun _ _ _ _ _ => pts_nil) (fun _ _ _ _ _ => (pe_ix ix_str pe_str (pe_do D_take hr (pa_cons (pv 0) (pa_cons pe_int pa_nil))) (fun _ _ => rfl)))))))))))))), ?_⟩
  refine ⟨fits (by decide), fun p hp => ?_⟩
  have np := hT.ne hp
  refine ⟨_, rfl, a, 5, rfl, hT.same (same_new hp _), by decide, by decide, fun r H1 r0 r1 b1 t1 => ?_⟩
  rw [e_TU, e_UT, e_RR, e_six, e_RTR] at *
  obtain ⟨u, hu, hm⟩ := pick_strs (ws := [[84, 85], [85, 84], [82, 82], [84, 82, 84, 82, 84, 82], wF]) r0 r1
  have hul : u.length ≤ 6 := by
    simp only [List.mem_cons, List.not_mem_nil, or_false] at hm
    rcases hm with rfl | rfl | rfl | rfl | rfl <;> decide
  refine ⟨p, _, _, _, rfl, rfl, SqL.of (b1 _ _ np upd_same), hu, ?_⟩
  have B1 : But a H H1 := (But.of (same_new hp _)).trans b1
  refine ⟨_, rfl, _, rfl, _, rfl, by rw [S_len]; exact fits (by omega), _, _, rfl, rfl, a, _, rfl, t1, by rw [S_len]; omega, by rw [S_len]; omega, fun r2 H2 r20 r21 b2 t2 => ?_⟩
  refine ⟨_, rfl, a, 6, rfl, t2, by decide, by decide, fun r3 H3 r30 r31 b3 t3 => ?_⟩
  obtain ⟨c, hc, _⟩ := pick_sign e_near r30 r31
  refine ⟨_, _, c, rfl, rfl, fits (by decide +kernel), hc, ?_⟩
  refine ⟨_, rfl, a, 4, rfl, t3, by decide, by decide, fun r4 H4 r40 r41 b4 t4 => ?_⟩
  have B4 := ((B1.trans b2).trans b3).trans b4
  have len2 : ∀ x : Nat, (u.take x).length ≤ 6 := fun x => by rw [List.length_take]; omega
  have len3 : ∀ x : Nat, (u.drop x).length ≤ 6 := fun x => by rw [List.length_drop]; omega
  have f6 : u.length ≤ sizeLine := fits (by omega)
  have fa : ∀ x y : List Nat, x.length ≤ 20 → y.length ≤ 20 → (S x).length + (S y).length ≤ sizeLine := fun x y h1 h2 => by rw [S_len, S_len]; exact fits (by omega)
  refine ⟨_, rfl, rfl, _, rfl, ite2 (fun c1 => ?_) (fun c1 => ?_)⟩
  · refine ⟨_, rfl, _, rfl, _, rfl, _, rfl, by rw [S_len]; exact f6, ?_⟩
    rw [S_take u r20]
    refine ⟨_, rfl, _, S [c], rfl, rfl, fa _ _ (Nat.le_trans (len2 _) (by decide)) (by show 1 ≤ 20; decide), ?_⟩
    rw [S_app]
    refine ⟨_, rfl, _, rfl, _, rfl, _, rfl, by rw [S_len]; exact f6, ?_⟩
    rw [S_drop u r20]
    refine ⟨_, _, rfl, rfl, fa _ _ (by rw [List.length_append]; have := len2 r2.toNat; show _ + 1 ≤ 20; omega) (Nat.le_trans (len3 _) (by decide)), ?_⟩
    rw [S_app]
    exact q _ H4 (by rw [List.length_append, List.length_append]; have := len2 r2.toNat; have := len3 r2.toNat; show _ + 1 + _ ≤ 20; omega) B4 t4
  refine ⟨_, rfl, rfl, _, rfl, ite2 (fun c2 => ?_) (fun c2 => ?_)⟩
  · refine ⟨_, rfl, _, rfl, _, rfl, _, rfl, by rw [S_len]; exact f6, ?_⟩
    rw [S_take u r20]
    refine ⟨_, rfl, _, rfl, _, _, rfl, rfl, _, rfl, _, rfl, by rw [S_len]; exact f6, ?_⟩
    rw [S_drop u (show 0 ≤ r2 + 1 by omega)]
    refine ⟨_, _, rfl, rfl, fa _ _ (Nat.le_trans (len2 _) (by decide)) (Nat.le_trans (len3 _) (by decide)), ?_⟩
    rw [S_app]
    exact q _ H4 (by rw [List.length_append]; have := len2 r2.toNat; have := len3 (r2 + 1).toNat; omega) B4 t4
  refine ⟨_, rfl, rfl, _, rfl, ite2 (fun c3 => ?_) (fun c3 => ?_)⟩
  · refine ⟨_, rfl, _, rfl, _, rfl, _, rfl, by rw [S_len]; exact f6, ?_⟩
    rw [S_take u r20]
    refine ⟨_, rfl, _, S [c], rfl, rfl, fa _ _ (Nat.le_trans (len2 _) (by decide)) (by show 1 ≤ 20; decide), ?_⟩
    rw [S_app]
    refine ⟨_, rfl, _, rfl, _, _, rfl, rfl, _, rfl, _, rfl, by rw [S_len]; exact f6, ?_⟩
    rw [S_drop u (show 0 ≤ r2 + 1 by omega)]
    refine ⟨_, _, rfl, rfl, fa _ _ (by rw [List.length_append]; have := len2 r2.toNat; show _ + 1 ≤ 20; omega) (Nat.le_trans (len3 _) (by decide)), ?_⟩
    rw [S_app]
    exact q _ H4 (by rw [List.length_append, List.length_append]; have := len2 r2.toNat; have := len3 (r2 + 1).toNat; show _ + 1 + _ ≤ 20; omega) B4 t4
  refine ⟨⟨_, rfl⟩, _, rfl, a, 8, rfl, t4, by decide, by decide, fun r5 H5 r50 r51 b5 t5 => ?_⟩
  refine ⟨r5, rfl, by omega, by omega, fun D' hD => ?_⟩
  have nD := t5.ne hD
  refine lc_range (lo := 0) (n := r5.toNat) (fun i G => ∃ l : List Nat, But a H5 G ∧ Tape G a ∧ G D' = some (.lst (l.map fun c => V.str (S [c]))) ∧ l.length = i) ?_ ?_ ?_
  · exact ⟨[], But.of (same_new hD _), t5.same (same_new hD _), upd_same, rfl⟩
  · rintro i G hi ⟨l, bt, tp, hG, hl⟩
    refine ⟨rfl, ?_⟩
    refine ⟨_, rfl, a, 3, rfl, tp, by decide, by decide, fun r6 H6 r60 r61 b6 t6 => ?_⟩
    obtain ⟨c, hc, _⟩ := pick_sign e_TUR r60 r61
    have hG6 := b6 _ _ nD hG
    refine ⟨_, _, c, rfl, rfl, fits (by decide +kernel), hc, _, hG6, ?_, l ++ [c], fun b o nb hb => ?_, ?_, ?_, by rw [List.length_append, hl]; rfl⟩
    · rw [List.length_map, hl]
      exact Nat.lt_of_lt_of_le (show i < 16777216 by omega) sizeLine_big
    · have h2 := b6 _ _ nb (bt _ _ nb hb)
      rw [upd_ne (ne_of_none hb hD)]
      exact h2
    · obtain ⟨y1, y2, y3, y4, e⟩ := t6
      exact ⟨y1, y2, y3, y4, by rw [upd_ne nD.symm]; exact e⟩
    · rw [upd_same, List.map_append]; rfl
  · rintro G ⟨l, bt, tp, hG, hl⟩
    refine ⟨S [], D', l.map fun c => S [c], e_empty ▸ rfl, rfl, .inl (SqL.of ?_), ?_, ?_⟩
    · rw [hG, List.map_map]; rfl
    · rw [sum_ones, S_len, List.length_map, hl]
      show r5.toNat + r5.toNat * 0 ≤ 16777216
      omega
    · rw [join_signs]
      exact q l G (by omega) ((B4.trans b5).trans bt) tp
end
section
variable {P : Program} {w : World} {K : PySem.W.Frag} {mg : Str → Option Value} {base : Heap} {f : Addr} {fd : FuncData}
theorem ok_odd_move (F : Fun K "_law_odd_move" "_law_odd_move" s_law_odd_move f fd) (D_take : Dfn P w K mg base "_law_take" 2 ["tape", "many"] spTake) (D_near_word : Dfn P w K mg base "_law_near_word" 2 ["tape"] spNear) (y_len : mg "len" = none)  : FnOk P w K mg base CX0 3 f fd ["tape", "move"] spOdd := by
  refine F.ok sc_law_odd_move (fun vs H Q E h => ?_) (fun cdv A outer s H vs Q E hr h => ?_)
  · obtain ⟨a, t0, m0, kk, rfl, hT, hm0, hf, kk0, kk1, q⟩ := h
    rfl
  obtain ⟨a, t0, m0, kk, rfl, hT, hm0, hf, kk0, kk1, q⟩ := h
  refine ⟨_, (pss_cons (ps_set (i := 2) sc_law_odd_move.nd rfl (.inl rfl) (pe_lst (pa_cons pe_str (pa_cons pe_str (pa_cons pe_str (pa_cons pe_str (pa_cons pe_str (pa_cons pe_str (pa_cons pe_str (pa_cons pe_str (pa_cons pe_str (pa_cons pe_str (pa_cons pe_str (pa_cons pe_str (pa_cons pe_str (pa_cons pe_str pa_nil))))))))))))))))
    (pss_cons (ps_set (i := 3) sc_law_odd_move.nd rfl (.inl rfl) (pe_do D_take hr (pa_cons (pv 0) (pa_cons pe_int pa_nil))))
    (pss_cons (ps_asg (pv 1) (pg_tup (by rfl) (pgs_cons (pg_name (i := 4) sc_law_odd_move.nd rfl (.inl rfl)) (pgs_cons (pg_name (i := 5) sc_law_odd_move.nd rfl (.inl rfl)) (pgs_cons (pg_name (i := 6) sc_law_odd_move.nd rfl (.inl rfl)) pgs_nil)))))
    (pss_cons (ps_set (i := 7) sc_law_odd_move.nd rfl (.inl rfl) (pe_op op_add_str (pv 5) (pv 6)))
    (pss_cons (ps_set (i := 8) sc_law_odd_move.nd rfl (.inl rfl) (pe_do D_take hr (pa_cons (pv 0) (pa_cons (pe_op op_add (pe_callB call_len_str rfl y_len PySem.boot_len (pa_cons (pv 7) pa_nil)) pe_int) pa_nil))))
    (pss_cons (ps_if (pt_cmpR op_eq (pv 3) pe_int (nomark _)) (pss_one (ps_ret (pe_tup (pa_cons (pe_op op_add (pv 4) (pe_ix ix_list (pe_lst (pa_cons pe_int (pa_cons (pe_un un_neg pe_int) (pa_cons pe_int (pa_cons (pe_op op_pow pe_int pe_int) (pa_cons (pe_un un_neg (pe_op op_pow pe_int pe_int)) pa_nil)))))) (pe_do D_take hr (pa_cons (pv 0) (pa_cons pe_int pa_nil))) (fun _ _ => rfl))) (pa_cons (pv 5) (pa_cons (pv 6) pa_nil)))))) pss_nil)
    (pss_cons (ps_if (pt_cmpR op_eq (pv 3) pe_int (nomark _)) (pss_one (ps_ret (pe_tup (pa_cons (pv 4) (pa_cons (pe_ix ix_list (pv 2) (pe_do D_take hr (pa_cons (pv 0) (pa_cons pe_int pa_nil))) (fun _ _ => rfl)) (pa_cons (pv 6) pa_nil)))))) pss_nil)
    (pss_cons (ps_if (pt_cmpR op_eq (pv 3) pe_int (nomark _)) (pss_one (ps_ret (pe_tup (pa_cons (pv 4) (pa_cons (pv 5) (pa_cons (pe_ix ix_list (pv 2) (pe_do D_take hr (pa_cons (pv 0) (pa_cons pe_int pa_nil))) (fun _ _ => rfl)) pa_nil)))))) pss_nil)
    (pss_cons (ps_if (pt_cmpR op_eq (pv 3) pe_int (nomark _)) (pss_one (ps_ret (pe_tup (pa_cons (pv 4) (pa_cons (pv 6) (pa_cons (pv 5) pa_nil)))))) pss_nil)
    (pss_cons (ps_if (pt_cmpR op_eq (pv 3) pe_int (nomark _)) (pss_one (ps_ret (pe_tup (pa_cons (pe_op op_sub (pe_do D_take hr (pa_cons (pv 0) (pa_cons pe_int pa_nil))) pe_int) (pa_cons (pe_ix ix_list (pv 2) (pe_do D_take hr (pa_cons (pv 0) (pa_cons pe_int pa_nil))) (fun _ _ => rfl)) (pa_cons (pe_ix ix_list (pv 2) (pe_do D_take hr (pa_cons (pv 0) (pa_cons pe_int pa_nil))) (fun _ _ => rfl)) pa_nil)))))) pss_nil)
    (pss_cons (ps_if (pt_cmpR op_eq (pv 3) pe_int (nomark _)) (pss_one (ps_ret (pe_tup (pa_cons (pv 4) (pa_cons (pe_slice sl_str (pv 7) po_none (po_some (pv 8))) (pa_cons (pe_slice sl_str (pv 7) (po_some (pv 8)) po_none) pa_nil)))))) pss_nil)
    (pss_cons (ps_if (PW.pt (pw_or (pt_cmpR op_eq (pv 5) pe_str (nomark _)) (pw_or1 (pt_cmpR op_eq (pv 3) pe_int (nomark _))))) (pss_one (ps_ret (pe_tup (pa_cons (pv 4) (pa_cons (pv 5) (pa_cons (pe_do D_near_word hr (pa_cons (pv 0) pa_nil)) pa_nil)))))) pss_nil)
    (pss_one (ps_ret (pe_tup (pa_cons (pv 4) (pa_cons (pe_do D_near_word hr (pa_cons (pv 0) pa_nil)) (pa_cons (pv 6) pa_nil)))))))))))))))))), ?_⟩
  have z1 := hf.o
  have z2 := hf.n
  have s3 : 3 ≤ sizeLine := fits (by decide)
  refine ⟨fits (by decide), fun wp hwp => ?_⟩
  have nw := hT.ne hwp
  have W14 : ∀ z ∈ (["", "TU", "UT", "RR", "TRTRTR", "RTR", "URURUR", "RUR", "TTU", "T", "RT", "tu", "a b", "UTU"] : List Str), z.length ≤ 6 := by decide +kernel
  refine ⟨_, rfl, a, 8, rfl, hT.same (same_new hwp _), by decide, by decide, fun c8 H1 c0 c1 b1 t1 => ?_⟩
  have B1 : But a H H1 := (But.of (same_new hwp _)).trans b1
  have W1 := b1 _ _ nw (upd_same (H := H) (a := wp))
  have M1 : Tm H1 t0 m0 := (hm0.same (same_new hwp _)).but b1 (hT.same (same_new hwp _))
  refine ⟨_, rfl, t0, _, rfl, SqT.of M1, rfl, _, _, rfl, _, _, rfl, _, _, rfl, rfl, ?_⟩
  refine ⟨_, rfl, _, rfl, _, _, rfl, rfl, by rw [S_len, S_len]; exact fits (by omega), ?_⟩
  rw [S_app]
  refine ⟨_, rfl, _, rfl, _, rfl, by rw [S_len, List.length_append]; exact fits (by omega), _, _, rfl, rfl, a, _, rfl, t1, by rw [S_len]; omega, by rw [S_len, List.length_append]; omega, fun sp H2 sp0 sp1 b2 t2 => ?_⟩
  have B2 := B1.trans b2
  have W2 := b2 _ _ nw W1
  have M2 : Tm H2 t0 m0 := M1.but b2 t1
  have fin : ∀ (t : Addr) (m : Mv) (G : Hp), G t = none → m.Fit (2 * kk) → But a H G → Tape G a → Q (.ref t) (upd G t (.tup m.vs)) := fun t m G ht fit b tp => q t m _ fit (b.trans (But.of (same_new ht _))) (tp.same (same_new ht _)) upd_same
  refine ⟨_, rfl, rfl, _, rfl, ite2 (fun k0 => ?_) (fun k0 => ?_)⟩
  · refine ⟨_, rfl, _, rfl, _, _, rfl, rfl, ⟨by decide, by decide, by decide⟩, _, _, rfl, rfl, ⟨by decide, by decide, by decide⟩, _, rfl, fits (by show 5 ≤ 16777216; decide), fun lp hlp => ?_⟩
    have nl := t2.ne hlp
    refine ⟨_, rfl, a, 5, rfl, t2.same (same_new hlp _), by decide, by decide, fun r H3 r0 r1 b3 t3 => ?_⟩
    obtain ⟨z, hz⟩ := atI_ints (ns := [1, -1, 2, 10 ^ (20 : Int).toNat, -(10 ^ (20 : Int).toNat)]) r0 (show r < 5 from r1)
    refine ⟨lp, _, _, _, rfl, rfl, SqL.of (b3 _ _ nl upd_same), hz, _, _, rfl, rfl, ?_⟩
    exact ⟨_, rfl, _, rfl, s3, fun t ht => fin t ⟨m0.pl + z, m0.o, m0.n⟩ _ ht ⟨by show m0.o.length ≤ 2 * kk; omega, by show m0.n.length ≤ 2 * kk; omega⟩ (B2.trans ((But.of (same_new hlp _)).trans b3)) t3⟩
  refine ⟨_, rfl, rfl, _, rfl, ite2 (fun k1 => ?_) (fun k1 => ?_)⟩
  · refine ⟨_, rfl, _, rfl, _, rfl, a, 14, rfl, t2, by decide, by decide, fun r H3 r0 r1 b3 t3 => ?_⟩
    obtain ⟨u, hu, hl⟩ := pick_zs W14 r0 (show r < 14 from r1)
    exact ⟨wp, _, _, _, rfl, rfl, SqL.of (b3 _ _ nw W2), hu, _, rfl, s3, fun t ht => fin t ⟨m0.pl, u, m0.n⟩ _ ht ⟨by show u.length ≤ 2 * kk; omega, by show m0.n.length ≤ 2 * kk; omega⟩ (B2.trans b3) t3⟩
  refine ⟨_, rfl, rfl, _, rfl, ite2 (fun k2 => ?_) (fun k2 => ?_)⟩
  · refine ⟨_, rfl, _, rfl, _, rfl, _, rfl, a, 14, rfl, t2, by decide, by decide, fun r H3 r0 r1 b3 t3 => ?_⟩
    obtain ⟨u, hu, hl⟩ := pick_zs W14 r0 (show r < 14 from r1)
    exact ⟨wp, _, _, _, rfl, rfl, SqL.of (b3 _ _ nw W2), hu, s3, fun t ht => fin t ⟨m0.pl, m0.o, u⟩ _ ht ⟨by show m0.o.length ≤ 2 * kk; omega, by show u.length ≤ 2 * kk; omega⟩ (B2.trans b3) t3⟩
  refine ⟨_, rfl, rfl, _, rfl, ite2 (fun k3 => ?_) (fun k3 => ?_)⟩
  · exact ⟨_, rfl, _, rfl, _, rfl, s3, fun t ht => fin t ⟨m0.pl, m0.n, m0.o⟩ _ ht ⟨by show m0.n.length ≤ 2 * kk; omega, by show m0.o.length ≤ 2 * kk; omega⟩ B2 t2⟩
  refine ⟨_, rfl, rfl, _, rfl, ite2 (fun k4 => ?_) (fun k4 => ?_)⟩
  · refine ⟨_, rfl, a, 4, rfl, t2, by decide, by decide, fun r H3 r0 r1 b3 t3 => ⟨_, _, rfl, rfl, ?_⟩⟩
    refine ⟨_, rfl, _, rfl, a, 14, rfl, t3, by decide, by decide, fun r4 H4 r40 r41 b4 t4 => ?_⟩
    obtain ⟨u, hu, hl⟩ := pick_zs W14 r40 (show r4 < 14 from r41)
    refine ⟨wp, _, _, _, rfl, rfl, SqL.of (b4 _ _ nw (b3 _ _ nw W2)), hu, ?_⟩
    refine ⟨_, rfl, _, rfl, a, 14, rfl, t4, by decide, by decide, fun r5 H5 r50 r51 b5 t5 => ?_⟩
    obtain ⟨u2, hu2, hl2⟩ := pick_zs W14 r50 (show r5 < 14 from r51)
    exact ⟨wp, _, _, _, rfl, rfl, SqL.of (b5 _ _ nw (b4 _ _ nw (b3 _ _ nw W2))), hu2, s3, fun t ht => fin t ⟨r - 1, u, u2⟩ _ ht ⟨by show u.length ≤ 2 * kk; omega, by show u2.length ≤ 2 * kk; omega⟩ (((B2.trans b3).trans b4).trans b5) t5⟩
  refine ⟨_, rfl, rfl, _, rfl, ite2 (fun k5 => ?_) (fun k5 => ?_)⟩
  · refine ⟨_, rfl, _, rfl, _, rfl, _, rfl, _, rfl, by rw [S_len, List.length_append]; exact fits (by omega), ?_⟩
    rw [S_take _ sp0]
    refine ⟨_, rfl, _, rfl, _, rfl, _, rfl, by rw [S_len, List.length_append]; exact fits (by omega), ?_⟩
    rw [S_drop _ sp0]
    exact ⟨s3, fun t ht => fin t ⟨m0.pl, (m0.o ++ m0.n).take sp.toNat, (m0.o ++ m0.n).drop sp.toNat⟩ _ ht ⟨by show (List.take _ _).length ≤ 2 * kk; rw [List.length_take, List.length_append]; omega, by show (List.drop _ _).length ≤ 2 * kk; rw [List.length_drop, List.length_append]; omega⟩ B2 t2⟩
  refine ⟨_, rfl, rfl, _, rfl, ite2 (fun k6 => ?A) (fun k6 => ⟨_, rfl, rfl, _, rfl, ite2 (fun k7 => ?B) (fun k7 => ?C)⟩)⟩
  case A =>
    exact ⟨_, rfl, _, rfl, _, rfl, a, rfl, t2, fun u H3 hu b3 t3 => ⟨s3, fun t ht => fin t ⟨m0.pl, m0.o, u⟩ _ ht ⟨by show m0.o.length ≤ 2 * kk; omega, by show u.length ≤ 2 * kk; omega⟩ (B2.trans b3) t3⟩⟩
  case B =>
    exact ⟨_, rfl, _, rfl, _, rfl, a, rfl, t2, fun u H3 hu b3 t3 => ⟨s3, fun t ht => fin t ⟨m0.pl, m0.o, u⟩ _ ht ⟨by show m0.o.length ≤ 2 * kk; omega, by show u.length ≤ 2 * kk; omega⟩ (B2.trans b3) t3⟩⟩
  case C =>
    exact ⟨_, rfl, _, rfl, a, rfl, t2, fun u H3 hu b3 t3 => ⟨_, rfl, s3, fun t ht => fin t ⟨m0.pl, u, m0.n⟩ _ ht ⟨by show u.length ≤ 2 * kk; omega, by show m0.n.length ≤ 2 * kk; omega⟩ (B2.trans b3) t3⟩⟩
end
section
variable {P : Program} {w : World} {K : PySem.W.Frag} {mg : Str → Option Value} {base : Heap} {f : Addr} {fd : FuncData}
theorem ok_madeX (F : Fun K "made" "made" s_made f fd) (D_is_move : Dfn P w K mg base "is_move" 1 ["move"] spIsMove) (y_len : mg "len" = none) {C : Addr} (EC : Err K mg "BadMove" C) : FnOk P w K mg base (CX P w) 2 f fd ["dance", "move"] (spMadeX C) := by
  refine F.okX sc_made (fun vs H Q E h => ?_) (fun cdv A outer s H vs Q E hr h => ?_)
  · obtain ⟨d, t, m, rfl, hT, hf, hd, q, qE⟩ := h
    rfl
  obtain ⟨d, t, m, rfl, hT, hf, hd, q, qE⟩ := h
  refine ⟨_, (pss_cons (ps_if (pt_not (pt_val (pe_do D_is_move hr (pa_cons (pv 1) pa_nil)))) (pss_one (L2.ps_raise rfl (L2.takes_of rfl rfl rfl rfl) (L2.pmk_own PySem.F.excBase_ValueError EC.x EC.g EC.k (raises_own EC.b EC.t) rfl))) pss_nil)
    (pss_cons (ps_asg (pv 1) (pg_tup (by rfl) (pgs_cons (pg_name (i := 2) sc_made.nd rfl (.inl rfl)) (pgs_cons (pg_name (i := 3) sc_made.nd rfl (.inl rfl)) (pgs_cons (pg_name (i := 4) sc_made.nd rfl (.inl rfl)) pgs_nil)))))
    (pss_cons (ps_set (i := 5) sc_made.nd rfl (.inl rfl) (pe_op op_add (pv 2) (pe_callB call_len_str rfl y_len PySem.boot_len (pa_cons (pv 3) pa_nil))))
    (pss_cons (ps_if (PW.pt (pw_or (pt_cmpR op_lt (pv 2) pe_int (nomark _)) (pw_or (pt_cmpR op_gt (pv 2) (pe_callB call_len_str rfl y_len PySem.boot_len (pa_cons (pv 0) pa_nil)) (nomark _)) (pw_or1 (pt_cmpR op_ne (pe_slice sl_str (pv 0) (po_some (pv 2)) (po_some (pv 5))) (pv 3) (nomark _)))))) (pss_one (L2.ps_raise rfl (L2.takes_of rfl rfl rfl rfl) (L2.pmk_own PySem.F.excBase_ValueError EC.x EC.g EC.k (raises_own EC.b EC.t) rfl))) pss_nil)
    (pss_one (ps_ret (pe_op op_add_str (pe_op op_add_str (pe_slice sl_str (pv 0) po_none (po_some (pv 2))) (pv 4)) (pe_slice sl_str (pv 0) (po_some (pv 5)) po_none)))))))), ?_⟩
  have z1 := hf.o
  have z2 := hf.n
  refine ⟨_, rfl, t, m, rfl, hT, hf, fun H1 s1 => ?_⟩
  refine ⟨_, rfl, ?_⟩
  cases e : isMv m with
  | false => exact iteT (qE (mkMv_not e) H1 s1)
  | true =>
    refine iteF ?_
    refine ⟨_, rfl, t, _, rfl, SqT.of (hT.same s1), rfl, _, _, rfl, _, _, rfl, _, _, rfl, rfl, ?_⟩
    refine ⟨_, rfl, _, rfl, _, rfl, by rw [S_len]; exact fits (by omega), _, _, rfl, rfl, ?_⟩
    rw [S_len]
    refine ⟨_, rfl, _, _, rfl, rfl, _, rfl, ite2 (fun c1 => ?_) (fun c1 => ?_)⟩
    · have k1 : m.pl < 0 := of_decide_eq_true c1
      have ec : canMv d m = false := by unfold canMv; rw [decide_eq_false (by omega), Bool.false_and]
      exact iteT (qE (mkMv_cannot ec) H1 s1)
    have k1 : 0 ≤ m.pl := by
      have : ¬ m.pl < 0 := fun z => c1 (decide_eq_true z)
      omega
    refine ⟨_, rfl, _, rfl, _, rfl, by rw [S_len]; exact fits (by omega), _, _, rfl, rfl, _, rfl, ?_⟩
    rw [S_len]
    refine ite2 (fun c2 => ?_) (fun c2 => ?_)
    · have k2 : (d.length : Int) < m.pl := of_decide_eq_true c2
      have ec : canMv d m = false := by unfold canMv; rw [decide_eq_false (show ¬ m.pl ≤ d.length by omega), Bool.false_and, Bool.and_false]
      exact iteT (qE (mkMv_cannot ec) H1 s1)
    have k2 : m.pl ≤ d.length := by
      have : ¬ (d.length : Int) < m.pl := fun z => c2 (decide_eq_true z)
      omega
    refine ⟨_, rfl, _, rfl, _, rfl, _, rfl, _, rfl, _, rfl, by rw [S_len]; exact fits (by omega), ?_⟩
    rw [S_mid d k1]
    refine ⟨_, rfl, rfl, _, rfl, ?_⟩
    rw [show decide (V.str (S ((d.drop m.pl.toNat).take m.o.length)) = V.str (S m.o)) = decide ((d.drop m.pl.toNat).take m.o.length = m.o) from decide_eq_decide.mpr tx_iff]
    refine ite2 (fun c3 => ?_) (fun c3 => ?_)
    · have k3 : ¬ (d.drop m.pl.toNat).take m.o.length = m.o := by simpa using c3
      have ec : canMv d m = false := by unfold canMv; rw [decide_eq_false k3, Bool.and_false, Bool.and_false]
      exact qE (mkMv_cannot ec) H1 s1
    · have k3 : (d.drop m.pl.toNat).take m.o.length = m.o := by simpa using c3
      have ec : canMv d m = true := by unfold canMv; rw [decide_eq_true k1, decide_eq_true k2, decide_eq_true k3]; rfl
      have q1 := q _ (mkMv_some e ec) H1 s1
      refine ⟨_, rfl, _, rfl, _, rfl, _, rfl, by rw [S_len]; exact fits (by omega), ?_⟩
      rw [S_take d k1]
      refine ⟨_, rfl, _, _, rfl, rfl, ?_, ?_⟩
      · rw [S_len, S_len, List.length_take]; exact fits (by omega)
      rw [S_app]
      refine ⟨_, rfl, _, rfl, _, rfl, _, rfl, by rw [S_len]; exact fits (by omega), ?_⟩
      rw [S_drop d (show 0 ≤ m.pl + (m.o.length : Int) by omega), show (m.pl + (m.o.length : Int)).toNat = m.pl.toNat + m.o.length by omega]
      refine ⟨_, _, rfl, rfl, ?_, ?_⟩
      · rw [S_len, S_len, List.length_append, List.length_take, List.length_drop]; exact fits (by omega)
      rw [S_app]
      exact q1
end
section
variable {P : Program} {w : World} {K : PySem.W.Frag} {mg : Str → Option Value} {base : Heap} {f : Addr} {fd : FuncData}
theorem ok_law_leads (F : Fun K "_law_leads" "_law_leads" s_law_leads f fd) (D_law_made : Dfn P w K mg base "_law_made" 2 ["dance", "move"] spLawMade)  : FnOk P w K mg base CX0 3 f fd ["one", "moves", "other"] spLeads := by
  refine F.ok sc_law_leads (fun vs H Q E h => ?_) (fun cdv A outer s H vs Q E hr h => ?_)
  · obtain ⟨o, e, p, ms, rfl, tl, fa, hz, ho, q⟩ := h
    rfl
  obtain ⟨o, e, p, ms, rfl, tl, fa, hz, ho, q⟩ := h
  refine ⟨_, (pss_cons (ps_set (i := 3) sc_law_leads.nd rfl (.inl rfl) (pv 0))
    (pss_cons (ps_for PassesOwn.never rfl (pi_list (pv 1)) (pg_name (i := 4) sc_law_leads.nd rfl (.inl rfl))
    (pss_one (ps_if (pt_cmpR op_notN (pv 3) pe_non (nomark _)) (pss_one (ps_set (i := 3) sc_law_leads.nd rfl (.inl rfl) (pe_do D_law_made hr (pa_cons (pv 3) (pa_cons (pv 4) pa_nil))))) pss_nil)))
    (pss_one (ps_ret (pe_and (pe_cmpR op_notN (pv 3) pe_non (nomark _)) (pe_one (pe_cmpR op_eq (pv 3) (pv 2) (nomark _)))))))), ?_⟩
  obtain ⟨xs, hxs, lxs⟩ := tl.lst
  rw [List.length_map] at lxs
  refine ⟨_, rfl, _, rfl, p, rfl, ⟨xs, SqL.of hxs⟩, for_list (K := K) (a := p) (xs := xs) (fun i σ G => ∃ (x4 : Option V), σ = [some (.str (S o)), some (.ref p), some (.str (S e)), some (tMade (led o (ms.take i))), x4] ∧ Same H G ∧ ∀ d, led o (ms.take i) = some d → d.length ≤ 1000 + 200 * i) ?_ ?_ ?_ ?_⟩
  · exact ⟨_, rfl, Same.refl H, fun d hd => by cases hd; omega⟩
  · rintro i σ G _ ⟨x4, _, sm, _⟩
    exact SqL.of (sm _ _ hxs)
  · rintro i y σ G hy ⟨x4, rfl, sm, hl⟩
    have hi : i < ms.length := by rw [← lxs]; exact (List.getElem?_eq_some_iff.mp hy).1
    have hm : ms[i]? = some ms[i] := List.getElem?_eq_getElem hi
    obtain ⟨xs', r, e1, _, e2, e3⟩ := tl.at (i := i) (d := Mv.vs ms[i]) (by rw [List.getElem?_map, hm]; rfl)
    rw [hxs] at e1
    cases e1
    rw [hy] at e2
    cases e2
    rw [led_take hm]
    have fm := fa _ (List.getElem_mem hi)
    cases hd : led o (ms.take i) with
    | none =>
      exact ⟨_, rfl, rfl, _, rfl, iteF ⟨_, rfl, sm, fun d hd => by cases hd⟩⟩
    | some d =>
      have hdl := hl d hd
      refine ⟨_, rfl, rfl, _, rfl, iteT ?_⟩
      refine ⟨_, rfl, _, rfl, d, r, ms[i], rfl, Tm.same e3 sm, fm.mono (by decide), by omega, fun G1 s1 => ⟨_, rfl, sm.trans s1, fun d' hd' => ?_⟩⟩
      have := mkMv_len fm hd'
      omega
  · rintro σ G ⟨x4, rfl, sm, _⟩
    rw [List.take_of_length_le (show ms.length ≤ xs.length by omega)]
    have q1 := q G sm
    cases hd : led o ms with
    | none =>
      rw [hd] at q1
      exact ⟨_, rfl, rfl, _, rfl, iteF q1⟩
    | some d =>
      rw [hd] at q1
      refine ⟨_, rfl, rfl, _, rfl, iteT ⟨_, rfl, _, rfl, rfl, ?_⟩⟩
      rw [show decide (tMade (some d) = V.str (S e)) = decide (some d = some e) from decide_eq_decide.mpr (tx_iff.trans ⟨fun h => by rw [h], fun h => Option.some.inj h⟩)]
      exact q1
end
section
variable {P : Program} {w : World} {K : PySem.W.Frag} {mg : Str → Option Value} {base : Heap} {f : Addr} {fd : FuncData}
theorem ok_leads (F : Fun K "leads" "leads" s_leads f fd)  {gm C : Addr} {gd : FuncData} (Gm : FnOk P w K mg base (CX P w) 2 gm gd ["dance", "move"] (spMadeX C)) (mG : mg "made" = some (.ref gm)) (kG : PySem.W.keepIn K (.ref gm) = true) (bG : Binds K gd ["dance", "move"] []) (gC : mg "BadMove" = some (.ref C)) (XC : PySem.W.exmOne K (.ref C) (.ref C) = some true) : FnOk P w K mg base CX0 3 f fd ["one", "moves", "other"] spLeads := by
  refine F.ok sc_leads (fun vs H Q E h => ?_) (fun cdv A outer s H vs Q E hr h => ?_)
  · obtain ⟨o, e, p, ms, rfl, tl, fa, hz, ho, q⟩ := h
    rfl
  obtain ⟨o, e, p, ms, rfl, tl, fa, hz, ho, q⟩ := h
  refine ⟨_, (pss_cons (ps_set (i := 3) sc_leads.nd rfl (.inl rfl) (pv 0))
    (pss_cons (ps_for PassesOwn.never rfl (pi_list (pv 1)) (pg_name (i := 4) sc_leads.nd rfl (.inl rfl))
    (pss_one (ps_try_only (tb := fun W => tAsg (tCallS (spMadeX C) (WE W) (tCons (tVar 3) (tCons (tVar 4) tNil))) (gName 3)) (ts := fun a cls d => tRet (tC (.bl false))) (Wout := fun _ _ _ _ => False) rfl rfl ⟨rfl, by decide, Or.inl gC⟩ takes0
      (fun W pn xe tk _ => pss_one (ps_set (i := 3) sc_leads.nd rfl (.inl rfl) (by exact (pe_callS Gm hr rfl mG kG bG (fun σ => passAt tk σ) (by exact (pa_cons (pv 3) (pa_cons (pv 4) pa_nil)))))))
      (fun a oe cls d pn _ _ => pss_one (ps_ret pe_bl)))))
    (pss_one (ps_ret (pe_cmpR op_eq (pv 3) (pv 2) (nomark _)))))), ?_⟩
  obtain ⟨xs, hxs, lxs⟩ := tl.lst
  rw [List.length_map] at lxs
  refine ⟨_, rfl, _, rfl, p, rfl, ⟨xs, SqL.of hxs⟩, for_list (K := K) (tb := fun D σ H => tAsg (tCallS (spMadeX C) (WE (wOnly K (.ref C) (fun a cls d => tRet (tC (.bl false))) (fun _ _ _ _ => False) D)) (tCons (tVar 3) (tCons (tVar 4) tNil))) (gName 3) D σ H) (a := p) (xs := xs) (fun i σ G => ∃ (d : List Nat) (x4 : Option V), σ = [some (.str (S o)), some (.ref p), some (.str (S e)), some (.str (S d)), x4] ∧ Same H G ∧ led o (ms.take i) = some d ∧ d.length ≤ 1000 + 200 * i) ?_ ?_ ?_ ?_⟩
  · exact ⟨o, _, rfl, Same.refl H, rfl, by omega⟩
  · rintro i σ G _ ⟨d, x4, _, sm, _⟩
    exact SqL.of (sm _ _ hxs)
  · rintro i y σ G hy ⟨d, x4, rfl, sm, hd, hl⟩
    have hi : i < ms.length := by rw [← lxs]; exact (List.getElem?_eq_some_iff.mp hy).1
    have hm : ms[i]? = some ms[i] := List.getElem?_eq_getElem hi
    obtain ⟨xs', r, e1, _, e2, e3⟩ := tl.at (i := i) (d := Mv.vs ms[i]) (by rw [List.getElem?_map, hm]; rfl)
    rw [hxs] at e1
    cases e1
    rw [hy] at e2
    cases e2
    have lt := led_take (d := o) hm
    rw [hd] at lt
    have fm := fa _ (List.getElem_mem hi)
    refine ⟨_, rfl, _, rfl, d, r, ms[i], rfl, Tm.same e3 sm, fm.mono (by decide), by omega, fun x hx G1 s1 => ?_, fun hx G1 s1 => ⟨true, XC, fun _ a ha => ?_, fun z => nomatch z⟩⟩
    · exact ⟨x, _, rfl, sm.trans s1, lt.trans hx, by have := mkMv_len fm hx; omega⟩
    · have q1 := q G1 (sm.trans s1)
      rw [led_stop (lt.trans hx)] at q1
      exact q1
  · rintro σ G ⟨d, x4, rfl, sm, hd, _⟩
    rw [List.take_of_length_le (show ms.length ≤ xs.length by omega)] at hd
    have q1 := q G sm
    rw [hd] at q1
    refine ⟨_, rfl, _, rfl, rfl, ?_⟩
    rw [show decide (V.str (S d) = V.str (S e)) = decide (some d = some e) from decide_eq_decide.mpr (tx_iff.trans ⟨fun h => by rw [h], fun h => Option.some.inj h⟩)]
    exact q1
end
section
variable {P : Program} {w : World} {K : PySem.W.Frag} {mg : Str → Option Value} {base : Heap} {f : Addr} {fd : FuncData}
theorem ok_law_moves (F : Fun K "_law_moves" "_law_moves" s_law_moves f fd) (D_take : Dfn P w K mg base "_law_take" 3 ["tape", "many"] spTake) (D_law_put : Dfn P w K mg base "_law_put" 3 ["tape", "dance"] spPut) (D_law_taken : Dfn P w K mg base "_law_taken" 3 ["tape", "dance"] spTaken) (D_law_made : Dfn P w K mg base "_law_made" 3 ["dance", "move"] spLawMade) (y_range : mg "range" = none) (y_len : mg "len" = none)  : FnOk P w K mg base CX0 4 f fd ["tape", "dance", "most"] spMoves := by
  refine F.ok sc_law_moves (fun vs H Q E h => ?_) (fun cdv A outer s H vs Q E hr h => ?_)
  · obtain ⟨a, d, n, rfl, hT, hd, n0, n1, q⟩ := h
    rfl
  obtain ⟨a, d, n, rfl, hT, hd, n0, n1, q⟩ := h
  refine ⟨_, (pss_cons (ps_set (i := 3) sc_law_moves.nd rfl (.inl rfl) (pe_lst pa_nil))
    (pss_cons (ps_for PassesOwn.never rfl (pi_range1 rfl y_range (pa_cons (pe_do D_take hr (pa_cons (pv 0) (pa_cons (pe_op op_add (pv 2) pe_int) pa_nil))) pa_nil)) (pg_name (i := 4) sc_law_moves.nd rfl (.inl rfl))
    (pss_cons (ps_set (i := 5) sc_law_moves.nd rfl (.inl rfl) (pe_do D_law_put hr (pa_cons (pv 0) (pa_cons (pv 1) pa_nil))))
    (pss_cons (ps_if (PW.pt (pw_or (pt_cmpR op_gt (pe_callB call_len_str rfl y_len PySem.boot_len (pa_cons (pv 1) pa_nil)) pe_int (nomark _)) (pw_or1 (pt_cmpR op_eq (pe_do D_take hr (pa_cons (pv 0) (pa_cons pe_int pa_nil))) pe_int (nomark _))))) (pss_one (ps_set (i := 5) sc_law_moves.nd rfl (.inl rfl) (pe_do D_law_taken hr (pa_cons (pv 0) (pa_cons (pv 1) pa_nil))))) pss_nil)
    (pss_one (ps_if (pt_cmpR op_lt (pe_callB call_len_str rfl y_len PySem.boot_len (pa_cons (pv 1) pa_nil)) pe_int (nomark _)) (pss_cons (ps_expr (pe_bm PySem.F.plainAttrs_list PySem.F.slot_list_append PySem.F.type_list_append mt_append (pv 3) (pa_cons (pv 5) pa_nil)))
    (pss_one (ps_set (i := 1) sc_law_moves.nd rfl (.inl rfl) (pe_do D_law_made hr (pa_cons (pv 1) (pa_cons (pv 5) pa_nil)))))) pss_nil)))))
    (pss_one (ps_ret (pe_tup (pa_cons (pv 3) (pa_cons (pv 1) pa_nil))))))), ?_⟩
  refine ⟨fits (by decide), fun p hp => ?_⟩
  have np := hT.ne hp
  refine ⟨_, rfl, _, rfl, _, _, rfl, rfl, a, _, rfl, hT.same (same_new hp _), by omega, by omega, fun r H1 r0 r1 b1 t1 => ?_⟩
  refine ⟨r, rfl, by omega, by omega, for_range (lo := 0) (n := r.toNat) (fun i σ G => ∃ (d' : List Nat) (ms : List Mv) (x4 x5 : Option V), σ = [some (.ref a), some (.str (S d')), some (.int n), some (.ref p), x4, x5] ∧ But a H G ∧ Tape G a ∧ Tl G p (ms.map Mv.vs) ∧ FitAll ms 6 ∧ ms.length ≤ i ∧ led d ms = some d' ∧ d'.length ≤ 100) ?_ ?_ ?_⟩
  · exact ⟨d, [], _, _, rfl, (But.of (same_new hp _)).trans b1, t1, Tl.nil (b1 _ _ np upd_same), (fun m hm => by cases hm), Nat.zero_le _, rfl, by omega⟩
  · rintro i σ G hi ⟨d', ms, x4, x5, rfl, bg, tg, tl, fa, hz, hl, hd'⟩
    refine ⟨_, rfl, _, rfl, a, d', rfl, tg, by omega, fun t m G1 cn _ b1 t1 tm => ?_⟩
    have sd : (S d').length ≤ sizeLine := by rw [S_len]; exact fits (by omega)
    refine ⟨_, rfl, _, rfl, sd, _, _, rfl, rfl, _, rfl, ite2 (fun c1 => iteT ?A) (fun c1 => ⟨_, rfl, a, 2, rfl, t1, by decide, by decide, fun r2 G2 r20 r21 b2 t2 => ⟨rfl, _, rfl, ite2 (fun c2 => ?B) (fun c2 => ?C)⟩⟩)⟩
    case' A =>
      refine ⟨_, rfl, _, rfl, a, d', rfl, t1, by omega, fun t m G2 cn b3 t2 tm => ?_⟩
      have BB := b1.trans b3
    case' B =>
      refine ⟨_, rfl, _, rfl, a, d', rfl, t2, by omega, fun t m G2 cn b3 t2 tm => ?_⟩
      have BB := (b1.trans b2).trans b3
    case' C =>
      have BB := b1.trans b2
      have tm := tm.but b2 t1
    all_goals
      have tl3 := tl.tape BB np tg
      refine ⟨_, rfl, _, rfl, sd, _, _, rfl, rfl, _, rfl, ite2 (fun k1 => ?_) (fun k1 => ?_)⟩
      · have k90 : d'.length < 90 := by
          have := of_decide_eq_true k1
          rw [S_len] at this
          omega
        obtain ⟨xs0, e0, _⟩ := tl3.lst
        obtain ⟨xs, ex, lx, tl'⟩ := tl3.push tm
        rw [List.length_map] at lx
        refine ⟨_, rfl, .inl ⟨rfl, _, SqL.of e0⟩, _, rfl, p, xs, _, rfl, rfl, ex, Nat.lt_of_lt_of_le (show xs.length < 16777216 by omega) sizeLine_big, ?_⟩
        refine ⟨_, rfl, _, rfl, d', t, m, rfl, But.upd _ _ (ne_of tm ex (by intro z; cases z)) tm, cn.2.2.mono (by decide), by omega, fun G4 s4 => ?_⟩
        rw [mkMv_some cn.1 cn.2.1]
        refine ⟨doMv d' m, ms ++ [m], _, _, rfl, fun b o nb hb => s4 _ _ (by rw [upd_ne (ne_of_none hb hp)]; exact (bg.trans BB) b o nb hb), Tape.same ?_ s4, Tl.same (by rw [List.map_append]; exact tl') s4, fun x hx => ?_, by rw [List.length_append]; show ms.length + 1 ≤ _; omega, ?_, by have := doMv_len (d := d') cn.2.2; omega⟩
        · obtain ⟨y1, y2, y3, y4, e⟩ := t2
          exact ⟨y1, y2, y3, y4, by rw [upd_ne np.symm]; exact e⟩
        · rcases List.mem_append.mp hx with hx | hx
          · exact fa x hx
          · rw [List.mem_singleton.mp hx]; exact cn.2.2
        · unfold led at hl ⊢
          rw [List.foldl_append, hl]
          exact mkMv_some cn.1 cn.2.1
      · exact ⟨d', ms, _, _, rfl, bg.trans BB, t2, tl3, fa, by omega, hl, hd'⟩
  · rintro σ G ⟨d', ms, x4, x5, rfl, bg, tg, tl, fa, hz, hl, hd'⟩
    refine ⟨_, rfl, _, rfl, fits (by show 2 ≤ 16777216; decide), fun t ht => q t p ms d' _ (bg.trans (But.of (same_new ht _))) (tg.same (same_new ht _)) hp upd_same (tl.same (same_new ht _)) fa (by omega) hl hd'⟩
end
section
variable {P : Program} {w : World} {K : PySem.W.Frag} {mg : Str → Option Value} {base : Heap} {f : Addr} {fd : FuncData}
theorem ok_law_changed (F : Fun K "_law_changed" "_law_changed" s_law_changed f fd) (D_take : Dfn P w K mg base "_law_take" 3 ["tape", "many"] spTake) (D_odd_move : Dfn P w K mg base "_law_odd_move" 3 ["tape", "move"] spOdd) (y_len : mg "len" = none)  : FnOk P w K mg base CX0 4 f fd ["tape", "moves"] spChanged := by
  refine F.ok sc_law_changed (fun vs H Q E h => ?_) (fun cdv A outer s H vs Q E hr h => ?_)
  · obtain ⟨a, p, k, n, rfl, hT, np, ml, hn, hk0, hk1, q⟩ := h
    rfl
  obtain ⟨a, p, k, n, rfl, hT, np, ml, hn, hk0, hk1, q⟩ := h
  refine ⟨_, (pss_cons (ps_set (i := 2) sc_law_changed.nd rfl (.inl rfl) (pe_do D_take hr (pa_cons (pv 0) (pa_cons pe_int pa_nil))))
    (pss_cons (ps_if (PW.pt (pw_or (pt_cmpR op_eq (pe_callB call_len_seq rfl y_len PySem.boot_len (pa_cons (pv 1) pa_nil)) pe_int (nomark _)) (pw_or1 (pt_cmpR op_eq (pv 2) pe_int (nomark _))))) (pss_one (ps_ret (pe_op op_cat (pv 1) (pe_lst (pa_cons (pe_do D_odd_move hr (pa_cons (pv 0) (pa_cons (pe_tup (pa_cons pe_int (pa_cons pe_str (pa_cons pe_str pa_nil)))) pa_nil))) pa_nil))))) pss_nil)
    (pss_cons (ps_set (i := 3) sc_law_changed.nd rfl (.inl rfl) (pe_do D_take hr (pa_cons (pv 0) (pa_cons (pe_callB call_len_seq rfl y_len PySem.boot_len (pa_cons (pv 1) pa_nil)) pa_nil))))
    (pss_cons (ps_if (pt_cmpR op_eq (pv 2) pe_int (nomark _)) (pss_one (ps_ret (pe_op op_cat (pe_slice sl_list (pv 1) po_none (po_some (pv 3))) (pe_slice sl_list (pv 1) (po_some (pe_op op_add (pv 3) pe_int)) po_none)))) pss_nil)
    (pss_cons (ps_if (pt_cmpR op_eq (pv 2) pe_int (nomark _)) (pss_one (ps_ret (pe_op op_cat (pe_op op_cat (pe_slice sl_list (pv 1) po_none (po_some (pv 3))) (pe_lst (pa_cons (pe_ix ix_list (pv 1) (pv 3) (fun _ _ => rfl)) pa_nil))) (pe_slice sl_list (pv 1) (po_some (pv 3)) po_none)))) pss_nil)
    (pss_cons (ps_if (pt_cmpR op_eq (pv 2) pe_int (nomark _)) (pss_one (ps_ret (pe_op op_cat (pe_op op_cat (pe_op op_cat (pe_slice sl_list (pv 1) po_none (po_some (pv 3))) (pe_slice sl_list (pv 1) (po_some (pe_op op_add (pv 3) pe_int)) (po_some (pe_op op_add (pv 3) pe_int)))) (pe_lst (pa_cons (pe_ix ix_list (pv 1) (pv 3) (fun _ _ => rfl)) pa_nil))) (pe_slice sl_list (pv 1) (po_some (pe_op op_add (pv 3) pe_int)) po_none)))) pss_nil)
    (pss_one (ps_ret (pe_op op_cat (pe_op op_cat (pe_slice sl_list (pv 1) po_none (po_some (pv 3))) (pe_lst (pa_cons (pe_do D_odd_move hr (pa_cons (pv 0) (pa_cons (pe_ix ix_list (pv 1) (pv 3) (fun _ _ => rfl)) pa_nil))) pa_nil))) (pe_slice sl_list (pv 1) (po_some (pe_op op_add (pv 3) pe_int)) po_none)))))))))), ?_⟩
  have fin : ∀ (q' : Addr) (G : Hp) (ys : List V), G q' = none → But a H G → Tape G a → ys.length ≤ 3 * n + 1 → (∀ y ∈ ys, Mi G (2 * k) y) → Q (.ref q') (upd G q' (.lst ys)) := fun q' G ys hq b tp z al =>
    q q' _ (b.trans (But.of (same_new hq _))) (tp.same (same_new hq _)) (tp.ne hq) ⟨ys, upd_same, z, fun y hy => (al y hy).same (same_new hq _)⟩
  have ln : ∀ (xs ys : List V), xs.length ≤ 10000 → ys.length ≤ 10000 → xs.length + ys.length ≤ sizeLine := fun xs ys h1 h2 => fits (by omega)
  refine ⟨_, rfl, a, 5, rfl, hT, by decide, by decide, fun c H1 c0 c1 b1 t1 => ?_⟩
  have ml1 := ml.tape b1 np hT
  obtain ⟨xs, ex, lx, al⟩ := ml1
  refine ⟨_, rfl, p, _, rfl, .inl (SqL.of ex), rfl, _, rfl, ite2 (fun k1 => iteT ?A) (fun k1 => ⟨_, rfl, rfl, _, rfl, ite2 (fun k2 => ?B) (fun k2 => ?C)⟩)⟩
  case' C =>
    have k1' : xs.length ≠ 0 := fun z => k1 (by rw [z]; rfl)
    refine ⟨_, rfl, _, rfl, p, _, rfl, .inl (SqL.of ex), a, _, rfl, t1, by omega, by omega, fun s H2 s0 s1 b2 t2 => ?_⟩
    have B2 := b1.trans b2
    have ex2 := b2 _ _ np ex
    have al2' : ∀ y ∈ xs, Mi H2 k y := fun y hy => (al y hy).but b2 t1
    have al2 : ∀ y ∈ xs, Mi H2 (2 * k) y := fun y hy => (al2' y hy).mono (by omega)
    obtain ⟨v, hv, mv⟩ := atI_mk (xs := xs) s0 s1
    obtain ⟨vr, vm, rfl, tv, fv'⟩ := al2' v mv
    have fv := fv'.mono (show k ≤ 2 * k by omega)
    have cl : ∀ lo hi, (cutV xs lo hi).length ≤ n := fun lo hi => Nat.le_trans (cutV_length xs lo hi) lx
    refine ⟨_, rfl, rfl, _, rfl, ite2 (fun k3 => ?_) (fun k3 => ?_)⟩
    · refine ⟨_, rfl, _, rfl, _, rfl, p, xs, rfl, SqL.of ex2, fun p1 h1 => ?_⟩
      have ex3 := same_new h1 (.lst (cutV xs none (some s))) _ _ ex2
      refine ⟨_, rfl, _, rfl, _, _, rfl, rfl, _, rfl, p, xs, rfl, SqL.of ex3, fun p2 h2 => ?_⟩
      refine ⟨p1, p2, _, _, rfl, rfl, same_new h2 _ _ _ upd_same, upd_same, ln _ _ (by have := cl none (some s); omega) (by have := cl (some (s + 1)) none; omega), fun p3 h3 => ?_⟩
      have SS := (same_new h1 (.lst (cutV xs none (some s)))).trans (same_new h2 (.lst (cutV xs (some (s + 1)) none)))
      refine fin p3 _ _ h3 (B2.trans (But.of SS)) (t2.same SS) ?_ fun y hy => ?_
      · rw [List.length_append]; have := cl none (some s); have := cl (some (s + 1)) none; omega
      · rcases List.mem_append.mp hy with hy | hy
        · exact (al2 y (cutV_mem hy)).same SS
        · exact (al2 y (cutV_mem hy)).same SS
    refine ⟨_, rfl, rfl, _, rfl, ite2 (fun k4 => ?_) (fun k4 => ?_)⟩
    · refine ⟨_, rfl, _, rfl, _, rfl, p, xs, rfl, SqL.of ex2, fun p1 h1 => ?_⟩
      have ex3 := same_new h1 (.lst (cutV xs none (some s))) _ _ ex2
      refine ⟨_, rfl, _, rfl, p, xs, _, _, rfl, rfl, SqL.of ex3, hv, fits (by show 1 ≤ 16777216; decide), fun p2 h2 => ?_⟩
      refine ⟨p1, p2, _, _, rfl, rfl, same_new h2 _ _ _ upd_same, upd_same, ln _ _ (by have := cl none (some s); omega) (by show 1 ≤ 10000; decide), fun p3 h3 => ?_⟩
      have SS := (same_new h1 (.lst (cutV xs none (some s)))).trans (same_new h2 (.lst [V.ref vr]))
      have SS3 := SS.trans (same_new h3 (.lst (cutV xs none (some s) ++ [V.ref vr])))
      refine ⟨_, rfl, _, rfl, _, rfl, p, xs, rfl, SqL.of (SS3 _ _ ex2), fun p4 h4 => ?_⟩
      refine ⟨p3, p4, _, _, rfl, rfl, same_new h4 _ _ _ upd_same, upd_same, ln _ _ (by rw [List.length_append]; have := cl none (some s); show _ + 1 ≤ _; omega) (by have := cl (some s) none; omega), fun p5 h5 => ?_⟩
      have SS4 := SS3.trans (same_new h4 (.lst (cutV xs (some s) none)))
      refine fin p5 _ _ h5 (B2.trans (But.of SS4)) (t2.same SS4) ?_ fun y hy => ?_
      · rw [List.length_append, List.length_append]; have := cl none (some s); have := cl (some s) none; show _ + 1 + _ ≤ _; omega
      · rcases List.mem_append.mp hy with hy | hy
        · rcases List.mem_append.mp hy with hy | hy
          · exact (al2 y (cutV_mem hy)).same SS4
          · rw [List.mem_singleton.mp hy]
            exact Mi.same ⟨vr, vm, rfl, tv, fv⟩ SS4
        · exact (al2 y (cutV_mem hy)).same SS4
    refine ⟨_, rfl, rfl, _, rfl, ite2 (fun k5 => ?_) (fun k5 => ?_)⟩
    · refine ⟨_, rfl, _, rfl, _, rfl, p, xs, rfl, SqL.of ex2, fun p1 h1 => ?_⟩
      have ex3 := same_new h1 (.lst (cutV xs none (some s))) _ _ ex2
      refine ⟨_, rfl, _, rfl, _, _, rfl, rfl, _, rfl, _, rfl, _, _, rfl, rfl, _, rfl, p, xs, rfl, SqL.of ex3, fun p2 h2 => ?_⟩
      refine ⟨p1, p2, _, _, rfl, rfl, same_new h2 _ _ _ upd_same, upd_same, ln _ _ (by have := cl none (some s); omega) (by have := cl (some (s + 1)) (some (s + 2)); omega), fun p3 h3 => ?_⟩
      have SS3 := ((same_new h1 (.lst (cutV xs none (some s)))).trans (same_new h2 (.lst (cutV xs (some (s + 1)) (some (s + 2)))))).trans (same_new h3 (.lst (cutV xs none (some s) ++ cutV xs (some (s + 1)) (some (s + 2)))))
      refine ⟨_, rfl, _, rfl, p, xs, _, _, rfl, rfl, SqL.of (SS3 _ _ ex2), hv, fits (by show 1 ≤ 16777216; decide), fun p4 h4 => ?_⟩
      refine ⟨p3, p4, _, _, rfl, rfl, same_new h4 _ _ _ upd_same, upd_same, ln _ _ (by rw [List.length_append]; have := cl none (some s); have := cl (some (s + 1)) (some (s + 2)); omega) (by show 1 ≤ 10000; decide), fun p5 h5 => ?_⟩
      have SS5 := (SS3.trans (same_new h4 (.lst [V.ref vr]))).trans (same_new h5 (.lst (cutV xs none (some s) ++ cutV xs (some (s + 1)) (some (s + 2)) ++ [V.ref vr])))
      refine ⟨_, rfl, _, rfl, _, _, rfl, rfl, _, rfl, p, xs, rfl, SqL.of (SS5 _ _ ex2), fun p6 h6 => ?_⟩
      refine ⟨p5, p6, _, _, rfl, rfl, same_new h6 _ _ _ upd_same, upd_same, ln _ _ (by rw [List.length_append, List.length_append]; have := cl none (some s); have := cl (some (s + 1)) (some (s + 2)); show _ + _ + 1 ≤ _; omega) (by have := cl (some (s + 2)) none; omega), fun p7 h7 => ?_⟩
      have SS6 := SS5.trans (same_new h6 (.lst (cutV xs (some (s + 2)) none)))
      refine fin p7 _ _ h7 (B2.trans (But.of SS6)) (t2.same SS6) ?_ fun y hy => ?_
      · rw [List.length_append, List.length_append, List.length_append]; have := cl none (some s); have := cl (some (s + 1)) (some (s + 2)); have := cl (some (s + 2)) none; show _ + _ + 1 + _ ≤ _; omega
      · rcases List.mem_append.mp hy with hy | hy
        · rcases List.mem_append.mp hy with hy | hy
          · rcases List.mem_append.mp hy with hy | hy
            · exact (al2 y (cutV_mem hy)).same SS6
            · exact (al2 y (cutV_mem hy)).same SS6
          · rw [List.mem_singleton.mp hy]
            exact Mi.same ⟨vr, vm, rfl, tv, fv⟩ SS6
        · exact (al2 y (cutV_mem hy)).same SS6
    · refine ⟨_, rfl, _, rfl, _, rfl, p, xs, rfl, SqL.of ex2, fun p1 h1 => ?_⟩
      have S1 := same_new h1 (.lst (cutV xs none (some s)))
      have n1 := t2.ne h1
      refine ⟨_, rfl, _, rfl, _, rfl, p, xs, _, _, rfl, rfl, SqL.of (S1 _ _ ex2), hv, a, vr, vm, k, rfl, t2.same S1, tv.same S1, fv', hk0, by omega, fun ot om H3 fo b3 t3 ho => ?_⟩
      have ep1 := b3 _ _ n1 (upd_same (H := H2) (a := p1))
      refine ⟨fits (by show 1 ≤ 16777216; decide), fun p2 h2 => ?_⟩
      refine ⟨p1, p2, _, _, rfl, rfl, same_new h2 _ _ _ ep1, upd_same, ln _ _ (by have := cl none (some s); omega) (by show 1 ≤ 10000; decide), fun p3 h3 => ?_⟩
      have S3 := (same_new h2 (.lst [V.ref ot])).trans (same_new h3 (.lst (cutV xs none (some s) ++ [V.ref ot])))
      have ex3 : _ := S3 _ _ (b3 _ _ np (S1 _ _ ex2))
      refine ⟨_, rfl, _, rfl, _, _, rfl, rfl, _, rfl, p, xs, rfl, SqL.of ex3, fun p4 h4 => ?_⟩
      refine ⟨p3, p4, _, _, rfl, rfl, same_new h4 _ _ _ upd_same, upd_same, ln _ _ (by rw [List.length_append]; have := cl none (some s); show _ + 1 ≤ _; omega) (by have := cl (some (s + 1)) none; omega), fun p5 h5 => ?_⟩
      have S4 := S3.trans (same_new h4 (.lst (cutV xs (some (s + 1)) none)))
      have al5 : ∀ y ∈ xs, Mi _ (2 * k) y := fun y hy => (((al2 y hy).same S1).but b3 (t2.same S1)).same S4
      refine fin p5 _ _ h5 (((B2.trans (But.of S1)).trans b3).trans (But.of S4)) (t3.same S4) ?_ fun y hy => ?_
      · rw [List.length_append, List.length_append]; have := cl none (some s); have := cl (some (s + 1)) none; show _ + 1 + _ ≤ _; omega
      · rcases List.mem_append.mp hy with hy | hy
        · rcases List.mem_append.mp hy with hy | hy
          · exact al5 y (cutV_mem hy)
          · rw [List.mem_singleton.mp hy]
            exact Mi.same ⟨ot, om, rfl, ho, fo⟩ S4
        · exact al5 y (cutV_mem hy)
  case' A => have kk := k1
  case' B => have kk := k2
  all_goals
    have s3 : 3 ≤ sizeLine := fits (by decide)
    refine ⟨_, rfl, _, rfl, s3, fun t0 h0 => ?_⟩
    have S0 := same_new h0 (.tup [V.int 0, .str "", .str "RR"])
    have m0 : Tm (upd H1 t0 (.tup [V.int 0, .str "", .str "RR"])) t0 ⟨0, [], [82, 82]⟩ := by unfold Tm Mv.vs; rw [upd_same, e_empty, e_RR]
    refine ⟨a, t0, ⟨0, [], [82, 82]⟩, k, rfl, t1.same S0, m0, ⟨Nat.zero_le _, by show 2 ≤ k; omega⟩, hk0, by omega, fun ot om H3 fo b3 t3 ho => ?_⟩
    refine ⟨fits (by show 1 ≤ 16777216; decide), fun p2 h2 => ?_⟩
    have ex3 := b3 _ _ np (S0 _ _ ex)
    refine ⟨p, p2, _, _, rfl, rfl, same_new h2 _ _ _ ex3, upd_same, ln _ _ (by omega) (by show 1 ≤ 10000; decide), fun p3 h3 => ?_⟩
    have S2 := same_new h2 (.lst [V.ref ot])
    refine fin p3 _ _ h3 (((b1.trans (But.of S0)).trans b3).trans (But.of S2)) (t3.same S2) ?_ fun y hy => ?_
    · rw [List.length_append]; show _ + 1 ≤ _; omega
    · rcases List.mem_append.mp hy with hy | hy
      · exact (((((al y hy).mono (by omega)).same S0).but b3 (t1.same S0)).same S2)
      · rw [List.mem_singleton.mp hy]
        exact Mi.same ⟨ot, om, rfl, ho, fo⟩ S2
end
section
variable {P : Program} {w : World} {K : PySem.W.Frag} {mg : Str → Option Value} {base : Heap} {f : Addr} {fd : FuncData}
theorem ok_row_holds (F : Fun K "_law_holds" "_law_holds" s_law_holds f fd) (D_says : Dfn P w K mg base "_law_says" 4 ["told", "due"] spSays) (D_law_leads : Dfn P w K mg base "_law_leads" 4 ["one", "moves", "other"] spLeads) (D_leads : Dfn P w K mg base "leads" 4 ["one", "moves", "other"] spLeads) (y_list : mg "list" = none)  : FnOk P w K mg base CX0 5 f fd ["one", "moves", "other"] spRow := by
  refine F.ok sc_law_holds (fun vs H Q E h => ?_) (fun cdv A outer s H vs Q E hr h => ?_)
  · obtain ⟨o, e, p, rfl, ml, ho, q⟩ := h
    rfl
  obtain ⟨o, e, p, rfl, ml, ho, q⟩ := h
  refine ⟨_, (pss_cons (ps_set (i := 3) sc_law_holds.nd rfl (.inl rfl) (pe_callTy call_list_of rfl y_list (by decide +kernel) (pa_cons (pv 1) pa_nil)))
    (pss_one (ps_ret (pe_and (pe_do D_says hr (pa_cons (pe_do D_leads hr (pa_cons (pv 0) (pa_cons (pv 3) (pa_cons (pv 2) pa_nil)))) (pa_cons (pe_do D_law_leads hr (pa_cons (pv 0) (pa_cons (pv 1) (pa_cons (pv 2) pa_nil)))) pa_nil))) (pe_one (pe_cmpR (op_eq_sameL hr.units0) (pv 3) (pv 1) (nomark _))))))), ?_⟩
  obtain ⟨xs, ex, lx, al⟩ := id ml
  refine ⟨_, rfl, p, xs, rfl, .inl (SqL.of ex), fun l hl => ?_⟩
  have S0 := same_new hl (.lst xs)
  have ml1 : Ml (upd H l (.lst xs)) l 200 1000 := ⟨xs, upd_same, lx, fun y hy => (al y hy).same S0⟩
  obtain ⟨ms, tl, fa, hz⟩ := ml1.tl
  have tlp : Tl (upd H l (.lst xs)) p (ms.map Mv.vs) := by
    obtain ⟨rs, e1, z, pw⟩ := tl
    rw [upd_same] at e1
    refine ⟨rs, ?_, z, pw⟩
    rw [S0 _ _ ex]
    exact e1
  refine ⟨_, rfl, _, rfl, _, rfl, o, e, l, ms, rfl, tl, fa, hz, ho, fun H1 s1 => ?_⟩
  refine ⟨_, rfl, _, rfl, _, rfl, o, e, p, ms, rfl, tlp.same s1, fa, hz, ho, fun H2 s2 => ⟨_, rfl, ?_⟩⟩
  obtain ⟨rs, e1, _, _⟩ := tl
  rw [upd_same] at e1
  have e1' : xs = rs.map V.ref := by cases e1; rfl
  subst e1'
  have SS := s1.trans s2
  refine ⟨_, rfl, iteT ⟨_, rfl, _, rfl, l, p, rs, rfl, rfl, SqL.of (SS _ _ upd_same), SqL.of (SS _ _ (S0 _ _ ex)), q H2 (S0.trans SS)⟩⟩
end
section
variable {P : Program} {w : World} {K : PySem.W.Frag} {mg : Str → Option Value} {base : Heap} {f : Addr} {fd : FuncData}
theorem ok_law_plain (F : Fun K "_law_plain" "_law_plain" s_law_plain f fd) (y_len : mg "len" = none)  : FnOk P w K mg base CX0 1 f fd ["one", "move"] spPlain := by
  refine F.ok sc_law_plain (fun vs H Q E h => ?_) (fun cdv A outer s H vs Q E hr h => ?_)
  · obtain ⟨o, t, m, rfl, hT, hf, ho, qn, qs⟩ := h
    rfl
  obtain ⟨o, t, m, rfl, hT, hf, ho, qn, qs⟩ := h
  refine ⟨_, (pss_cons (ps_asg (pv 1) (pg_tup (by rfl) (pgs_cons (pg_name (i := 2) sc_law_plain.nd rfl (.inl rfl)) (pgs_cons (pg_name (i := 3) sc_law_plain.nd rfl (.inl rfl)) (pgs_cons (pg_name (i := 4) sc_law_plain.nd rfl (.inl rfl)) pgs_nil)))))
    (pss_cons (ps_if (PW.pt (pw_or (pt_cmpR op_lt (pv 2) pe_int (nomark _)) (pw_or (pt_cmpR op_gt (pv 2) (pe_callB call_len_str rfl y_len PySem.boot_len (pa_cons (pv 0) pa_nil)) (nomark _)) (pw_or1 (pt_cmpR op_ne (pe_slice sl_str (pv 0) (po_some (pv 2)) (po_some (pe_op op_add (pv 2) (pe_callB call_len_str rfl y_len PySem.boot_len (pa_cons (pv 3) pa_nil))))) (pv 3) (nomark _)))))) (pss_one (ps_ret pe_non)) pss_nil)
    (pss_cons (ps_if (pt_cmpR op_gt (pe_callB call_len_seq rfl y_len PySem.boot_len (pa_cons (pe_lc (own := [("letter", 5)]) (g := (gName 5)) (by rfl) sc_law_plain.nd (pi_str (pv 4)) (blkOk_by (own := [("letter", 5)]) (N := ["one", "move", "place", "old", "new", "letter"]) (sc := defScope s_law_plain) (by decide +kernel)) (fun _ _ _ _ _ => pg_name (i := 5) sc_law_plain.nd rfl (Or.inl rfl)) (fun _ _ _ _ _ => (pts_one (pt_cmpR op_notIn_sign (pv 5) pe_str rfl))) (fun _ _ _ _ _ => (pv 5))) pa_nil)) pe_int (nomark _)) (pss_one (ps_ret pe_non)) pss_nil)
    (pss_one (ps_ret (pe_op op_add_str (pe_op op_add_str (pe_slice sl_str (pv 0) po_none (po_some (pv 2))) (pv 4)) (pe_slice sl_str (pv 0) (po_some (pe_op op_add (pv 2) (pe_callB call_len_str rfl y_len PySem.boot_len (pa_cons (pv 3) pa_nil)))) po_none))))))), ?_⟩
  have z1 := hf.o
  have z2 := hf.n
  refine ⟨_, rfl, t, _, rfl, SqT.of hT, rfl, _, _, rfl, _, _, rfl, _, _, rfl, rfl, ?_⟩
  refine ⟨_, rfl, _, _, rfl, rfl, _, rfl, ite2 (fun c1 => iteT (qn H (Same.refl H))) (fun c1 => ?_)⟩
  have k1 : 0 ≤ m.pl := by
    have : ¬ m.pl < 0 := fun z => c1 (decide_eq_true z)
    omega
  have sd : (S o).length ≤ sizeLine := by rw [S_len]; exact fits (by omega)
  have so : (S m.o).length ≤ sizeLine := by rw [S_len]; exact fits (by omega)
  refine ⟨_, rfl, _, rfl, _, rfl, sd, _, _, rfl, rfl, _, rfl, ite2 (fun c2 => iteT (qn H (Same.refl H))) (fun c2 => ?_)⟩
  refine ⟨_, rfl, _, rfl, _, rfl, _, rfl, _, rfl, _, rfl, so, _, _, rfl, rfl, _, rfl, _, rfl, sd, ?_⟩
  refine ⟨_, rfl, rfl, _, rfl, ite2 (fun c3 => qn H (Same.refl H)) (fun c3 => ?_)⟩
  refine ⟨_, rfl, _, rfl, fun D' hD => lc_str (l := m.n) (fun i G => ∃ ys : List V, Same H G ∧ G D' = some (.lst ys) ∧ ys.length ≤ i) ⟨[], same_new hD _, upd_same, Nat.le_refl _⟩ ?_ ?_⟩
  · rintro i c G hc ⟨ys, sm, hG, hy⟩
    have hi : i < m.n.length := (List.getElem?_eq_some_iff.mp hc).1
    refine ⟨rfl, _, rfl, c, _, rfl, rfl, _, rfl, ite2 (fun k => ?_) (fun k => ?_)⟩
    · refine ⟨_, rfl, ys, hG, Nat.lt_of_lt_of_le (show ys.length < 16777216 by omega) sizeLine_big, ys ++ [_], fun b u hb => ?_, upd_same, by rw [List.length_append]; show _ + 1 ≤ _; omega⟩
      rw [upd_ne (ne_of_none hb hD)]
      exact sm _ _ hb
    · exact ⟨ys, sm, hG, by omega⟩
  · rintro G ⟨ys, sm, hG, hy⟩
    refine ⟨D', ys, rfl, .inl (SqL.of hG), _, _, rfl, rfl, _, rfl, ite2 (fun k => qn G sm) (fun k => ?_)⟩
    refine ⟨_, rfl, _, rfl, _, rfl, _, rfl, sd, ?_⟩
    rw [S_take o k1]
    refine ⟨_, rfl, _, _, rfl, rfl, ?_, ?_⟩
    · rw [S_len, S_len, List.length_take]; exact fits (by omega)
    rw [S_app]
    refine ⟨_, rfl, _, rfl, _, rfl, _, rfl, so, _, _, rfl, rfl, _, rfl, _, rfl, sd, ?_⟩
    rw [S_len, S_drop o (show 0 ≤ m.pl + (m.o.length : Int) by omega)]
    refine ⟨_, _, rfl, rfl, ?_, ?_⟩
    · rw [S_len, S_len, List.length_append, List.length_take, List.length_drop]; exact fits (by omega)
    rw [S_app]
    exact qs _ G sm
end
section
variable {P : Program} {w : World} {K : PySem.W.Frag} {mg : Str → Option Value} {base : Heap} {f : Addr} {fd : FuncData}
theorem ok_law_single (F : Fun K "_law_single" "_law_single" s_law_single f fd) (D_law_plain : Dfn P w K mg base "_law_plain" 5 ["one", "move"] spPlain) (D_row_holds : Dfn P w K mg base "_law_holds" 5 ["one", "moves", "other"] spRow)  : FnOk P w K mg base CX0 6 f fd ["one", "move"] spSingle := by
  refine F.ok sc_law_single (fun vs H Q E h => ?_) (fun cdv A outer s H vs Q E hr h => ?_)
  · obtain ⟨o, t, m, rfl, hT, hf, ho, q⟩ := h
    rfl
  obtain ⟨o, t, m, rfl, hT, hf, ho, q⟩ := h
  refine ⟨_, (pss_cons (ps_set (i := 2) sc_law_single.nd rfl (.inl rfl) (pe_do D_law_plain hr (pa_cons (pv 0) (pa_cons (pv 1) pa_nil))))
    (pss_one (ps_ret (pe_or (pe_cmpR op_isN (pv 2) pe_non (nomark _)) (pe_one (pe_do D_row_holds hr (pa_cons (pv 0) (pa_cons (pe_lst (pa_cons (pv 1) pa_nil)) (pa_cons (pv 2) pa_nil))))))))), ?_⟩
  refine ⟨_, rfl, _, rfl, o, t, m, rfl, hT, hf, ho, fun H1 s1 => ⟨_, rfl, rfl, _, rfl, iteT (q H1 s1)⟩, fun x H1 s1 => ⟨_, rfl, rfl, _, rfl, iteF ?_⟩⟩
  refine ⟨_, rfl, _, rfl, fits (by show 1 ≤ 16777216; decide), fun lp hlp => ?_⟩
  have S1 := same_new hlp (.lst [V.ref t])
  refine ⟨_, rfl, o, x, lp, rfl, ⟨[V.ref t], upd_same, by show 1 ≤ 1000; decide, fun y hy => ?_⟩, ho, fun H2 s2 => q H2 ((s1.trans S1).trans s2)⟩
  rw [List.mem_singleton.mp hy]
  exact ⟨t, m, rfl, (hT.same s1).same S1, hf⟩
end
def spLaw (K : PySem.W.Frag) : Sp := fun vs H Q _ => ∃ (a : Addr) (ns : List Int), vs = [.ref a] ∧ SqL K H a (ns.map V.int) ∧ ns.length ≤ 63 ∧ ∀ H', Q (.bl true) H'
section
variable {P : Program} {w : World} {K : PySem.W.Frag} {mg : Str → Option Value} {base : Heap} {f : Addr} {fd : FuncData}
theorem ok_law (F : Fun K "law" "law" s_law f fd) (D_tape : Dfn P w K mg base "_law_tape" 6 ["script", "k"] (spTape K)) (D_dance : Dfn P w K mg base "_law_dance" 6 ["tape", "most"] spDance) (D_law_moves : Dfn P w K mg base "_law_moves" 6 ["tape", "dance", "most"] spMoves) (D_row_holds : Dfn P w K mg base "_law_holds" 6 ["one", "moves", "other"] spRow) (D_odd_move : Dfn P w K mg base "_law_odd_move" 6 ["tape", "move"] spOdd) (D_law_taken : Dfn P w K mg base "_law_taken" 6 ["tape", "dance"] spTaken) (D_law_put : Dfn P w K mg base "_law_put" 6 ["tape", "dance"] spPut) (D_take : Dfn P w K mg base "_law_take" 6 ["tape", "many"] spTake) (D_law_single : Dfn P w K mg base "_law_single" 6 ["one", "move"] spSingle) (D_law_changed : Dfn P w K mg base "_law_changed" 6 ["tape", "moves"] spChanged) (y_range : mg "range" = none)  : FnOk P w K mg base CX0 7 f fd ["script"] (spLaw K) := by
  refine F.ok sc_law (fun vs H Q E h => ?_) (fun cdv A outer s H vs Q E hr h => ?_)
  · obtain ⟨sa, ns, rfl, hS, h63, q⟩ := h
    rfl
  obtain ⟨sa, ns, rfl, hS, h63, q⟩ := h
  refine ⟨_, (pss_cons (ps_for PassesOwn.never rfl (pi_range1 rfl y_range (pa_cons pe_int pa_nil)) (pg_name (i := 1) sc_law.nd rfl (.inl rfl))
    (pss_cons (ps_set (i := 2) sc_law.nd rfl (.inl rfl) (pe_do D_tape hr (pa_cons (pv 0) (pa_cons (pv 1) pa_nil))))
    (pss_cons (ps_set (i := 3) sc_law.nd rfl (.inl rfl) (pe_do D_dance hr (pa_cons (pv 2) (pa_cons pe_int pa_nil))))
    (pss_cons (ps_asg (pe_do D_law_moves hr (pa_cons (pv 2) (pa_cons (pv 3) (pa_cons pe_int pa_nil)))) (pg_tup (by rfl) (pgs_cons (pg_name (i := 4) sc_law.nd rfl (.inl rfl)) (pgs_cons (pg_name (i := 5) sc_law.nd rfl (.inl rfl)) pgs_nil))))
    (pss_cons (ps_if (PW.pt (pw_or (pt_not (pt_val (pe_do D_row_holds hr (pa_cons (pv 3) (pa_cons (pv 4) (pa_cons (pv 5) pa_nil)))))) (pw_or (pt_not (pt_val (pe_do D_row_holds hr (pa_cons (pv 5) (pa_cons (pv 4) (pa_cons (pv 3) pa_nil)))))) (pw_or1 (pt_not (pt_val (pe_do D_row_holds hr (pa_cons (pv 3) (pa_cons (pe_lst pa_nil) (pa_cons (pv 3) pa_nil)))))))))) (pss_one (ps_ret pe_bl)) pss_nil)
    (pss_cons (ps_if (PW.pt (pw_or (pt_not (pt_val (pe_do D_row_holds hr (pa_cons (pv 3) (pa_cons (pv 4) (pa_cons (pe_op op_add_str (pv 5) pe_str) pa_nil)))))) (pw_or1 (pt_not (pt_val (pe_do D_row_holds hr (pa_cons (pe_do D_dance hr (pa_cons (pv 2) (pa_cons pe_int pa_nil))) (pa_cons (pv 4) (pa_cons (pv 5) pa_nil))))))))) (pss_one (ps_ret pe_bl)) pss_nil)
    (pss_cons (ps_for PassesOwn.never rfl (pi_range1 rfl y_range (pa_cons pe_int pa_nil)) (pg_name (i := 6) sc_law.nd rfl (.inl rfl))
    (pss_cons (ps_set (i := 7) sc_law.nd rfl (.inl rfl) (pe_do D_odd_move hr (pa_cons (pv 2) (pa_cons (pe_ix ix_list (pe_lst (pa_cons (pe_do D_law_put hr (pa_cons (pv 2) (pa_cons (pv 3) pa_nil))) (pa_cons (pe_do D_law_taken hr (pa_cons (pv 2) (pa_cons (pv 3) pa_nil))) pa_nil))) (pe_do D_take hr (pa_cons (pv 2) (pa_cons pe_int pa_nil))) (fun _ _ => rfl)) pa_nil))))
    (pss_one (ps_if (PW.pt (pw_or (pt_not (pt_val (pe_do D_law_single hr (pa_cons (pv 3) (pa_cons (pv 7) pa_nil))))) (pw_or1 (pt_not (pt_val (pe_do D_law_single hr (pa_cons (pv 3) (pa_cons (pe_tup (pa_cons (pe_do D_take hr (pa_cons (pv 2) (pa_cons pe_int pa_nil))) (pa_cons pe_str (pa_cons pe_str pa_nil)))) pa_nil)))))))) (pss_one (ps_ret pe_bl)) pss_nil))))
    (pss_one (ps_for PassesOwn.never rfl (pi_range1 rfl y_range (pa_cons pe_int pa_nil)) (pg_name (i := 6) sc_law.nd rfl (.inl rfl))
    (pss_cons (ps_set (i := 4) sc_law.nd rfl (.inl rfl) (pe_do D_law_changed hr (pa_cons (pv 2) (pa_cons (pv 4) pa_nil))))
    (pss_one (ps_if (pt_not (pt_val (pe_do D_row_holds hr (pa_cons (pv 3) (pa_cons (pv 4) (pa_cons (pv 5) pa_nil)))))) (pss_one (ps_ret pe_bl)) pss_nil))))))))))))
    (pss_one (ps_ret pe_bl))), ?_⟩
  have s3 : 3 ≤ sizeLine := fits (by decide)
  refine ⟨6, rfl, by decide, by decide, for_range (lo := 0) (n := 6) (fun i σ H' => ∃ (x1 x2 x3 x4 x5 x6 x7 : Option V), σ = [some (.ref sa), x1, x2, x3, x4, x5, x6, x7] ∧ Same H H') ?_ ?_ ?_⟩
  · exact ⟨_, _, _, _, _, _, _, rfl, Same.refl H⟩
  · rintro i σ H0 hi ⟨x1, x2, x3, x4, x5, x6, x7, rfl, sm⟩
    refine ⟨_, rfl, _, rfl, sa, ns, 0 + (i : Int), rfl, sm.seq hS, by omega, fun tp H1 s1 ntp t1 => ?_⟩
    refine ⟨_, rfl, tp, 30, rfl, t1, by decide, by decide, fun o H2 _ ho b2 t2 => ?_⟩
    refine ⟨_, rfl, _, rfl, tp, o, 20, rfl, t2, by omega, by decide, by decide, fun tt p ms x H3 b3 t3 hp htt tl fa hz hl hx => ?_⟩
    refine ⟨tt, _, rfl, SqT.of htt, rfl, _, _, rfl, _, _, rfl, rfl, ?_⟩
    have np := t2.ne hp
    have ml : Ml H3 p 200 1000 := tl.ml (fun m hm => (fa m hm).mono (by decide)) (by omega)
    have ml20 : Ml H3 p 20 20 := tl.ml (fun m hm => (fa m hm).mono (by decide)) (by omega)
    refine ⟨_, rfl, _, rfl, _, rfl, o, x, p, rfl, ml, by omega, fun H4 s4 => ⟨_, rfl, iteF ?_⟩⟩
    refine ⟨_, rfl, _, rfl, _, rfl, x, o, p, rfl, ml.same s4, by omega, fun H5 s5 => ⟨_, rfl, iteF ?_⟩⟩
    refine ⟨_, rfl, fits (by show 0 ≤ 16777216; decide), fun ep hep => ?_⟩
    have S6 := (s4.trans s5).trans (same_new hep (.lst []))
    refine ⟨_, rfl, o, o, ep, rfl, ⟨[], upd_same, Nat.zero_le _, fun y hy => by cases hy⟩, by omega, fun H7 s7 => ⟨_, rfl, iteF ?_⟩⟩
    refine ⟨_, rfl, _, rfl, _, rfl, _, _, rfl, rfl, by rw [S_len, e_T, S_len]; exact fits (by show x.length + 1 ≤ _; omega), ?_⟩
    rw [e_T, S_app]
    refine ⟨o, x ++ [84], p, rfl, (ml.same S6).same s7, by omega, fun H8 s8 => ⟨_, rfl, iteF ?_⟩⟩
    have S8 := (S6.trans s7).trans s8
    refine ⟨_, rfl, tp, 30, rfl, t3.same S8, by decide, by decide, fun o2 H9 _ ho2 b9 t9 => ?_⟩
    refine ⟨_, rfl, _, rfl, o2, x, p, rfl, (ml.same S8).tape b9 np (t3.same S8), by omega, fun H10 s10 => ⟨_, rfl, iteF ?_⟩⟩
    have t10 := t9.same s10
    have ml10 : Ml H10 p 20 20 := ((ml20.same S8).tape b9 np (t3.same S8)).same s10
    have S10 : Same H0 H10 := ((((((But.of s1).trans b2).trans b3).trans (But.of S8)).trans b9).trans (But.of s10)).same (Same.refl H0) ntp
    refine ⟨4, rfl, by decide, by decide, for_range (lo := 0) (n := 4) (fun j σ G => ∃ (y6 y7 : Option V), σ = [some (.ref sa), some (.int (0 + (i : Int))), some (.ref tp), some (.str (S o)), some (.ref p), some (.str (S x)), y6, y7] ∧ Same H0 G ∧ Tape G tp ∧ Ml G p 20 20) ?_ ?_ ?_⟩
    · exact ⟨_, _, rfl, S10, t10, ml10⟩
    · rintro j σ G0 hj ⟨y6, y7, rfl, sg, tg, mlg⟩
      refine ⟨_, rfl, _, rfl, _, rfl, tp, o, rfl, tg, by omega, fun ta ma G1 cna _ b1 tg1 hma => ?_⟩
      refine ⟨_, rfl, _, rfl, tp, o, rfl, tg1, by omega, fun tb mb G2 cnb b2' tg2 hmb => ?_⟩
      refine ⟨fits (by show 2 ≤ 16777216; decide), fun lp hlp => ?_⟩
      have nl := tg2.ne hlp
      refine ⟨_, rfl, tp, 2, rfl, tg2.same (same_new hlp _), by decide, by decide, fun r' G3 r0' r1' b3' tg3 => ?_⟩
      have hma3 : Tm G3 ta ma := ((hma.but b2' tg1).same (same_new hlp _)).but b3' (tg2.same (same_new hlp _))
      have hmb3 : Tm G3 tb mb := (hmb.same (same_new hlp _)).but b3' (tg2.same (same_new hlp _))
      obtain ⟨t, m, hat, hm, cn⟩ := pick_two hma3 hmb3 cna cnb r0' r1'
      refine ⟨lp, _, _, _, rfl, rfl, SqL.of (b3' _ _ nl upd_same), hat, ?_⟩
      refine ⟨tp, t, m, 20, rfl, tg3, hm, cn.2.2.mono (by decide), by decide, by decide, fun to mo G4 fo b4 tg4 hmo => ?_⟩
      refine ⟨_, rfl, _, rfl, o, to, mo, rfl, hmo, fo.mono (by decide), by omega, fun G5 s5' => ⟨_, rfl, iteF ?_⟩⟩
      refine ⟨_, rfl, _, rfl, tp, 4, rfl, tg4.same s5', by decide, by decide, fun r6 G6 _ _ b6 tg6 => ⟨s3, fun tn hn => ?_⟩⟩
      have m1 : Tm (upd G6 tn (.tup [V.int r6, .str "", .str "RTR"])) tn ⟨r6, [], wF⟩ := by unfold Tm Mv.vs; rw [upd_same, e_empty, e_RTR]
      have SN := same_new hn (.tup [V.int r6, .str "", .str "RTR"])
      refine ⟨o, tn, ⟨r6, [], wF⟩, rfl, m1, ⟨Nat.zero_le _, by show 3 ≤ 200; decide⟩, by omega, fun G7 s7' => ⟨_, rfl, iteF ?_⟩⟩
      have BB : But tp G0 G7 := (((((((b1.trans b2').trans (But.of (same_new hlp _))).trans b3').trans b4).trans (But.of s5')).trans b6).trans (But.of SN)).trans (But.of s7')
      exact ⟨_, _, rfl, BB.same sg ntp, (tg6.same SN).same s7', mlg.tape BB np tg⟩
    · rintro σ G0 ⟨y6, y7, rfl, sg, tg, mlg⟩
      refine ⟨3, rfl, by decide, by decide, for_range (lo := 0) (n := 3) (fun j σ G => ∃ (p' : Addr) (k n : Nat) (y6 y7 : Option V), σ = [some (.ref sa), some (.int (0 + (i : Int))), some (.ref tp), some (.str (S o)), some (.ref p'), some (.str (S x)), y6, y7] ∧ Same H0 G ∧ Tape G tp ∧ p' ≠ tp ∧ Ml G p' k n ∧ 20 ≤ k ∧ k ≤ 20 * 2 ^ j ∧ n + 1 ≤ 21 * 3 ^ j) ?_ ?_ ?_⟩
      · exact ⟨p, 20, 20, _, _, rfl, sg, tg, np, mlg, by decide, by decide, by decide⟩
      · rintro j σ G1 hj ⟨p', k, n, z6, z7, rfl, sg1, tg1, np', mlg1, k0, k1, n1⟩
        have j2 : (2 : Nat) ^ j ≤ 4 := by
          have : j = 0 ∨ j = 1 ∨ j = 2 := by omega
          rcases this with rfl | rfl | rfl <;> decide
        have j3 : (3 : Nat) ^ j ≤ 9 := by
          have : j = 0 ∨ j = 1 ∨ j = 2 := by omega
          rcases this with rfl | rfl | rfl <;> decide
        refine ⟨_, rfl, _, rfl, tp, p', k, n, rfl, tg1, np', mlg1, by omega, k0, by omega, fun p'' G2 b2' tg2 np'' ml2 => ?_⟩
        have ml3 : Ml G2 p'' 200 1000 := by
          obtain ⟨xs, ex, lx, al⟩ := ml2
          exact ⟨xs, ex, by omega, fun y hy => (al y hy).mono (by omega)⟩
        refine ⟨_, rfl, _, rfl, _, rfl, o, x, p'', rfl, ml3, by omega, fun G3 s3' => ⟨_, rfl, iteF ?_⟩⟩
        exact ⟨p'', 2 * k, 3 * n + 1, _, _, rfl, (b2'.trans (But.of s3')).same sg1 ntp, tg2.same s3', np'', ml2.same s3', by omega, by rw [Nat.pow_succ]; omega, by rw [Nat.pow_succ]; omega⟩
      · rintro σ G1 ⟨p', k, n, z6, z7, rfl, sg1, _⟩
        exact ⟨_, _, _, _, _, _, _, rfl, sm.trans sg1⟩
  · rintro σ H' ⟨x1, x2, x3, x4, x5, x6, x7, rfl, sm⟩
    exact q H'
end
theorem all_mk {l : PySem.W.OpenLaw} {w : World} {K : PySem.W.Frag} {h : Heap} {mg : Str → Option Value} {fa : Addr} (X : K.In h) (G : h.Ns mainGlobals mg) (hfa : mg "law" = some (.ref fa))
    {f0 f1 f2 f3 f4 f5 f6 f7 f8 f9 f10 f11 f12 f13 f14 f15 f16 f17 f18 f19 : Addr} {od0 an0 od1 an1 od2 an2 od3 an3 od4 an4 od5 an5 od6 an6 od7 an7 od8 an8 od9 an9 od10 an10 od11 an11 od12 an12 od13 an13 od14 an14 od15 an15 od16 an16 od17 an17 od18 an18 od19 an19 : Option Addr} {sl0 sl1 sl2 sl3 sl4 sl5 sl6 sl7 sl8 sl9 sl10 sl11 sl12 sl13 sl14 sl15 sl16 sl17 sl18 sl19 : Array (Option Value)}
    {oc0 kV0 dc0 pm0 cd0 ct0 oc1 kV1 dc1 pm1 cd1 ct1 oc2 kV2 dc2 pm2 cd2 ct2 oc3 kV3 dc3 pm3 cd3 ct3 oc4 kV4 dc4 pm4 cd4 ct4 oc5 kV5 dc5 pm5 cd5 ct5 oc6 kV6 dc6 pm6 cd6 ct6 oc7 kV7 dc7 pm7 cd7 ct7 oc8 kV8 dc8 pm8 cd8 ct8 oc9 kV9 dc9 pm9 cd9 ct9 oc10 kV10 dc10 pm10 cd10 ct10 oc11 kV11 dc11 pm11 cd11 ct11 oc12 kV12 dc12 pm12 cd12 ct12 oc13 kV13 dc13 pm13 cd13 ct13 oc14 kV14 dc14 pm14 cd14 ct14 oc15 kV15 dc15 pm15 cd15 ct15 oc16 kV16 dc16 pm16 cd16 ct16 oc17 kV17 dc17 pm17 cd17 ct17 oc18 kV18 dc18 pm18 cd18 ct18 oc19 kV19 dc19 pm19 cd19 ct19 : Value}
    (a0 : PySem.W.nsIn K mainGlobals "is_move" = some (some (.ref f0))) (l0 : K.lookup f0 = some ⟨oc0, od0, .func (PySem.W.fnOf "is_move" "is_move" (defArgs s_is_move) (defBody s_is_move) (defScope s_is_move) .none kV0 dc0 pm0 an0 cd0 ct0), sl0⟩) (c0 : PySem.W.codeIn K cd0 "is_move" = true) (k0 : PySem.W.keepIn K (.ref f0) = true)
    (a1 : PySem.W.nsIn K mainGlobals "made" = some (some (.ref f1))) (l1 : K.lookup f1 = some ⟨oc1, od1, .func (PySem.W.fnOf "made" "made" (defArgs s_made) (defBody s_made) (defScope s_made) .none kV1 dc1 pm1 an1 cd1 ct1), sl1⟩) (c1 : PySem.W.codeIn K cd1 "made" = true) (k1 : PySem.W.keepIn K (.ref f1) = true)
    (a2 : PySem.W.nsIn K mainGlobals "leads" = some (some (.ref f2))) (l2 : K.lookup f2 = some ⟨oc2, od2, .func (PySem.W.fnOf "leads" "leads" (defArgs s_leads) (defBody s_leads) (defScope s_leads) .none kV2 dc2 pm2 an2 cd2 ct2), sl2⟩) (c2 : PySem.W.codeIn K cd2 "leads" = true) (k2 : PySem.W.keepIn K (.ref f2) = true)
    (a3 : PySem.W.nsIn K mainGlobals "_law_tape" = some (some (.ref f3))) (l3 : K.lookup f3 = some ⟨oc3, od3, .func (PySem.W.fnOf "_law_tape" "_law_tape" (defArgs s_law_tape) (defBody s_law_tape) (defScope s_law_tape) .none kV3 dc3 pm3 an3 cd3 ct3), sl3⟩) (c3 : PySem.W.codeIn K cd3 "_law_tape" = true) (k3 : PySem.W.keepIn K (.ref f3) = true)
    (a4 : PySem.W.nsIn K mainGlobals "_law_take" = some (some (.ref f4))) (l4 : K.lookup f4 = some ⟨oc4, od4, .func (PySem.W.fnOf "_law_take" "_law_take" (defArgs s_law_take) (defBody s_law_take) (defScope s_law_take) .none kV4 dc4 pm4 an4 cd4 ct4), sl4⟩) (c4 : PySem.W.codeIn K cd4 "_law_take" = true) (k4 : PySem.W.keepIn K (.ref f4) = true)
    (a5 : PySem.W.nsIn K mainGlobals "_law_dance" = some (some (.ref f5))) (l5 : K.lookup f5 = some ⟨oc5, od5, .func (PySem.W.fnOf "_law_dance" "_law_dance" (defArgs s_law_dance) (defBody s_law_dance) (defScope s_law_dance) .none kV5 dc5 pm5 an5 cd5 ct5), sl5⟩) (c5 : PySem.W.codeIn K cd5 "_law_dance" = true) (k5 : PySem.W.keepIn K (.ref f5) = true)
    (a6 : PySem.W.nsIn K mainGlobals "_law_says" = some (some (.ref f6))) (l6 : K.lookup f6 = some ⟨oc6, od6, .func (PySem.W.fnOf "_law_says" "_law_says" (defArgs s_law_says) (defBody s_law_says) (defScope s_law_says) .none kV6 dc6 pm6 an6 cd6 ct6), sl6⟩) (c6 : PySem.W.codeIn K cd6 "_law_says" = true) (k6 : PySem.W.keepIn K (.ref f6) = true)
    (a7 : PySem.W.nsIn K mainGlobals "_law_is_move" = some (some (.ref f7))) (l7 : K.lookup f7 = some ⟨oc7, od7, .func (PySem.W.fnOf "_law_is_move" "_law_is_move" (defArgs s_law_is_move) (defBody s_law_is_move) (defScope s_law_is_move) .none kV7 dc7 pm7 an7 cd7 ct7), sl7⟩) (c7 : PySem.W.codeIn K cd7 "_law_is_move" = true) (k7 : PySem.W.keepIn K (.ref f7) = true)
    (a8 : PySem.W.nsIn K mainGlobals "_law_made" = some (some (.ref f8))) (l8 : K.lookup f8 = some ⟨oc8, od8, .func (PySem.W.fnOf "_law_made" "_law_made" (defArgs s_law_made) (defBody s_law_made) (defScope s_law_made) .none kV8 dc8 pm8 an8 cd8 ct8), sl8⟩) (c8 : PySem.W.codeIn K cd8 "_law_made" = true) (k8 : PySem.W.keepIn K (.ref f8) = true)
    (a9 : PySem.W.nsIn K mainGlobals "_law_put" = some (some (.ref f9))) (l9 : K.lookup f9 = some ⟨oc9, od9, .func (PySem.W.fnOf "_law_put" "_law_put" (defArgs s_law_put) (defBody s_law_put) (defScope s_law_put) .none kV9 dc9 pm9 an9 cd9 ct9), sl9⟩) (c9 : PySem.W.codeIn K cd9 "_law_put" = true) (k9 : PySem.W.keepIn K (.ref f9) = true)
    (a10 : PySem.W.nsIn K mainGlobals "_law_taken" = some (some (.ref f10))) (l10 : K.lookup f10 = some ⟨oc10, od10, .func (PySem.W.fnOf "_law_taken" "_law_taken" (defArgs s_law_taken) (defBody s_law_taken) (defScope s_law_taken) .none kV10 dc10 pm10 an10 cd10 ct10), sl10⟩) (c10 : PySem.W.codeIn K cd10 "_law_taken" = true) (k10 : PySem.W.keepIn K (.ref f10) = true)
    (a11 : PySem.W.nsIn K mainGlobals "_law_moves" = some (some (.ref f11))) (l11 : K.lookup f11 = some ⟨oc11, od11, .func (PySem.W.fnOf "_law_moves" "_law_moves" (defArgs s_law_moves) (defBody s_law_moves) (defScope s_law_moves) .none kV11 dc11 pm11 an11 cd11 ct11), sl11⟩) (c11 : PySem.W.codeIn K cd11 "_law_moves" = true) (k11 : PySem.W.keepIn K (.ref f11) = true)
    (a12 : PySem.W.nsIn K mainGlobals "_law_near_word" = some (some (.ref f12))) (l12 : K.lookup f12 = some ⟨oc12, od12, .func (PySem.W.fnOf "_law_near_word" "_law_near_word" (defArgs s_law_near_word) (defBody s_law_near_word) (defScope s_law_near_word) .none kV12 dc12 pm12 an12 cd12 ct12), sl12⟩) (c12 : PySem.W.codeIn K cd12 "_law_near_word" = true) (k12 : PySem.W.keepIn K (.ref f12) = true)
    (a13 : PySem.W.nsIn K mainGlobals "_law_odd_move" = some (some (.ref f13))) (l13 : K.lookup f13 = some ⟨oc13, od13, .func (PySem.W.fnOf "_law_odd_move" "_law_odd_move" (defArgs s_law_odd_move) (defBody s_law_odd_move) (defScope s_law_odd_move) .none kV13 dc13 pm13 an13 cd13 ct13), sl13⟩) (c13 : PySem.W.codeIn K cd13 "_law_odd_move" = true) (k13 : PySem.W.keepIn K (.ref f13) = true)
    (a14 : PySem.W.nsIn K mainGlobals "_law_leads" = some (some (.ref f14))) (l14 : K.lookup f14 = some ⟨oc14, od14, .func (PySem.W.fnOf "_law_leads" "_law_leads" (defArgs s_law_leads) (defBody s_law_leads) (defScope s_law_leads) .none kV14 dc14 pm14 an14 cd14 ct14), sl14⟩) (c14 : PySem.W.codeIn K cd14 "_law_leads" = true) (k14 : PySem.W.keepIn K (.ref f14) = true)
    (a15 : PySem.W.nsIn K mainGlobals "_law_changed" = some (some (.ref f15))) (l15 : K.lookup f15 = some ⟨oc15, od15, .func (PySem.W.fnOf "_law_changed" "_law_changed" (defArgs s_law_changed) (defBody s_law_changed) (defScope s_law_changed) .none kV15 dc15 pm15 an15 cd15 ct15), sl15⟩) (c15 : PySem.W.codeIn K cd15 "_law_changed" = true) (k15 : PySem.W.keepIn K (.ref f15) = true)
    (a16 : PySem.W.nsIn K mainGlobals "_law_holds" = some (some (.ref f16))) (l16 : K.lookup f16 = some ⟨oc16, od16, .func (PySem.W.fnOf "_law_holds" "_law_holds" (defArgs s_law_holds) (defBody s_law_holds) (defScope s_law_holds) .none kV16 dc16 pm16 an16 cd16 ct16), sl16⟩) (c16 : PySem.W.codeIn K cd16 "_law_holds" = true) (k16 : PySem.W.keepIn K (.ref f16) = true)
    (a17 : PySem.W.nsIn K mainGlobals "_law_plain" = some (some (.ref f17))) (l17 : K.lookup f17 = some ⟨oc17, od17, .func (PySem.W.fnOf "_law_plain" "_law_plain" (defArgs s_law_plain) (defBody s_law_plain) (defScope s_law_plain) .none kV17 dc17 pm17 an17 cd17 ct17), sl17⟩) (c17 : PySem.W.codeIn K cd17 "_law_plain" = true) (k17 : PySem.W.keepIn K (.ref f17) = true)
    (a18 : PySem.W.nsIn K mainGlobals "_law_single" = some (some (.ref f18))) (l18 : K.lookup f18 = some ⟨oc18, od18, .func (PySem.W.fnOf "_law_single" "_law_single" (defArgs s_law_single) (defBody s_law_single) (defScope s_law_single) .none kV18 dc18 pm18 an18 cd18 ct18), sl18⟩) (c18 : PySem.W.codeIn K cd18 "_law_single" = true) (k18 : PySem.W.keepIn K (.ref f18) = true)
    (a19 : PySem.W.nsIn K mainGlobals "law" = some (some (.ref f19))) (l19 : K.lookup f19 = some ⟨oc19, od19, .func (PySem.W.fnOf "law" "law" (defArgs s_law) (defBody s_law) (defScope s_law) .none kV19 dc19 pm19 an19 cd19 ct19), sl19⟩) (c19 : PySem.W.codeIn K cd19 "law" = true) (k19 : PySem.W.keepIn K (.ref f19) = true)
    (z_len : PySem.W.nsIn K mainGlobals "len" = some none)
    (z_abs : PySem.W.nsIn K mainGlobals "abs" = some none)
    (z_int : PySem.W.nsIn K mainGlobals "int" = some none)
    (z_range : PySem.W.nsIn K mainGlobals "range" = some none)
    (z_isinstance : PySem.W.nsIn K mainGlobals "isinstance" = some none)
    (z_tuple : PySem.W.nsIn K mainGlobals "tuple" = some none)
    (z_list : PySem.W.nsIn K mainGlobals "list" = some none)
    (z_str : PySem.W.nsIn K mainGlobals "str" = some none)
    (z_bool : PySem.W.nsIn K mainGlobals "bool" = some none)
    {dW : Addr} {odW : Option Addr} {w1 w2 w3 w4 tF : Tok} {nW : Nat} {sW : Array (Option Value)} (aW : PySem.W.nsIn K mainGlobals "WORDS" = some (some (.ref dW))) (lW : K.lookup dW = some ⟨.type "tuple", odW, .seq #[.str "TU" w1, .str "UT" w2, .str "RR" w3, .str "TRTRTR" w4] nW, sW⟩) (aF : PySem.W.nsIn K mainGlobals "WORD_IN_FRONT" = some (some (.str "RTR" tF)))
    {C : Addr}
    (aC : PySem.W.nsIn K mainGlobals "BadMove" = some (some (.ref C)))
    (xC : PySem.W.excIn K C [.type "ValueError", .type "Exception", .type "BaseException", .type "object"] "ValueError.__new__" = true) (kC : PySem.W.keepIn K (.ref C) = true) (bC : PySem.W.subIn K (.ref C) (.type "BaseException") = some true) (tC : PySem.W.typeIn K (.ref C) = some (.type "type")) (hC : PySem.W.hasDictIn K C = true)
    (gC : PySem.W.findIn K (.ref C) "__getattribute__" = some (some (.builtin "BaseException.__getattribute__"))) (qC : PySem.W.findIn K (.ref C) "__getattr__" = some none) (cC : PySem.W.findIn K (.ref C) "__class__" = some (some (.builtin "object.__class__"))) (oC : PySem.W.mroIn K C (.type "object") = some true)
    (sCC : PySem.W.subIn K (.ref C) (.ref C) = some true) :
    ∃ fd : FuncData, (∀ (s : Shared) (v : Value), BindsTo s fd ⟨[v], []⟩ [("script", v)]) ∧ ∀ base : Heap, K.In base → base.Ns mainGlobals mg → FnOk l.prog w K mg base CX0 7 fa fd ["script"] (spLaw K) := by
  have e := hfa.symm.trans (PySem.W.mg_of X G a19)
  cases e
  have F_is_move := fun_mk (st := s_is_move) l0 c0 k0
  have m_is_move := PySem.W.mg_of X G a0
  have b_is_move := F_is_move.binds (ps := ["move"]) fun _ _ _ _ _ _ us hl => match us, hl with | [_], _ => rfl
  have F_made := fun_mk (st := s_made) l1 c1 k1
  have m_made := PySem.W.mg_of X G a1
  have b_made := F_made.binds (ps := ["dance", "move"]) fun _ _ _ _ _ _ us hl => match us, hl with | [_, _], _ => rfl
  have F_leads := fun_mk (st := s_leads) l2 c2 k2
  have m_leads := PySem.W.mg_of X G a2
  have b_leads := F_leads.binds (ps := ["one", "moves", "other"]) fun _ _ _ _ _ _ us hl => match us, hl with | [_, _, _], _ => rfl
  have F__law_tape := fun_mk (st := s_law_tape) l3 c3 k3
  have m__law_tape := PySem.W.mg_of X G a3
  have b__law_tape := F__law_tape.binds (ps := ["script", "k"]) fun _ _ _ _ _ _ us hl => match us, hl with | [_, _], _ => rfl
  have F__law_take := fun_mk (st := s_law_take) l4 c4 k4
  have m__law_take := PySem.W.mg_of X G a4
  have b__law_take := F__law_take.binds (ps := ["tape", "many"]) fun _ _ _ _ _ _ us hl => match us, hl with | [_, _], _ => rfl
  have F__law_dance := fun_mk (st := s_law_dance) l5 c5 k5
  have m__law_dance := PySem.W.mg_of X G a5
  have b__law_dance := F__law_dance.binds (ps := ["tape", "most"]) fun _ _ _ _ _ _ us hl => match us, hl with | [_, _], _ => rfl
  have F__law_says := fun_mk (st := s_law_says) l6 c6 k6
  have m__law_says := PySem.W.mg_of X G a6
  have b__law_says := F__law_says.binds (ps := ["told", "due"]) fun _ _ _ _ _ _ us hl => match us, hl with | [_, _], _ => rfl
  have F__law_is_move := fun_mk (st := s_law_is_move) l7 c7 k7
  have m__law_is_move := PySem.W.mg_of X G a7
  have b__law_is_move := F__law_is_move.binds (ps := ["move"]) fun _ _ _ _ _ _ us hl => match us, hl with | [_], _ => rfl
  have F__law_made := fun_mk (st := s_law_made) l8 c8 k8
  have m__law_made := PySem.W.mg_of X G a8
  have b__law_made := F__law_made.binds (ps := ["dance", "move"]) fun _ _ _ _ _ _ us hl => match us, hl with | [_, _], _ => rfl
  have F__law_put := fun_mk (st := s_law_put) l9 c9 k9
  have m__law_put := PySem.W.mg_of X G a9
  have b__law_put := F__law_put.binds (ps := ["tape", "dance"]) fun _ _ _ _ _ _ us hl => match us, hl with | [_, _], _ => rfl
  have F__law_taken := fun_mk (st := s_law_taken) l10 c10 k10
  have m__law_taken := PySem.W.mg_of X G a10
  have b__law_taken := F__law_taken.binds (ps := ["tape", "dance"]) fun _ _ _ _ _ _ us hl => match us, hl with | [_, _], _ => rfl
  have F__law_moves := fun_mk (st := s_law_moves) l11 c11 k11
  have m__law_moves := PySem.W.mg_of X G a11
  have b__law_moves := F__law_moves.binds (ps := ["tape", "dance", "most"]) fun _ _ _ _ _ _ us hl => match us, hl with | [_, _, _], _ => rfl
  have F__law_near_word := fun_mk (st := s_law_near_word) l12 c12 k12
  have m__law_near_word := PySem.W.mg_of X G a12
  have b__law_near_word := F__law_near_word.binds (ps := ["tape"]) fun _ _ _ _ _ _ us hl => match us, hl with | [_], _ => rfl
  have F__law_odd_move := fun_mk (st := s_law_odd_move) l13 c13 k13
  have m__law_odd_move := PySem.W.mg_of X G a13
  have b__law_odd_move := F__law_odd_move.binds (ps := ["tape", "move"]) fun _ _ _ _ _ _ us hl => match us, hl with | [_, _], _ => rfl
  have F__law_leads := fun_mk (st := s_law_leads) l14 c14 k14
  have m__law_leads := PySem.W.mg_of X G a14
  have b__law_leads := F__law_leads.binds (ps := ["one", "moves", "other"]) fun _ _ _ _ _ _ us hl => match us, hl with | [_, _, _], _ => rfl
  have F__law_changed := fun_mk (st := s_law_changed) l15 c15 k15
  have m__law_changed := PySem.W.mg_of X G a15
  have b__law_changed := F__law_changed.binds (ps := ["tape", "moves"]) fun _ _ _ _ _ _ us hl => match us, hl with | [_, _], _ => rfl
  have F__law_holds := fun_mk (st := s_law_holds) l16 c16 k16
  have m__law_holds := PySem.W.mg_of X G a16
  have b__law_holds := F__law_holds.binds (ps := ["one", "moves", "other"]) fun _ _ _ _ _ _ us hl => match us, hl with | [_, _, _], _ => rfl
  have F__law_plain := fun_mk (st := s_law_plain) l17 c17 k17
  have m__law_plain := PySem.W.mg_of X G a17
  have b__law_plain := F__law_plain.binds (ps := ["one", "move"]) fun _ _ _ _ _ _ us hl => match us, hl with | [_, _], _ => rfl
  have F__law_single := fun_mk (st := s_law_single) l18 c18 k18
  have m__law_single := PySem.W.mg_of X G a18
  have b__law_single := F__law_single.binds (ps := ["one", "move"]) fun _ _ _ _ _ _ us hl => match us, hl with | [_, _], _ => rfl
  have F_law := fun_mk (st := s_law) l19 c19 k19
  have m_law := PySem.W.mg_of X G a19
  have b_law := F_law.binds (ps := ["script"]) fun _ _ _ _ _ _ us hl => match us, hl with | [_], _ => rfl
  have y_len := PySem.W.mg_none_of X G z_len
  have y_abs := PySem.W.mg_none_of X G z_abs
  have y_int := PySem.W.mg_none_of X G z_int
  have y_range := PySem.W.mg_none_of X G z_range
  have y_isinstance := PySem.W.mg_none_of X G z_isinstance
  have y_tuple := PySem.W.mg_none_of X G z_tuple
  have y_list := PySem.W.mg_none_of X G z_list
  have y_str := PySem.W.mg_none_of X G z_str
  have y_bool := PySem.W.mg_none_of X G z_bool
  refine ⟨PySem.W.fnOf "law" "law" (defArgs s_law) (defBody s_law) (defScope s_law) .none kV19 dc19 pm19 an19 cd19 ct19, fun s v => .of_eq rfl, fun base _ _ => ?_⟩
  have D_tape : Dfn l.prog w K mg base "_law_tape" 1 _ (spTape K) := ⟨_, _, ok_tape F__law_tape y_len y_abs y_int, m__law_tape, F__law_tape.kp, b__law_tape⟩
  have D_take : Dfn l.prog w K mg base "_law_take" 1 _ spTake := ⟨_, _, ok_take F__law_take y_int, m__law_take, F__law_take.kp, b__law_take⟩
  have D_dance : Dfn l.prog w K mg base "_law_dance" 2 _ spDance := ⟨_, _, ok_dance F__law_dance D_take y_range, m__law_dance, F__law_dance.kp, b__law_dance⟩
  have D_says : Dfn l.prog w K mg base "_law_says" 1 _ spSays := ⟨_, _, ok_says F__law_says y_isinstance y_bool, m__law_says, F__law_says.kp, b__law_says⟩
  have D_law_is_move : Dfn l.prog w K mg base "_law_is_move" 1 _ spIsMove := ⟨_, _, ok_law_is_move F__law_is_move  , m__law_is_move, F__law_is_move.kp, b__law_is_move⟩
  have gW := PySem.W.mg_of X G aW
  have gF := PySem.W.mg_of X G aF
  have hW : ∀ H, SqT K H dW (wds.map tx) := fun H => by
    rw [← four_words]
    exact .inr ⟨_, _, _, lW, rfl, rfl, by rw [sizeLine_eq]; show 4 ≤ 16777216; decide, .cons ⟨_, rfl⟩ (.cons ⟨_, rfl⟩ (.cons ⟨_, rfl⟩ (.cons ⟨_, rfl⟩ .nil)))⟩
  have D_is_move : Dfn l.prog w K mg base "is_move" 1 _ spIsMove := ⟨_, _, ok_is_move F_is_move  gW hW gF, m_is_move, F_is_move.kp, b_is_move⟩
  have D_law_made : Dfn l.prog w K mg base "_law_made" 2 _ spLawMade := ⟨_, _, ok_law_made F__law_made D_law_is_move y_len , m__law_made, F__law_made.kp, b__law_made⟩
  have D_law_put : Dfn l.prog w K mg base "_law_put" 2 _ spPut := ⟨_, _, ok_law_put F__law_put D_take y_len , m__law_put, F__law_put.kp, b__law_put⟩
  have D_law_taken : Dfn l.prog w K mg base "_law_taken" 3 _ spTaken := ⟨_, _, ok_law_taken F__law_taken D_law_put (D_take.mono (by decide)) y_range y_len , m__law_taken, F__law_taken.kp, b__law_taken⟩
  have D_near_word : Dfn l.prog w K mg base "_law_near_word" 2 _ spNear := ⟨_, _, ok_near_word F__law_near_word D_take y_len y_range , m__law_near_word, F__law_near_word.kp, b__law_near_word⟩
  have D_odd_move : Dfn l.prog w K mg base "_law_odd_move" 3 _ spOdd := ⟨_, _, ok_odd_move F__law_odd_move (D_take.mono (by decide)) D_near_word y_len , m__law_odd_move, F__law_odd_move.kp, b__law_odd_move⟩
  have D_law_leads : Dfn l.prog w K mg base "_law_leads" 3 _ spLeads := ⟨_, _, ok_law_leads F__law_leads D_law_made , m__law_leads, F__law_leads.kp, b__law_leads⟩
  have EC : Err K mg "BadMove" C := ⟨PySem.W.mg_of X G aC, xC, kC, bC, tC, hC, gC, qC, cC, oC⟩
  have XC : PySem.W.exmOne K (.ref C) (.ref C) = some true := PySem.W.exm_ref bC hC tC sCC
  have D_leads : Dfn l.prog w K mg base "leads" 3 _ spLeads := ⟨_, _, ok_leads F_leads  (ok_madeX F_made D_is_move y_len EC) m_made F_made.kp b_made EC.g XC, m_leads, F_leads.kp, b_leads⟩
  have D_law_moves : Dfn l.prog w K mg base "_law_moves" 4 _ spMoves := ⟨_, _, ok_law_moves F__law_moves (D_take.mono (by decide)) (D_law_put.mono (by decide)) D_law_taken (D_law_made.mono (by decide)) y_range y_len , m__law_moves, F__law_moves.kp, b__law_moves⟩
  have D_law_changed : Dfn l.prog w K mg base "_law_changed" 4 _ spChanged := ⟨_, _, ok_law_changed F__law_changed (D_take.mono (by decide)) D_odd_move y_len , m__law_changed, F__law_changed.kp, b__law_changed⟩
  have D_row_holds : Dfn l.prog w K mg base "_law_holds" 5 _ spRow := ⟨_, _, ok_row_holds F__law_holds (D_says.mono (by decide)) (D_law_leads.mono (by decide)) (D_leads.mono (by decide)) y_list , m__law_holds, F__law_holds.kp, b__law_holds⟩
  have D_law_plain : Dfn l.prog w K mg base "_law_plain" 1 _ spPlain := ⟨_, _, ok_law_plain F__law_plain y_len , m__law_plain, F__law_plain.kp, b__law_plain⟩
  have D_law_single : Dfn l.prog w K mg base "_law_single" 6 _ spSingle := ⟨_, _, ok_law_single F__law_single (D_law_plain.mono (by decide)) D_row_holds , m__law_single, F__law_single.kp, b__law_single⟩
  exact ok_law F_law (D_tape.mono (by decide)) (D_dance.mono (by decide)) (D_law_moves.mono (by decide)) (D_row_holds.mono (by decide)) (D_odd_move.mono (by decide)) (D_law_taken.mono (by decide)) (D_law_put.mono (by decide)) (D_take.mono (by decide)) D_law_single (D_law_changed.mono (by decide)) y_range
theorem walk {l : PySem.W.OpenLaw} {q : Program} {loose : List Str} {XP : (Str → Option Value) → Heap → Prop} {YP : World → Heap → Prop} {d : DefRec} {K : Params → PySem.W.Frag} (hn : l.most = some 63) (hdf : d.params.defaults = [])
    (hY : ∀ (w : World) (h : Heap), YP w h → (K w.params).In h)
    (F : ∀ (w : World) (mg : Str → Option Value) (fa : Addr) (h : Heap), (K w.params).In h → h.Ns mainGlobals mg → mg d.name = some (.ref fa) →
      ∃ fd : FuncData, (∀ (s : Shared) (u : Value), BindsTo s fd ⟨[u], []⟩ [("script", u)]) ∧ ∀ base : Heap, (K w.params).In base → base.Ns mainGlobals mg → FnOk l.prog w (K w.params) mg base CX0 7 fa fd ["script"] (spLaw (K w.params))) :
    PySem.W.WalkO q loose XP YP l.row.toRowW d [] (fun f vs => PySem.call f vs) :=
  L2.walk_of (n := 63) (k := 7) (x := "script") (CX := fun _ => CX0) (sp := fun w => spLaw (K w.params)) hn (by decide) hdf ⟨rfl, by decide, by decide⟩ hY F (fun _ _ a ns hl _ hS => ⟨a, ns, rfl, hS, hl, fun _ => rfl⟩) fun _ _ _ _ _ z => z
end Rope
open PySem PySem.W PyProof.Rows
set_option maxRecDepth 100000 in
set_option maxHeartbeats 0 in
theorem PySem.Challenge.cw_ropedance_k06_rows_of_moves_holds : PySem.Challenge.rw_ropedance_k06_rows_of_moves.Holds := by
  w_on; o_law; k_head; (case hw => w_witness2)
  k_fill
  refine Rope.walk (l := PySem.Challenge.rw_ropedance_k06_rows_of_moves) rfl rfl (fun w h Y => PySem.W.kIn_of Y) ?F
  case F =>
    intro w mg fa h KX G hmg
    refine' Rope.all_mk KX G hmg ?a0 ?l0 ?c0 ?k0 ?a1 ?l1 ?c1 ?k1 ?a2 ?l2 ?c2 ?k2 ?a3 ?l3 ?c3 ?k3 ?a4 ?l4 ?c4 ?k4 ?a5 ?l5 ?c5 ?k5 ?a6 ?l6 ?c6 ?k6 ?a7 ?l7 ?c7 ?k7 ?a8 ?l8 ?c8 ?k8 ?a9 ?l9 ?c9 ?k9 ?a10 ?l10 ?c10 ?k10 ?a11 ?l11 ?c11 ?k11 ?a12 ?l12 ?c12 ?k12 ?a13 ?l13 ?c13 ?k13 ?a14 ?l14 ?c14 ?k14 ?a15 ?l15 ?c15 ?k15 ?a16 ?l16 ?c16 ?k16 ?a17 ?l17 ?c17 ?k17 ?a18 ?l18 ?c18 ?k18 ?a19 ?l19 ?c19 ?k19 ?z_len ?z_abs ?z_int ?z_range ?z_isinstance ?z_tuple ?z_list ?z_str ?z_bool ?aW ?lW ?aF ?aC ?xC ?kC ?bC ?tC ?hC ?gC ?qC ?cC ?oC ?sCC
    (case a0 => k_is)
    (case l0 => k_is)
    (case c0 => k_is)
    (case k0 => k_is)
    (case a1 => k_is)
    (case l1 => k_is)
    (case c1 => k_is)
    (case k1 => k_is)
    (case a2 => k_is)
    (case l2 => k_is)
    (case c2 => k_is)
    (case k2 => k_is)
    (case a3 => k_is)
    (case l3 => k_is)
    (case c3 => k_is)
    (case k3 => k_is)
    (case a4 => k_is)
    (case l4 => k_is)
    (case c4 => k_is)
    (case k4 => k_is)
    (case a5 => k_is)
    (case l5 => k_is)
    (case c5 => k_is)
    (case k5 => k_is)
    (case a6 => k_is)
    (case l6 => k_is)
    (case c6 => k_is)
    (case k6 => k_is)
    (case a7 => k_is)
    (case l7 => k_is)
    (case c7 => k_is)
    (case k7 => k_is)
    (case a8 => k_is)
    (case l8 => k_is)
    (case c8 => k_is)
    (case k8 => k_is)
    (case a9 => k_is)
    (case l9 => k_is)
    (case c9 => k_is)
    (case k9 => k_is)
    (case a10 => k_is)
    (case l10 => k_is)
    (case c10 => k_is)
    (case k10 => k_is)
    (case a11 => k_is)
    (case l11 => k_is)
    (case c11 => k_is)
    (case k11 => k_is)
    (case a12 => k_is)
    (case l12 => k_is)
    (case c12 => k_is)
    (case k12 => k_is)
    (case a13 => k_is)
    (case l13 => k_is)
    (case c13 => k_is)
    (case k13 => k_is)
    (case a14 => k_is)
    (case l14 => k_is)
    (case c14 => k_is)
    (case k14 => k_is)
    (case a15 => k_is)
    (case l15 => k_is)
    (case c15 => k_is)
    (case k15 => k_is)
    (case a16 => k_is)
    (case l16 => k_is)
    (case c16 => k_is)
    (case k16 => k_is)
    (case a17 => k_is)
    (case l17 => k_is)
    (case c17 => k_is)
    (case k17 => k_is)
    (case a18 => k_is)
    (case l18 => k_is)
    (case c18 => k_is)
    (case k18 => k_is)
    (case a19 => k_is)
    (case l19 => k_is)
    (case c19 => k_is)
    (case k19 => k_is)
    (case z_len => k_is)
    (case z_abs => k_is)
    (case z_int => k_is)
    (case z_range => k_is)
    (case z_isinstance => k_is)
    (case z_tuple => k_is)
    (case z_list => k_is)
    (case z_str => k_is)
    (case z_bool => k_is)
    (case aW => k_is)
    (case lW => k_is)
    (case aF => k_is)
    (case aC => k_is)
    (case xC => k_exc)
    (case kC => k_is)
    (case bC => k_is)
    (case tC => k_is)
    (case hC => k_is)
    (case gC => k_is)
    (case qC => k_is)
    (case cC => k_is)
    (case oC => k_is)
    (case sCC => first | rfl | k_is)
