import PyProof.Rows.All
import Wide.All
import OpenK.AllK
import Wide.FinOn
import PyProof.StrBlock2
import HandS.ForMost
import HandS.Wide
import HandS.IsInst
import HandS.Exc
import HandS.ExcOwn
import HandS.ExcCtx
import HandS.ExcIs
import HandS.Hot
import HandS.WordsExc
import HandS.Gcd
import PySem.Challenge.RW_ropedance_k01_fractions
set_option Elab.async false
set_option linter.all false
set_option maxRecDepth 100000
set_option maxHeartbeats 4000000
namespace Rope
open PySem L2


/-! ### texts as lists of codes -/
def S (l : List Nat) : Str := ⟨l.toArray⟩
theorem S_len (l : List Nat) : (S l).length = l.length := by simp [S, Str.length]
theorem S_list (l : List Nat) : (S l).cps.toList = l := by simp [S]
theorem S_size (l : List Nat) : (S l).cps.size = l.length := by simp [S]
theorem S_get (l : List Nat) (i : Nat) : (S l).cps[i]? = l[i]? := by simp [S]
theorem S_inj {l m : List Nat} (h : S l = S m) : l = m := by
  have := congrArg (fun z : Str => z.cps.toList) h
  simpa [S] using this
theorem S_app (l m : List Nat) : S l ++ S m = S (l ++ m) := by
  show Str.append (S l) (S m) = S (l ++ m)
  simp [Str.append, S]
theorem S_mul (l : List Nat) (n : Int) : Txt.mul (S l) n = S (List.replicate n.toNat l).flatten := by
  unfold Txt.mul
  by_cases h1 : n < 1
  · rw [if_pos h1]
    have : n.toNat = 0 := by omega
    rw [this]
    rfl
  · rw [if_neg h1]
    by_cases h2 : (n == 1 || (S l).length == 0) = true
    · rw [if_pos h2]
      simp only [Bool.or_eq_true, beq_iff_eq] at h2
      rcases h2 with h2 | h2
      · subst h2
        show S l = S (List.replicate 1 l).flatten
        simp
      · rw [S_len] at h2
        have : l = [] := List.eq_nil_of_length_eq_zero h2
        subst this
        simp
    · rw [if_neg h2]
      have aux : ∀ (k : Nat) (a : Array Nat), ((List.replicate k (S l).cps).foldl (· ++ ·) a).toList = a.toList ++ (List.replicate k l).flatten := by
        intro k
        induction k with
        | zero => intro a; simp
        | succ k ih =>
          intro a
          rw [List.replicate_succ, List.foldl_cons, ih, List.replicate_succ, List.flatten_cons, Array.toList_append, List.append_assoc, S_list]
      have := aux n.toNat #[]
      unfold S
      congr 1
      apply Array.toList_inj.mp
      rw [show S l = (⟨l.toArray⟩ : Str) from rfl] at this
      rw [this]
      simp
theorem S_cut (l : List Nat) (lo hi : Option Int) : cutS (S l) lo hi = S ((l.drop (HT.sIx l.length 0 lo)).take (HT.sIx l.length l.length hi - HT.sIx l.length 0 lo)) := by
  unfold cutS
  rw [S_len, S_list]
  rfl
theorem S_take (l : List Nat) {m : Int} (h : 0 ≤ m) : cutS (S l) none (some m) = S (l.take m.toNat) := by
  obtain ⟨k, rfl⟩ := Int.eq_ofNat_of_zero_le h
  rw [S_cut, HT.sIx_none, HT.sIx_nat, List.drop_zero, Nat.sub_zero, Int.toNat_natCast]
  congr 1
  by_cases h2 : k ≤ l.length
  · rw [Nat.min_eq_left h2]
  · rw [Nat.min_eq_right (by omega), List.take_of_length_le (Nat.le_refl _), List.take_of_length_le (by omega)]
theorem S_drop (l : List Nat) {m : Int} (h : 0 ≤ m) : cutS (S l) (some m) none = S (l.drop m.toNat) := by
  obtain ⟨k, rfl⟩ := Int.eq_ofNat_of_zero_le h
  rw [S_cut, HT.sIx_none, HT.sIx_nat, Int.toNat_natCast]
  congr 1
  rw [List.take_of_length_le (by simp)]
  by_cases h2 : k ≤ l.length
  · rw [Nat.min_eq_left h2]
  · rw [Nat.min_eq_right (by omega), List.drop_length, List.drop_eq_nil_of_le (by omega)]
/-- a text times an int -/
theorem op_mul_str {X : Cx} : OpR X (binaryOp .Mult) (fun x y H Q => ∃ (l : List Nat) (n : Int), x = .str (S l) ∧ y = .int n ∧ 0 ≤ n ∧ n < 2 ^ 62 ∧ l.length * n.toNat ≤ 16777215 ∧ Q (.str (S (List.replicate n.toNat l).flatten)) H) := by
  intro pins s σ H x y v u Q I rx ry h
  obtain ⟨l, n, rfl, rfl, h0, h1, h2, q⟩ := h
  obtain ⟨t, rfl⟩ := rx
  obtain ⟨t', rfl⟩ := ry
  have e1 : decide (n < -(2 ^ 63 : Int)) = false := decide_eq_false (by omega)
  have e2 : decide (n ≥ 2 ^ 63) = false := decide_eq_false (by omega)
  refine SB.mul ⟨by rw [e1, e2]; rfl, fun z1 z2 => ?_, fun z1 z2 => ?_⟩ fun t' k => ⟨.str _, H, I.tok _, ⟨_, rfl⟩, by rw [S_mul]; exact q⟩
  · rw [S_len]
    have h3 : (l.length : Int) * n ≤ 16777215 := by
      have : ((l.length * n.toNat : Nat) : Int) ≤ 16777215 := Int.ofNat_le.mpr h2
      rw [Int.natCast_mul, Int.toNat_of_nonneg h0] at this
      exact this
    have hn : 0 < n := by omega
    intro hc
    have hc' : (2 ^ 63 - 1) / n < (l.length : Int) := hc
    have := (Int.ediv_lt_iff_lt_mul hn).mp hc'
    omega
  · rw [S_len]
    unfold Builtin.Str.tooLong
    rw [sizeLine_eq]
    exact decide_eq_false (by omega)
/-! ### the calls: a fraction by a letter -/
def called (v : Int × Int) (c : Nat) : Int × Int :=
  if c = 84 then (v.1 + v.2, v.2) else if c = 85 then (v.1 - v.2, v.2) else if 0 < v.1 then (0 - v.2, v.1) else if v.1 < 0 then (v.2, 0 - v.1) else (1, 0)
def run (v : Int × Int) (l : List Nat) : Int × Int := l.foldl called v
theorem run_nil (v : Int × Int) : run v [] = v := rfl
theorem run_app (v : Int × Int) (l m : List Nat) : run v (l ++ m) = run (run v l) m := List.foldl_append
theorem run_take {l : List Nat} {i c : Nat} (v : Int × Int) (h : l[i]? = some c) : run v (l.take (i + 1)) = called (run v (l.take i)) c := by
  rw [List.take_add_one, h, run_app]
  rfl
/-- what a fraction of the laws keeps: q positive or infinite, no common divisor -/
def Good (v : Int × Int) : Prop := (0 < v.2 ∨ v = (1, 0)) ∧ Int.gcd v.1 v.2 = 1
theorem Good.zero : Good (0, 1) := ⟨.inl (by decide), by decide⟩
theorem gcd_add' (p q : Int) : Int.gcd (p + q) q = Int.gcd p q := by
  have := Int.gcd_add_mul_right_left p q 1
  simpa using this
theorem Good.called {v : Int × Int} (h : Good v) (c : Nat) : Good (called v c) := by
  obtain ⟨p, q⟩ := v
  obtain ⟨h1, h2⟩ := h
  simp only at h1 h2
  unfold Rope.called
  by_cases c1 : c = 84
  · rw [if_pos c1]
    refine ⟨?_, ?_⟩
    · rcases h1 with h1 | h1
      · exact .inl h1
      · cases h1; exact .inr rfl
    · show Int.gcd (p + q) q = 1
      rw [gcd_add']; exact h2
  rw [if_neg c1]
  by_cases c2 : c = 85
  · rw [if_pos c2]
    refine ⟨?_, ?_⟩
    · rcases h1 with h1 | h1
      · exact .inl h1
      · cases h1; exact .inr rfl
    · show Int.gcd (p - q) q = 1
      have := gcd_add' (p - q) q
      rw [Int.sub_add_cancel] at this
      rw [← this]; exact h2
  rw [if_neg c2]
  by_cases c3 : 0 < p
  · rw [if_pos (show 0 < (p, q).1 from c3)]
    refine ⟨.inl c3, ?_⟩
    show Int.gcd (0 - q) p = 1
    rw [Int.zero_sub, Int.neg_gcd, Int.gcd_comm]; exact h2
  rw [if_neg (show ¬ 0 < (p, q).1 from c3)]
  by_cases c4 : p < 0
  · rw [if_pos (show (p, q).1 < 0 from c4)]
    refine ⟨.inl (by show 0 < 0 - p; omega), ?_⟩
    show Int.gcd q (0 - p) = 1
    rw [Int.zero_sub, Int.gcd_neg, Int.gcd_comm]; exact h2
  rw [if_neg (show ¬ (p, q).1 < 0 from c4)]
  exact ⟨.inr rfl, by decide⟩
theorem good_run : ∀ (l : List Nat) {v : Int × Int}, Good v → Good (run v l)
  | [], _, h => h
  | c :: r, _, h => good_run r (h.called c)
/-- its size grows by a bit a letter -/
theorem called_size {v : Int × Int} {n : Nat} (h1 : v.1.natAbs ≤ n) (h2 : v.2.natAbs ≤ n) (h0 : 1 ≤ n) (c : Nat) : (called v c).1.natAbs ≤ 2 * n ∧ (called v c).2.natAbs ≤ 2 * n := by
  unfold called
  repeat' split
  all_goals simp only
  all_goals omega
theorem run_size : ∀ (l : List Nat) {v : Int × Int} {n : Nat}, v.1.natAbs ≤ n → v.2.natAbs ≤ n → 1 ≤ n → (run v l).1.natAbs ≤ 2 ^ l.length * n ∧ (run v l).2.natAbs ≤ 2 ^ l.length * n
  | [], v, n, h1, h2, _ => by simpa [run] using ⟨h1, h2⟩
  | c :: r, v, n, h1, h2, h0 => by
    have q := called_size h1 h2 h0 c
    have ih := run_size r q.1 q.2 (by omega)
    have e : 2 ^ (c :: r).length * n = 2 ^ r.length * (2 * n) := by
      rw [List.length_cons, Nat.pow_succ, Nat.mul_assoc]
    rw [e]
    exact ih
/-! ### the divisor -/
theorem gcd_step (x y : Int) : Nat.gcd y.natAbs (x.fmod y).natAbs = Nat.gcd x.natAbs y.natAbs := by
  show Int.gcd y (x.fmod y) = Int.gcd x y
  have e : x.fmod y = x + y * (-(x.fdiv y)) := by
    have := Int.fmod_def x y
    rw [this, Int.mul_neg]
    rfl
  rw [e, Int.gcd_add_mul_left_right, Int.gcd_comm]
theorem fmod_less {x y : Int} (h : y ≠ 0) : (x.fmod y).natAbs < y.natAbs := by
  by_cases h0 : 0 < y
  · rw [Int.fmod_eq_emod_of_nonneg x (by omega)]
    have h1 := Int.emod_nonneg x h
    have h2 := Int.emod_lt_of_pos x h0
    omega
  · have e : x.fmod y = -((-x).fmod (-y)) := by
      have := Int.neg_fmod_neg (a := x) (b := y)
      omega
    rw [e, Int.fmod_eq_emod_of_nonneg _ (by omega)]
    have h1 := Int.emod_nonneg (-x) (b := -y) (by omega)
    have h2 := Int.emod_lt_of_pos (-x) (b := -y) (by omega)
    omega
/-- for letter in text -/
theorem for_str {l : List Nat} {g : TG} {tb : TS} {D : Ends} {σ : L2.St} {H : Hp} (Pv : Nat → L2.St → Hp → Prop) (h0 : Pv 0 σ H)
    (hs : ∀ i c σ H, l[i]? = some c → Pv i σ H → g (.str (S [c])) σ H fun σ2 H2 => tb { D with nx := Pv (i + 1), ct := Pv (i + 1), bk := D.nx } σ2 H2) (hd : ∀ σ H, Pv l.length σ H → D.nx σ H) :
    ∃ W : Nat → Nat → L2.St → Hp → Prop, (∃ m, W 0 m σ H) ∧ ∀ i m σ H, W i m σ H →
      ((Its (S l)).stop i H ∧ D.nx σ H) ∨ ((Its (S l)).go i H ∧ ∃ N : L2.St → Hp → Prop, (∀ σ' H', N σ' H' → ∃ m', m' < m ∧ W (i + 1) m' σ' H') ∧ ∀ x H', (Its (S l)).yld i H x H' → g x σ H' fun σ2 H2 => tb { D with nx := N, ct := N, bk := D.nx } σ2 H2) := by
  refine ⟨fun i m σ H => m = l.length - i ∧ i ≤ l.length ∧ Pv i σ H, ⟨l.length, by simp, Nat.zero_le _, h0⟩, ?_⟩
  rintro i m σ H ⟨rfl, hi, p⟩
  by_cases hlt : i < l.length
  · refine .inr ⟨by show i < (S l).cps.size; rw [S_size]; exact hlt, Pv (i + 1), fun σ' H' p' => ⟨l.length - (i + 1), by omega, rfl, hlt, p'⟩, fun x H' y => ?_⟩
    obtain ⟨e, c, hc, rfl⟩ := y
    subst e
    rw [S_get] at hc
    exact hs i c σ _ hc p
  · have e : i = l.length := by omega
    subst e
    exact .inl ⟨by show (S l).cps.size ≤ l.length; rw [S_size]; exact Nat.le_refl _, hd σ H p⟩

section
open PySem.F HotX
variable {prog : Program} {w : World} {A : Around} {E : Value → Shared → Prop} {s : Shared}
/-- the end of a list's walk while an exception is handled -/
theorem list_end_hot {it l x1 : Addr} {i : Nat} {items : Array Value} {Q : Option Value → Shared → Prop} (hot : HotAt A x1 s.heap) (hne : x1 ≠ it)
    (hit : s.heap.IsListIter it l i) (hl : s.heap.IsList l items) (hx : items[i]? = none)
    (hQ : ∀ h', Heap.ExtBut it s.heap h' → Q none { s with heap := h' }) : wpAny (model prog w) A (pyNext (.ref it)) Q E s := by
  obtain ⟨io, iAt, _, iDat⟩ := id hit
  obtain ⟨lo, lAt, _, ln, lDat⟩ := hl
  obtain ⟨he, xo, xv, xAt, xDat, xCtx⟩ := hot
  have typ := hit.typeIs
  unfold pyNext
  refine wpAny_bind (wpAny_attempt (wpAny_callSpecial?_slot (name := Str.ofString "__next__") typ slot_listiter_next (wpAny_call_entry slot_listiter_next typ entry_listiter_next ?body (args_listiter_next _))))
  -- the list, the place, the items: nothing is left
  show wpAny _ _ (field (.ref it) 0 >>= _) _ _ s; refine wpAny_bind (wpAny_field iAt iDat (x := .ref l) rfl ?_)
  show wpAny _ _ (if (Value.ref l == Value.none) = true then _ else _) _ _ s; rw [if_neg (show ¬ ((Value.ref l == Value.none) = true) from Bool.false_ne_true)]
  show wpAny _ _ (field (.ref it) 1 >>= _) _ _ s; refine wpAny_bind (wpAny_field iAt iDat (x := .int i 0) rfl ?_)
  show wpAny _ _ (seqItems? (.ref l) >>= _) _ _ s; refine wpAny_bind (wpAny_seqItems lAt lDat ?_); simp only [Int.toNat_natCast, hx]
  refine wpAny_bind (wpAny_rule (wpAny_bind (wpAny_setField iAt iDat (by simp) ?stop)))
  -- StopIteration is made and raised on top of the one that is handled
  show wpAny _ _ (newExc (.type "StopIteration") [] >>= _) _ _ _; refine wpAny_bind ?_; simp only [newExc, newTuple]
  refine wpAny_bind (wpAny_newObj_type (wpAny_bind (m := firstArgMember _ _) (wpAny_of_eq (a := Value.none) (by first | rfl | (simp only [firstArgMember]; rfl)) (wpAny_newObj_type ?_ (by size_fits)))) (by size_fits))
  have kept := (Heap.get?_update_other s.heap (Obj.mapFields (·.setIfInBounds 0 .none)) hne.symm).trans xAt
  have far := Heap.lt_size (Heap.get?_push_of_some { cls := .type "tuple", data := .seq #[] } kept)
  refine raiseNew_hot ⟨he, xo, xv, Heap.get?_push_of_some _ (Heap.get?_push_of_some _ kept), xDat, xCtx⟩ (Nat.ne_of_lt far) (Heap.get?_push_size _ rfl) rfl (by first | (simp; done) | (simp; omega) | (simp only [Array.size_append]; simp; omega)) ?_
  refine wpAny_bind (wpAny_isInstance (T := "StopIteration") (b := true) ⟨_, Heap.get?_update_self _ (Heap.get?_push_size _ rfl) rfl, rfl⟩ isSubtype_stop (wpAny_pure (hQ _ fun c u hc e => ?_)))
  have e2 := (Heap.SameBut.update s.heap it (Obj.mapFields (·.setIfInBounds 0 .none))).extBut c u hc e
  have e3 := Heap.get?_push_of_some { cls := .type "tuple", data := .seq #[] } e2
  exact (Heap.get?_update_other _ _ (Nat.ne_of_gt (Heap.lt_size e3))).trans (Heap.get?_push_of_some _ e3)
end
/-- a list walked while an exception is handled -/
theorem walks_list_hot {prog : Program} {w : World} {A : Around} {x1 : Addr} {o1 : Obj} {vs1 : Array Value} (hh : A.handled = some (.ref x1)) (d1 : o1.data = .fields vs1) (c1 : vs1[2]? = some .none) (I ax : Addr) (hne : ax ≠ I) (h1I : x1 ≠ I) (items : Array Value) :
    Walks prog w A I [I, ax, x1] [I] items.size (fun i v => items[i]? = some v) (fun i h => h.IsListIter I ax i ∧ h.IsList ax items ∧ h.get? x1 = some o1) where
  sub := fun b hb => by simp at hb; simp [hb]
  frame := fun _ _ _ st hk => ⟨st.1.at fun o e => hk I (by simp) o e, st.2.1.at fun o e => hk ax (by simp) o e, hk x1 (by simp) _ st.2.2⟩
  item := fun i s Q E hi st hQ => by
    exact wpAny_pyNext_list_item st.1 st.2.1 (x := items[i]) (by simp [hi]) fun h' hit' hs' => hQ _ h' s.toks (by simp [hi]) ⟨hit', st.2.1.extBut hs'.extBut hne, hs'.extBut x1 _ h1I st.2.2⟩ fun b o hb e => hs'.extBut b o (fun h => hb (by simp [h])) e
  done := fun s Q E st hQ => list_end_hot ⟨hh, o1, vs1, st.2.2, d1, c1⟩ h1I st.1 st.2.1 (by simp) fun h' he' => hQ h' s.toks fun b o hb e => he' b o (fun h => hb (by simp [h])) e
  self := fun _ _ _ _ st hQ => wpAny_pyIter_listiter st.1 hQ
section
variable {X : Cx} {a : Addr} {oe : Obj} {cls : Value} {d : Option Addr} {pn : List (Addr × Obj)}
/-- any(list of bools) within an except suite -/
theorem any_hot (hz : L2N.Zn cls d oe) (hf : ∃ vs, oe.data = .fields vs) : CallR (X.suite a ((a, oe) :: pn)) (.builtin "any") (rAny X.K) := fun pins s σ H vs us Q I r ⟨b, bs, ev, hs, q⟩ => by
  subst ev
  obtain ⟨its, rv, hl, _⟩ := Inv.list I hs
  obtain ⟨fv, hd⟩ := hf
  have here := (I.pin (a, oe) (List.mem_append_left _ List.mem_cons_self)).1
  have lt := Heap.lt_size here
  rw [Vals.ref1 r]
  have items := rv.bls
  refine call_any_walk (iter_any hl.isList fun z ez st ne => ?_); subst ez
  refine ⟨_, _, _, _, _, _, _, rfl, walks_list_hot (A := (X.suite a ((a, oe) :: pn)).A.in1) (x1 := a) (o1 := oe) rfl hd (hz.2.2 fv hd) _ b ne (Nat.ne_of_lt lt) its.toArray, ⟨st.1, st.2, Heap.get?_push_of_some _ here⟩, truth_bools items, fun h' tk hk => ?_⟩
  have all : ∀ c u, s.heap.get? c = some u → h'.get? c = some u := fun c u e => hk c u (fun m => by
    rw [List.mem_singleton.mp m] at e
    exact Nat.lt_irrefl _ (Heap.lt_size e)) (Heap.get?_push_of_some _ e)
  refine ⟨.bl (bs.any id), H, I.kept all, ?_, q⟩
  show Value.bool ((List.range its.toArray.size).any fun i => bs.getD i false) = .bool (bs.any id)
  rw [← any_range, items, List.size_toArray, List.length_map]
/-- isinstance(e, c) of the error that the suite holds -/
def rIsF (K : PySem.W.Frag) (D a : Addr) (cls : Value) (d : Option Addr) : List V → Hp → VK → Prop := fun xs H Q => cls = .ref D ∧ d = none ∧ rIsE K D a xs H Q
theorem call_isF {D : Addr} (C : ExcC X.K D) (hz : L2N.Zn cls d oe) (hf : ∃ vs, oe.data = .fields vs) : CallR (X.suite a ((a, oe) :: pn)) (.builtin "isinstance") (rIsF X.K D a cls d) := by
  intro pins s σ H xs us Q I r h
  obtain ⟨rfl, rfl, h⟩ := h
  exact call_isE C hz.zc hf pins s σ H xs us Q I r h
end
theorem takes0N {X : Cx} : L2N.Takes X (fun _ _ _ _ => False) := fun _ _ ⟨_, _, _, _, _, _, _, _, _, _, _, _, _, _, _, _, no⟩ => False.elim no
theorem okX {P : Program} {w : World} {K : PySem.W.Frag} {mg : Str → Option Value} {base : Heap} {x qual : Str} {st : Stmt} {f : Addr} {fd : FuncData} {N ps : List Str} {k : Nat} {sp : Sp} (F : Fun K x qual st f fd) (S : FnScope N ps (defScope st)) (len : ∀ vs H Q E, sp vs H Q E → vs.length = ps.length)
    (hbody : ∀ (cdv : Value) (A : Around) (outer : List Env) (s : Shared) (H : Hp) (vs : List V) (Q : VK) (E : XK), Room k (A.deeper (PyProof.Rows.envOfC qual (defScope st) s.heap.objs.size f cdv)) → sp vs H Q E →
      ∃ t, PSs (cxOf (L2N.CX P w) P w K mg base N qual (defScope st) f cdv A outer s H E) (defBody st) t ∧ t { nx := fun _ H' => Q .non H', rt := Q } (start N vs) H) : FnOk P w K mg base (L2N.CX P w) (k + 1) f fd ps sp := by
  obtain ⟨_, _, _, _, _, _, cdv, _, _, rfl, lk, hcd⟩ := F.ex
  exact fn_of lk hcd S len (hbody cdv)
/-! ### an error class of the program -/
structure Err (K : PySem.W.Frag) (mg : Str → Option Value) (x : Str) (C : Addr) : Prop where
  g : mg x = some (.ref C)
  x : PySem.W.excIn K C [.type "ValueError", .type "Exception", .type "BaseException", .type "object"] "ValueError.__new__" = true
  k : PySem.W.keepIn K (.ref C) = true
  b : PySem.W.subIn K (.ref C) (.type "BaseException") = some true
  t : PySem.W.typeIn K (.ref C) = some (.type "type")
  hd : PySem.W.hasDictIn K C = true
  hg : PySem.W.findIn K (.ref C) "__getattribute__" = some (some (.builtin "BaseException.__getattribute__"))
  hk : PySem.W.findIn K (.ref C) "__getattr__" = some none
  ha : PySem.W.findIn K (.ref C) "__class__" = some (some (.builtin "object.__class__"))
  hm : PySem.W.mroIn K C (.type "object") = some true
theorem Err.c {K : PySem.W.Frag} {mg : Str → Option Value} {x : Str} {C : Addr} (e : Err K mg x C) (hn : PySem.W.specialIn K (.builtin "object.__class__") "__get__" = some (some (.builtin "getset_descriptor.__get__"))) (ht : PySem.W.takesIn K (.builtin "object.__class__") = some true) : ExcC K C :=
  ⟨e.hg, e.hk, e.b, e.hd, e.ha, hn, ht, e.hm⟩
/-- // of great ints, of any sign -/
theorem op_fdivWN {X : Cx} : OpR X (binaryOp .FloorDiv) (rI (fun _ j => j ≠ 0 ∧ j.natAbs.log2 < 9000) fun i j => .int (i.fdiv j)) := opI fun i j _ _ _ _ _ hc q =>
  PyProof.Rows.floordiv_int hc.1 q (.inl (PyProof.noPylong_of_log2 hc.2))
def top (i : Nat) : Stmt := PySem.Challenge.pw_ropedance_k01_fractions.main.body.getD i (.Pass ⟨0, 0, 0, 0⟩)
abbrev s_fraction : Stmt := top 8
theorem sc_fraction : FnScope ["p", "q", "divisor"] ["p", "q"] (defScope s_fraction) := ⟨rfl, rfl, rfl, by decide +kernel, rfl, by decide +kernel, by decide +kernel⟩
abbrev s_less : Stmt := top 9
theorem sc_less : FnScope ["one", "other", "p", "q", "other_p", "other_q"] ["one", "other"] (defScope s_less) := ⟨rfl, rfl, rfl, by decide +kernel, rfl, by decide +kernel, by decide +kernel⟩
abbrev s_law_tape : Stmt := top 11
theorem sc_law_tape : FnScope ["script", "k", "cell"] ["script", "k"] (defScope s_law_tape) := ⟨rfl, rfl, rfl, by decide +kernel, rfl, by decide +kernel, by decide +kernel⟩
abbrev s_law_take : Stmt := top 12
theorem sc_law_take : FnScope ["tape", "many", "got", "mixed"] ["tape", "many"] (defScope s_law_take) := ⟨rfl, rfl, rfl, by decide +kernel, rfl, by decide +kernel, by decide +kernel⟩
abbrev s_law_dance : Stmt := top 13
theorem sc_law_dance : FnScope ["tape", "most", "dance", "size", "k"] ["tape", "most"] (defScope s_law_dance) := ⟨rfl, rfl, rfl, by decide +kernel, rfl, by decide +kernel, by decide +kernel⟩
abbrev s_law_called : Stmt := top 14
theorem sc_law_called : FnScope ["value", "letter", "p", "q"] ["value", "letter"] (defScope s_law_called) := ⟨rfl, rfl, rfl, by decide +kernel, rfl, by decide +kernel, by decide +kernel⟩
abbrev s_law_number : Stmt := top 15
theorem sc_law_number : FnScope ["dance", "value", "letter"] ["dance"] (defScope s_law_number) := ⟨rfl, rfl, rfl, by decide +kernel, rfl, by decide +kernel, by decide +kernel⟩
abbrev s_law_same : Stmt := top 16
theorem sc_law_same : FnScope ["told", "due", "k"] ["told", "due"] (defScope s_law_same) := ⟨rfl, rfl, rfl, by decide +kernel, rfl, by decide +kernel, by decide +kernel⟩
abbrev s_law_says : Stmt := top 17
theorem sc_law_says : FnScope ["told", "due"] ["told", "due"] (defScope s_law_says) := ⟨rfl, rfl, rfl, by decide +kernel, rfl, by decide +kernel, by decide +kernel⟩
abbrev s_law_divisor : Stmt := top 18
theorem sc_law_divisor : FnScope ["one", "other"] ["one", "other"] (defScope s_law_divisor) := ⟨rfl, rfl, rfl, by decide +kernel, rfl, by decide +kernel, by decide +kernel⟩
abbrev s_law_integer : Stmt := top 19
theorem sc_law_integer : FnScope ["tape", "size", "whole", "k"] ["tape"] (defScope s_law_integer) := ⟨rfl, rfl, rfl, by decide +kernel, rfl, by decide +kernel, by decide +kernel⟩
abbrev s_law_fraction : Stmt := top 20
theorem sc_law_fraction : FnScope ["tape", "choice", "p", "q", "divisor"] ["tape"] (defScope s_law_fraction) := ⟨rfl, rfl, rfl, by decide +kernel, rfl, by decide +kernel, by decide +kernel⟩
abbrev s_law_due : Stmt := top 21
theorem sc_law_due : FnScope ["p", "q", "divisor"] ["p", "q"] (defScope s_law_due) := ⟨rfl, rfl, rfl, by decide +kernel, rfl, by decide +kernel, by decide +kernel⟩
abbrev s_law_refused : Stmt := top 22
theorem sc_law_refused : FnScope ["e", "others"] [] (defScope s_law_refused) := ⟨rfl, rfl, rfl, by decide +kernel, rfl, by decide +kernel, by decide +kernel⟩
abbrev s_law_is_less : Stmt := top 23
theorem sc_law_is_less : FnScope ["one", "other"] ["one", "other"] (defScope s_law_is_less) := ⟨rfl, rfl, rfl, by decide +kernel, rfl, by decide +kernel, by decide +kernel⟩
abbrev s_law : Stmt := top 24
theorem sc_law : FnScope ["script", "found", "k", "tape", "factor", "p", "q", "one", "other"] ["script"] (defScope s_law) := ⟨rfl, rfl, rfl, by decide +kernel, rfl, by decide +kernel, by decide +kernel⟩
/-! ### heaps, tapes, pairs -/
/-- all that was tracked is as it was, but what stands at a -/
def But (a : Addr) (H H' : Hp) : Prop := ∀ b o, b ≠ a → H b = some o → H' b = some o
theorem But.refl (a : Addr) (H : Hp) : But a H H := fun _ _ _ h => h
theorem But.trans {a : Addr} {H H1 H2 : Hp} (x : But a H H1) (y : But a H1 H2) : But a H H2 := fun b o n h => y b o n (x b o n h)
theorem But.of {a : Addr} {H H' : Hp} (x : Same H H') : But a H H' := fun b o _ h => x b o h
theorem But.upd {a : Addr} {H : Hp} {o : HO} : But a H (upd H a o) := fun b u n h => by rw [upd_ne n]; exact h
theorem But.same {a : Addr} {H0 H H' : Hp} (x : But a H H') (s : Same H0 H) (n : H0 a = none) : Same H0 H' := fun b o h => x b o (ne_of_none h n) (s b o h)
theorem same_new {H : Hp} {p : Addr} (h : H p = none) (o : HO) : Same H (L2.upd H p o) := fun b u q => by rw [upd_ne (ne_of_none q h)]; exact q
theorem Same.tup {K : PySem.W.Frag} {H H' : Hp} {a : Addr} {xs : List V} (e : Same H H') (h : SqT K H a xs) : SqT K H' a xs := by
  rcases h with (h | ⟨o, h⟩) | h
  · exact .inl (.inl (e _ _ h))
  · exact .inl (.inr ⟨o, e _ _ h⟩)
  · exact .inr h
def Tape (H : Hp) (a : Addr) : Prop := ∃ (t c s : Int) (b : Bool), H a = some (.lst [.int t, .bl b, .int c, .int s])
theorem Tape.same {H H' : Hp} {a : Addr} (t : Tape H a) (s : Same H H') : Tape H' a := by
  obtain ⟨x, c, y, b, h⟩ := t
  exact ⟨x, c, y, b, s _ _ h⟩
theorem Tape.ne {H : Hp} {a p : Addr} (t : Tape H a) (h : H p = none) : p ≠ a := by
  obtain ⟨x, c, y, b, e⟩ := t
  exact fun z => by rw [z, e] at h; cases h
theorem But.tup {K : PySem.W.Frag} {a : Addr} {H H' : Hp} {p : Addr} {xs : List V} (x : But a H H') (t : Tape H a) (h : SqT K H p xs) : SqT K H' p xs := by
  obtain ⟨y, c, z, b, e⟩ := t
  rcases h with (h | ⟨o, h⟩) | h
  · exact .inl (.inl (x _ _ (ne_of h e (by intro q; cases q)) h))
  · exact .inl (.inr ⟨o, x _ _ (ne_of h e (by intro q; cases q)) h⟩)
  · exact .inr h
/-- a dance: the letters T, U, R -/
def Lets (l : List Nat) : Prop := ∀ c ∈ l, c = 84 ∨ c = 85 ∨ c = 82
theorem atI_mk {α : Type} {xs : List α} {k : Int} (h0 : 0 ≤ k) (h1 : k < (xs.length : Int)) : ∃ v, atI xs k = some v ∧ v ∈ xs := by
  obtain ⟨n, rfl⟩ := Int.eq_ofNat_of_zero_le h0
  have h : n < xs.length := by omega
  exact ⟨xs[n], atI_nat (List.getElem?_eq_getElem h), List.getElem_mem h⟩
theorem atI_ints {ns : List Int} {k : Int} (h0 : 0 ≤ k) (h1 : k < (ns.length : Int)) : ∃ v : Int, atI (ns.map V.int) k = some (.int v) := by
  obtain ⟨v, e, m⟩ := atI_mk (xs := ns.map V.int) h0 (by rw [List.length_map]; exact h1)
  obtain ⟨i, _, rfl⟩ := List.mem_map.mp m
  exact ⟨i, e⟩
/-! ### a def of the text with its promise, ready to be called -/
structure Dfn (P : Program) (w : World) (K : PySem.W.Frag) (mg : Str → Option Value) (base : Heap) (x : Str) (k : Nat) (ps : List Str) (sp : Sp) : Prop where
  ex : ∃ (f : Addr) (fd : FuncData), FnOk P w K mg base CX0 k f fd ps sp ∧ mg x = some (.ref f) ∧ PySem.W.keepIn K (.ref f) = true ∧ Binds K fd ps []
theorem pe_do {X : Cx} {x : Str} {j : Nat} {ps : List Str} {sp : Sp} {e : Expr} {es : List Expr} {t : TA} {p pos : Pos} (D : Dfn X.prog X.w X.K X.mg X.base x j ps sp) (hr : Room j X.A)
    (ha : PA X (e :: es) t) (hg : Gl X x := by rfl) (hdb : (x == ("__debug__" : Str)) = false := by decide) (he : starEach (e :: es) X.env = (false, eval e X.env) :: starEach es X.env := by rfl) (hpl : (backTo pos (starEach es X.env)).any (·.1) = false := by rfl) :
    PE X (.Call (.Name x p) (e :: es) [] pos) (tCall sp [] E0 t) := by
  obtain ⟨f, fd, ok, mg, kp, bd⟩ := D.ex
  exact pe_call ok hr hg mg kp bd .nil pass0 ha hdb he hpl
theorem Dfn.mono {P : Program} {w : World} {K : PySem.W.Frag} {mg : Str → Option Value} {base : Heap} {x : Str} {j k : Nat} {ps : List Str} {sp : Sp} (D : Dfn P w K mg base x j ps sp) (h : j ≤ k) : Dfn P w K mg base x k ps sp := by
  obtain ⟨f, fd, ok, mg, kp, bd⟩ := D.ex
  exact ⟨f, fd, ok.mono h, mg, kp, bd⟩
section
variable {P : Program} {w : World} {K : PySem.W.Frag} {mg : Str → Option Value} {base : Heap} {f : Addr} {fd : FuncData}
/-! ### the tape of a law -/
def spTape (K : PySem.W.Frag) : Sp := fun vs H Q _ => ∃ (a : Addr) (ns : List Int) (k : Int), vs = [.ref a, .int k] ∧ SqL K H a (ns.map V.int) ∧ 0 ≤ k ∧ ∀ p H', Same H H' → H p = none → Tape H' p → Q (.ref p) H'
theorem ok_tape (F : Fun K "_law_tape" "_law_tape" s_law_tape f fd) (ml : mg "len" = none) (ma : mg "abs" = none) (mi : mg "int" = none) : FnOk P w K mg base CX0 1 f fd ["script", "k"] (spTape K) := by
  refine F.ok sc_law_tape (fun vs H Q E h => ?_) (fun cdv A outer s H vs Q E hr h => ?_)
  · obtain ⟨a, ns, k, rfl, _⟩ := h
    rfl
  obtain ⟨a, ns, k, rfl, hS, hk, q⟩ := h
  refine ⟨_, pss_cons (ps_set (i := 2) sc_law_tape.nd rfl (.inl rfl) pe_int)
    (pss_cons (ps_if (pt_cmpR op_lt (pv 1) (pe_callB call_len_seq rfl ml PySem.boot_len (pa_cons (pv 0) pa_nil)) (nomark _))
        (pss_one (ps_set (i := 2) sc_law_tape.nd rfl (.inl rfl) (pe_callB call_abs rfl ma (by decide +kernel) (pa_cons (pe_ix ix_list (pv 0) (pv 1) (fun _ _ => rfl)) pa_nil)))) pss_nil)
    (pss_one (ps_ret (pe_lst (pa_cons (pv 2) (pa_cons (pe_cmpR op_ge (pv 2) (pe_op op_pow pe_int pe_int) (nomark _)) (pa_cons pe_int
      (pa_cons (pe_op op_modN (pe_callTy call_int1 rfl mi (by decide +kernel) (pa_cons (pe_op op_add (pe_op op_mul (pv 2) pe_int) (pv 1)) pa_nil)) pe_int) pa_nil)))))))), ?_⟩
  refine ⟨_, rfl, _, rfl, a, _, rfl, .inl hS, _, _, rfl, rfl, _, rfl, ?_⟩
  refine ite2 (fun c => ?_) (fun c => ?_)
  · have c' : k < (((ns.map V.int).length : Nat) : Int) := of_decide_eq_true c
    rw [List.length_map] at c'
    obtain ⟨v, hv⟩ := atI_ints hk c'
    refine ⟨_, rfl, _, rfl, a, _, _, _, rfl, rfl, hS, hv, _, rfl, ?_⟩
    refine ⟨_, rfl, _, rfl, _, _, rfl, rfl, ⟨by decide, by decide, by decide⟩, _, _, rfl, rfl, _, rfl, _, _, rfl, rfl, .inr ⟨by decide, by decide⟩, _, rfl, _, _, rfl, rfl, .inl ⟨_, rfl, _, _, rfl, rfl, (show (2147483647 : Int) ≠ 0 by decide), ?_⟩⟩
    exact ⟨(by show 4 ≤ sizeLine; decide), fun p hp => q p _ (same_new hp _) hp ⟨_, _, _, _, upd_same⟩⟩
  · refine ⟨_, rfl, _, rfl, _, _, rfl, rfl, ⟨by decide, by decide, by decide⟩, _, _, rfl, rfl, _, rfl, _, _, rfl, rfl, .inr ⟨by decide, by decide⟩, _, rfl, _, _, rfl, rfl, .inl ⟨_, rfl, _, _, rfl, rfl, (show (2147483647 : Int) ≠ 0 by decide), ?_⟩⟩
    exact ⟨(by show 4 ≤ sizeLine; decide), fun p hp => q p _ (same_new hp _) hp ⟨_, _, _, _, upd_same⟩⟩
def spTake : Sp := fun vs H Q _ => ∃ (a : Addr) (m : Int), vs = [.ref a, .int m] ∧ Tape H a ∧ 0 < m ∧ m < 1073741824 ∧ ∀ r H', 0 ≤ r → r < m → But a H H' → Tape H' a → Q (.int r) H'
theorem ok_take (F : Fun K "_law_take" "_law_take" s_law_take f fd) (mi : mg "int" = none) : FnOk P w K mg base CX0 1 f fd ["tape", "many"] spTake := by
  refine F.ok sc_law_take (fun vs H Q E h => ?_) (fun cdv A outer s H vs Q E hr h => ?_)
  · obtain ⟨a, m, rfl, _⟩ := h
    rfl
  obtain ⟨a, m, rfl, ⟨t, c, sd, b, hT⟩, h0, h1, q⟩ := h
  refine ⟨_, pss_cons (ps_if (PW.pt (pw_and (pt_val (pe_ix ix_list (pv 0) pe_int (fun _ _ => rfl))) (pw_and1 (pt_cmpR op_gt (pe_ix ix_list (pv 0) pe_int (fun _ _ => rfl)) pe_int (nomark _)))))
      (pss_cons (ps_set (i := 2) sc_law_take.nd rfl (.inl rfl) (pe_op op_modN (pe_callTy call_int1 rfl mi (by decide +kernel) (pa_cons (pe_ix ix_list (pv 0) pe_int (fun _ _ => rfl)) pa_nil)) (pv 1)))
      (pss_cons (ps_asg (pe_op op_fdivN (pe_ix ix_list (pv 0) pe_int (fun _ _ => rfl)) (pv 1)) (pg_sub (pv 0) pe_int set_list))
      (pss_one (ps_ret (pv 2))))) pss_nil)
    (pss_cons (ps_asg (pe_op op_add (pe_ix ix_list (pv 0) pe_int (fun _ _ => rfl)) pe_int) (pg_sub (pv 0) pe_int set_list))
    (pss_cons (ps_set (i := 3) sc_law_take.nd rfl (.inl rfl) (pe_op op_modN (pe_callTy call_int1 rfl mi (by decide +kernel) (pa_cons (pe_op op_add (pe_op op_add (pe_op op_mul (pe_ix ix_list (pv 0) pe_int (fun _ _ => rfl)) pe_int) (pe_op op_mul (pe_ix ix_list (pv 0) pe_int (fun _ _ => rfl)) pe_int)) pe_int) pa_nil)) pe_int))
    (pss_cons (ps_set (i := 3) sc_law_take.nd rfl (.inl rfl) (pe_op op_modN (pe_callTy call_int1 rfl mi (by decide +kernel) (pa_cons (pe_op op_add (pe_op op_add (pe_op op_mul (pv 3) pe_int) (pe_op op_mul (pe_op op_fdivN (pv 3) pe_int) pe_int)) (pe_ix ix_list (pv 0) pe_int (fun _ _ => rfl))) pa_nil)) pe_int))
    (pss_one (ps_ret (pe_op op_modN (pe_callTy call_int1 rfl mi (by decide +kernel) (pa_cons (pe_op op_fdivN (pv 3) pe_int) pa_nil)) (pv 1))))))), ?_⟩
  have rest : ∀ x : Int, 0 ≤ x.fmod m ∧ x.fmod m < m := fun x => by
    rw [Int.fmod_eq_emod_of_nonneg x (Int.le_of_lt h0)]
    exact ⟨Int.emod_nonneg x (by omega), Int.emod_lt_of_pos x h0⟩
  refine ⟨_, rfl, a, _, _, _, rfl, rfl, SqL.of hT, rfl, b, rfl, ?_⟩
  refine ite2 (fun hb => ?_) (fun hb => ?_)
  · refine ⟨_, rfl, a, _, _, _, rfl, rfl, SqL.of hT, rfl, _, _, rfl, rfl, _, rfl, ?_⟩
    refine ite2 (fun hc => ?_) (fun hc => ?_)
    · refine ⟨_, rfl, a, _, _, _, rfl, rfl, SqL.of hT, rfl, .inl ⟨_, rfl, _, rfl, _, _, rfl, rfl, (show m ≠ 0 by omega), ?_⟩⟩
      refine ⟨_, rfl, a, _, _, _, rfl, rfl, SqL.of hT, rfl, _, rfl, _, _, rfl, rfl, (show m ≠ 0 ∧ m.natAbs < 1073741824 by omega), _, rfl, a, _, _, _, rfl, rfl, hT, rfl, ?_⟩
      exact ⟨_, rfl, q _ _ (rest _).1 (rest _).2 But.upd ⟨_, _, _, _, upd_same⟩⟩
    · refine ⟨_, rfl, a, _, _, _, rfl, rfl, SqL.of hT, rfl, _, _, rfl, rfl, _, rfl, a, _, _, _, rfl, rfl, hT, rfl, ?_⟩
      refine ⟨_, rfl, a, _, _, _, rfl, rfl, SqL.of upd_same, rfl, _, _, rfl, rfl, .inr ⟨by decide, by decide⟩, _, rfl, a, _, _, _, rfl, rfl, SqL.of upd_same, rfl, _, _, rfl, rfl, .inr ⟨by decide, by decide⟩, _, _, rfl, rfl, _, _, rfl, rfl, .inl ⟨_, rfl, _, _, rfl, rfl, (show (2147483647 : Int) ≠ 0 by decide), ?_⟩⟩
      refine ⟨_, rfl, _, _, rfl, rfl, .inr ⟨by decide, by decide⟩, _, rfl, _, _, rfl, rfl, ⟨by decide, by decide⟩, _, _, rfl, rfl, .inr ⟨by decide, by decide⟩, _, _, rfl, rfl, _, rfl, a, _, _, _, rfl, rfl, SqL.of upd_same, rfl, _, _, rfl, rfl, .inl ⟨_, rfl, _, _, rfl, rfl, (show (2147483399 : Int) ≠ 0 by decide), ?_⟩⟩
      exact ⟨_, rfl, _, _, rfl, rfl, ⟨by decide, by decide⟩, .inl ⟨_, rfl, _, rfl, _, _, rfl, rfl, (show m ≠ 0 by omega), q _ _ (rest _).1 (rest _).2 But.upd ⟨_, _, _, _, upd_same⟩⟩⟩
  · refine ⟨_, rfl, a, _, _, _, rfl, rfl, SqL.of hT, rfl, _, _, rfl, rfl, _, rfl, a, _, _, _, rfl, rfl, hT, rfl, ?_⟩
    refine ⟨_, rfl, a, _, _, _, rfl, rfl, SqL.of upd_same, rfl, _, _, rfl, rfl, .inr ⟨by decide, by decide⟩, _, rfl, a, _, _, _, rfl, rfl, SqL.of upd_same, rfl, _, _, rfl, rfl, .inr ⟨by decide, by decide⟩, _, _, rfl, rfl, _, _, rfl, rfl, .inl ⟨_, rfl, _, _, rfl, rfl, (show (2147483647 : Int) ≠ 0 by decide), ?_⟩⟩
    refine ⟨_, rfl, _, _, rfl, rfl, .inr ⟨by decide, by decide⟩, _, rfl, _, _, rfl, rfl, ⟨by decide, by decide⟩, _, _, rfl, rfl, .inr ⟨by decide, by decide⟩, _, _, rfl, rfl, _, rfl, a, _, _, _, rfl, rfl, SqL.of upd_same, rfl, _, _, rfl, rfl, .inl ⟨_, rfl, _, _, rfl, rfl, (show (2147483399 : Int) ≠ 0 by decide), ?_⟩⟩
    exact ⟨_, rfl, _, _, rfl, rfl, ⟨by decide, by decide⟩, .inl ⟨_, rfl, _, rfl, _, _, rfl, rfl, (show m ≠ 0 by omega), q _ _ (rest _).1 (rest _).2 But.upd ⟨_, _, _, _, upd_same⟩⟩⟩
/-! ### dances, fractions -/
theorem six_letters {r : Int} (h0 : 0 ≤ r) (h1 : r < 6) : ∃ c, atI (("TTUURR" : Str)).cps.toList r = some c ∧ (c = 84 ∨ c = 85 ∨ c = 82) := by
  have e : (("TTUURR" : Str)).cps.toList = [84, 84, 85, 85, 82, 82] := by decide +kernel
  rw [e]
  obtain ⟨c, hc, m⟩ := atI_mk (xs := [84, 84, 85, 85, 82, 82]) h0 h1
  refine ⟨c, hc, ?_⟩
  simp at m
  omega
theorem four_sizes {r : Int} (h0 : 0 ≤ r) (h1 : r < 4) : ∃ z : Int, atI [V.int 1, .int 1, .int 3, .int 9] r = some (.int z) ∧ 1 ≤ z ∧ z ≤ 9 := by
  obtain ⟨c, hc, m⟩ := atI_mk (xs := [V.int 1, .int 1, .int 3, .int 9]) h0 h1
  simp at m
  rcases m with rfl | rfl | rfl
  · exact ⟨1, hc, by decide, by decide⟩
  · exact ⟨3, hc, by decide, by decide⟩
  · exact ⟨9, hc, by decide, by decide⟩
theorem e_empty : (("" : Str)) = S [] := by decide +kernel
theorem sizeLine_big : 16777216 ≤ sizeLine := by rw [sizeLine_eq]; decide
theorem fits {n : Nat} (h : n ≤ 16777216) : n ≤ sizeLine := Nat.le_trans h sizeLine_big
def spDance : Sp := fun vs H Q _ => ∃ (a : Addr) (m : Int), vs = [.ref a, .int m] ∧ Tape H a ∧ 0 ≤ m ∧ m ≤ 1000 ∧ ∀ l H', Lets l → (l.length : Int) ≤ m → But a H H' → Tape H' a → Q (.str (S l)) H'
theorem ok_dance (F : Fun K "_law_dance" "_law_dance" s_law_dance f fd) (DT : Dfn P w K mg base "_law_take" 1 ["tape", "many"] spTake) (mr : mg "range" = none) : FnOk P w K mg base CX0 2 f fd ["tape", "most"] spDance := by
  refine F.ok sc_law_dance (fun vs H Q E h => ?_) (fun cdv A outer s H vs Q E hr h => ?_)
  · obtain ⟨a, m, rfl, _⟩ := h
    rfl
  obtain ⟨a, m, rfl, hT, h0, h1, q⟩ := h
  refine ⟨_, pss_cons (ps_set (i := 2) sc_law_dance.nd rfl (.inl rfl) pe_str)
    (pss_cons (ps_set (i := 3) sc_law_dance.nd rfl (.inl rfl) (pe_ix ix_list (pe_lst (pa_cons pe_int (pa_cons pe_int (pa_cons pe_int (pa_cons pe_int pa_nil))))) (pe_do DT hr (pa_cons (pv 0) (pa_cons pe_int pa_nil))) (fun _ _ => rfl)))
    (pss_cons (ps_for PassesOwn.never rfl (pi_range1 rfl mr (pa_cons (pe_do DT hr (pa_cons (pv 0) (pa_cons (pe_op op_add (pv 1) pe_int) pa_nil))) pa_nil)) (pg_name (i := 4) sc_law_dance.nd rfl (.inl rfl))
      (pss_one (ps_set (i := 2) sc_law_dance.nd rfl (.inl rfl) (pe_op op_add_str (pv 2) (pe_op op_mul_str (pe_ix ix_str pe_str (pe_do DT hr (pa_cons (pv 0) (pa_cons pe_int pa_nil))) (fun _ _ => rfl))
        (pe_op op_add pe_int (pe_do DT hr (pa_cons (pv 0) (pa_cons (pv 3) pa_nil)))))))))
    (pss_one (ps_ret (pe_slice sl_str (pv 2) po_none (po_some (pv 1))))))), ?_⟩
  refine ⟨(by show 4 ≤ sizeLine; exact fits (by decide)), fun p hp => ?_⟩
  have np := hT.ne hp
  refine ⟨_, rfl, a, 4, rfl, hT.same (same_new hp _), by decide, by decide, fun r H1 r0 r1 b1 t1 => ?_⟩
  obtain ⟨z, hz, z1, z9⟩ := four_sizes r0 r1
  refine ⟨p, _, _, _, rfl, rfl, SqL.of (b1 _ _ np upd_same), hz, ?_⟩
  have B1 : But a H H1 := (But.of (same_new hp _)).trans b1
  refine ⟨_, rfl, _, rfl, _, _, rfl, rfl, a, _, rfl, t1, (show 0 < m + 1 by omega), (show m + 1 < 1073741824 by omega), fun r2 H2 r20 r21 b2 t2 => ?_⟩
  refine ⟨r2, rfl, by omega, by omega, for_range (lo := 0) (n := r2.toNat) (fun i σ H' => ∃ (l : List Nat) (v : Option V), σ = [some (.ref a), some (.int m), some (.str (S l)), some (.int z), v] ∧ Lets l ∧ l.length ≤ 9 * i ∧ But a H H' ∧ Tape H' a) ?_ ?_ ?_⟩
  · exact ⟨[], none, by rw [← e_empty]; rfl, fun _ h => (by cases h), Nat.zero_le _, B1.trans b2, t2⟩
  · rintro i σ H' hi ⟨l, v, rfl, hl, hz2, bt, tp⟩
    refine ⟨_, rfl, _, rfl, a, 6, rfl, tp, by decide, by decide, fun r3 H3 r30 r31 b3 t3 => ?_⟩
    obtain ⟨c, hc, hcl⟩ := six_letters r30 r31
    refine ⟨_, _, c, rfl, rfl, (fits (by decide +kernel)), hc, _, rfl, _, rfl, a, z, rfl, t3, by omega, by omega, fun r4 H4 r40 r41 b4 t4 => ?_⟩
    have hn : (1 + r4).toNat ≤ 9 := by omega
    refine ⟨_, _, rfl, rfl, [c], 1 + r4, rfl, rfl, by omega, by omega, by simp only [List.length_singleton]; omega, _, _, rfl, rfl, ?_, ?_⟩
    · rw [S_len, S_len]
      refine fits ?_
      rw [List.length_flatten, List.map_replicate, List.sum_replicate_nat]
      simp only [List.length_singleton]
      omega
    · refine ⟨l ++ (List.replicate (1 + r4).toNat [c]).flatten, _, by rw [S_app]; rfl, fun x hx => ?_, ?_, (bt.trans b3).trans b4, t4⟩
      · rcases List.mem_append.mp hx with hx | hx
        · exact hl x hx
        · obtain ⟨y, hy, hxy⟩ := List.mem_flatten.mp hx
          rw [(List.mem_replicate.mp hy).2] at hxy
          rw [List.mem_singleton.mp hxy]
          exact hcl
      · rw [List.length_append, List.length_flatten, List.map_replicate, List.sum_replicate_nat]
        simp only [List.length_singleton]
        omega
  · rintro σ H' ⟨l, v, rfl, hl, hz2, bt, tp⟩
    refine ⟨_, rfl, _, rfl, _, rfl, _, rfl, (by rw [S_len]; exact fits (by omega)), ?_⟩
    rw [S_take l h0]
    refine q _ _ (fun x hx => hl x (List.mem_of_mem_take hx)) ?_ bt tp
    rw [List.length_take]
    omega
end
section
variable {P : Program} {w : World} {K : PySem.W.Frag} {mg : Str → Option Value} {base : Heap} {f : Addr} {fd : FuncData}
theorem sign_eq {c n : Nat} {z : Str} (e : z = S [n]) : (V.str (S [c]) = V.str z) ↔ c = n := by
  subst e
  constructor
  · intro h
    have := S_inj (V.str.inj h)
    simpa using this
  · rintro rfl; rfl
theorem e_T : (("T" : Str)) = S [84] := by decide +kernel
theorem e_U : (("U" : Str)) = S [85] := by decide +kernel
theorem e_R : (("R" : Str)) = S [82] := by decide +kernel
def Tup2 (H : Hp) (t : Addr) (v : Int × Int) : Prop := H t = some (.tup [.int v.1, .int v.2])
def spCalled (K : PySem.W.Frag) : Sp := fun vs H Q _ => ∃ (t : Addr) (v : Int × Int) (c : Nat), vs = [.ref t, .str (S [c])] ∧ Tup2 H t v ∧ ∀ t' H', Same H H' → Tup2 H' t' (called v c) → Q (.ref t') H'
theorem ok_called (F : Fun K "_law_called" "_law_called" s_law_called f fd) : FnOk P w K mg base CX0 1 f fd ["value", "letter"] (spCalled K) := by
  refine F.ok sc_law_called (fun vs H Q E h => ?_) (fun cdv A outer s H vs Q E hr h => ?_)
  · obtain ⟨a, m, c, rfl, _⟩ := h
    rfl
  obtain ⟨t, ⟨p, q'⟩, c, rfl, hT, q⟩ := h
  refine ⟨_, pss_cons (ps_asg (pv 0) (pg_tup (by rfl) (pgs_cons (pg_name (i := 2) sc_law_called.nd rfl (.inl rfl)) (pgs_cons (pg_name (i := 3) sc_law_called.nd rfl (.inl rfl)) pgs_nil))))
    (pss_cons (ps_if (pt_cmpR op_eq (pv 1) pe_str (nomark _)) (pss_one (ps_ret (pe_tup (pa_cons (pe_op op_add (pv 2) (pv 3)) (pa_cons (pv 3) pa_nil))))) pss_nil)
    (pss_cons (ps_if (pt_cmpR op_eq (pv 1) pe_str (nomark _)) (pss_one (ps_ret (pe_tup (pa_cons (pe_op op_sub (pv 2) (pv 3)) (pa_cons (pv 3) pa_nil))))) pss_nil)
    (pss_cons (ps_if (pt_cmpR op_gt (pv 2) pe_int (nomark _)) (pss_one (ps_ret (pe_tup (pa_cons (pe_op op_sub pe_int (pv 3)) (pa_cons (pv 2) pa_nil))))) pss_nil)
    (pss_cons (ps_if (pt_cmpR op_lt (pv 2) pe_int (nomark _)) (pss_one (ps_ret (pe_tup (pa_cons (pv 3) (pa_cons (pe_op op_sub pe_int (pv 2)) pa_nil))))) pss_nil)
    (pss_one (ps_ret (pe_tup (pa_cons pe_int (pa_cons pe_int pa_nil))))))))), ?_⟩
  have two : 2 ≤ sizeLine := fits (by decide)
  refine ⟨_, rfl, t, _, rfl, SqT.of hT, rfl, _, _, rfl, _, _, rfl, rfl, ?_⟩
  refine ⟨_, rfl, rfl, _, rfl, ite2 (fun c1 => ?_) (fun c1 => ?_)⟩
  · have k1 : c = 84 := (sign_eq e_T).mp (of_decide_eq_true c1)
    refine ⟨_, rfl, _, rfl, _, _, rfl, rfl, _, rfl, two, fun n hn => q n _ (same_new hn _) ?_⟩
    unfold Tup2 called
    rw [upd_same, if_pos k1]
  have k1 : ¬ c = 84 := fun z => c1 (decide_eq_true ((sign_eq e_T).mpr z))
  refine ⟨_, rfl, rfl, _, rfl, ite2 (fun c2 => ?_) (fun c2 => ?_)⟩
  · have k2 : c = 85 := (sign_eq e_U).mp (of_decide_eq_true c2)
    refine ⟨_, rfl, _, rfl, _, _, rfl, rfl, _, rfl, two, fun n hn => q n _ (same_new hn _) ?_⟩
    unfold Tup2 called
    rw [upd_same, if_neg k1, if_pos k2]
  have k2 : ¬ c = 85 := fun z => c2 (decide_eq_true ((sign_eq e_U).mpr z))
  refine ⟨_, rfl, _, _, rfl, rfl, _, rfl, ite2 (fun c3 => ?_) (fun c3 => ?_)⟩
  · have k3 : 0 < p := of_decide_eq_true c3
    refine ⟨_, rfl, _, _, rfl, rfl, _, rfl, two, fun n hn => q n _ (same_new hn _) ?_⟩
    unfold Tup2 called
    rw [upd_same, if_neg k1, if_neg k2, if_pos k3]
  have k3 : ¬ 0 < p := fun z => c3 (decide_eq_true z)
  refine ⟨_, rfl, _, _, rfl, rfl, _, rfl, ite2 (fun c4 => ?_) (fun c4 => ?_)⟩
  · have k4 : p < 0 := of_decide_eq_true c4
    refine ⟨_, rfl, _, rfl, _, _, rfl, rfl, two, fun n hn => q n _ (same_new hn _) ?_⟩
    unfold Tup2 called
    rw [upd_same, if_neg k1, if_neg k2, if_neg k3, if_pos k4]
  have k4 : ¬ p < 0 := fun z => c4 (decide_eq_true z)
  refine ⟨two, fun n hn => q n _ (same_new hn _) ?_⟩
  unfold Tup2 called
  rw [upd_same, if_neg k1, if_neg k2, if_neg k3, if_neg k4]
theorem Tup2.same {H H' : Hp} {t : Addr} {v : Int × Int} (h : Tup2 H t v) (s : Same H H') : Tup2 H' t v := s _ _ h
theorem Tup2.but {H H' : Hp} {a t : Addr} {v : Int × Int} (h : Tup2 H t v) (s : But a H H') (tp : Tape H a) : Tup2 H' t v := by
  obtain ⟨y, c, z, b, e⟩ := tp
  exact s _ _ (ne_of h e (by intro q; cases q)) h
def spNumber (K : PySem.W.Frag) : Sp := fun vs H Q _ => ∃ l : List Nat, vs = [.str (S l)] ∧ ∀ t' H', Same H H' → Tup2 H' t' (run (0, 1) l) → Q (.ref t') H'
theorem ok_number (F : Fun K "_law_number" "_law_number" s_law_number f fd) (DC : Dfn P w K mg base "_law_called" 1 ["value", "letter"] (spCalled K)) : FnOk P w K mg base CX0 2 f fd ["dance"] (spNumber K) := by
  refine F.ok sc_law_number (fun vs H Q E h => ?_) (fun cdv A outer s H vs Q E hr h => ?_)
  · obtain ⟨l, rfl, _⟩ := h
    rfl
  obtain ⟨l, rfl, q⟩ := h
  refine ⟨_, pss_cons (ps_set (i := 1) sc_law_number.nd rfl (.inl rfl) (pe_tup (pa_cons pe_int (pa_cons pe_int pa_nil))))
    (pss_cons (ps_for PassesOwn.never rfl (pi_str (pv 0)) (pg_name (i := 2) sc_law_number.nd rfl (.inl rfl))
      (pss_one (ps_set (i := 1) sc_law_number.nd rfl (.inl rfl) (pe_do DC hr (pa_cons (pv 1) (pa_cons (pv 2) pa_nil))))))
    (pss_one (ps_ret (pv 1)))), ?_⟩
  refine ⟨fits (by decide), fun p hp => ?_⟩
  refine ⟨_, rfl, _, rfl, for_str (l := l) (fun i σ H' => ∃ (t : Addr) (v : Option V), σ = [some (.str (S l)), some (.ref t), v] ∧ Same H H' ∧ Tup2 H' t (run (0, 1) (l.take i))) ?_ ?_ ?_⟩
  · exact ⟨p, _, rfl, same_new hp _, upd_same⟩
  · rintro i c σ H' hc ⟨t, v, rfl, sm, tt⟩
    refine ⟨_, rfl, _, rfl, t, _, c, rfl, tt, fun t' H2 s2 tt2 => ?_⟩
    exact ⟨t', _, rfl, sm.trans s2, by rw [run_take _ hc]; exact tt2⟩
  · rintro σ H' ⟨t, v, rfl, sm, tt⟩
    rw [List.take_of_length_le (Nat.le_refl _)] at tt
    exact ⟨_, rfl, q t H' sm tt⟩
end
section
variable {P : Program} {w : World} {K : PySem.W.Frag} {mg : Str → Option Value} {base : Heap} {f : Addr} {fd : FuncData}
def spDivisor : Sp := fun vs H Q _ => ∃ x y : Int, vs = [.int x, .int y] ∧ Q (.int ((Nat.gcd x.natAbs y.natAbs : Nat) : Int)) H
theorem ok_divisor (F : Fun K "_law_divisor" "_law_divisor" s_law_divisor f fd) (ma : mg "abs" = none) (mi : mg "int" = none) : FnOk P w K mg base CX0 1 f fd ["one", "other"] spDivisor := by
  refine F.ok sc_law_divisor (fun vs H Q E h => ?_) (fun cdv A outer s H vs Q E hr h => ?_)
  · obtain ⟨x, y, rfl, _⟩ := h
    rfl
  obtain ⟨x, y, rfl, q⟩ := h
  refine ⟨_, pss_cons (ps_while PassesOwn.never (pt_cmpR op_ne (pv 1) pe_int (nomark _))
      (pss_one (ps_par (i := 0) (j := 1) (by rfl) sc_law_divisor.nd rfl rfl (by decide) rfl rfl (pa_cons (pv 1) (pa_cons (pe_op op_modN (pe_callTy call_int1 rfl mi (by decide +kernel) (pa_cons (pv 0) pa_nil)) (pv 1)) pa_nil)) (by rfl))))
    (pss_one (ps_ret (pe_callB call_abs rfl ma (by decide +kernel) (pa_cons (pv 0) pa_nil)))), ?_⟩
  refine while_by (fun σ H' => H' = H ∧ ∃ a b : Int, σ = [some (.int a), some (.int b)] ∧ Nat.gcd a.natAbs b.natAbs = Nat.gcd x.natAbs y.natAbs) (fun σ _ => match σ with | [_, some (.int b)] => b.natAbs | _ => 0) ⟨rfl, x, y, rfl, rfl⟩ ?_ ?_
  · rintro σ _ ⟨rfl, a, b, rfl, e⟩
    refine ⟨_, rfl, rfl, _, rfl, ite2 (fun c => ?_) (fun c => ?_)⟩
    · have hb : b ≠ 0 := fun z => by subst z; simp at c
      refine ⟨_, rfl, _, rfl, .inl ⟨_, rfl, _, rfl, _, _, rfl, rfl, hb, _, _, rfl, ⟨rfl, _, _, rfl, ?_⟩, ?_⟩⟩
      · rw [gcd_step]; exact e
      · exact fmod_less hb
    · have hb : b = 0 := Decidable.byContradiction fun z => c (by simp [z])
      subst hb
      refine ⟨_, rfl, _, rfl, ?_⟩
      rw [Int.natAbs_zero, Nat.gcd_zero_right] at e
      have e2 : (if a < 0 then -a else a) = ((Nat.gcd x.natAbs y.natAbs : Nat) : Int) := by
        rw [← e]
        split <;> omega
      rw [e2]
      exact q
  · rintro σ H' Q1 Q2 hm ⟨v, e, s, k, ek, q⟩
    exact ⟨v, e, s, k, ek, hm _ _ q⟩
end
section
variable {P : Program} {w : World} {K : PySem.W.Frag} {mg : Str → Option Value} {base : Heap} {f : Addr} {fd : FuncData}
def spInteger : Sp := fun vs H Q _ => ∃ (a : Addr), vs = [.ref a] ∧ Tape H a ∧ ∀ (z : Int) H', z.natAbs < 2 ^ 100 → But a H H' → Tape H' a → Q (.int z) H'
theorem five_sizes {r : Int} (h0 : 0 ≤ r) (h1 : r < 5) : ∃ z : Int, atI [V.int 3, .int 10, .int 1000, .int (10 ^ (12 : Int).toNat), .int (10 ^ (30 : Int).toNat)] r = some (.int z) ∧ 0 < z ∧ z < 2 ^ 100 := by
  obtain ⟨c, hc, m⟩ := atI_mk (xs := [V.int 3, .int 10, .int 1000, .int (10 ^ (12 : Int).toNat), .int (10 ^ (30 : Int).toNat)]) h0 h1
  simp only [List.mem_cons, List.not_mem_nil, or_false] at m
  rcases m with rfl | rfl | rfl | rfl | rfl
  · exact ⟨3, hc, by decide, by decide⟩
  · exact ⟨10, hc, by decide, by decide⟩
  · exact ⟨1000, hc, by decide, by decide⟩
  · exact ⟨_, hc, by decide, by decide⟩
  · exact ⟨_, hc, by decide, by decide⟩
theorem two_signs {r : Int} (h0 : 0 ≤ r) (h1 : r < 2) : ∃ z : Int, atI [V.int 1, .int (-1)] r = some (.int z) ∧ (z = 1 ∨ z = -1) := by
  obtain ⟨c, hc, m⟩ := atI_mk (xs := [V.int 1, .int (-1)]) h0 h1
  simp only [List.mem_cons, List.not_mem_nil, or_false] at m
  rcases m with rfl | rfl
  · exact ⟨1, hc, .inl rfl⟩
  · exact ⟨-1, hc, .inr rfl⟩
theorem ok_integer (F : Fun K "_law_integer" "_law_integer" s_law_integer f fd) (DT : Dfn P w K mg base "_law_take" 1 ["tape", "many"] spTake) (mr : mg "range" = none) (mi : mg "int" = none) : FnOk P w K mg base CX0 2 f fd ["tape"] spInteger := by
  refine F.ok sc_law_integer (fun vs H Q E h => ?_) (fun cdv A outer s H vs Q E hr h => ?_)
  · obtain ⟨a, rfl, _⟩ := h
    rfl
  obtain ⟨a, rfl, hT, q⟩ := h
  refine ⟨_, pss_cons (ps_set (i := 1) sc_law_integer.nd rfl (.inl rfl) (pe_ix ix_list (pe_lst (pa_cons pe_int (pa_cons pe_int (pa_cons pe_int (pa_cons (pe_op op_pow pe_int pe_int) (pa_cons (pe_op op_pow pe_int pe_int) pa_nil)))))) (pe_do DT hr (pa_cons (pv 0) (pa_cons pe_int pa_nil))) (fun _ _ => rfl)))
    (pss_cons (ps_set (i := 2) sc_law_integer.nd rfl (.inl rfl) pe_int)
    (pss_cons (ps_for PassesOwn.never rfl (pi_range1 rfl mr (pa_cons pe_int pa_nil)) (pg_name (i := 3) sc_law_integer.nd rfl (.inl rfl))
      (pss_one (ps_set (i := 2) sc_law_integer.nd rfl (.inl rfl) (pe_op op_add (pe_op op_mul (pv 2) pe_int) (pe_do DT hr (pa_cons (pv 0) (pa_cons pe_int pa_nil)))))))
    (pss_one (ps_ret (pe_op op_mul (pe_op op_modN (pe_callTy call_int1 rfl mi (by decide +kernel) (pa_cons (pv 2) pa_nil)) (pv 1)) (pe_ix ix_list (pe_lst (pa_cons pe_int (pa_cons (pe_un un_neg pe_int) pa_nil))) (pe_do DT hr (pa_cons (pv 0) (pa_cons pe_int pa_nil))) (fun _ _ => rfl))))))), ?_⟩
  refine ⟨_, _, rfl, rfl, ⟨by decide, by decide, by decide⟩, _, _, rfl, rfl, ⟨by decide, by decide, by decide⟩, fits (by decide), fun p hp => ?_⟩
  have np := hT.ne hp
  refine ⟨_, rfl, a, 5, rfl, hT.same (same_new hp _), by decide, by decide, fun r H1 r0 r1 b1 t1 => ?_⟩
  obtain ⟨z, hz, z0, z1⟩ := five_sizes r0 r1
  refine ⟨p, _, _, _, rfl, rfl, SqL.of (b1 _ _ np upd_same), hz, ?_⟩
  have B1 : But a H H1 := (But.of (same_new hp _)).trans b1
  refine ⟨5, rfl, by decide, by decide, for_range (lo := 0) (n := 5) (fun i σ H' => ∃ (y : Int) (v : Option V), σ = [some (.ref a), some (.int z), some (.int y), v] ∧ But a H H' ∧ Tape H' a) ?_ ?_ ?_⟩
  · exact ⟨0, none, rfl, B1, t1⟩
  · rintro i σ H' hi ⟨y, v, rfl, bt, tp⟩
    refine ⟨_, rfl, _, _, rfl, rfl, .inr ⟨by decide, by decide⟩, _, rfl, a, 1000003, rfl, tp, by decide, by decide, fun r3 H3 r30 r31 b3 t3 => ?_⟩
    exact ⟨_, _, rfl, rfl, _, _, rfl, bt.trans b3, t3⟩
  · rintro σ H' ⟨y, v, rfl, bt, tp⟩
    refine ⟨_, rfl, .inl ⟨_, rfl, _, rfl, _, _, rfl, rfl, (show z ≠ 0 by omega), _, rfl, fits (by decide), fun p2 hp2 => ?_⟩⟩
    have np2 := tp.ne hp2
    refine ⟨_, rfl, a, 2, rfl, tp.same (same_new hp2 _), by decide, by decide, fun r4 H4 r40 r41 b4 t4 => ?_⟩
    obtain ⟨g, hg, g1⟩ := two_signs r40 r41
    refine ⟨p2, _, _, _, rfl, rfl, SqL.of (b4 _ _ np2 upd_same), hg, _, _, rfl, rfl, .inr ⟨by omega, by omega⟩, ?_⟩
    refine q _ _ ?_ ((bt.trans (But.of (same_new hp2 _))).trans b4) t4
    rw [Int.fmod_eq_emod_of_nonneg y (by omega)]
    have h1 := Int.emod_nonneg y (b := z) (by omega)
    have h2 := Int.emod_lt_of_pos y z0
    rw [Int.natAbs_mul]
    have h3 : g.natAbs = 1 := by rcases g1 with rfl | rfl <;> rfl
    rw [h3, Nat.mul_one]
    omega
end
section
variable {P : Program} {w : World} {K : PySem.W.Frag} {mg : Str → Option Value} {base : Heap} {f : Addr} {fd : FuncData}
/-- a law's fraction -/
structure Frac (v : Int × Int) : Prop where
  good : Good v
  s1 : v.1.natAbs < 2 ^ 101
  s2 : v.2.natAbs < 2 ^ 101
def spFraction : Sp := fun vs H Q _ => ∃ (a : Addr), vs = [.ref a] ∧ Tape H a ∧ ∀ (t : Addr) (v : Int × Int) H', Frac v → But a H H' → Tape H' a → Tup2 H' t v → Q (.ref t) H'
theorem frac_run {l : List Nat} (h : (l.length : Int) ≤ 40) : Frac (run (0, 1) l) := by
  have q := run_size l (v := (0, 1)) (n := 1) (by decide) (by decide) (Nat.le_refl _)
  have e : 2 ^ l.length * 1 < 2 ^ 101 := by
    rw [Nat.mul_one]
    exact Nat.pow_lt_pow_right (by decide) (by omega)
  exact ⟨good_run l Good.zero, Nat.lt_of_le_of_lt q.1 e, Nat.lt_of_le_of_lt q.2 e⟩
theorem frac_div {p q : Int} (hp : p.natAbs < 2 ^ 100) (hq : q.natAbs < 2 ^ 101) (h0 : 0 < q) : Frac (p / (Int.gcd p q : Int), q / (Int.gcd p q : Int)) := by
  have g0 : 0 < Int.gcd p q := Int.gcd_pos_of_ne_zero_right p (by omega)
  have a : ∀ (x : Int) (g : Nat), 0 < g → (x / (g : Int)).natAbs ≤ x.natAbs := fun x g hg => Int.natAbs_ediv_le_natAbs x g
  refine ⟨⟨.inl ?_, ?_⟩, Nat.lt_of_le_of_lt (a p _ g0) (by omega), Nat.lt_of_le_of_lt (a q _ g0) hq⟩
  · have := Int.gcd_dvd_right (a := p) (b := q)
    exact Int.ediv_pos_of_pos_of_dvd h0 (by omega) this
  · exact Int.gcd_ediv_gcd_ediv_gcd g0
theorem four_fracs (p1 p2 p3 p4 : Addr) {r : Int} (h0 : 0 ≤ r) (h1 : r < 4) : ∃ p, atI [V.ref p1, .ref p2, .ref p3, .ref p4] r = some (.ref p) ∧ (p = p1 ∨ p = p2 ∨ p = p3 ∨ p = p4) := by
  obtain ⟨c, hc, m⟩ := atI_mk (xs := [V.ref p1, .ref p2, .ref p3, .ref p4]) h0 h1
  simp only [List.mem_cons, List.not_mem_nil, or_false] at m
  rcases m with rfl | rfl | rfl | rfl
  · exact ⟨_, hc, .inl rfl⟩
  · exact ⟨_, hc, .inr (.inl rfl)⟩
  · exact ⟨_, hc, .inr (.inr (.inl rfl))⟩
  · exact ⟨_, hc, .inr (.inr (.inr rfl))⟩
theorem ok_fraction (F : Fun K "_law_fraction" "_law_fraction" s_law_fraction f fd) (DT : Dfn P w K mg base "_law_take" 1 ["tape", "many"] spTake) (DD : Dfn P w K mg base "_law_dance" 2 ["tape", "most"] spDance)
    (DN : Dfn P w K mg base "_law_number" 2 ["dance"] (spNumber K)) (DI : Dfn P w K mg base "_law_integer" 2 ["tape"] spInteger) (DV : Dfn P w K mg base "_law_divisor" 1 ["one", "other"] spDivisor) (ma : mg "abs" = none) : FnOk P w K mg base CX0 3 f fd ["tape"] spFraction := by
  refine F.ok sc_law_fraction (fun vs H Q E h => ?_) (fun cdv A outer s H vs Q E hr h => ?_)
  · obtain ⟨a, rfl, _⟩ := h
    rfl
  obtain ⟨a, rfl, hT, q⟩ := h
  have hr1 := hr.mono (show 1 ≤ 2 by decide)
  refine ⟨_, pss_cons (ps_set (i := 1) sc_law_fraction.nd rfl (.inl rfl) (pe_do DT hr1 (pa_cons (pv 0) (pa_cons pe_int pa_nil))))
    (pss_cons (ps_if (pt_cmpR op_eq (pv 1) pe_int (nomark _)) (pss_one (ps_ret (pe_ix ix_list (pe_lst (pa_cons (pe_tup (pa_cons pe_int (pa_cons pe_int pa_nil))) (pa_cons (pe_tup (pa_cons pe_int (pa_cons pe_int pa_nil))) (pa_cons (pe_tup (pa_cons pe_int (pa_cons pe_int pa_nil))) (pa_cons (pe_tup (pa_cons (pe_un un_neg pe_int) (pa_cons pe_int pa_nil))) pa_nil)))))
        (pe_do DT hr1 (pa_cons (pv 0) (pa_cons pe_int pa_nil))) (fun _ _ => rfl)))) pss_nil)
    (pss_cons (ps_if (pt_cmpR op_lt (pv 1) pe_int (nomark _)) (pss_one (ps_ret (pe_do DN hr (pa_cons (pe_do DD hr (pa_cons (pv 0) (pa_cons pe_int pa_nil))) pa_nil)))) pss_nil)
    (pss_cons (ps_set (i := 2) sc_law_fraction.nd rfl (.inl rfl) (pe_do DI hr (pa_cons (pv 0) pa_nil)))
    (pss_cons (ps_set (i := 3) sc_law_fraction.nd rfl (.inl rfl) (pe_op op_add (pe_callB call_abs rfl ma (by decide +kernel) (pa_cons (pe_do DI hr (pa_cons (pv 0) pa_nil)) pa_nil)) pe_int))
    (pss_cons (ps_set (i := 4) sc_law_fraction.nd rfl (.inl rfl) (pe_do DV hr1 (pa_cons (pv 2) (pa_cons (pv 3) pa_nil))))
    (pss_one (ps_ret (pe_tup (pa_cons (pe_op op_fdivW (pv 2) (pv 4)) (pa_cons (pe_op op_fdivW (pv 3) (pv 4)) pa_nil)))))))))), ?_⟩
  have two : 2 ≤ sizeLine := fits (by decide)
  refine ⟨_, rfl, a, 8, rfl, hT, by decide, by decide, fun r H1 r0 r1 b1 t1 => ?_⟩
  refine ⟨_, rfl, rfl, _, rfl, ite2 (fun c1 => ?_) (fun c1 => ?_)⟩
  · refine ⟨two, fun p1 n1 => ⟨two, fun p2 n2 => ⟨two, fun p3 n3 => ⟨_, rfl, two, fun p4 n4 => ⟨fits (by show 4 ≤ 16777216; decide), fun p5 n5 => ?_⟩⟩⟩⟩⟩
    generalize e1 : upd H1 p1 (.tup [.int 1, .int 0]) = G1 at *
    generalize e2 : upd G1 p2 (.tup [.int 0, .int 1]) = G2 at *
    generalize e3 : upd G2 p3 (.tup [.int 1, .int 1]) = G3 at *
    generalize e4 : upd G3 p4 (.tup [.int (-1), .int 1]) = G4 at *
    generalize e5 : upd G4 p5 (.lst [.ref p1, .ref p2, .ref p3, .ref p4]) = G5 at *
    have s1 : Same H1 G1 := e1 ▸ same_new n1 _
    have s2 : Same G1 G2 := e2 ▸ same_new n2 _
    have s3 : Same G2 G3 := e3 ▸ same_new n3 _
    have s4 : Same G3 G4 := e4 ▸ same_new n4 _
    have s5 : Same G4 G5 := e5 ▸ same_new n5 _
    have t2 : Tape G1 a := t1.same s1
    have t3 : Tape G2 a := t2.same s2
    have t4 : Tape G3 a := t3.same s3
    have t5 : Tape G4 a := t4.same s4
    have t6 : Tape G5 a := t5.same s5
    have u1 : Tup2 G5 p1 (1, 0) := Tup2.same (H := G1) (by rw [← e1]; exact upd_same) (((s2.trans s3).trans s4).trans s5)
    have u2 : Tup2 G5 p2 (0, 1) := Tup2.same (H := G2) (by rw [← e2]; exact upd_same) ((s3.trans s4).trans s5)
    have u3 : Tup2 G5 p3 (1, 1) := Tup2.same (H := G3) (by rw [← e3]; exact upd_same) (s4.trans s5)
    have u4 : Tup2 G5 p4 (-1, 1) := Tup2.same (H := G4) (by rw [← e4]; exact upd_same) s5
    have u5 : G5 p5 = some (.lst [.ref p1, .ref p2, .ref p3, .ref p4]) := by rw [← e5]; exact upd_same
    refine ⟨_, rfl, a, 4, rfl, t6, by decide, by decide, fun r6 H6 r60 r61 b6 t7 => ?_⟩
    obtain ⟨p, hp, hq⟩ := four_fracs p1 p2 p3 p4 r60 r61
    refine ⟨p5, _, _, _, rfl, rfl, SqL.of (b6 _ _ (t5.ne n5) u5), hp, ?_⟩
    have B : But a H H6 := (b1.trans (But.of ((((s1.trans s2).trans s3).trans s4).trans s5))).trans b6
    rcases hq with rfl | rfl | rfl | rfl
    · exact q _ (1, 0) H6 ⟨⟨.inr rfl, by decide⟩, by decide, by decide⟩ B t7 (u1.but b6 t6)
    · exact q _ (0, 1) H6 ⟨⟨.inl (by decide), by decide⟩, by decide, by decide⟩ B t7 (u2.but b6 t6)
    · exact q _ (1, 1) H6 ⟨⟨.inl (by decide), by decide⟩, by decide, by decide⟩ B t7 (u3.but b6 t6)
    · exact q _ (-1, 1) H6 ⟨⟨.inl (by decide), by decide⟩, by decide, by decide⟩ B t7 (u4.but b6 t6)
  refine ⟨_, rfl, _, _, rfl, rfl, _, rfl, ite2 (fun c2 => ?_) (fun c2 => ?_)⟩
  · refine ⟨_, rfl, a, 40, rfl, t1, by decide, by decide, fun l H2 hl hz b2 t2 => ?_⟩
    exact ⟨l, rfl, fun t' H3 s3 tt => q t' _ H3 (frac_run hz) ((b1.trans b2).trans (But.of s3)) (t2.same s3) tt⟩
  refine ⟨_, rfl, a, rfl, t1, fun z1 H2 zb b2 t2 => ?_⟩
  refine ⟨_, rfl, a, rfl, t2, fun z2 H3 zb2 b3 t3 => ⟨_, rfl, _, _, rfl, rfl, ?_⟩⟩
  have e2 : (if z2 < 0 then -z2 else z2) = (z2.natAbs : Int) := by split <;> omega
  rw [e2]
  have hq1 : ((z2.natAbs : Int) + 1).natAbs < 2 ^ 101 := by omega
  have hq0 : 0 < (z2.natAbs : Int) + 1 := by omega
  have g0 : 0 < Int.gcd z1 ((z2.natAbs : Int) + 1) := Int.gcd_pos_of_ne_zero_right z1 (by omega)
  have gl : ((Int.gcd z1 ((z2.natAbs : Int) + 1) : Nat) : Int).natAbs < 2 ^ 101 := by
    have := Int.le_of_dvd hq0 (Int.gcd_dvd_right (a := z1) (b := (z2.natAbs : Int) + 1))
    omega
  have gd := wide_div (i := z1) (Int.ofNat_lt.mpr g0) gl (by decide) (by decide)
  have gd2 := wide_div (i := (z2.natAbs : Int) + 1) (Int.ofNat_lt.mpr g0) gl (by decide) (by decide)
  refine ⟨_, rfl, _, rfl, z1, (z2.natAbs : Int) + 1, rfl, ?_⟩
  refine ⟨_, rfl, _, rfl, _, _, rfl, rfl, gd, _, rfl, _, rfl, _, _, rfl, rfl, gd2, two, fun n hn => ?_⟩
  exact q n _ _ (frac_div zb hq1 hq0) (((b1.trans b2).trans b3).trans (But.of (same_new hn _))) (t3.same (same_new hn _)) upd_same
end
section
variable {P : Program} {w : World} {K : PySem.W.Frag} {mg : Str → Option Value} {base : Heap} {f : Addr} {fd : FuncData}
/-! ### the same data -/
inductive Dt where
  | int (i : Int) | str (z : Str) | non | tup (xs : List Dt) | lst (xs : List Dt)
/-- v stands for d, in at most n levels -/
def Is (H : Hp) : Nat → V → Dt → Prop
  | _, v, .int i => v = .int i
  | _, v, .str z => v = .str z
  | _, v, .non => v = .non
  | 0, _, .tup _ => False
  | 0, _, .lst _ => False
  | n + 1, v, .tup ds => ∃ (a : Addr) (xs : List V), v = .ref a ∧ H a = some (.tup xs) ∧ xs.length = ds.length ∧ ds.length ≤ 1000000 ∧ ∀ (i : Nat) (x : V) (d : Dt), xs[i]? = some x → ds[i]? = some d → Is H n x d
  | n + 1, v, .lst ds => ∃ (a : Addr) (xs : List V), v = .ref a ∧ H a = some (.lst xs) ∧ xs.length = ds.length ∧ ds.length ≤ 1000000 ∧ ∀ (i : Nat) (x : V) (d : Dt), xs[i]? = some x → ds[i]? = some d → Is H n x d
def spSame : Nat → Sp
  | 0 => fun _ _ _ _ => False
  | n + 1 => fun vs H Q _ => ∃ (x y : V) (d : Dt), vs = [x, y] ∧ Is H n x d ∧ Is H n y d ∧ Q (.bl true) H
theorem ok_same {n : Nat} (F : Fun K "_law_same" "_law_same" s_law_same f fd) (DS : Dfn P w K mg base "_law_same" n ["told", "due"] (spSame n)) (mI : mg "isinstance" = none) (mT : mg "tuple" = none) (mL : mg "list" = none) (ml : mg "len" = none) (mr : mg "range" = none)
    (ms : mg "str" = none) (mi : mg "int" = none) (mb : mg "bool" = none) : FnOk P w K mg base CX0 (n + 1) f fd ["told", "due"] (spSame (n + 1)) := by
  refine F.ok sc_law_same (fun vs H Q E h => ?_) (fun cdv A outer s H vs Q E hr h => ?_)
  · obtain ⟨x, y, d, rfl, _⟩ := h
    rfl
  obtain ⟨x, y, d, rfl, hx, hy, q⟩ := h
  have bT : bootBuiltins "tuple" = some (.type "tuple") := by decide +kernel
  have bL : bootBuiltins "list" = some (.type "list") := by decide +kernel
  have bS : bootBuiltins "str" = some (.type "str") := by decide +kernel
  have bI : bootBuiltins "int" = some (.type "int") := by decide +kernel
  have bB : bootBuiltins "bool" = some (.type "bool") := by decide +kernel
  have bi : bootBuiltins "isinstance" = some (.builtin "isinstance") := by decide +kernel
  refine ⟨_, pss_cons (ps_if (PW.pt (pw_or (pt_val (pe_callB call_isi rfl mI bi (pa_cons (pv 1) (pa_cons (pe_bltn (v := .ty "tuple") rfl mT bT rfl) pa_nil)))) (pw_or1 (pt_val (pe_callB call_isi rfl mI bi (pa_cons (pv 1) (pa_cons (pe_bltn (v := .ty "list") rfl mL bL rfl) pa_nil)))))))
      (pss_cons (ps_if (PW.pt (pw_or (pt_cmpR op_ne (pe_callB call_isi rfl mI bi (pa_cons (pv 1) (pa_cons (pe_bltn (v := .ty "tuple") rfl mT bT rfl) pa_nil))) (pe_callB call_isi rfl mI bi (pa_cons (pv 0) (pa_cons (pe_bltn (v := .ty "tuple") rfl mT bT rfl) pa_nil))) (nomark _))
          (pw_or1 (pt_cmpR op_ne (pe_callB call_isi rfl mI bi (pa_cons (pv 1) (pa_cons (pe_bltn (v := .ty "list") rfl mL bL rfl) pa_nil))) (pe_callB call_isi rfl mI bi (pa_cons (pv 0) (pa_cons (pe_bltn (v := .ty "list") rfl mL bL rfl) pa_nil))) (nomark _)))))
        (pss_one (ps_ret pe_bl)) pss_nil)
      (pss_cons (ps_if (pt_cmpR op_ne (pe_callB call_len_seq rfl ml PySem.boot_len (pa_cons (pv 0) pa_nil)) (pe_callB call_len_seq rfl ml PySem.boot_len (pa_cons (pv 1) pa_nil)) (nomark _)) (pss_one (ps_ret pe_bl)) pss_nil)
      (pss_cons (ps_for PassesOwn.never rfl (pi_range1 rfl mr (pa_cons (pe_callB call_len_seq rfl ml PySem.boot_len (pa_cons (pv 1) pa_nil)) pa_nil)) (pg_name (i := 2) sc_law_same.nd rfl (.inl rfl))
        (pss_one (ps_if (pt_not (pt_val (pe_do DS hr (pa_cons (pe_ix ix_seq (pv 0) (pv 2) (fun _ _ => rfl)) (pa_cons (pe_ix ix_seq (pv 1) (pv 2) (fun _ _ => rfl)) pa_nil))))) (pss_one (ps_ret pe_bl)) pss_nil)))
      (pss_one (ps_ret pe_bl))))) pss_nil)
    (pss_cons (ps_if (pt_cmpR op_isN (pv 1) pe_non (nomark _)) (pss_one (ps_ret (pe_cmpR op_isN (pv 0) pe_non (nomark _)))) pss_nil)
    (pss_cons (ps_if (pt_val (pe_callB call_isi rfl mI bi (pa_cons (pv 1) (pa_cons (pe_bltn (v := .ty "str") rfl ms bS rfl) pa_nil))))
      (pss_one (ps_ret (pe_and (pe_callB call_isi rfl mI bi (pa_cons (pv 0) (pa_cons (pe_bltn (v := .ty "str") rfl ms bS rfl) pa_nil))) (pe_one (pe_cmpR op_eq (pv 0) (pv 1) (nomark _)))))) pss_nil)
    (pss_one (ps_ret (pe_and (pe_callB call_isi rfl mI bi (pa_cons (pv 0) (pa_cons (pe_bltn (v := .ty "int") rfl mi bI rfl) pa_nil)))
      (pe_and (pe_not (pe_callB call_isi rfl mI bi (pa_cons (pv 0) (pa_cons (pe_bltn (v := .ty "bool") rfl mb bB rfl) pa_nil)))) (pe_one (pe_cmpR op_eq (pv 0) (pv 1) (nomark _))))))))), ?_⟩
  have isn : ∀ (a b : String) (r : Bool), kitB a b = some r → PySem.W.kitOne K (.type a) (.type b) = some r := fun a b r h => kit_ty h
  cases d with
  | int i =>
    cases (show x = .int i by cases n <;> exact hx)
    cases (show y = .int i by cases n <;> exact hy)
    refine ⟨_, rfl, _, _, _, _, false, rfl, .ty _, .base (.int _), kit_ty (by decide +kernel), _, rfl, iteF ?_⟩
    refine ⟨_, rfl, _, _, _, _, false, rfl, .ty _, .base (.int _), kit_ty (by decide +kernel), _, rfl, iteF ?_⟩
    refine ⟨_, rfl, rfl, _, rfl, iteF ?_⟩
    refine ⟨_, rfl, _, _, _, _, false, rfl, .ty _, .base (.int _), kit_ty (by decide +kernel), _, rfl, iteF ?_⟩
    refine ⟨_, rfl, _, _, _, _, true, rfl, .ty _, .base (.int _), kit_ty (by decide +kernel), _, rfl, iteT ?_⟩
    refine ⟨_, rfl, _, _, _, _, false, rfl, .ty _, .base (.int _), kit_ty (by decide +kernel), _, rfl, _, rfl, iteT ?_⟩
    refine ⟨_, rfl, _, rfl, rfl, ?_⟩
    rw [decide_eq_true rfl]
    exact q
  | str z =>
    cases (show x = .str z by cases n <;> exact hx)
    cases (show y = .str z by cases n <;> exact hy)
    refine ⟨_, rfl, _, _, _, _, false, rfl, .ty _, .base (.str _), kit_ty (by decide +kernel), _, rfl, iteF ?_⟩
    refine ⟨_, rfl, _, _, _, _, false, rfl, .ty _, .base (.str _), kit_ty (by decide +kernel), _, rfl, iteF ?_⟩
    refine ⟨_, rfl, rfl, _, rfl, iteF ?_⟩
    refine ⟨_, rfl, _, _, _, _, true, rfl, .ty _, .base (.str _), kit_ty (by decide +kernel), _, rfl, iteT ?_⟩
    refine ⟨_, rfl, _, _, _, _, true, rfl, .ty _, .base (.str _), kit_ty (by decide +kernel), _, rfl, iteT ?_⟩
    refine ⟨_, rfl, _, rfl, rfl, ?_⟩
    rw [decide_eq_true rfl]
    exact q
  | non =>
    cases (show x = .non by cases n <;> exact hx)
    cases (show y = .non by cases n <;> exact hy)
    refine ⟨_, rfl, _, _, _, _, false, rfl, .ty _, .base .non, kit_ty (by decide +kernel), _, rfl, iteF ?_⟩
    refine ⟨_, rfl, _, _, _, _, false, rfl, .ty _, .base .non, kit_ty (by decide +kernel), _, rfl, iteF ?_⟩
    exact ⟨_, rfl, rfl, _, rfl, iteT ⟨_, rfl, rfl, q⟩⟩
  | tup ds =>
    cases n with
    | zero => exact hx.elim
    | succ n =>
      obtain ⟨a, xs, rfl, ha, la, ln, ka⟩ := hx
      obtain ⟨b, ys, rfl, hb, lb, _, kb⟩ := hy
      refine ⟨_, rfl, _, _, _, _, true, rfl, .ty _, .base (.tup hb), kit_ty (by decide +kernel), _, rfl, iteT ?_⟩
      refine ⟨_, rfl, _, _, _, _, true, rfl, .ty _, .base (.tup hb), kit_ty (by decide +kernel), _, rfl, _, _, _, _, true, rfl, .ty _, .base (.tup ha), kit_ty (by decide +kernel), rfl, _, rfl, iteF ?_⟩
      refine ⟨_, rfl, _, _, _, _, false, rfl, .ty _, .base (.tup hb), kit_ty (by decide +kernel), _, rfl, _, _, _, _, false, rfl, .ty _, .base (.tup ha), kit_ty (by decide +kernel), rfl, _, rfl, iteF ?_⟩
      refine ⟨_, rfl, a, xs, rfl, .inr (SqT.of ha), _, rfl, b, ys, rfl, .inr (SqT.of hb), rfl, _, rfl, ?_⟩
      rw [show (decide (V.int (xs.length : Int) = V.int (ys.length : Int))) = true from decide_eq_true (by rw [la, lb])]
      refine iteF ?_
      refine ⟨_, rfl, b, ys, rfl, .inr (SqT.of hb), (ys.length : Int), rfl, by omega, by omega, for_range (lo := 0) (n := (ys.length : Int).toNat) (fun i σ H' => H' = H ∧ ∃ v, σ = [some (.ref a), some (.ref b), v]) ⟨rfl, none, rfl⟩ ?_ ?_⟩
      · rintro i σ _ hi ⟨rfl, v, rfl⟩
        have hi1 : i < ys.length := by omega
        have hi2 : i < xs.length := by omega
        have hi3 : i < ds.length := by omega
        refine ⟨_, rfl, _, rfl, .inr (.inl ⟨a, xs, _, _, rfl, rfl, SqT.of ha, at_of (j := i) (by omega) (List.getElem?_eq_getElem hi2), ?_⟩)⟩
        refine ⟨_, rfl, _, rfl, .inr (.inl ⟨b, ys, _, _, rfl, rfl, SqT.of hb, at_of (j := i) (by omega) (List.getElem?_eq_getElem hi1), ?_⟩)⟩
        refine ⟨_, _, ds[i], rfl, ka i _ _ (List.getElem?_eq_getElem hi2) (List.getElem?_eq_getElem hi3), kb i _ _ (List.getElem?_eq_getElem hi1) (List.getElem?_eq_getElem hi3), _, rfl, iteF ⟨rfl, _, rfl⟩⟩
      · rintro σ _ ⟨rfl, v, rfl⟩
        exact q
  | lst ds =>
    cases n with
    | zero => exact hx.elim
    | succ n =>
      obtain ⟨a, xs, rfl, ha, la, ln, ka⟩ := hx
      obtain ⟨b, ys, rfl, hb, lb, _, kb⟩ := hy
      refine ⟨_, rfl, _, _, _, _, false, rfl, .ty _, .base (.lst hb), kit_ty (by decide +kernel), _, rfl, iteF ?_⟩
      refine ⟨_, rfl, _, _, _, _, true, rfl, .ty _, .base (.lst hb), kit_ty (by decide +kernel), _, rfl, iteT ?_⟩
      refine ⟨_, rfl, _, _, _, _, false, rfl, .ty _, .base (.lst hb), kit_ty (by decide +kernel), _, rfl, _, _, _, _, false, rfl, .ty _, .base (.lst ha), kit_ty (by decide +kernel), rfl, _, rfl, iteF ?_⟩
      refine ⟨_, rfl, _, _, _, _, true, rfl, .ty _, .base (.lst hb), kit_ty (by decide +kernel), _, rfl, _, _, _, _, true, rfl, .ty _, .base (.lst ha), kit_ty (by decide +kernel), rfl, _, rfl, iteF ?_⟩
      refine ⟨_, rfl, a, xs, rfl, .inl (SqL.of ha), _, rfl, b, ys, rfl, .inl (SqL.of hb), rfl, _, rfl, ?_⟩
      rw [show (decide (V.int (xs.length : Int) = V.int (ys.length : Int))) = true from decide_eq_true (by rw [la, lb])]
      refine iteF ?_
      refine ⟨_, rfl, b, ys, rfl, .inl (SqL.of hb), (ys.length : Int), rfl, by omega, by omega, for_range (lo := 0) (n := (ys.length : Int).toNat) (fun i σ H' => H' = H ∧ ∃ v, σ = [some (.ref a), some (.ref b), v]) ⟨rfl, none, rfl⟩ ?_ ?_⟩
      · rintro i σ _ hi ⟨rfl, v, rfl⟩
        have hi1 : i < ys.length := by omega
        have hi2 : i < xs.length := by omega
        have hi3 : i < ds.length := by omega
        refine ⟨_, rfl, _, rfl, .inl ⟨a, xs, _, _, rfl, rfl, SqL.of ha, at_of (j := i) (by omega) (List.getElem?_eq_getElem hi2), ?_⟩⟩
        refine ⟨_, rfl, _, rfl, .inl ⟨b, ys, _, _, rfl, rfl, SqL.of hb, at_of (j := i) (by omega) (List.getElem?_eq_getElem hi1), ?_⟩⟩
        refine ⟨_, _, ds[i], rfl, ka i _ _ (List.getElem?_eq_getElem hi2) (List.getElem?_eq_getElem hi3), kb i _ _ (List.getElem?_eq_getElem hi1) (List.getElem?_eq_getElem hi3), _, rfl, iteF ⟨rfl, _, rfl⟩⟩
      · rintro σ _ ⟨rfl, v, rfl⟩
        exact q
theorem none_same : FnOk P w K mg base CX0 0 f fd ["told", "due"] (spSame 0) := by
  have no : ∀ vs H Q E, ¬ spSame 0 vs H Q E := fun vs H Q E h => h
  exact ⟨fun vs H Q E h => absurd h (no vs H Q E), fun A outer s H args us vs Q E _ _ _ _ h => absurd h (no vs H Q E)⟩
end
section
variable {P : Program} {w : World} {K : PySem.W.Frag} {mg : Str → Option Value} {base : Heap} {f : Addr} {fd : FuncData}
def spSays : Sp := fun vs H Q _ => ∃ b : Bool, vs = [.bl b, .bl b] ∧ Q (.bl true) H
theorem ok_says (F : Fun K "_law_says" "_law_says" s_law_says f fd) (mI : mg "isinstance" = none) (mb : mg "bool" = none) : FnOk P w K mg base CX0 1 f fd ["told", "due"] spSays := by
  refine F.ok sc_law_says (fun vs H Q E h => ?_) (fun cdv A outer s H vs Q E hr h => ?_)
  · obtain ⟨b, rfl, _⟩ := h
    rfl
  obtain ⟨b, rfl, q⟩ := h
  have bB : bootBuiltins "bool" = some (.type "bool") := by decide +kernel
  have bi : bootBuiltins "isinstance" = some (.builtin "isinstance") := by decide +kernel
  refine ⟨_, pss_one (ps_ret (pe_and (pe_callB call_isi rfl mI bi (pa_cons (pv 0) (pa_cons (pe_bltn (v := .ty "bool") rfl mb bB rfl) pa_nil))) (pe_one (pe_cmpR op_eq (pv 0) (pv 1) (nomark _))))), ?_⟩
  refine ⟨_, rfl, _, _, _, _, true, rfl, .ty _, .base (.bl _), kit_ty (by decide +kernel), _, rfl, iteT ?_⟩
  refine ⟨_, rfl, _, rfl, rfl, ?_⟩
  rw [decide_eq_true rfl]
  exact q
end
section
variable {P : Program} {w : World} {K : PySem.W.Frag} {mg : Str → Option Value} {base : Heap} {f : Addr} {fd : FuncData}
/-! ### fraction, less -/
def due (p q : Int) : Int × Int := if q = 0 then (1, 0) else
  if q < 0 then (p.fdiv (0 - (Int.gcd p q : Int)), q.fdiv (0 - (Int.gcd p q : Int))) else (p.fdiv (Int.gcd p q : Int), q.fdiv (Int.gcd p q : Int))
theorem gcd_size {p q : Int} (h : p ≠ 0 ∨ q ≠ 0) (hp : p.natAbs < 2 ^ 201) (hq : q.natAbs < 2 ^ 201) : 0 < Int.gcd p q ∧ Int.gcd p q < 2 ^ 201 := by
  rcases h with h | h
  · have h1 : 0 < Int.gcd p q := Int.gcd_pos_of_ne_zero_left q h
    have h2 : Int.gcd p q ∣ p.natAbs := Nat.gcd_dvd_left _ _
    have h3 := Nat.le_of_dvd (by omega) h2
    exact ⟨h1, by omega⟩
  · have h1 : 0 < Int.gcd p q := Int.gcd_pos_of_ne_zero_right p h
    have h2 : Int.gcd p q ∣ q.natAbs := Nat.gcd_dvd_right _ _
    have h3 := Nat.le_of_dvd (by omega) h2
    exact ⟨h1, by omega⟩
theorem log_ok {j : Int} (h : j.natAbs < 2 ^ 201) : j.natAbs.log2 < 9000 := Nat.lt_of_lt_of_le (PySem.Flt.log2_lt_of (by decide) h) (by decide)
theorem fdiv_neg_exact {p g : Int} (g0 : g ≠ 0) (h : g ∣ p) : p.fdiv (0 - g) = -(p / g) := by
  obtain ⟨k, rfl⟩ := h
  rw [Int.mul_ediv_cancel_left k g0, Int.zero_sub]
  have e : g * k = (-g) * (-k) := by rw [Int.neg_mul_neg]
  rw [e, Int.mul_fdiv_cancel_left _ (by omega)]
theorem due_good {p q : Int} (h : p ≠ 0 ∨ q ≠ 0) : Good (due p q) := by
  unfold due
  by_cases h0 : q = 0
  · rw [if_pos h0]
    exact ⟨.inr rfl, by decide⟩
  rw [if_neg h0]
  have g0 : 0 < Int.gcd p q := Int.gcd_pos_of_ne_zero_right p h0
  have dp : ((Int.gcd p q : Nat) : Int) ∣ p := Int.gcd_dvd_left p q
  have dq : ((Int.gcd p q : Nat) : Int) ∣ q := Int.gcd_dvd_right p q
  by_cases h1 : q < 0
  · rw [if_pos h1, fdiv_neg_exact (by omega) dp, fdiv_neg_exact (by omega) dq]
    refine ⟨.inl ?_, ?_⟩
    · show 0 < -(q / ((Int.gcd p q : Nat) : Int))
      have : 0 < (-q) / ((Int.gcd p q : Nat) : Int) := Int.ediv_pos_of_pos_of_dvd (by omega) (by omega) (Int.dvd_neg.mpr dq)
      rw [Int.neg_ediv_of_dvd dq] at this
      exact this
    · show Int.gcd (-(p / _)) (-(q / _)) = 1
      rw [Int.neg_gcd, Int.gcd_neg]
      exact Int.gcd_ediv_gcd_ediv_gcd g0
  · rw [if_neg h1, Int.fdiv_eq_ediv_of_nonneg p (by omega), Int.fdiv_eq_ediv_of_nonneg q (by omega)]
    refine ⟨.inl ?_, ?_⟩
    · exact Int.ediv_pos_of_pos_of_dvd (by omega) (by omega) dq
    · exact Int.gcd_ediv_gcd_ediv_gcd g0
theorem due_size {p q : Int} (hp : p.natAbs < 2 ^ 201) (hq : q.natAbs < 2 ^ 201) : (due p q).1.natAbs < 2 ^ 201 ∧ (due p q).2.natAbs < 2 ^ 201 := by
  unfold due
  by_cases h0 : q = 0
  · rw [if_pos h0]
    exact ⟨by decide, by decide⟩
  rw [if_neg h0]
  have g0 : 0 < Int.gcd p q := Int.gcd_pos_of_ne_zero_right p h0
  have dp : ((Int.gcd p q : Nat) : Int) ∣ p := Int.gcd_dvd_left p q
  have dq : ((Int.gcd p q : Nat) : Int) ∣ q := Int.gcd_dvd_right p q
  have a := Int.natAbs_ediv_le_natAbs p (Int.gcd p q)
  have b := Int.natAbs_ediv_le_natAbs q (Int.gcd p q)
  by_cases h1 : q < 0
  · rw [if_pos h1, fdiv_neg_exact (by omega) dp, fdiv_neg_exact (by omega) dq]
    simp only [Int.natAbs_neg]
    exact ⟨by omega, by omega⟩
  · rw [if_neg h1, Int.fdiv_eq_ediv_of_nonneg p (by omega), Int.fdiv_eq_ediv_of_nonneg q (by omega)]
    exact ⟨by omega, by omega⟩
def spFrac : Sp := fun vs H Q _ => ∃ p q' : Int, vs = [.int p, .int q'] ∧ (p ≠ 0 ∨ q' ≠ 0) ∧ p.natAbs < 2 ^ 201 ∧ q'.natAbs < 2 ^ 201 ∧ ∀ t H', Same H H' → Tup2 H' t (due p q') → Q (.ref t) H'
theorem ok_frac (F : Fun K "fraction" "fraction" s_fraction f fd) (mgcd : mg "gcd" = some (.builtin "math.gcd")) : FnOk P w K mg base CX0 1 f fd ["p", "q"] spFrac := by
  refine F.ok sc_fraction (fun vs H Q E h => ?_) (fun cdv A outer s H vs Q E hr h => ?_)
  · obtain ⟨p, q', rfl, _⟩ := h
    rfl
  obtain ⟨p, q', rfl, hn, hp, hq, q⟩ := h
  refine ⟨_, pss_cons (ps_if (PW.pt (pw_and (pt_cmpR op_eq (pv 0) pe_int (nomark _)) (pw_and1 (pt_cmpR op_eq (pv 1) pe_int (nomark _))))) pss_never pss_nil)
    (pss_cons (ps_set (i := 2) sc_fraction.nd rfl (.inl rfl) (pe_callBfun cr_gcd rfl mgcd (pa_cons (pv 0) (pa_cons (pv 1) pa_nil))))
    (pss_cons (ps_if (PW.pt (pw_or (pt_cmpR op_lt (pv 1) pe_int (nomark _)) (pw_or1 (PW.pt (pw_and (pt_cmpR op_eq (pv 1) pe_int (nomark _)) (pw_and1 (pt_cmpR op_lt (pv 0) pe_int (nomark _))))))))
      (pss_one (ps_set (i := 2) sc_fraction.nd rfl (.inl rfl) (pe_un un_neg (pv 2)))) pss_nil)
    (pss_one (ps_ret (pe_tup (pa_cons (pe_op op_fdivWN (pv 0) (pv 2)) (pa_cons (pe_op op_fdivWN (pv 1) (pv 2)) pa_nil))))))), ?_⟩
  have gs := gcd_size hn hp hq
  have two : 2 ≤ sizeLine := fits (by decide)
  have rest : ∀ d : Int, d ≠ 0 → d.natAbs < 2 ^ 201 → (p.fdiv d, q'.fdiv d) = due p q' →
      tRet (tTup (tCons (tOp (rI (fun _ j => j ≠ 0 ∧ j.natAbs.log2 < 9000) fun i j => .int (i.fdiv j)) (tVar 0) (tVar 2)) (tCons (tOp (rI (fun _ j => j ≠ 0 ∧ j.natAbs.log2 < 9000) fun i j => .int (i.fdiv j)) (tVar 1) (tVar 2)) tNil)))
        { nx := fun _ H' => Q .non H', rt := Q } [some (.int p), some (.int q'), some (.int d)] H := fun d d0 ds e => by
    refine ⟨_, rfl, _, rfl, _, _, rfl, rfl, ⟨d0, log_ok ds⟩, _, rfl, _, rfl, _, _, rfl, rfl, ⟨d0, log_ok ds⟩, two, fun n hn => q n _ (same_new hn _) ?_⟩
    rw [← e]
    exact upd_same
  have tail : ∀ (σ : L2.St), σ = [some (V.int p), some (.int q'), none] → tSeq (tAsg (tCB rGcd (tCons (tVar 0) (tCons (tVar 1) tNil))) (gName 2)) (tSeq (tIfS (tOr (tTest (tOp (rI0 fun i j => .bl (decide (i < j))) (tVar 1) (tC (.int 0)))) (tAnd (tTest (tOp rEq (tVar 1) (tC (.int 0)))) (tTest (tOp (rI0 fun i j => .bl (decide (i < j))) (tVar 0) (tC (.int 0))))))
      (tAsg (tUn (rU fun i => .int (-i)) (tVar 2)) (gName 2)) tNext) (tRet (tTup (tCons (tOp (rI (fun _ j => j ≠ 0 ∧ j.natAbs.log2 < 9000) fun i j => .int (i.fdiv j)) (tVar 0) (tVar 2)) (tCons (tOp (rI (fun _ j => j ≠ 0 ∧ j.natAbs.log2 < 9000) fun i j => .int (i.fdiv j)) (tVar 1) (tVar 2)) tNil)))))
        { nx := fun _ H' => Q .non H', rt := Q } σ H := by
    rintro _ rfl
    refine ⟨_, rfl, _, rfl, p, q', rfl, ?_⟩
    have neg : ∀ _ : q' < 0 ∨ (q' = 0 ∧ p < 0), ((p.fdiv (-((Int.gcd p q' : Nat) : Int)), q'.fdiv (-((Int.gcd p q' : Nat) : Int))) : Int × Int) = due p q' := fun hc => by
      unfold due
      rcases hc with hc | ⟨hc, hc2⟩
      · rw [if_neg (by omega), if_pos hc, Int.zero_sub]
      · subst hc
        rw [if_pos rfl]
        have e : -((Int.gcd p 0 : Nat) : Int) = p := by rw [Int.gcd_zero_right]; omega
        rw [e, Int.fdiv_self (by omega), Int.zero_fdiv]
    have pos : ∀ _ : ¬ (q' < 0 ∨ (q' = 0 ∧ p < 0)), ((p.fdiv ((Int.gcd p q' : Nat) : Int), q'.fdiv ((Int.gcd p q' : Nat) : Int)) : Int × Int) = due p q' := fun hc => by
      unfold due
      by_cases h0 : q' = 0
      · subst h0
        rw [if_pos rfl]
        have e : ((Int.gcd p 0 : Nat) : Int) = p := by rw [Int.gcd_zero_right]; omega
        rw [e, Int.fdiv_self (by omega), Int.zero_fdiv]
      · rw [if_neg h0, if_neg (by omega)]
    refine ⟨_, rfl, _, _, rfl, rfl, _, rfl, ite2 (fun c1 => iteT ?_) (fun c1 => ?_)⟩
    · have c1' : q' < 0 := of_decide_eq_true c1
      exact ⟨_, rfl, _, rfl, rest _ (by have := gs.1; show -((Int.gcd p q' : Nat) : Int) ≠ 0; omega) (by have := gs.2; show (-((Int.gcd p q' : Nat) : Int)).natAbs < _; omega) (neg (.inl c1'))⟩
    have c1' : ¬ q' < 0 := fun z => c1 (decide_eq_true z)
    refine ⟨_, rfl, rfl, _, rfl, ite2 (fun c2 => ?_) (fun c2 => iteF ?_)⟩
    · have c2' : q' = 0 := V.int.inj (of_decide_eq_true c2)
      refine ⟨_, rfl, _, _, rfl, rfl, _, rfl, ite2 (fun c3 => ?_) (fun c3 => ?_)⟩
      · have c3' : p < 0 := of_decide_eq_true c3
        exact ⟨_, rfl, _, rfl, rest _ (by have := gs.1; show -((Int.gcd p q' : Nat) : Int) ≠ 0; omega) (by have := gs.2; show (-((Int.gcd p q' : Nat) : Int)).natAbs < _; omega) (neg (.inr ⟨c2', c3'⟩))⟩
      · have c3' : ¬ p < 0 := fun z => c3 (decide_eq_true z)
        exact rest _ (by have := gs.1; show ((Int.gcd p q' : Nat) : Int) ≠ 0; omega) (by have := gs.2; show (((Int.gcd p q' : Nat) : Int)).natAbs < _; omega) (pos (by omega))
    · have c2' : ¬ q' = 0 := fun z => c2 (decide_eq_true (by rw [z]))
      exact rest _ (by have := gs.1; show ((Int.gcd p q' : Nat) : Int) ≠ 0; omega) (by have := gs.2; show (((Int.gcd p q' : Nat) : Int)).natAbs < _; omega) (pos (by omega))
  refine ⟨_, rfl, rfl, _, rfl, ite2 (fun c1 => ?_) (fun c1 => iteF (tail _ rfl))⟩
  have c1' : p = 0 := V.int.inj (of_decide_eq_true c1)
  refine ⟨_, rfl, rfl, _, rfl, ite2 (fun c2 => ?_) (fun c2 => tail _ rfl)⟩
  have c2' : q' = 0 := V.int.inj (of_decide_eq_true c2)
  omega
def spBad (C : Addr) : Sp := fun vs H Q E => vs = [.int 0, .int 0] ∧ E (.ref C) none H
theorem ok_bad {C : Addr} (F : Fun K "fraction" "fraction" s_fraction f fd) (e : Err K mg "NoFraction" C) : FnOk P w K mg base (L2N.CX P w) 1 f fd ["p", "q"] (spBad C) := by
  refine okX F sc_fraction (fun vs H Q E h => ?_) (fun cdv A outer s H vs Q E hr h => ?_)
  · obtain ⟨rfl, _⟩ := h
    rfl
  obtain ⟨rfl, q⟩ := h
  refine ⟨_, pss_cons (ps_if (PW.pt (pw_and (pt_cmpR op_eq (pv 0) pe_int (nomark _)) (pw_and1 (pt_cmpR op_eq (pv 1) pe_int (nomark _)))))
    (pss_one (L2N.ps_raise rfl (L2N.takes_of rfl rfl rfl rfl) (L2N.pmk_own PySem.F.excBase_ValueError e.x e.g e.k (raises_own e.b e.t) rfl))) pss_nil) pss_never, ?_⟩
  refine ⟨_, rfl, rfl, _, rfl, ite2 (fun c1 => ?_) (fun c1 => absurd (decide_eq_true rfl) c1)⟩
  exact ⟨_, rfl, rfl, _, rfl, ite2 (fun c2 => q) (fun c2 => absurd (decide_eq_true rfl) c2)⟩
def spLess : Sp := fun vs H Q _ => ∃ (s t : Addr) (u v : Int × Int), vs = [.ref s, .ref t] ∧ Tup2 H s u ∧ Tup2 H t v ∧ u.1.natAbs < 2 ^ 201 ∧ u.2.natAbs < 2 ^ 201 ∧ v.1.natAbs < 2 ^ 201 ∧ v.2.natAbs < 2 ^ 201 ∧ Q (.bl (decide (u.1 * v.2 < v.1 * u.2))) H
theorem ok_less (F : Fun K "less" "less" s_less f fd) : FnOk P w K mg base CX0 1 f fd ["one", "other"] spLess := by
  refine F.ok sc_less (fun vs H Q E h => ?_) (fun cdv A outer s H vs Q E hr h => ?_)
  · obtain ⟨s, t, u, v, rfl, _⟩ := h
    rfl
  obtain ⟨s, t, u, v, rfl, hs, ht, b1, b2, b3, b4, q⟩ := h
  refine ⟨_, pss_cons (ps_asg (pv 0) (pg_tup (by rfl) (pgs_cons (pg_name (i := 2) sc_less.nd rfl (.inl rfl)) (pgs_cons (pg_name (i := 3) sc_less.nd rfl (.inl rfl)) pgs_nil))))
    (pss_cons (ps_asg (pv 1) (pg_tup (by rfl) (pgs_cons (pg_name (i := 4) sc_less.nd rfl (.inl rfl)) (pgs_cons (pg_name (i := 5) sc_less.nd rfl (.inl rfl)) pgs_nil))))
    (pss_one (ps_ret (pe_cmpR op_lt (pe_op op_mulW (pv 2) (pv 5)) (pe_op op_mulW (pv 4) (pv 3)) (nomark _))))), ?_⟩
  refine ⟨_, rfl, s, _, rfl, SqT.of hs, rfl, _, _, rfl, _, _, rfl, rfl, ?_⟩
  refine ⟨_, rfl, t, _, rfl, SqT.of ht, rfl, _, _, rfl, _, _, rfl, rfl, ?_⟩
  exact ⟨_, rfl, _, rfl, _, _, rfl, rfl, wide_mul b1 b4 (by decide) (by decide) (by decide), _, rfl, _, rfl, _, _, rfl, rfl, wide_mul b3 b2 (by decide) (by decide) (by decide), _, _, rfl, rfl, q⟩
theorem ok_is_less (F : Fun K "_law_is_less" "_law_is_less" s_law_is_less f fd) : FnOk P w K mg base CX0 1 f fd ["one", "other"] (fun vs H Q _ => ∃ (s t : Addr) (u v : Int × Int), vs = [.ref s, .ref t] ∧ Tup2 H s u ∧ Tup2 H t v ∧ u.1.natAbs < 2 ^ 201 ∧ u.2.natAbs < 2 ^ 201 ∧ v.1.natAbs < 2 ^ 201 ∧ v.2.natAbs < 2 ^ 201 ∧ Good u ∧ Good v ∧ Q (.bl (decide (u.1 * v.2 < v.1 * u.2))) H) := by
  refine F.ok sc_law_is_less (fun vs H Q E h => ?_) (fun cdv A outer s H vs Q E hr h => ?_)
  · obtain ⟨s, t, u, v, rfl, _⟩ := h
    rfl
  obtain ⟨s, t, ⟨u1, u2⟩, ⟨v1, v2⟩, rfl, hs, ht, b1, b2, b3, b4, ⟨g1, _⟩, ⟨g2, _⟩, q⟩ := h
  refine ⟨_, pss_cons (ps_if (pt_cmpR op_eq (pe_ix ix_tup (pv 0) pe_int (fun _ _ => rfl)) pe_int (nomark _)) (pss_one (ps_ret pe_bl)) pss_nil)
    (pss_cons (ps_if (pt_cmpR op_eq (pe_ix ix_tup (pv 1) pe_int (fun _ _ => rfl)) pe_int (nomark _)) (pss_one (ps_ret pe_bl)) pss_nil)
    (pss_one (ps_ret (pe_cmpR op_lt (pe_op op_mulW (pe_ix ix_tup (pv 0) pe_int (fun _ _ => rfl)) (pe_ix ix_tup (pv 1) pe_int (fun _ _ => rfl))) (pe_op op_mulW (pe_ix ix_tup (pv 1) pe_int (fun _ _ => rfl)) (pe_ix ix_tup (pv 0) pe_int (fun _ _ => rfl))) (nomark _))))), ?_⟩
  simp only at b1 b2 b3 b4 g1 g2 q
  refine ⟨_, rfl, s, _, _, _, rfl, rfl, SqT.of hs, rfl, rfl, _, rfl, ite2 (fun c1 => ?_) (fun c1 => ?_)⟩
  · have c1' : u2 = 0 := V.int.inj (of_decide_eq_true c1)
    have e : ¬ (u1 * v2 < v1 * u2) := by
      rcases g1 with g1 | g1
      · omega
      · cases g1
        rw [Int.one_mul, Int.mul_zero]
        rcases g2 with g2 | g2
        · omega
        · cases g2; decide
    rw [decide_eq_false e] at q
    exact q
  have c1' : ¬ u2 = 0 := fun z => c1 (decide_eq_true (by rw [z]))
  refine ⟨_, rfl, t, _, _, _, rfl, rfl, SqT.of ht, rfl, rfl, _, rfl, ite2 (fun c2 => ?_) (fun c2 => ?_)⟩
  · have c2' : v2 = 0 := V.int.inj (of_decide_eq_true c2)
    have e : u1 * v2 < v1 * u2 := by
      rcases g2 with g2 | g2
      · omega
      · cases g2
        rw [Int.mul_zero, Int.one_mul]
        rcases g1 with g1 | g1
        · exact g1
        · cases g1; exact absurd rfl c1'
    rw [decide_eq_true e] at q
    exact q
  exact ⟨_, rfl, s, _, _, _, rfl, rfl, SqT.of hs, rfl, _, rfl, t, _, _, _, rfl, rfl, SqT.of ht, rfl, _, _, rfl, rfl, wide_mul b1 b4 (by decide) (by decide) (by decide),
    _, rfl, t, _, _, _, rfl, rfl, SqT.of ht, rfl, _, rfl, s, _, _, _, rfl, rfl, SqT.of hs, rfl, _, _, rfl, rfl, wide_mul b3 b2 (by decide) (by decide) (by decide), _, _, rfl, rfl, q⟩
theorem ok_due (F : Fun K "_law_due" "_law_due" s_law_due f fd) (DV : Dfn P w K mg base "_law_divisor" 1 ["one", "other"] spDivisor) : FnOk P w K mg base CX0 2 f fd ["p", "q"] spFrac := by
  refine F.ok sc_law_due (fun vs H Q E h => ?_) (fun cdv A outer s H vs Q E hr h => ?_)
  · obtain ⟨p, q', rfl, _⟩ := h
    rfl
  obtain ⟨p, q', rfl, hn, hp, hq, q⟩ := h
  refine ⟨_, pss_cons (ps_if (pt_cmpR op_eq (pv 1) pe_int (nomark _)) (pss_one (ps_ret (pe_tup (pa_cons pe_int (pa_cons pe_int pa_nil))))) pss_nil)
    (pss_cons (ps_set (i := 2) sc_law_due.nd rfl (.inl rfl) (pe_do DV hr (pa_cons (pv 0) (pa_cons (pv 1) pa_nil))))
    (pss_cons (ps_if (pt_cmpR op_lt (pv 1) pe_int (nomark _)) (pss_one (ps_set (i := 2) sc_law_due.nd rfl (.inl rfl) (pe_op op_sub pe_int (pv 2)))) pss_nil)
    (pss_one (ps_ret (pe_tup (pa_cons (pe_op op_fdivWN (pv 0) (pv 2)) (pa_cons (pe_op op_fdivWN (pv 1) (pv 2)) pa_nil))))))), ?_⟩
  have gs := gcd_size hn hp hq
  have two : 2 ≤ sizeLine := fits (by decide)
  refine ⟨_, rfl, rfl, _, rfl, ite2 (fun c1 => ?_) (fun c1 => ?_)⟩
  · have c1' : q' = 0 := V.int.inj (of_decide_eq_true c1)
    refine ⟨two, fun n hn => q n _ (same_new hn _) ?_⟩
    unfold due
    rw [if_pos c1']
    exact upd_same
  have c1' : ¬ q' = 0 := fun z => c1 (decide_eq_true (by rw [z]))
  refine ⟨_, rfl, _, rfl, p, q', rfl, ?_⟩
  refine ⟨_, rfl, _, _, rfl, rfl, _, rfl, ite2 (fun c2 => ?_) (fun c2 => ?_)⟩
  · have c2' : q' < 0 := of_decide_eq_true c2
    have d0 : (0 : Int) - ((Nat.gcd p.natAbs q'.natAbs : Nat) : Int) ≠ 0 := by have := gs.1; show (0 : Int) - ((Int.gcd p q' : Nat) : Int) ≠ 0; omega
    have ds : ((0 : Int) - ((Nat.gcd p.natAbs q'.natAbs : Nat) : Int)).natAbs < 2 ^ 201 := by have := gs.2; show ((0 : Int) - ((Int.gcd p q' : Nat) : Int)).natAbs < _; omega
    refine ⟨_, rfl, _, _, rfl, rfl, ?_⟩
    refine ⟨_, rfl, _, rfl, _, _, rfl, rfl, ⟨d0, log_ok ds⟩, _, rfl, _, rfl, _, _, rfl, rfl, ⟨d0, log_ok ds⟩, two, fun n hn => q n _ (same_new hn _) ?_⟩
    unfold due
    rw [if_neg c1', if_pos c2']
    exact upd_same
  · have c2' : ¬ q' < 0 := fun z => c2 (decide_eq_true z)
    have d0 : ((Nat.gcd p.natAbs q'.natAbs : Nat) : Int) ≠ 0 := by have := gs.1; show ((Int.gcd p q' : Nat) : Int) ≠ 0; omega
    have ds : (((Nat.gcd p.natAbs q'.natAbs : Nat) : Int)).natAbs < 2 ^ 201 := by have := gs.2; show (((Int.gcd p q' : Nat) : Int)).natAbs < _; omega
    refine ⟨_, rfl, _, rfl, _, _, rfl, rfl, ⟨d0, log_ok ds⟩, _, rfl, _, rfl, _, _, rfl, rfl, ⟨d0, log_ok ds⟩, two, fun n hn => q n _ (same_new hn _) ?_⟩
    unfold due
    rw [if_neg c1', if_neg c2']
    exact upd_same
end
section
variable {P : Program} {w : World} {K : PySem.W.Frag} {mg : Str → Option Value} {base : Heap} {f : Addr} {fd : FuncData}
/-! ### _law_refused -/
/-- isinstance(e, x), x a class as a value -/
abbrev tIsF (K : PySem.W.Frag) (D a : Addr) (cls : Value) (d : Option Addr) (c : V) : TE := tCB (rIsF K D a cls d) (tCons (tVar 0) (tCons (tC c) tNil))
def t_suite (K : PySem.W.Frag) (C B1 B2 B3 : Addr) : Addr → Value → Option Addr → TS := fun a cls d =>
  tSeq (tAsg (tLst (tCons (tIsF K C a cls d (.ref B1)) (tCons (tIsF K C a cls d (.ref B2)) (tCons (tIsF K C a cls d (.ref B3)) tNil)))) (gName 1))
    (tRet (tAndV (tIsF K C a cls d (.ref C)) (tAndV (tIsF K C a cls d (.ty "ValueError")) (tNotV (tCB (rAny K) (tCons (tVar 1) tNil))))))
structure Kin (K : PySem.W.Frag) (C R B1 B2 B3 : Addr) : Prop where
  ex : PySem.W.exmOne K (.ref C) (.ref R) = some true
  kC : PySem.W.kitOne K (.ref C) (.ref C) = some true
  kV : PySem.W.kitOne K (.ref C) (.type "ValueError") = some true
  k1 : PySem.W.kitOne K (.ref C) (.ref B1) = some false
  k2 : PySem.W.kitOne K (.ref C) (.ref B2) = some false
  k3 : PySem.W.kitOne K (.ref C) (.ref B3) = some false
theorem ok_refused {g C R B1 B2 B3 : Addr} {gd : FuncData} (F : Fun K "_law_refused" "_law_refused" s_law_refused f fd) (G : FnOk P w K mg base (L2N.CX P w) 1 g gd ["p", "q"] (spBad C)) (mG : mg "fraction" = some (.ref g)) (kG : PySem.W.keepIn K (.ref g) = true) (bG : Binds K gd ["p", "q"] [])
    (EC : ExcC K C) (gC : mg "NoFraction" = some (.ref C)) (gR : mg "RopeError" = some (.ref R)) (g1 : mg "BadMove" = some (.ref B1)) (g2 : mg "BadText" = some (.ref B2)) (g3 : mg "NoDance" = some (.ref B3)) (Z : Kin K C R B1 B2 B3)
    (mI : mg "isinstance" = none) (mV : mg "ValueError" = none) (mA : mg "any" = none) : FnOk P w K mg base CX0 2 f fd [] (fun vs H Q _ => vs = [] ∧ ∀ H', Q (.bl true) H') := by
  refine F.ok sc_law_refused (fun vs H Q E h => ?_) (fun cdv A outer s H vs Q E hr h => ?_)
  · obtain ⟨rfl, _⟩ := h
    rfl
  obtain ⟨rfl, q⟩ := h
  have bi : bootBuiltins "isinstance" = some (.builtin "isinstance") := by decide +kernel
  have bV : bootBuiltins "ValueError" = some (.type "ValueError") := by decide +kernel
  have bA : bootBuiltins "any" = some (.builtin "any") := by decide +kernel
  refine ⟨_, pss_cons (L2N.ps_try_as (i := 0) (tb := fun W => tDrop (tCallS (spBad C) (WE W) (tCons (tC (.int 0)) (tCons (tC (.int 0)) tNil)))) (ts := t_suite K C B1 B2 B3) (Wout := fun _ _ _ _ => False) rfl rfl sc_law_refused.nd rfl rfl ⟨rfl, by decide, Or.inl gR⟩ takes0N
      (fun W pn xe tk _ => pss_one (ps_expr (by exact (pe_callS G hr rfl mG kG bG (fun σ => L2N.passAt tk σ) (by exact (pa_cons pe_int (pa_cons pe_int pa_nil)))))))
      (fun a oe cls d pn hz hf => pss_cons (ps_set (i := 1) sc_law_refused.nd rfl (.inl rfl) (pe_lst (pa_cons (pe_callB (call_isF EC hz hf) rfl mI bi (pa_cons (pv 0) (pa_cons (pe_glob (v := .ref B1) rfl g1 rfl) pa_nil)))
          (pa_cons (pe_callB (call_isF EC hz hf) rfl mI bi (pa_cons (pv 0) (pa_cons (pe_glob (v := .ref B2) rfl g2 rfl) pa_nil))) (pa_cons (pe_callB (call_isF EC hz hf) rfl mI bi (pa_cons (pv 0) (pa_cons (pe_glob (v := .ref B3) rfl g3 rfl) pa_nil))) pa_nil)))))
        (pss_one (ps_ret (pe_and (pe_callB (call_isF EC hz hf) rfl mI bi (pa_cons (pv 0) (pa_cons (pe_glob (v := .ref C) rfl gC rfl) pa_nil)))
          (pe_and (pe_callB (call_isF EC hz hf) rfl mI bi (pa_cons (pv 0) (pa_cons (pe_bltn (v := .ty "ValueError") rfl mV bV rfl) pa_nil))) (pe_one (pe_not (pe_callB (any_hot hz hf) rfl mA bA (pa_cons (pv 1) pa_nil))))))))))
    (pss_one (ps_ret pe_bl)), ?_⟩
  refine ⟨rfl, true, Z.ex, fun _ a ha => ?_, fun z => nomatch z⟩
  have own : ∀ (D : Addr) (u : Value), RelV (.ref D) u → u = .ref D := fun D u r => r
  refine ⟨_, rfl, rfl, rfl, _, _, false, rfl, own B1, Z.k1, _, rfl, rfl, rfl, _, _, false, rfl, own B2, Z.k2, _, rfl, rfl, rfl, _, _, false, rfl, own B3, Z.k3, fits (by show 3 ≤ 16777216; decide), fun p hp => ?_⟩
  refine ⟨_, rfl, rfl, rfl, _, _, true, rfl, own C, Z.kC, _, rfl, iteT ?_⟩
  refine ⟨_, rfl, rfl, rfl, _, _, true, rfl, fun u r => r, Z.kV, _, rfl, iteT ?_⟩
  exact ⟨_, rfl, p, [false, false, false], rfl, SqL.of upd_same, _, rfl, q _⟩
end
section
variable {P : Program} {w : World} {K : PySem.W.Frag} {mg : Str → Option Value} {base : Heap} {f : Addr} {fd : FuncData}
theorem tup2_is {H : Hp} {n : Nat} {t : Addr} {v : Int × Int} (h : Tup2 H t v) : Is H (n + 1) (.ref t) (.tup [.int v.1, .int v.2]) :=
  ⟨t, _, rfl, h, rfl, by show 2 ≤ 1000000; decide, fun i x d hx hd => by
    match i with
    | 0 => cases hx; cases hd; cases n <;> rfl
    | 1 => cases hx; cases hd; cases n <;> rfl
    | i + 2 => cases hx⟩
/-- what the list of fractions holds -/
structure Ok1 (H : Hp) (x : Addr × (Int × Int)) : Prop where
  tup : Tup2 H x.1 x.2
  good : Good x.2
  s1 : x.2.1.natAbs < 2 ^ 201
  s2 : x.2.2.natAbs < 2 ^ 201
theorem ok1_a {H : Hp} {t : Addr} (h : Tup2 H t (1, 0)) : Ok1 H (t, (1, 0)) := ⟨h, ⟨.inr rfl, by show Int.gcd 1 0 = 1; decide⟩, by show (1 : Int).natAbs < 2 ^ 201; decide, by show (0 : Int).natAbs < 2 ^ 201; decide⟩
theorem ok1_b {H : Hp} {t : Addr} (h : Tup2 H t (0, 1)) : Ok1 H (t, (0, 1)) := ⟨h, ⟨.inl (by show (0 : Int) < 1; decide), by show Int.gcd 0 1 = 1; decide⟩, by show (0 : Int).natAbs < 2 ^ 201; decide, by show (1 : Int).natAbs < 2 ^ 201; decide⟩
theorem ne0 {p : Int} (h : (!decide (V.int p = V.int 0)) = true) : p ≠ 0 := fun z => by subst z; simp at h
def Found (H : Hp) (fa : Addr) (ts : List (Addr × (Int × Int))) : Prop := H fa = some (.lst (ts.map fun x => V.ref x.1)) ∧ ∀ x ∈ ts, Ok1 H x
theorem Found.same {H H' : Hp} {fa : Addr} {ts : List (Addr × (Int × Int))} (h : Found H fa ts) (s : Same H H') : Found H' fa ts := ⟨s _ _ h.1, fun x hx => ⟨(h.2 x hx).tup.same s, (h.2 x hx).good, (h.2 x hx).s1, (h.2 x hx).s2⟩⟩
theorem Found.but {H H' : Hp} {fa a : Addr} {ts : List (Addr × (Int × Int))} (h : Found H fa ts) (s : But a H H') (tp : Tape H a) (n : fa ≠ a) : Found H' fa ts := ⟨s _ _ n h.1, fun x hx => ⟨(h.2 x hx).tup.but s tp, (h.2 x hx).good, (h.2 x hx).s1, (h.2 x hx).s2⟩⟩
theorem Found.put {H : Hp} {fa : Addr} {ts : List (Addr × (Int × Int))} (h : Found H fa ts) {t : Addr} {v : Int × Int} (n : Ok1 H (t, v)) : Found (upd H fa (.lst ((ts.map fun x => V.ref x.1) ++ [.ref t]))) fa (ts ++ [(t, v)]) := by
  have key : ∀ x, Ok1 H x → Ok1 (upd H fa (.lst ((ts.map fun x => V.ref x.1) ++ [.ref t]))) x := fun x o => by
    refine ⟨?_, o.good, o.s1, o.s2⟩
    unfold Tup2
    rw [upd_ne (ne_of o.tup h.1 (by intro q; cases q))]
    exact o.tup
  refine ⟨by rw [upd_same, List.map_append]; rfl, fun x hx => ?_⟩
  rcases List.mem_append.mp hx with hx | hx
  · exact key x (h.2 x hx)
  · rw [List.mem_singleton.mp hx]
    exact key _ n
theorem Tape.put {H : Hp} {fa a : Addr} (t : Tape H a) (n : a ≠ fa) (o : HO) : Tape (upd H fa o) a := by
  obtain ⟨y, c, z, b, e⟩ := t
  exact ⟨y, c, z, b, by rw [upd_ne n]; exact e⟩
theorem two_facts {r : Int} (h0 : 0 ≤ r) (h1 : r < 3) (z : Int) : ∃ y : Int, atI [V.int 1, .int 1, .int z] r = some (.int y) ∧ (y = 1 ∨ y = z) := by
  obtain ⟨c, hc, m⟩ := atI_mk (xs := [V.int 1, .int 1, .int z]) h0 h1
  simp only [List.mem_cons, List.not_mem_nil, or_false] at m
  rcases m with rfl | rfl | rfl
  · exact ⟨1, hc, .inl rfl⟩
  · exact ⟨1, hc, .inl rfl⟩
  · exact ⟨z, hc, .inr rfl⟩
def spIsLess : Sp := fun vs H Q _ => ∃ (s t : Addr) (u v : Int × Int), vs = [.ref s, .ref t] ∧ Tup2 H s u ∧ Tup2 H t v ∧ u.1.natAbs < 2 ^ 201 ∧ u.2.natAbs < 2 ^ 201 ∧ v.1.natAbs < 2 ^ 201 ∧ v.2.natAbs < 2 ^ 201 ∧ Good u ∧ Good v ∧ Q (.bl (decide (u.1 * v.2 < v.1 * u.2))) H
def spRefused : Sp := fun vs H Q _ => vs = [] ∧ ∀ H', Q (.bl true) H'
theorem pe_do0 {X : Cx} {x : Str} {j : Nat} {ps : List Str} {sp : Sp} {p pos : Pos} (D : Dfn X.prog X.w X.K X.mg X.base x j ps sp) (hr : Room j X.A) (hg : Gl X x := by rfl) (hdb : (x == ("__debug__" : Str)) = false := by decide) :
    PE X (.Call (.Name x p) [] [] pos) (tCall sp [] E0 tNil) := by
  obtain ⟨f, fd, ok, mg, kp, bd⟩ := D.ex
  exact pe_call0 ok hr hg mg kp bd .nil pass0 hdb
def spLaw (K : PySem.W.Frag) : Sp := fun vs H Q _ => ∃ (a : Addr) (ns : List Int), vs = [.ref a] ∧ SqL K H a (ns.map V.int) ∧ ns.length ≤ 63 ∧ ∀ H', Q (.bl true) H'
theorem ok_law (F : Fun K "law" "law" s_law f fd) (DTp : Dfn P w K mg base "_law_tape" 3 ["script", "k"] (spTape K)) (DF : Dfn P w K mg base "_law_fraction" 3 ["tape"] spFraction) (DI : Dfn P w K mg base "_law_integer" 3 ["tape"] spInteger)
    (DT : Dfn P w K mg base "_law_take" 3 ["tape", "many"] spTake) (DS : Dfn P w K mg base "_law_same" 3 ["told", "due"] (spSame 3)) (DY : Dfn P w K mg base "_law_says" 3 ["told", "due"] spSays) (DR : Dfn P w K mg base "fraction" 3 ["p", "q"] spFrac)
    (DD : Dfn P w K mg base "_law_due" 3 ["p", "q"] spFrac) (DLe : Dfn P w K mg base "less" 3 ["one", "other"] spLess) (DIs : Dfn P w K mg base "_law_is_less" 3 ["one", "other"] spIsLess) (DX : Dfn P w K mg base "_law_refused" 3 [] spRefused)
    (mr : mg "range" = none) : FnOk P w K mg base CX0 4 f fd ["script"] (spLaw K) := by
  refine F.ok sc_law (fun vs H Q E h => ?_) (fun cdv A outer s H vs Q E hr h => ?_)
  · obtain ⟨a, ns, rfl, _⟩ := h
    rfl
  obtain ⟨sa, ns, rfl, hS, h63, q⟩ := h
  refine ⟨_, pss_cons (ps_set (i := 1) sc_law.nd rfl (.inl rfl) (pe_lst (pa_cons (pe_tup (pa_cons pe_int (pa_cons pe_int pa_nil))) (pa_cons (pe_tup (pa_cons pe_int (pa_cons pe_int pa_nil))) pa_nil))))
    (pss_cons (ps_for PassesOwn.never rfl (pi_range1 rfl mr (pa_cons pe_int pa_nil)) (pg_name (i := 2) sc_law.nd rfl (.inl rfl))
      (pss_cons (ps_set (i := 3) sc_law.nd rfl (.inl rfl) (pe_do DTp hr (pa_cons (pv 0) (pa_cons (pv 2) pa_nil))))
      (pss_cons (ps_set (i := 4) sc_law.nd rfl (.inl rfl) (pe_ix ix_list (pe_lst (pa_cons pe_int (pa_cons pe_int (pa_cons (pe_do DI hr (pa_cons (pv 3) pa_nil)) pa_nil)))) (pe_do DT hr (pa_cons (pv 3) (pa_cons pe_int pa_nil))) (fun _ _ => rfl)))
      (pss_cons (ps_set (i := 5) sc_law.nd rfl (.inl rfl) (pe_op op_mulW (pe_do DI hr (pa_cons (pv 3) pa_nil)) (pv 4)))
      (pss_cons (ps_set (i := 6) sc_law.nd rfl (.inl rfl) (pe_op op_mulW (pe_do DI hr (pa_cons (pv 3) pa_nil)) (pv 4)))
      (pss_one (ps_if (PW.pt (pw_or (pt_cmpR op_ne (pv 5) pe_int (nomark _)) (pw_or1 (pt_cmpR op_ne (pv 6) pe_int (nomark _)))))
        (pss_cons (ps_if (pt_not (pt_val (pe_do DS hr (pa_cons (pe_do DR hr (pa_cons (pv 5) (pa_cons (pv 6) pa_nil))) (pa_cons (pe_do DD hr (pa_cons (pv 5) (pa_cons (pv 6) pa_nil))) pa_nil))))) (pss_one (ps_ret pe_bl)) pss_nil)
        (pss_cons (ps_expr (pe_bm PySem.F.plainAttrs_list PySem.F.slot_list_append PySem.F.type_list_append mt_append (pv 1) (pa_cons (pe_do DD hr (pa_cons (pv 5) (pa_cons (pv 6) pa_nil))) pa_nil)))
        (pss_one (ps_expr (pe_bm PySem.F.plainAttrs_list PySem.F.slot_list_append PySem.F.type_list_append mt_append (pv 1) (pa_cons (pe_do DF hr (pa_cons (pv 3) pa_nil)) pa_nil)))))) pss_nil)))))))
    (pss_cons (ps_for PassesOwn.never rfl (pi_list (pv 1)) (pg_name (i := 7) sc_law.nd rfl (.inl rfl))
      (pss_one (ps_for PassesOwn.never rfl (pi_list (pv 1)) (pg_name (i := 8) sc_law.nd rfl (.inl rfl))
        (pss_one (ps_if (pt_not (pt_val (pe_do DY hr (pa_cons (pe_do DLe hr (pa_cons (pv 7) (pa_cons (pv 8) pa_nil))) (pa_cons (pe_do DIs hr (pa_cons (pv 7) (pa_cons (pv 8) pa_nil))) pa_nil))))) (pss_one (ps_ret pe_bl)) pss_nil)))))
    (pss_one (ps_ret (pe_do0 DX hr))))), ?_⟩
  have two : 2 ≤ sizeLine := fits (by decide)
  refine ⟨two, fun p1 n1 => ⟨two, fun p2 n2 => ⟨two, fun fa nf => ?_⟩⟩⟩
  have g1 : Same H (upd H p1 (.tup [.int 1, .int 0])) := same_new n1 _
  have g2 := same_new n2 (.tup [.int 0, .int 1])
  have g3 := same_new nf (.lst [.ref p1, .ref p2])
  have f0 : Found (upd (upd (upd H p1 (.tup [.int 1, .int 0])) p2 (.tup [.int 0, .int 1])) fa (.lst [.ref p1, .ref p2])) fa [(p1, (1, 0)), (p2, (0, 1))] := by
    refine ⟨upd_same, fun x hx => ?_⟩
    simp only [List.mem_cons, List.not_mem_nil, or_false] at hx
    rcases hx with rfl | rfl
    · exact ok1_a (Tup2.same (H := upd H p1 (.tup [.int 1, .int 0])) upd_same (g2.trans g3))
    · exact ok1_b (Tup2.same (H := upd (upd H p1 (.tup [.int 1, .int 0])) p2 (.tup [.int 0, .int 1])) upd_same g3)
  have stay : ∀ H', But fa (upd (upd (upd H p1 (.tup [.int 1, .int 0])) p2 (.tup [.int 0, .int 1])) fa (.lst [.ref p1, .ref p2])) H' → SqL K H' sa (ns.map V.int) := fun H' b => by
    rcases hS with (h | ⟨o, h⟩) | h
    · exact .inl (.inl (b _ _ (ne_of_none ((g1.trans g2) _ _ h) nf) (((g1.trans g2).trans g3) _ _ h)))
    · exact .inl (.inr ⟨o, b _ _ (ne_of_none ((g1.trans g2) _ _ h) nf) (((g1.trans g2).trans g3) _ _ h)⟩)
    · exact .inr h
  generalize upd (upd (upd H p1 (.tup [.int 1, .int 0])) p2 (.tup [.int 0, .int 1])) fa (.lst [.ref p1, .ref p2]) = H0 at *
  refine ⟨12, rfl, by decide, by decide, for_range (lo := 0) (n := 12) (fun i σ H' => ∃ (ts : List (Addr × (Int × Int))) (x2 x3 x4 x5 x6 x7 x8 : Option V), σ = [some (.ref sa), some (.ref fa), x2, x3, x4, x5, x6, x7, x8] ∧ Found H' fa ts ∧ ts.length ≤ 2 + 2 * i ∧ But fa H0 H') ?_ ?_ ?_⟩
  · exact ⟨_, _, _, _, _, _, _, _, rfl, f0, by show 2 ≤ 2; decide, But.refl _ _⟩
  · rintro i σ Hi hi ⟨ts, x2, x3, x4, x5, x6, x7, x8, rfl, fo, lts, bi⟩
    refine ⟨_, rfl, _, rfl, sa, ns, 0 + (i : Int), rfl, stay Hi bi, by omega, fun tp H1 s1 ntp t1 => ?_⟩
    have nft : fa ≠ tp := ne_of_none fo.1 ntp
    have fo1 := fo.same s1
    refine ⟨_, rfl, tp, rfl, t1, fun z H2 zb b2 t2 => ⟨fits (by show 3 ≤ 16777216; decide), fun pl npl => ?_⟩⟩
    have fo2 := (fo1.but b2 t1 nft).same (same_new npl (.lst [.int 1, .int 1, .int z]))
    have t2' := t2.same (same_new npl (.lst [.int 1, .int 1, .int z]))
    refine ⟨_, rfl, tp, 3, rfl, t2', by decide, by decide, fun r H3 r0 r1 b3 t3 => ?_⟩
    obtain ⟨y, hy, hyz⟩ := two_facts r0 r1 z
    refine ⟨pl, _, _, _, rfl, rfl, SqL.of (b3 _ _ (t2.ne npl) upd_same), hy, ?_⟩
    have fo3 := fo2.but b3 t2' nft
    have yb : y.natAbs < 2 ^ 100 := by rcases hyz with rfl | rfl; exact (by decide); exact zb
    have B3 : But tp H1 H3 := (b2.trans (But.of (same_new npl (.lst [.int 1, .int 1, .int z])))).trans b3
    refine ⟨_, rfl, tp, rfl, t3, fun z1 H4 zb1 b4 t4 => ⟨_, rfl, _, _, rfl, rfl, wide_mul zb1 yb (by decide) (by decide) (by decide), ?_⟩⟩
    refine ⟨_, rfl, tp, rfl, t4, fun z2 H5 zb2 b5 t5 => ⟨_, rfl, _, _, rfl, rfl, wide_mul zb2 yb (by decide) (by decide) (by decide), ?_⟩⟩
    have fo5 := (fo3.but b4 t3 nft).but b5 t4 nft
    have pb : (z1 * y).natAbs < 2 ^ 201 := Nat.lt_of_lt_of_le (wide_lt zb1 yb) (by decide)
    have qb : (z2 * y).natAbs < 2 ^ 201 := Nat.lt_of_lt_of_le (wide_lt zb2 yb) (by decide)
    have B5 : But tp H1 H5 := (B3.trans b4).trans b5
    have S5 : Same Hi H5 := ((But.of s1).trans B5).same (Same.refl Hi) ntp
    refine ⟨_, rfl, rfl, _, rfl, ite2 (fun c1 => iteT ?A) (fun c1 => ⟨_, rfl, rfl, _, rfl, ite2 (fun c2 => ?A2) (fun c2 => ?B)⟩)⟩
    case B => exact ⟨ts, _, _, _, _, _, _, _, rfl, fo5, by omega, bi.trans (But.of S5)⟩
    all_goals
      have hpq : z1 * y ≠ 0 ∨ z2 * y ≠ 0 := by first | exact .inl (ne0 (p := z1 * y) c1) | exact .inr (ne0 (p := z2 * y) c2)
      refine ⟨_, rfl, _, rfl, z1 * y, z2 * y, rfl, hpq, pb, qb, fun ta H6 s6 ta6 => ?_⟩
      refine ⟨_, rfl, _, rfl, z1 * y, z2 * y, rfl, hpq, pb, qb, fun tb H7 s7 tb7 => ?_⟩
      refine ⟨_, _, _, rfl, tup2_is (n := 1) (ta6.same s7), tup2_is (n := 1) tb7, _, rfl, iteF ?_⟩
      have fo7 := (fo5.same s6).same s7
      refine ⟨_, rfl, .inl ⟨rfl, _, SqL.of fo7.1⟩, _, rfl, _, rfl, z1 * y, z2 * y, rfl, hpq, pb, qb, fun tc H8 s8 tc8 => ?_⟩
      have fo8 := fo7.same s8
      have l8 : ts.length ≤ 26 := by omega
      refine ⟨fa, _, _, rfl, rfl, fo8.1, Nat.lt_of_le_of_lt (by rw [List.length_map]; omega) (show 1000 < sizeLine from small1000 (Nat.le_refl _)), ?_⟩
      have fo9 := fo8.put (t := tc) (v := due (z1 * y) (z2 * y)) ⟨tc8, due_good hpq, (due_size pb qb).1, (due_size pb qb).2⟩
      have t9 := (((t5.same s6).same s7).same s8).put (Ne.symm nft) (.lst ((ts.map fun x => V.ref x.1) ++ [.ref tc]))
      refine ⟨_, rfl, .inl ⟨rfl, _, SqL.of fo9.1⟩, _, rfl, tp, rfl, t9, fun tv v H10 fv b10 t10 tv10 => ?_⟩
      have fo10 := fo9.but b10 t9 nft
      refine ⟨fa, _, _, rfl, rfl, fo10.1, Nat.lt_of_le_of_lt (by rw [List.length_map, List.length_append, List.length_singleton]; omega) (show 1000 < sizeLine from small1000 (Nat.le_refl _)), ?_⟩
      have fo11 := fo10.put (t := tv) (v := v) ⟨tv10, fv.good, Nat.lt_of_lt_of_le fv.s1 (by decide), Nat.lt_of_lt_of_le fv.s2 (by decide)⟩
      refine ⟨_, _, _, _, _, _, _, _, rfl, fo11, by rw [List.length_append, List.length_append, List.length_singleton, List.length_singleton]; omega, fun b o nb hb => ?_⟩
      have hb8 := (((S5.trans s6).trans s7).trans s8) b o (bi b o nb hb)
      have nbt : b ≠ tp := ne_of_none (bi b o nb hb) ntp
      rw [upd_ne nb]
      exact b10 b o nbt (by rw [upd_ne nb]; exact hb8)
  · rintro σ H' ⟨ts, x2, x3, x4, x5, x6, x7, x8, rfl, fo, lts, _⟩
    have item : ∀ {i : Nat} {y : V}, (ts.map fun x => V.ref x.1)[i]? = some y → ∃ x, y = .ref x.1 ∧ Ok1 H' x := fun {i y} h => by
      obtain ⟨x, hx, rfl⟩ := List.mem_map.mp (List.mem_of_getElem? h)
      exact ⟨x, rfl, fo.2 x hx⟩
    refine ⟨_, rfl, fa, rfl, ⟨_, SqL.of fo.1⟩, for_list (K := K) (a := fa) (xs := ts.map fun x => V.ref x.1) (fun i σ G => H' = G ∧ ∃ (x7 x8 : Option V), σ = [some (.ref sa), some (.ref fa), x2, x3, x4, x5, x6, x7, x8]) ⟨rfl, _, _, rfl⟩ (fun i σ G _ ⟨e, _⟩ => by rw [← e]; exact SqL.of fo.1) ?_ ?_⟩
    · rintro i y σ _ hi ⟨rfl, y7, y8, rfl⟩
      obtain ⟨x, rfl, ox⟩ := item hi
      refine ⟨_, rfl, fa, rfl, ⟨_, SqL.of fo.1⟩, for_list (K := K) (a := fa) (xs := ts.map fun x => V.ref x.1) (fun i σ G => H' = G ∧ ∃ (x8 : Option V), σ = [some (.ref sa), some (.ref fa), x2, x3, x4, x5, x6, some (.ref x.1), x8]) ⟨rfl, _, rfl⟩ (fun i σ G _ ⟨e, _⟩ => by rw [← e]; exact SqL.of fo.1) ?_ ?_⟩
      · rintro j y σ _ hj ⟨rfl, z8, rfl⟩
        obtain ⟨y, rfl, oy⟩ := item hj
        refine ⟨_, rfl, _, rfl, x.1, y.1, x.2, y.2, rfl, ox.tup, oy.tup, ox.s1, ox.s2, oy.s1, oy.s2, ?_⟩
        refine ⟨_, rfl, _, rfl, x.1, y.1, x.2, y.2, rfl, ox.tup, oy.tup, ox.s1, ox.s2, oy.s1, oy.s2, ox.good, oy.good, ?_⟩
        exact ⟨_, rfl, _, rfl, iteF ⟨rfl, _, rfl⟩⟩
      · rintro σ _ ⟨rfl, z8, rfl⟩
        exact ⟨rfl, _, _, rfl⟩
    · rintro σ _ ⟨rfl, z7, z8, rfl⟩
      exact ⟨rfl, q⟩
end
theorem all_mk {l : PySem.W.OpenLaw} {w : World} {K : PySem.W.Frag} {h : Heap} {mg : Str → Option Value} {fa : Addr} (X : K.In h) (G : h.Ns mainGlobals mg) (hfa : mg "law" = some (.ref fa))
    {f0 f1 f2 f3 f4 f5 f6 f7 f8 f9 f10 f11 f12 f13 f14 f15 : Addr} {od0 an0 od1 an1 od2 an2 od3 an3 od4 an4 od5 an5 od6 an6 od7 an7 od8 an8 od9 an9 od10 an10 od11 an11 od12 an12 od13 an13 od14 an14 od15 an15 : Option Addr} {sl0 sl1 sl2 sl3 sl4 sl5 sl6 sl7 sl8 sl9 sl10 sl11 sl12 sl13 sl14 sl15 : Array (Option Value)}
    {oc0 kV0 dc0 pm0 cd0 ct0 oc1 kV1 dc1 pm1 cd1 ct1 oc2 kV2 dc2 pm2 cd2 ct2 oc3 kV3 dc3 pm3 cd3 ct3 oc4 kV4 dc4 pm4 cd4 ct4 oc5 kV5 dc5 pm5 cd5 ct5 oc6 kV6 dc6 pm6 cd6 ct6 oc7 kV7 dc7 pm7 cd7 ct7 oc8 kV8 dc8 pm8 cd8 ct8 oc9 kV9 dc9 pm9 cd9 ct9 oc10 kV10 dc10 pm10 cd10 ct10 oc11 kV11 dc11 pm11 cd11 ct11 oc12 kV12 dc12 pm12 cd12 ct12 oc13 kV13 dc13 pm13 cd13 ct13 oc14 kV14 dc14 pm14 cd14 ct14 oc15 kV15 dc15 pm15 cd15 ct15 : Value}
    (a0 : PySem.W.nsIn K mainGlobals "fraction" = some (some (.ref f0))) (l0 : K.lookup f0 = some ⟨oc0, od0, .func (PySem.W.fnOf "fraction" "fraction" (defArgs s_fraction) (defBody s_fraction) (defScope s_fraction) .none kV0 dc0 pm0 an0 cd0 ct0), sl0⟩) (c0 : PySem.W.codeIn K cd0 "fraction" = true) (k0 : PySem.W.keepIn K (.ref f0) = true)
    (a1 : PySem.W.nsIn K mainGlobals "less" = some (some (.ref f1))) (l1 : K.lookup f1 = some ⟨oc1, od1, .func (PySem.W.fnOf "less" "less" (defArgs s_less) (defBody s_less) (defScope s_less) .none kV1 dc1 pm1 an1 cd1 ct1), sl1⟩) (c1 : PySem.W.codeIn K cd1 "less" = true) (k1 : PySem.W.keepIn K (.ref f1) = true)
    (a2 : PySem.W.nsIn K mainGlobals "_law_tape" = some (some (.ref f2))) (l2 : K.lookup f2 = some ⟨oc2, od2, .func (PySem.W.fnOf "_law_tape" "_law_tape" (defArgs s_law_tape) (defBody s_law_tape) (defScope s_law_tape) .none kV2 dc2 pm2 an2 cd2 ct2), sl2⟩) (c2 : PySem.W.codeIn K cd2 "_law_tape" = true) (k2 : PySem.W.keepIn K (.ref f2) = true)
    (a3 : PySem.W.nsIn K mainGlobals "_law_take" = some (some (.ref f3))) (l3 : K.lookup f3 = some ⟨oc3, od3, .func (PySem.W.fnOf "_law_take" "_law_take" (defArgs s_law_take) (defBody s_law_take) (defScope s_law_take) .none kV3 dc3 pm3 an3 cd3 ct3), sl3⟩) (c3 : PySem.W.codeIn K cd3 "_law_take" = true) (k3 : PySem.W.keepIn K (.ref f3) = true)
    (a4 : PySem.W.nsIn K mainGlobals "_law_dance" = some (some (.ref f4))) (l4 : K.lookup f4 = some ⟨oc4, od4, .func (PySem.W.fnOf "_law_dance" "_law_dance" (defArgs s_law_dance) (defBody s_law_dance) (defScope s_law_dance) .none kV4 dc4 pm4 an4 cd4 ct4), sl4⟩) (c4 : PySem.W.codeIn K cd4 "_law_dance" = true) (k4 : PySem.W.keepIn K (.ref f4) = true)
    (a5 : PySem.W.nsIn K mainGlobals "_law_called" = some (some (.ref f5))) (l5 : K.lookup f5 = some ⟨oc5, od5, .func (PySem.W.fnOf "_law_called" "_law_called" (defArgs s_law_called) (defBody s_law_called) (defScope s_law_called) .none kV5 dc5 pm5 an5 cd5 ct5), sl5⟩) (c5 : PySem.W.codeIn K cd5 "_law_called" = true) (k5 : PySem.W.keepIn K (.ref f5) = true)
    (a6 : PySem.W.nsIn K mainGlobals "_law_number" = some (some (.ref f6))) (l6 : K.lookup f6 = some ⟨oc6, od6, .func (PySem.W.fnOf "_law_number" "_law_number" (defArgs s_law_number) (defBody s_law_number) (defScope s_law_number) .none kV6 dc6 pm6 an6 cd6 ct6), sl6⟩) (c6 : PySem.W.codeIn K cd6 "_law_number" = true) (k6 : PySem.W.keepIn K (.ref f6) = true)
    (a7 : PySem.W.nsIn K mainGlobals "_law_same" = some (some (.ref f7))) (l7 : K.lookup f7 = some ⟨oc7, od7, .func (PySem.W.fnOf "_law_same" "_law_same" (defArgs s_law_same) (defBody s_law_same) (defScope s_law_same) .none kV7 dc7 pm7 an7 cd7 ct7), sl7⟩) (c7 : PySem.W.codeIn K cd7 "_law_same" = true) (k7 : PySem.W.keepIn K (.ref f7) = true)
    (a8 : PySem.W.nsIn K mainGlobals "_law_says" = some (some (.ref f8))) (l8 : K.lookup f8 = some ⟨oc8, od8, .func (PySem.W.fnOf "_law_says" "_law_says" (defArgs s_law_says) (defBody s_law_says) (defScope s_law_says) .none kV8 dc8 pm8 an8 cd8 ct8), sl8⟩) (c8 : PySem.W.codeIn K cd8 "_law_says" = true) (k8 : PySem.W.keepIn K (.ref f8) = true)
    (a9 : PySem.W.nsIn K mainGlobals "_law_divisor" = some (some (.ref f9))) (l9 : K.lookup f9 = some ⟨oc9, od9, .func (PySem.W.fnOf "_law_divisor" "_law_divisor" (defArgs s_law_divisor) (defBody s_law_divisor) (defScope s_law_divisor) .none kV9 dc9 pm9 an9 cd9 ct9), sl9⟩) (c9 : PySem.W.codeIn K cd9 "_law_divisor" = true) (k9 : PySem.W.keepIn K (.ref f9) = true)
    (a10 : PySem.W.nsIn K mainGlobals "_law_integer" = some (some (.ref f10))) (l10 : K.lookup f10 = some ⟨oc10, od10, .func (PySem.W.fnOf "_law_integer" "_law_integer" (defArgs s_law_integer) (defBody s_law_integer) (defScope s_law_integer) .none kV10 dc10 pm10 an10 cd10 ct10), sl10⟩) (c10 : PySem.W.codeIn K cd10 "_law_integer" = true) (k10 : PySem.W.keepIn K (.ref f10) = true)
    (a11 : PySem.W.nsIn K mainGlobals "_law_fraction" = some (some (.ref f11))) (l11 : K.lookup f11 = some ⟨oc11, od11, .func (PySem.W.fnOf "_law_fraction" "_law_fraction" (defArgs s_law_fraction) (defBody s_law_fraction) (defScope s_law_fraction) .none kV11 dc11 pm11 an11 cd11 ct11), sl11⟩) (c11 : PySem.W.codeIn K cd11 "_law_fraction" = true) (k11 : PySem.W.keepIn K (.ref f11) = true)
    (a12 : PySem.W.nsIn K mainGlobals "_law_due" = some (some (.ref f12))) (l12 : K.lookup f12 = some ⟨oc12, od12, .func (PySem.W.fnOf "_law_due" "_law_due" (defArgs s_law_due) (defBody s_law_due) (defScope s_law_due) .none kV12 dc12 pm12 an12 cd12 ct12), sl12⟩) (c12 : PySem.W.codeIn K cd12 "_law_due" = true) (k12 : PySem.W.keepIn K (.ref f12) = true)
    (a13 : PySem.W.nsIn K mainGlobals "_law_refused" = some (some (.ref f13))) (l13 : K.lookup f13 = some ⟨oc13, od13, .func (PySem.W.fnOf "_law_refused" "_law_refused" (defArgs s_law_refused) (defBody s_law_refused) (defScope s_law_refused) .none kV13 dc13 pm13 an13 cd13 ct13), sl13⟩) (c13 : PySem.W.codeIn K cd13 "_law_refused" = true) (k13 : PySem.W.keepIn K (.ref f13) = true)
    (a14 : PySem.W.nsIn K mainGlobals "_law_is_less" = some (some (.ref f14))) (l14 : K.lookup f14 = some ⟨oc14, od14, .func (PySem.W.fnOf "_law_is_less" "_law_is_less" (defArgs s_law_is_less) (defBody s_law_is_less) (defScope s_law_is_less) .none kV14 dc14 pm14 an14 cd14 ct14), sl14⟩) (c14 : PySem.W.codeIn K cd14 "_law_is_less" = true) (k14 : PySem.W.keepIn K (.ref f14) = true)
    (a15 : PySem.W.nsIn K mainGlobals "law" = some (some (.ref f15))) (l15 : K.lookup f15 = some ⟨oc15, od15, .func (PySem.W.fnOf "law" "law" (defArgs s_law) (defBody s_law) (defScope s_law) .none kV15 dc15 pm15 an15 cd15 ct15), sl15⟩) (c15 : PySem.W.codeIn K cd15 "law" = true) (k15 : PySem.W.keepIn K (.ref f15) = true)
    (z_len : PySem.W.nsIn K mainGlobals "len" = some none)
    (z_abs : PySem.W.nsIn K mainGlobals "abs" = some none)
    (z_int : PySem.W.nsIn K mainGlobals "int" = some none)
    (z_range : PySem.W.nsIn K mainGlobals "range" = some none)
    (z_isinstance : PySem.W.nsIn K mainGlobals "isinstance" = some none)
    (z_tuple : PySem.W.nsIn K mainGlobals "tuple" = some none)
    (z_list : PySem.W.nsIn K mainGlobals "list" = some none)
    (z_str : PySem.W.nsIn K mainGlobals "str" = some none)
    (z_bool : PySem.W.nsIn K mainGlobals "bool" = some none)
    (z_any : PySem.W.nsIn K mainGlobals "any" = some none)
    (z_ValueError : PySem.W.nsIn K mainGlobals "ValueError" = some none)
    {C R B1 B2 B3 : Addr} (agcd : PySem.W.nsIn K mainGlobals "gcd" = some (some (.builtin "math.gcd")))
    (aC : PySem.W.nsIn K mainGlobals "NoFraction" = some (some (.ref C))) (aR : PySem.W.nsIn K mainGlobals "RopeError" = some (some (.ref R))) (a_1 : PySem.W.nsIn K mainGlobals "BadMove" = some (some (.ref B1))) (a_2 : PySem.W.nsIn K mainGlobals "BadText" = some (some (.ref B2))) (a_3 : PySem.W.nsIn K mainGlobals "NoDance" = some (some (.ref B3)))
    (xC : PySem.W.excIn K C [.type "ValueError", .type "Exception", .type "BaseException", .type "object"] "ValueError.__new__" = true) (kC : PySem.W.keepIn K (.ref C) = true) (bC : PySem.W.subIn K (.ref C) (.type "BaseException") = some true) (tC : PySem.W.typeIn K (.ref C) = some (.type "type")) (hC : PySem.W.hasDictIn K C = true)
    (gC : PySem.W.findIn K (.ref C) "__getattribute__" = some (some (.builtin "BaseException.__getattribute__"))) (qC : PySem.W.findIn K (.ref C) "__getattr__" = some none) (cC : PySem.W.findIn K (.ref C) "__class__" = some (some (.builtin "object.__class__"))) (oC : PySem.W.mroIn K C (.type "object") = some true)
    (hsp : PySem.W.specialIn K (.builtin "object.__class__") "__get__" = some (some (.builtin "getset_descriptor.__get__"))) (htk : PySem.W.takesIn K (.builtin "object.__class__") = some true)
    (bR : PySem.W.subIn K (.ref R) (.type "BaseException") = some true) (hR : PySem.W.hasDictIn K R = true) (tR : PySem.W.typeIn K (.ref R) = some (.type "type")) (sCR : PySem.W.subIn K (.ref C) (.ref R) = some true)
    (iC : PySem.W.kitOne K (.ref C) (.ref C) = some true) (iV : PySem.W.kitOne K (.ref C) (.type "ValueError") = some true) (i1 : PySem.W.kitOne K (.ref C) (.ref B1) = some false) (i2 : PySem.W.kitOne K (.ref C) (.ref B2) = some false) (i3 : PySem.W.kitOne K (.ref C) (.ref B3) = some false) :
    ∃ fd : FuncData, (∀ (s : Shared) (v : Value), BindsTo s fd ⟨[v], []⟩ [("script", v)]) ∧ ∀ base : Heap, K.In base → base.Ns mainGlobals mg → FnOk l.prog w K mg base CX0 4 fa fd ["script"] (spLaw K) := by
  have e := hfa.symm.trans (PySem.W.mg_of X G a15)
  cases e
  have F_fraction := fun_mk (st := s_fraction) l0 c0 k0
  have m_fraction := PySem.W.mg_of X G a0
  have b_fraction := F_fraction.binds (ps := ["p", "q"]) fun _ _ _ _ _ _ us hl => match us, hl with | [_, _], _ => rfl
  have F_less := fun_mk (st := s_less) l1 c1 k1
  have m_less := PySem.W.mg_of X G a1
  have b_less := F_less.binds (ps := ["one", "other"]) fun _ _ _ _ _ _ us hl => match us, hl with | [_, _], _ => rfl
  have F__law_tape := fun_mk (st := s_law_tape) l2 c2 k2
  have m__law_tape := PySem.W.mg_of X G a2
  have b__law_tape := F__law_tape.binds (ps := ["script", "k"]) fun _ _ _ _ _ _ us hl => match us, hl with | [_, _], _ => rfl
  have F__law_take := fun_mk (st := s_law_take) l3 c3 k3
  have m__law_take := PySem.W.mg_of X G a3
  have b__law_take := F__law_take.binds (ps := ["tape", "many"]) fun _ _ _ _ _ _ us hl => match us, hl with | [_, _], _ => rfl
  have F__law_dance := fun_mk (st := s_law_dance) l4 c4 k4
  have m__law_dance := PySem.W.mg_of X G a4
  have b__law_dance := F__law_dance.binds (ps := ["tape", "most"]) fun _ _ _ _ _ _ us hl => match us, hl with | [_, _], _ => rfl
  have F__law_called := fun_mk (st := s_law_called) l5 c5 k5
  have m__law_called := PySem.W.mg_of X G a5
  have b__law_called := F__law_called.binds (ps := ["value", "letter"]) fun _ _ _ _ _ _ us hl => match us, hl with | [_, _], _ => rfl
  have F__law_number := fun_mk (st := s_law_number) l6 c6 k6
  have m__law_number := PySem.W.mg_of X G a6
  have b__law_number := F__law_number.binds (ps := ["dance"]) fun _ _ _ _ _ _ us hl => match us, hl with | [_], _ => rfl
  have F__law_same := fun_mk (st := s_law_same) l7 c7 k7
  have m__law_same := PySem.W.mg_of X G a7
  have b__law_same := F__law_same.binds (ps := ["told", "due"]) fun _ _ _ _ _ _ us hl => match us, hl with | [_, _], _ => rfl
  have F__law_says := fun_mk (st := s_law_says) l8 c8 k8
  have m__law_says := PySem.W.mg_of X G a8
  have b__law_says := F__law_says.binds (ps := ["told", "due"]) fun _ _ _ _ _ _ us hl => match us, hl with | [_, _], _ => rfl
  have F__law_divisor := fun_mk (st := s_law_divisor) l9 c9 k9
  have m__law_divisor := PySem.W.mg_of X G a9
  have b__law_divisor := F__law_divisor.binds (ps := ["one", "other"]) fun _ _ _ _ _ _ us hl => match us, hl with | [_, _], _ => rfl
  have F__law_integer := fun_mk (st := s_law_integer) l10 c10 k10
  have m__law_integer := PySem.W.mg_of X G a10
  have b__law_integer := F__law_integer.binds (ps := ["tape"]) fun _ _ _ _ _ _ us hl => match us, hl with | [_], _ => rfl
  have F__law_fraction := fun_mk (st := s_law_fraction) l11 c11 k11
  have m__law_fraction := PySem.W.mg_of X G a11
  have b__law_fraction := F__law_fraction.binds (ps := ["tape"]) fun _ _ _ _ _ _ us hl => match us, hl with | [_], _ => rfl
  have F__law_due := fun_mk (st := s_law_due) l12 c12 k12
  have m__law_due := PySem.W.mg_of X G a12
  have b__law_due := F__law_due.binds (ps := ["p", "q"]) fun _ _ _ _ _ _ us hl => match us, hl with | [_, _], _ => rfl
  have F__law_refused := fun_mk (st := s_law_refused) l13 c13 k13
  have m__law_refused := PySem.W.mg_of X G a13
  have b__law_refused := F__law_refused.binds (ps := []) fun _ _ _ _ _ _ us hl => match us, hl with | [], _ => rfl
  have F__law_is_less := fun_mk (st := s_law_is_less) l14 c14 k14
  have m__law_is_less := PySem.W.mg_of X G a14
  have b__law_is_less := F__law_is_less.binds (ps := ["one", "other"]) fun _ _ _ _ _ _ us hl => match us, hl with | [_, _], _ => rfl
  have F_law := fun_mk (st := s_law) l15 c15 k15
  have m_law := PySem.W.mg_of X G a15
  have b_law := F_law.binds (ps := ["script"]) fun _ _ _ _ _ _ us hl => match us, hl with | [_], _ => rfl
  have y_len := PySem.W.mg_none_of X G z_len
  have y_abs := PySem.W.mg_none_of X G z_abs
  have y_int := PySem.W.mg_none_of X G z_int
  have y_range := PySem.W.mg_none_of X G z_range
  have y_isinstance := PySem.W.mg_none_of X G z_isinstance
  have y_tuple := PySem.W.mg_none_of X G z_tuple
  have y_list := PySem.W.mg_none_of X G z_list
  have y_str := PySem.W.mg_none_of X G z_str
  have y_bool := PySem.W.mg_none_of X G z_bool
  have y_any := PySem.W.mg_none_of X G z_any
  have y_ValueError := PySem.W.mg_none_of X G z_ValueError
  refine ⟨PySem.W.fnOf "law" "law" (defArgs s_law) (defBody s_law) (defScope s_law) .none kV15 dc15 pm15 an15 cd15 ct15, fun s v => .of_eq rfl, fun base _ _ => ?_⟩
  have D_tape : Dfn l.prog w K mg base "_law_tape" 1 _ (spTape K) := ⟨_, _, ok_tape F__law_tape y_len y_abs y_int, m__law_tape, F__law_tape.kp, b__law_tape⟩
  have D_take : Dfn l.prog w K mg base "_law_take" 1 _ spTake := ⟨_, _, ok_take F__law_take y_int, m__law_take, F__law_take.kp, b__law_take⟩
  have D_dance : Dfn l.prog w K mg base "_law_dance" 2 _ spDance := ⟨_, _, ok_dance F__law_dance D_take y_range, m__law_dance, F__law_dance.kp, b__law_dance⟩
  have D_called : Dfn l.prog w K mg base "_law_called" 1 _ (spCalled K) := ⟨_, _, ok_called F__law_called, m__law_called, F__law_called.kp, b__law_called⟩
  have D_number : Dfn l.prog w K mg base "_law_number" 2 _ (spNumber K) := ⟨_, _, ok_number F__law_number D_called, m__law_number, F__law_number.kp, b__law_number⟩
  have D_divisor : Dfn l.prog w K mg base "_law_divisor" 1 _ spDivisor := ⟨_, _, ok_divisor F__law_divisor y_abs y_int, m__law_divisor, F__law_divisor.kp, b__law_divisor⟩
  have D_integer : Dfn l.prog w K mg base "_law_integer" 2 _ spInteger := ⟨_, _, ok_integer F__law_integer D_take y_range y_int, m__law_integer, F__law_integer.kp, b__law_integer⟩
  have D_fraction : Dfn l.prog w K mg base "_law_fraction" 3 _ spFraction := ⟨_, _, ok_fraction F__law_fraction D_take D_dance D_number D_integer D_divisor y_abs, m__law_fraction, F__law_fraction.kp, b__law_fraction⟩
  have D_same0 : Dfn l.prog w K mg base "_law_same" 0 _ (spSame 0) := ⟨_, _, none_same, m__law_same, F__law_same.kp, b__law_same⟩
  have D_same1 : Dfn l.prog w K mg base "_law_same" 1 _ (spSame 1) := ⟨_, _, ok_same F__law_same D_same0 y_isinstance y_tuple y_list y_len y_range y_str y_int y_bool, m__law_same, F__law_same.kp, b__law_same⟩
  have D_same2 : Dfn l.prog w K mg base "_law_same" 2 _ (spSame 2) := ⟨_, _, ok_same F__law_same D_same1 y_isinstance y_tuple y_list y_len y_range y_str y_int y_bool, m__law_same, F__law_same.kp, b__law_same⟩
  have D_same3 : Dfn l.prog w K mg base "_law_same" 3 _ (spSame 3) := ⟨_, _, ok_same F__law_same D_same2 y_isinstance y_tuple y_list y_len y_range y_str y_int y_bool, m__law_same, F__law_same.kp, b__law_same⟩
  have D_says : Dfn l.prog w K mg base "_law_says" 1 _ spSays := ⟨_, _, ok_says F__law_says y_isinstance y_bool, m__law_says, F__law_says.kp, b__law_says⟩
  have D_frac : Dfn l.prog w K mg base "fraction" 1 _ spFrac := ⟨_, _, ok_frac F_fraction (PySem.W.mg_of X G agcd), m_fraction, F_fraction.kp, b_fraction⟩
  have D_less : Dfn l.prog w K mg base "less" 1 _ spLess := ⟨_, _, ok_less F_less, m_less, F_less.kp, b_less⟩
  have D_is_less : Dfn l.prog w K mg base "_law_is_less" 1 _ spIsLess := ⟨_, _, ok_is_less F__law_is_less, m__law_is_less, F__law_is_less.kp, b__law_is_less⟩
  have D_due : Dfn l.prog w K mg base "_law_due" 2 _ spFrac := ⟨_, _, ok_due F__law_due D_divisor, m__law_due, F__law_due.kp, b__law_due⟩
  have EC : Err K mg "NoFraction" C := ⟨PySem.W.mg_of X G aC, xC, kC, bC, tC, hC, gC, qC, cC, oC⟩
  have Z : Kin K C R B1 B2 B3 := ⟨PySem.W.exm_ref bR hR tR sCR, iC, iV, i1, i2, i3⟩
  have D_refused : Dfn l.prog w K mg base "_law_refused" 2 _ spRefused := ⟨_, _, ok_refused F__law_refused (ok_bad F_fraction EC) m_fraction F_fraction.kp b_fraction (EC.c hsp htk) EC.g (PySem.W.mg_of X G aR) (PySem.W.mg_of X G a_1) (PySem.W.mg_of X G a_2) (PySem.W.mg_of X G a_3) Z y_isinstance y_ValueError y_any, m__law_refused, F__law_refused.kp, b__law_refused⟩
  exact ok_law F_law (D_tape.mono (by decide)) D_fraction (D_integer.mono (by decide)) (D_take.mono (by decide)) D_same3 (D_says.mono (by decide)) (D_frac.mono (by decide)) (D_due.mono (by decide)) (D_less.mono (by decide)) (D_is_less.mono (by decide)) (D_refused.mono (by decide)) y_range
theorem walk {l : PySem.W.OpenLaw} {q : Program} {loose : List Str} {XP : (Str → Option Value) → Heap → Prop} {YP : World → Heap → Prop} {d : DefRec} {K : Params → PySem.W.Frag} (hn : l.most = some 63) (hdf : d.params.defaults = [])
    (hY : ∀ (w : World) (h : Heap), YP w h → (K w.params).In h)
    (F : ∀ (w : World) (mg : Str → Option Value) (fa : Addr) (h : Heap), (K w.params).In h → h.Ns mainGlobals mg → mg d.name = some (.ref fa) →
      ∃ fd : FuncData, (∀ (s : Shared) (u : Value), BindsTo s fd ⟨[u], []⟩ [("script", u)]) ∧ ∀ base : Heap, (K w.params).In base → base.Ns mainGlobals mg → FnOk l.prog w (K w.params) mg base CX0 4 fa fd ["script"] (spLaw (K w.params))) :
    PySem.W.WalkO q loose XP YP l.row.toRowW d [] (fun f vs => PySem.call f vs) :=
  L2.walk_of (n := 63) (k := 4) (x := "script") (CX := fun _ => CX0) (sp := fun w => spLaw (K w.params)) hn (by decide) hdf ⟨rfl, by decide, by decide⟩ hY F (fun _ _ a ns hl _ hS => ⟨a, ns, rfl, hS, hl, fun _ => rfl⟩) fun _ _ _ _ _ z => z
end Rope
open PySem PySem.W PyProof.Rows
set_option maxRecDepth 100000 in
set_option maxHeartbeats 0 in
theorem PySem.Challenge.cw_ropedance_k01_fractions_holds : PySem.Challenge.rw_ropedance_k01_fractions.Holds := by
  w_on; o_law; k_head; (case hw => w_witness2)
  k_fill
  refine Rope.walk (l := PySem.Challenge.rw_ropedance_k01_fractions) rfl rfl (fun w h Y => PySem.W.kIn_of Y) ?F
  case F =>
    intro w mg fa h KX G hmg
    refine' Rope.all_mk KX G hmg ?a0 ?l0 ?c0 ?k0 ?a1 ?l1 ?c1 ?k1 ?a2 ?l2 ?c2 ?k2 ?a3 ?l3 ?c3 ?k3 ?a4 ?l4 ?c4 ?k4 ?a5 ?l5 ?c5 ?k5 ?a6 ?l6 ?c6 ?k6 ?a7 ?l7 ?c7 ?k7 ?a8 ?l8 ?c8 ?k8 ?a9 ?l9 ?c9 ?k9 ?a10 ?l10 ?c10 ?k10 ?a11 ?l11 ?c11 ?k11 ?a12 ?l12 ?c12 ?k12 ?a13 ?l13 ?c13 ?k13 ?a14 ?l14 ?c14 ?k14 ?a15 ?l15 ?c15 ?k15 ?z_len ?z_abs ?z_int ?z_range ?z_isinstance ?z_tuple ?z_list ?z_str ?z_bool ?z_any ?z_ValueError ?agcd ?aC ?aR ?a_1 ?a_2 ?a_3 ?xC ?kC ?bC ?tC ?hC ?gC ?qC ?cC ?oC ?hsp ?htk ?bR ?hR ?tR ?sCR ?iC ?iV ?i1 ?i2 ?i3
    (case a0 => k_is)
    (case l0 => k_is)
    (case c0 => k_is)
    (case k0 => k_is)
    (case a1 => k_is)
    (case l1 => k_is)
    (case c1 => k_is)
    (case k1 => k_is)
    (case a2 => k_is)
    (case l2 => k_is)
    (case c2 => k_is)
    (case k2 => k_is)
    (case a3 => k_is)
    (case l3 => k_is)
    (case c3 => k_is)
    (case k3 => k_is)
    (case a4 => k_is)
    (case l4 => k_is)
    (case c4 => k_is)
    (case k4 => k_is)
    (case a5 => k_is)
    (case l5 => k_is)
    (case c5 => k_is)
    (case k5 => k_is)
    (case a6 => k_is)
    (case l6 => k_is)
    (case c6 => k_is)
    (case k6 => k_is)
    (case a7 => k_is)
    (case l7 => k_is)
    (case c7 => k_is)
    (case k7 => k_is)
    (case a8 => k_is)
    (case l8 => k_is)
    (case c8 => k_is)
    (case k8 => k_is)
    (case a9 => k_is)
    (case l9 => k_is)
    (case c9 => k_is)
    (case k9 => k_is)
    (case a10 => k_is)
    (case l10 => k_is)
    (case c10 => k_is)
    (case k10 => k_is)
    (case a11 => k_is)
    (case l11 => k_is)
    (case c11 => k_is)
    (case k11 => k_is)
    (case a12 => k_is)
    (case l12 => k_is)
    (case c12 => k_is)
    (case k12 => k_is)
    (case a13 => k_is)
    (case l13 => k_is)
    (case c13 => k_is)
    (case k13 => k_is)
    (case a14 => k_is)
    (case l14 => k_is)
    (case c14 => k_is)
    (case k14 => k_is)
    (case a15 => k_is)
    (case l15 => k_is)
    (case c15 => k_is)
    (case k15 => k_is)
    (case z_len => k_is)
    (case z_abs => k_is)
    (case z_int => k_is)
    (case z_range => k_is)
    (case z_isinstance => k_is)
    (case z_tuple => k_is)
    (case z_list => k_is)
    (case z_str => k_is)
    (case z_bool => k_is)
    (case z_any => k_is)
    (case z_ValueError => k_is)
    (case agcd => k_is)
    (case aC => k_is)
    (case aR => k_is)
    (case a_1 => k_is)
    (case a_2 => k_is)
    (case a_3 => k_is)
    (case xC => k_exc)
    (case kC => k_is)
    (case bC => k_is)
    (case tC => k_is)
    (case hC => k_is)
    (case gC => k_is)
    (case qC => k_is)
    (case cC => k_is)
    (case oC => k_is)
    (case hsp => k_is)
    (case htk => k_is)
    (case bR => k_is)
    (case hR => k_is)
    (case tR => k_is)
    (case sCR => first | rfl | k_is)
    (case iC => first | rfl | k_is)
    (case iV => first | rfl | k_is)
    (case i1 => first | rfl | k_is)
    (case i2 => first | rfl | k_is)
    (case i3 => first | rfl | k_is)
