import PyProof.Rows.All
import Wide.All
import OpenK.AllK
import Wide.FinOn
import PyProof.StrBlock2
import HandS.ForMost
import HandS.Wide
import HandS.IsInst
import HandS.AnyAll
import HandS.Style
import HandS.More
import HandS.HeadHook4
import HandS.HeadEnd
import HandS.HeadWalk
import HandS.Head0
import HandS.Head1
import HandS.Head2
import PySem.Challenge.RW_ropedance_k03_dances
set_option Elab.async false
set_option linter.all false
set_option maxRecDepth 100000
set_option maxHeartbeats 4000000
namespace Rope
open PySem L2


/-! ### texts as lists of codes -/
def S (l : List Nat) : Str := ⟨l.toArray⟩
theorem S_len (l : List Nat) : (S l).length = l.length := by simp [S, Str.length]
theorem S_list (l : List Nat) : (S l).cps.toList = l := by simp [S]
theorem S_size (l : List Nat) : (S l).cps.size = l.length := by simp [S]
theorem S_get (l : List Nat) (i : Nat) : (S l).cps[i]? = l[i]? := by simp [S]
theorem S_inj {l m : List Nat} (h : S l = S m) : l = m := by
  have := congrArg (fun z : Str => z.cps.toList) h
  simpa [S] using this
theorem S_app (l m : List Nat) : S l ++ S m = S (l ++ m) := by
  show Str.append (S l) (S m) = S (l ++ m)
  simp [Str.append, S]
theorem S_mul (l : List Nat) (n : Int) : Txt.mul (S l) n = S (List.replicate n.toNat l).flatten := by
  unfold Txt.mul
  by_cases h1 : n < 1
  · rw [if_pos h1]
    have : n.toNat = 0 := by omega
    rw [this]
    rfl
  · rw [if_neg h1]
    by_cases h2 : (n == 1 || (S l).length == 0) = true
    · rw [if_pos h2]
      simp only [Bool.or_eq_true, beq_iff_eq] at h2
      rcases h2 with h2 | h2
      · subst h2
        show S l = S (List.replicate 1 l).flatten
        simp
      · rw [S_len] at h2
        have : l = [] := List.eq_nil_of_length_eq_zero h2
        subst this
        simp
    · rw [if_neg h2]
      have aux : ∀ (k : Nat) (a : Array Nat), ((List.replicate k (S l).cps).foldl (· ++ ·) a).toList = a.toList ++ (List.replicate k l).flatten := by
        intro k
        induction k with
        | zero => intro a; simp
        | succ k ih =>
          intro a
          rw [List.replicate_succ, List.foldl_cons, ih, List.replicate_succ, List.flatten_cons, Array.toList_append, List.append_assoc, S_list]
      have := aux n.toNat #[]
      unfold S
      congr 1
      apply Array.toList_inj.mp
      rw [show S l = (⟨l.toArray⟩ : Str) from rfl] at this
      rw [this]
      simp
theorem S_cut (l : List Nat) (lo hi : Option Int) : cutS (S l) lo hi = S ((l.drop (HT.sIx l.length 0 lo)).take (HT.sIx l.length l.length hi - HT.sIx l.length 0 lo)) := by
  unfold cutS
  rw [S_len, S_list]
  rfl
theorem S_take (l : List Nat) {m : Int} (h : 0 ≤ m) : cutS (S l) none (some m) = S (l.take m.toNat) := by
  obtain ⟨k, rfl⟩ := Int.eq_ofNat_of_zero_le h
  rw [S_cut, HT.sIx_none, HT.sIx_nat, List.drop_zero, Nat.sub_zero, Int.toNat_natCast]
  congr 1
  by_cases h2 : k ≤ l.length
  · rw [Nat.min_eq_left h2]
  · rw [Nat.min_eq_right (by omega), List.take_of_length_le (Nat.le_refl _), List.take_of_length_le (by omega)]
theorem S_drop (l : List Nat) {m : Int} (h : 0 ≤ m) : cutS (S l) (some m) none = S (l.drop m.toNat) := by
  obtain ⟨k, rfl⟩ := Int.eq_ofNat_of_zero_le h
  rw [S_cut, HT.sIx_none, HT.sIx_nat, Int.toNat_natCast]
  congr 1
  rw [List.take_of_length_le (by simp)]
  by_cases h2 : k ≤ l.length
  · rw [Nat.min_eq_left h2]
  · rw [Nat.min_eq_right (by omega), List.drop_length, List.drop_eq_nil_of_le (by omega)]
/-- a text times an int -/
theorem op_mul_str {X : Cx} : OpR X (binaryOp .Mult) (fun x y H Q => ∃ (l : List Nat) (n : Int), x = .str (S l) ∧ y = .int n ∧ 0 ≤ n ∧ n < 2 ^ 62 ∧ l.length * n.toNat ≤ 16777215 ∧ Q (.str (S (List.replicate n.toNat l).flatten)) H) := by
  intro pins s σ H x y v u Q I rx ry h
  obtain ⟨l, n, rfl, rfl, h0, h1, h2, q⟩ := h
  obtain ⟨t, rfl⟩ := rx
  obtain ⟨t', rfl⟩ := ry
  have e1 : decide (n < -(2 ^ 63 : Int)) = false := decide_eq_false (by omega)
  have e2 : decide (n ≥ 2 ^ 63) = false := decide_eq_false (by omega)
  refine SB.mul ⟨by rw [e1, e2]; rfl, fun z1 z2 => ?_, fun z1 z2 => ?_⟩ fun t' k => ⟨.str _, H, I.tok _, ⟨_, rfl⟩, by rw [S_mul]; exact q⟩
  · rw [S_len]
    have h3 : (l.length : Int) * n ≤ 16777215 := by
      have : ((l.length * n.toNat : Nat) : Int) ≤ 16777215 := Int.ofNat_le.mpr h2
      rw [Int.natCast_mul, Int.toNat_of_nonneg h0] at this
      exact this
    have hn : 0 < n := by omega
    intro hc
    have hc' : (2 ^ 63 - 1) / n < (l.length : Int) := hc
    have := (Int.ediv_lt_iff_lt_mul hn).mp hc'
    omega
  · rw [S_len]
    unfold Builtin.Str.tooLong
    rw [sizeLine_eq]
    exact decide_eq_false (by omega)
/-! ### the calls: a fraction by a letter -/
def called (v : Int × Int) (c : Nat) : Int × Int :=
  if c = 84 then (v.1 + v.2, v.2) else if c = 85 then (v.1 - v.2, v.2) else if 0 < v.1 then (0 - v.2, v.1) else if v.1 < 0 then (v.2, 0 - v.1) else (1, 0)
def run (v : Int × Int) (l : List Nat) : Int × Int := l.foldl called v
theorem run_nil (v : Int × Int) : run v [] = v := rfl
theorem run_app (v : Int × Int) (l m : List Nat) : run v (l ++ m) = run (run v l) m := List.foldl_append
theorem run_take {l : List Nat} {i c : Nat} (v : Int × Int) (h : l[i]? = some c) : run v (l.take (i + 1)) = called (run v (l.take i)) c := by
  rw [List.take_add_one, h, run_app]
  rfl
/-- what a fraction of the laws keeps: q positive or infinite, no common divisor -/
def Good (v : Int × Int) : Prop := (0 < v.2 ∨ v = (1, 0)) ∧ Int.gcd v.1 v.2 = 1
theorem Good.zero : Good (0, 1) := ⟨.inl (by decide), by decide⟩
theorem gcd_add' (p q : Int) : Int.gcd (p + q) q = Int.gcd p q := by
  have := Int.gcd_add_mul_right_left p q 1
  simpa using this
theorem Good.called {v : Int × Int} (h : Good v) (c : Nat) : Good (called v c) := by
  obtain ⟨p, q⟩ := v
  obtain ⟨h1, h2⟩ := h
  simp only at h1 h2
  unfold Rope.called
  by_cases c1 : c = 84
  · rw [if_pos c1]
    refine ⟨?_, ?_⟩
    · rcases h1 with h1 | h1
      · exact .inl h1
      · cases h1; exact .inr rfl
    · show Int.gcd (p + q) q = 1
      rw [gcd_add']; exact h2
  rw [if_neg c1]
  by_cases c2 : c = 85
  · rw [if_pos c2]
    refine ⟨?_, ?_⟩
    · rcases h1 with h1 | h1
      · exact .inl h1
      · cases h1; exact .inr rfl
    · show Int.gcd (p - q) q = 1
      have := gcd_add' (p - q) q
      rw [Int.sub_add_cancel] at this
      rw [← this]; exact h2
  rw [if_neg c2]
  by_cases c3 : 0 < p
  · rw [if_pos (show 0 < (p, q).1 from c3)]
    refine ⟨.inl c3, ?_⟩
    show Int.gcd (0 - q) p = 1
    rw [Int.zero_sub, Int.neg_gcd, Int.gcd_comm]; exact h2
  rw [if_neg (show ¬ 0 < (p, q).1 from c3)]
  by_cases c4 : p < 0
  · rw [if_pos (show (p, q).1 < 0 from c4)]
    refine ⟨.inl (by show 0 < 0 - p; omega), ?_⟩
    show Int.gcd q (0 - p) = 1
    rw [Int.zero_sub, Int.gcd_neg, Int.gcd_comm]; exact h2
  rw [if_neg (show ¬ (p, q).1 < 0 from c4)]
  exact ⟨.inr rfl, by decide⟩
theorem good_run : ∀ (l : List Nat) {v : Int × Int}, Good v → Good (run v l)
  | [], _, h => h
  | c :: r, _, h => good_run r (h.called c)
/-- its size grows by a bit a letter -/
theorem called_size {v : Int × Int} {n : Nat} (h1 : v.1.natAbs ≤ n) (h2 : v.2.natAbs ≤ n) (h0 : 1 ≤ n) (c : Nat) : (called v c).1.natAbs ≤ 2 * n ∧ (called v c).2.natAbs ≤ 2 * n := by
  unfold called
  repeat' split
  all_goals simp only
  all_goals omega
theorem run_size : ∀ (l : List Nat) {v : Int × Int} {n : Nat}, v.1.natAbs ≤ n → v.2.natAbs ≤ n → 1 ≤ n → (run v l).1.natAbs ≤ 2 ^ l.length * n ∧ (run v l).2.natAbs ≤ 2 ^ l.length * n
  | [], v, n, h1, h2, _ => by simpa [run] using ⟨h1, h2⟩
  | c :: r, v, n, h1, h2, h0 => by
    have q := called_size h1 h2 h0 c
    have ih := run_size r q.1 q.2 (by omega)
    have e : 2 ^ (c :: r).length * n = 2 ^ r.length * (2 * n) := by
      rw [List.length_cons, Nat.pow_succ, Nat.mul_assoc]
    rw [e]
    exact ih
/-! ### the divisor -/
theorem gcd_step (x y : Int) : Nat.gcd y.natAbs (x.fmod y).natAbs = Nat.gcd x.natAbs y.natAbs := by
  show Int.gcd y (x.fmod y) = Int.gcd x y
  have e : x.fmod y = x + y * (-(x.fdiv y)) := by
    have := Int.fmod_def x y
    rw [this, Int.mul_neg]
    rfl
  rw [e, Int.gcd_add_mul_left_right, Int.gcd_comm]
theorem fmod_less {x y : Int} (h : y ≠ 0) : (x.fmod y).natAbs < y.natAbs := by
  by_cases h0 : 0 < y
  · rw [Int.fmod_eq_emod_of_nonneg x (by omega)]
    have h1 := Int.emod_nonneg x h
    have h2 := Int.emod_lt_of_pos x h0
    omega
  · have e : x.fmod y = -((-x).fmod (-y)) := by
      have := Int.neg_fmod_neg (a := x) (b := y)
      omega
    rw [e, Int.fmod_eq_emod_of_nonneg _ (by omega)]
    have h1 := Int.emod_nonneg (-x) (b := -y) (by omega)
    have h2 := Int.emod_lt_of_pos (-x) (b := -y) (by omega)
    omega
/-- for letter in text -/
theorem for_str {l : List Nat} {g : TG} {tb : TS} {D : Ends} {σ : L2.St} {H : Hp} (Pv : Nat → L2.St → Hp → Prop) (h0 : Pv 0 σ H)
    (hs : ∀ i c σ H, l[i]? = some c → Pv i σ H → g (.str (S [c])) σ H fun σ2 H2 => tb { D with nx := Pv (i + 1), ct := Pv (i + 1), bk := D.nx } σ2 H2) (hd : ∀ σ H, Pv l.length σ H → D.nx σ H) :
    ∃ W : Nat → Nat → L2.St → Hp → Prop, (∃ m, W 0 m σ H) ∧ ∀ i m σ H, W i m σ H →
      ((Its (S l)).stop i H ∧ D.nx σ H) ∨ ((Its (S l)).go i H ∧ ∃ N : L2.St → Hp → Prop, (∀ σ' H', N σ' H' → ∃ m', m' < m ∧ W (i + 1) m' σ' H') ∧ ∀ x H', (Its (S l)).yld i H x H' → g x σ H' fun σ2 H2 => tb { D with nx := N, ct := N, bk := D.nx } σ2 H2) := by
  refine ⟨fun i m σ H => m = l.length - i ∧ i ≤ l.length ∧ Pv i σ H, ⟨l.length, by simp, Nat.zero_le _, h0⟩, ?_⟩
  rintro i m σ H ⟨rfl, hi, p⟩
  by_cases hlt : i < l.length
  · refine .inr ⟨by show i < (S l).cps.size; rw [S_size]; exact hlt, Pv (i + 1), fun σ' H' p' => ⟨l.length - (i + 1), by omega, rfl, hlt, p'⟩, fun x H' y => ?_⟩
    obtain ⟨e, c, hc, rfl⟩ := y
    subst e
    rw [S_get] at hc
    exact hs i c σ _ hc p
  · have e : i = l.length := by omega
    subst e
    exact .inl ⟨by show (S l).cps.size ≤ l.length; rw [S_size]; exact Nat.le_refl _, hd σ H p⟩

/-! ### text[::-1] -/
theorem rev_pick (l : List Nat) (t : Tok) (a : Tok) : sliceMade (S l) t none none (some (-1, a)) = Made.str (S l.reverse) := by
  have hs : slicePicked (S l) none none (some (-1, a)) = (List.range l.length).reverse := by
    show sliceRange (((S l).length : Int) - 1) (-1) (-1) = _
    rw [S_len, PySem.W.krv_sliceRange, PySem.W.krv_range]
  have hf : ((List.range l.length).reverse.filterMap ((S l).cps[·]?)) = l.reverse := by
    rw [List.filterMap_reverse]
    congr 1
    have : ∀ m : List Nat, (List.range m.length).filterMap (fun i => m[i]?) = m := fun m => by
      induction m with
      | nil => rfl
      | cons c r ih =>
        rw [List.length_cons, List.range_succ_eq_map, List.filterMap_cons, List.filterMap_map]
        show c :: (List.range r.length).filterMap (fun i => r[i]?) = c :: r
        rw [ih]
    have h2 : (fun i => (S l).cps[i]?) = fun i => l[i]? := funext fun i => S_get l i
    rw [h2]
    exact this l
  unfold sliceMade
  rw [hs, hf]
  rfl
def tRevS (te : TE) : TE := fun σ H Q => te σ H fun x H1 => ∃ l : List Nat, x = .str (S l) ∧ l.length ≤ 16777216 ∧ Q (.str (S l.reverse)) H1
theorem pe_revS {X : Cx} {e : Expr} {te : TE} {k : Nat} {p1 p2 p3 pos : Pos} (he : PE X e te) : PE X (.Subscript e (.Slice none none (some (.UnaryOp .USub (.Constant (.int 1) k p1) p2)) p3) pos) (tRevS te) := by
  constructor
  intro pins s σ H Q I hyp
  apply PyProof.Rows.Subscript_
  refine thn (he.run pins s σ H _ I hyp) fun v s1 ⟨x, H1, I1, r1, l, ex, hl, q⟩ => ?_
  subst ex
  obtain ⟨tk, rfl⟩ := r1
  have minus : PO X (some (.UnaryOp .USub (.Constant (.int 1) k p1) p2)) (tPart (tUn (rU fun i => .int (-i)) (tC (.int 1)))) := po_some (pe_un un_neg pe_int)
  apply wpAny_Slice
  refine thn (po_none.run pins s1 σ H1 (fun o G => o = none ∧ G = H1) I1 ⟨rfl, rfl⟩) fun v1 s2 ⟨o1, G1, J1, a1, b1, c1⟩ => ?_
  subst b1; subst c1
  refine thn (po_none.run pins s2 σ G1 (fun o G => o = none ∧ G = G1) J1 ⟨rfl, rfl⟩) fun v2 s3 ⟨o2, G2, J2, a2, b2, c2⟩ => ?_
  subst b2; subst c2
  refine thn (minus.run pins s3 σ G2 (fun o G => o = some (-1) ∧ G = G2) J2 ⟨1, rfl, -1, rfl, rfl, rfl⟩) fun v3 s4 ⟨o3, G3, J3, a3, b3, c3⟩ => ?_
  subst b3; subst c3
  obtain ⟨y1, rfl, g1⟩ := IsPart.raw a1
  obtain ⟨y2, rfl, g2⟩ := IsPart.raw a2
  obtain ⟨y3, rfl, g3⟩ := IsPart.raw a3
  cases y1 with
  | some z => cases g1
  | none =>
  cases y2 with
  | some z => cases g2
  | none =>
  cases y3 with
  | none => cases g3
  | some z =>
  obtain ⟨z1, z2⟩ := z
  have ez : z1 = -1 := Option.some.inj g3
  subst ez
  show wpAny (model X.prog X.w) X.A (PyProof.Rows.subscriptTail e (.Slice none none (some (.UnaryOp .USub (.Constant (.int 1) k p1) p2)) p3) (.str (S l) tk) (.ref s4.heap.objs.size)) (EP X pins σ Q) X.xe { s4 with heap := s4.heap.push { cls := .type "slice", data := .fields #[partValue none, partValue none, partValue (some (-1, z2))] } }
  refine PyProof.Rows.tail_any (ops := [.str (S l) tk, .ref s4.heap.objs.size]) (typeIs_str _ _ _) PySem.F.slot_str_getitem.lookup ?_ (by with_unfolding_all rfl)
  refine wpAny_getItem_str_slice (l := none) (u := none) (st := some (-1, z2)) ⟨_, Heap.get?_push_size _ rfl, rfl, rfl⟩ (by rfl) ?_
  rw [rev_pick]
  exact ⟨by rw [S_len, List.length_reverse, sizeLine_eq]; exact hl, .str _, _, J3.kept (t' := s4.toks + 1) fun b ob w => Heap.get?_push_of_some _ w, ⟨_, rfl⟩, q⟩
/-! ### all(test for x in text), where the test may read what the top has written -/
section
open GxR
variable {X : Cx} {pins : List (Addr × Obj)} {σ : L2.St} {H : Hp} {s : Shared}
def EltG (X : Cx) (scope : Scope) (x : Str) (elt : Expr) (pb : Nat → Bool) : Prop :=
  ∀ (cenv : Env) (A' : Around) (E' : Value → Shared → Prop) (c : Nat) (t : Tok) (z : Shared) (m : Str → Option Value), X.Ok → cenv.scope = scope → cenv.globals = X.env.globals → (∀ b o, X.base.get? b = some o → z.heap.get? b = some o) →
    z.heap.Ns cenv.locals m → m x = some (.str ⟨#[c]⟩ t) → wpAny (model X.prog X.w) A' (eval elt cenv) (fun y z' => y = .bool (pb c) ∧ Keeps z z') E' z
theorem tbl_not {H : Hp} {P : Addr} {ps : Array Value} (hP : H P = some (.tbl ps)) {b : Addr} (h : H b = none) : b ≠ P := fun z => by rw [z, hP] at h; cases h
theorem gen_go {c P : Addr} {elt : Expr} {x : Str} {scope : Scope} {pb : Nat → Bool} {k : Nat} {Q' : Value → Shared → Prop} {a : Str} {o : Obj} {St : Nat → Heap → Prop} {ps : Array Value}
    (hr : Room k X.A) (TB : TabB X.base X.mg c P) (sc : GenS X.env scope x) (hel : EltG X scope x elt pb) (J : L2.Inv X pins σ H s) (hP : H P = some (.tbl ps)) (atP : s.heap.get? P = some { cls := .none, data := .fields ps }) (ltP : P < s.heap.objs.size)
    (W : ∀ A' : Around, A'.handled = none → Walks X.prog X.w A' s.heap.objs.size [s.heap.objs.size] [s.heap.objs.size] a.cps.size (SignAt a) St) (st0 : St 0 (s.heap.push o)) (code : Value) (h3 : Heap) (tk : Nat) (ps' more : Array Value) (em : ps' = ps ++ more)
    (hx : Heap.ExtBut P (s.heap.push o) h3) (hsz : (s.heap.push o).objs.size ≤ h3.objs.size) (h3P : h3.get? P = some { cls := .none, data := .fields ps' }) (ok' : TriplesOk ps'.toList) (lim : (s.heap.push o).NoLimit) (hQ : ∀ g z, Ready X pins σ H P a pb g z → Q' (.ref g) z) :
    wpAny (model X.prog X.w) X.A (builtinsFor X.env.globals X.env.builtins) (fun bi s₄ =>
      ∃ Ia fp wr n₀ Pf St₀ pz F, Value.ref s.heap.objs.size = .ref Ia ∧ (∀ A' : Around, A'.handled = none → Walks X.prog X.w A' Ia fp wr n₀ Pf St₀) ∧ St₀ 0 s₄.heap ∧ (∀ b ∈ fp, b < s₄.heap.objs.size) ∧ s₄.heap.NoLimit ∧ cStatics ∉ wr ∧
        (∀ href : Heap, (∀ b u, s₄.heap.get? b = some u → href.get? b = some u) → QuietGen X.prog X.w (genEnv scope (cloFrom X.env.cells scope.names []) s₄.heap.objs.size code bi X.env) x [] elt (List.range s₄.heap.objs.size) wr Pf pz F href) ∧
        (∀ g h₅ tk gs, gs.bare = true → s₄.heap.objs.size < g → h₅.objs.size = g + 1 → (∀ b u, s₄.heap.get? b = some u → h₅.get? b = some u) →
          WalksS X.prog X.w X.A.in4 g (g :: s₄.heap.objs.size :: List.range s₄.heap.objs.size) (s₄.heap.objs.size :: wr) (GenOnlyQ s₄.gens.size) (passing pz n₀ 0).length (fun j y => ∃ i, (passing pz n₀ 0)[j]? = some i ∧ F i y) (GenAt X.prog X.w X.A.in4 g s₄.gens.size s₄.heap.objs.size (List.range s₄.heap.objs.size) wr pz n₀ F) →
          GenAt X.prog X.w X.A.in4 g s₄.gens.size s₄.heap.objs.size (List.range s₄.heap.objs.size) wr pz n₀ F 0 { s₄ with gens := s₄.gens.push gs, toks := tk, heap := h₅ } → Q' (.ref g) { s₄ with gens := s₄.gens.push gs, toks := tk, heap := h₅ })) X.xe { s with heap := h3, toks := tk } := by
  obtain ⟨bm, ob, q1, q2, q3, q4, q5, q6, q7, q8⟩ := TB.bm
  obtain ⟨cm, cns, cnn⟩ := J.nolimit
  have cP : cStatics ≠ P := fun z => by
    obtain ⟨o2, es, ep, g1, g2, _⟩ := cns
    rw [z, atP] at g1
    cases g1
    cases g2
  have cL : cStatics < s.heap.objs.size := cns.lt
  have big : (s.heap.push o).objs.size = s.heap.objs.size + 1 := Heap.size_push ..
  have kept : ∀ b u, b ≠ P → s.heap.get? b = some u → h3.get? b = some u := fun b u n e => hx b u n (Heap.get?_push_of_some _ e)
  have bases : ∀ b u, X.base.get? b = some u → h3.get? b = some u := fun b u e => kept b u (tbl_not hP (J.bs b u e).2) (J.bk b u e)
  refine wpAny_builtinsFor (m := X.mg) (by rw [J.ok.glob]; exact J.mod.glob.keeps bases) q1 q2 (bases _ _ q5) q6 q7 q8 ?_
  refine ⟨s.heap.objs.size, [s.heap.objs.size], [s.heap.objs.size], a.cps.size, SignAt a, St, fun _ => true, fun i y => ∃ cc, a.cps[i]? = some cc ∧ y = .bool (pb cc), rfl, W, ?_, ?_, lim.extBut hx cP, ?_, ?_, ?_⟩
  · refine (W X.A hr.hd).frame _ _ _ st0 fun b hb u e => hx b u ?_ e
    rw [List.mem_singleton.mp hb]
    exact Nat.ne_of_gt ltP
  · intro b hb
    rw [List.mem_singleton.mp hb]
    exact Nat.lt_of_lt_of_le (by rw [big]; exact Nat.lt_succ_self _) hsz
  · rw [List.mem_singleton]
    exact Nat.ne_of_lt cL
  · intro href hh
    refine ⟨fun A' E' i v s₂ m₂ _ _ _ _ _ => ?_, fun A' E' i v s₂ m₂ _ hv _ hn hm hk => ?_⟩
    · rw [List.forIn_nil]
      exact wpAny_pure ⟨rfl, keeps_refl s₂⟩
    · obtain ⟨cc, u, hcc, rfl⟩ := hv
      refine wpAny_mono (hel _ A' E' cc u s₂ m₂ J.ok rfl rfl (fun b w e => ?_) hn hm) (fun y z r => ⟨⟨cc, hcc, r.1⟩, r.2⟩) fun _ _ e => e
      have lb := Heap.lt_size (J.bk b w e)
      exact hk b (List.mem_range.mpr (Nat.lt_of_lt_of_le (Nat.lt_of_lt_of_le lb (by rw [big]; exact Nat.le_succ _)) hsz)) (by rw [List.mem_singleton]; exact Nat.ne_of_lt lb) w (hh b w (bases b w e))
  · intro g h5 tk5 gs bare _ _ _ W5 at5
    have W6 := W5
    simp only [GxR.passing_true, List.length_range] at W6
    refine hQ g _ ⟨_, _, _, _, _, W6.in4_1, at5, fun j y sj Qj Ej hy hq => ?_, fun z mv => ?_⟩
    · obtain ⟨i, hi, cc, hcc, rfl⟩ := hy
      obtain ⟨_, ei⟩ := List.getElem?_eq_some_iff.mp hi
      rw [List.getElem_range] at ei
      subst ei
      have hq' : Qj (trF pb a.cps.toList j) sj := hq
      rw [trF_some (show a.cps.toList[j]? = some cc by rw [Array.getElem?_toList]; exact hcc)] at hq'
      exact wpAny_truthy_bool hq'
    · have off : ∀ b u, s.heap.get? b = some u → b ∉ h3.objs.size :: [s.heap.objs.size] := fun b u e hb => by
        have l1 := Heap.lt_size e
        have l2 : s.heap.objs.size < h3.objs.size := Nat.lt_of_lt_of_le (by rw [big]; exact Nat.lt_succ_self _) hsz
        rcases List.mem_cons.mp hb with r | r
        · rw [r] at l1; exact absurd (Nat.lt_trans l1 l2) (Nat.lt_irrefl _)
        · rw [List.mem_singleton.mp r] at l1; exact absurd l1 (Nat.lt_irrefl _)
      have five : ∀ b u, h3.get? b = some u → h5.get? b = some u := by assumption
      have L := inv_tab (more := more) (h' := z.heap) (g' := z.gens) (d' := z.drawn) (t' := z.toks) J hP (fun b u n e => mv.heap b u (off b u e) (five b u (kept b u n e))) (by rw [← em]; exact mv.heap P _ (off P _ atP) (five P _ h3P)) (PyProof.Rows.AllBare.movedS (J.bare.push bare) mv)
      rw [sh_eta s z mv.os] at L
      exact ⟨upd H P (.tbl (ps ++ more)), ⟨⟨ps ++ more, upd_same, by rw [← em]; exact ok'⟩, fun b n => upd_ne n⟩, L⟩
theorem gen_signs {c P : Addr} {elt iter : Expr} {x : Str} {px gpos : Pos} {scope : Scope} {pb : Nat → Bool} {te : TE} {k : Nat} {Q' : Value → Shared → Prop} {R : Str → Hp → Prop}
    (hr : Room k X.A) (TB : TabB X.base X.mg c P) (hcode : X.env.code = .ref c) (sc : GenS X.env scope x) (hi : PE X iter te) (hel : EltG X scope x elt pb) (hs : ∀ v, genFold iter X.env v = pure v)
    (I : L2.Inv X pins σ H s) (h : te σ H fun v G => ∃ a : Str, v = .str a ∧ TabG G P ∧ R a G) (hQ : ∀ a G g z, R a G → Ready X pins σ G P a pb g z → Q' (.ref g) z) :
    wpAny (model X.prog X.w) X.A (eval (.GeneratorExp elt [⟨.Name x px, iter, [], 0⟩] scope gpos) X.env) Q' X.xe s := by
  have room : X.A.depth < recursionLimit := by have := hr.dp; omega
  refine wpAny_GeneratorExp_walksQ hr.hd sc.co (closure_ok sc.free) sc.cell sc.dot sc.loc sc.kind room (thn (hi.run pins s σ H _ I h) fun u s1 ⟨v, G, J, rv, a, ev, ⟨ps, hP, ok⟩, hR⟩ => ?_) hs
  subst ev
  obtain ⟨t, rfl⟩ := id rv
  refine wpAny_pyIter_str fun o St W st0 => ?_
  -- the table, the sizes, what is kept
  have atP : s1.heap.get? P = some { cls := .none, data := .fields ps } := J.hok P _ hP
  have ltP : P < s1.heap.objs.size := Heap.lt_size atP
  have atP' : (s1.heap.push o).get? P = some { cls := .none, data := .fields ps } := Heap.get?_push_of_some _ atP
  have cd : PySem.W.CodeHd (s1.heap.push o) c P := TB.code.keeps fun b w e => Heap.get?_push_of_some _ (J.bk b w e)
  have lim : (s1.heap.push o).NoLimit := J.nolimit.push o
  have next : ∀ (code : Value) (h3 : Heap) (tk : Nat) (ps' more : Array Value), ps' = ps ++ more → Heap.ExtBut P (s1.heap.push o) h3 → (s1.heap.push o).objs.size ≤ h3.objs.size → h3.get? P = some { cls := .none, data := .fields ps' } → TriplesOk ps'.toList → _ :=
    fun code h3 tk ps' more em hx hsz h3P ok' => gen_go (elt := elt) hr TB sc hel J hP atP ltP W st0 code h3 tk ps' more em hx hsz h3P ok' lim fun g z rd => hQ a G g z hR rd
  refine ⟨lim, ?_⟩
  cases hf : codeAmong gpos ps.toList with
  | some cv => exact wpAny_genexprCode_hit hcode (cd.code atP' ok) hf (next cv (s1.heap.push o) s1.toks ps #[] (by simp) (Heap.ExtBut.refl _ _) (Nat.le_refl _) atP' ok)
  | none =>
    refine wpAny_genexprCodeX hcode (cd.code atP' ok) (cd.tab atP') hf fun c' h' tk hx hge hlt hco' _ htab' _ => ?_
    obtain ⟨o1, vs, f1, tf, fl, tg, inF, tx, tt, op, _, _, _, _, _, _, _, _, _, htr, _⟩ := hco'
    exact next _ h' tk _ _ rfl hx (Nat.le_trans hge (Nat.le_of_lt hlt)) htab'.2 htr
theorem pe_allG {c P : Addr} {elt iter : Expr} {x : Str} {px p pos gpos : Pos} {scope : Scope} {pb : Nat → Bool} {te : TE} {k : Nat} (hr : Room k X.A) (hg : Gl X "all") (hm : X.mg "all" = none) (TB : TabB X.base X.mg c P) (hcode : X.env.code = .ref c)
    (sc : GenS X.env scope x) (hi : PE X iter te) (hel : EltG X scope x elt pb) (hs : ∀ v, genFold iter X.env v = pure v)
    (he : starEach [.GeneratorExp elt [⟨.Name x px, iter, [], 0⟩] scope gpos] X.env = (false, eval (.GeneratorExp elt [⟨.Name x px, iter, [], 0⟩] scope gpos) X.env) :: starEach [] X.env := by rfl) :
    PE X (.Call (.Name "all" p) [.GeneratorExp elt [⟨.Name x px, iter, [], 0⟩] scope gpos] [] pos) (tAllS P pb te) := by
  constructor
  intro pins s σ H Q I hyp
  have hb : bootBuiltins "all" = some (.builtin "all") := by decide +kernel
  refine wpAny_Call_Name_kw (ld_blt I hg hm hb (PyProof.Rows.callWith_builtin1 ?_ he (by rfl)))
  rw [he]
  show wpAny _ _ (spliced ((false, eval (.GeneratorExp elt [⟨.Name x px, iter, [], 0⟩] scope gpos) X.env) :: backTo pos (starEach [] X.env))) _ _ s
  refine Calls.spliced_cons (gen_signs (R := fun a G => ∀ G', Tabbed P G G' → Q (.bl (a.cps.toList.all pb)) G') hr TB hcode sc hi hel hs I hyp fun a G g z hR rd => Calls.spliced_nil ?_)
  obtain ⟨fp, wr, Gs, F, St, W, st, tr, done⟩ := rd
  refine call_all_walkS (W.self 0 _ _ _ st ⟨g, fp, wr, Gs, _, F, St, _, rfl, W, st, tr, fun z' mv => ?_⟩)
  obtain ⟨G', tb, L⟩ := done z' mv
  refine ⟨.bl _, G', L, rfl, ?_⟩
  rw [all_signs a pb]
  exact hR G' tb
/-- x in D, D a dict that the top has written -/
theorem elt_in {scope : Scope} {x y : Str} {pb : Nat → Bool} {d : Addr} {es : Array DictEntry} {n : Nat} {p1 p2 p3 : Pos} (D : KDict X.K X.w d es n) (gy : X.mg y = some (.ref d)) (hp : ∀ c, ∃ r, PySem.W.nsIn X.K d (S [c]) = some r ∧ r.isSome = pb c)
    (hk : scope.kind = .function) (hl : scope.names.lookup x = some .local) (hy : scope.names.lookup y = some .globalImplicit) (hd : (x == ("__debug__" : Str)) = false := by decide) (hd2 : (y == ("__debug__" : Str)) = false := by decide) :
    EltG X scope x (.Compare (.Name x p1) [.In] [.Name y p2] p3) pb := by
  intro cenv A' E' c t z m ok hs hg hb hn hm
  have kind : cenv.scope.kind = .function := by rw [hs]; exact hk
  refine wpAny_Compare1 (wpAny_Name (wpAny_loadName_local kind (show cenv.scope.names.lookup x = some .local by rw [hs]; exact hl) hn hm ?_) hd)
  refine Calls.Name_function_global kind (show cenv.scope.names.lookup y = some .globalImplicit by rw [hs]; exact hy) (Calls.loadGlobal_global (by rw [hg, ok.glob]; exact ok.mod.glob.keeps hb) gy ?_) hd2
  obtain ⟨r, e1, e2⟩ := hp c
  refine wpAny_in_of (PySem.strKind_is X.prog X.w (S [c]) t) D.low (PySem.W.mapOf_K (prog := X.prog) (ok.mod.kin.keeps hb) D.at_ D.lit) ?_
  rw [PySem.W.find_K D.at_ e1, e2]
  exact ⟨rfl, keeps_tok _ _⟩
end
/-! ### ''.join of texts, comprehensions over a text -/
theorem join_empty (ys : List (List Nat)) : Txt.join (S []) (ys.map S) = S ys.flatten := by
  have go : ∀ (zs : List (List Nat)) (a : Array Nat), ((zs.map S).foldl (fun acc p => acc ++ (S []).cps ++ p.cps) a).toList = a.toList ++ zs.flatten := by
    intro zs
    induction zs with
    | nil => intro a; simp
    | cons z r ih =>
      intro a
      rw [List.map_cons, List.foldl_cons, ih]
      simp [S]
  show Builtin.Str.glued (S []) (ys.map S) = _
  unfold Builtin.Str.glued
  cases ys with
  | nil => rfl
  | cons y r =>
    have := go r (S y).cps
    show (⟨(r.map S).foldl (fun acc p => acc ++ (S []).cps ++ p.cps) (S y).cps⟩ : Str) = _
    unfold S at this ⊢
    congr 1
    apply Array.toList_inj.mp
    rw [this]
    simp
theorem join_signs (l : List Nat) : Txt.join (S []) (l.map fun c => S [c]) = S l := by
  have := join_empty (l.map fun c => [c])
  rw [List.map_map] at this
  rw [show (l.map fun c => S [c]) = l.map (S ∘ fun c => [c]) from rfl, this]
  congr 1
  induction l with
  | nil => rfl
  | cons c r ih => rw [List.map_cons, List.flatten_cons, ih (join_empty _ |>.trans rfl |> fun h => by rw [List.map_map] at h; exact h)]; rfl
theorem sum_ones (l : List Nat) : ((l.map fun c => S [c]).map (·.length)).sum = l.length := by
  induction l with
  | nil => rfl
  | cons c r ih =>
    rw [List.map_cons, List.map_cons, List.sum_cons, ih, S_len, List.length_cons]
    show 1 + r.length = r.length + 1
    omega
theorem lc_str {l : List Nat} {g : TG} {tt : TT} {te : TE} {vs : List Nat} {σ : L2.St} {H1 : Hp} {D : Addr} {Qd : Hp → Prop} (Pv : Nat → Hp → Prop) (h0 : Pv 0 (upd H1 D (.lst [])))
    (hs : ∀ i c H, l[i]? = some c → Pv i H → g (.str (S [c])) (wipe σ vs) H fun σ2 H2 => wipe σ2 vs = wipe σ vs ∧ tt σ2 H2 fun b H3 =>
      if b = true then te σ2 H3 fun y H4 => ∃ acc, H4 D = some (.lst acc) ∧ acc.length < sizeLine ∧ Pv (i + 1) (upd H4 D (.lst (acc ++ [y]))) else Pv (i + 1) H3) (hd : ∀ H, Pv l.length H → Qd H) :
    ∃ W : Nat → Nat → Hp → Prop, (∃ m, W 0 m (upd H1 D (.lst []))) ∧ ∀ i m H, W i m H →
      ((Its (S l)).stop i H ∧ Qd H) ∨ ((Its (S l)).go i H ∧ ∃ Nx : Hp → Prop, (∀ H', Nx H' → ∃ m', m' < m ∧ W (i + 1) m' H') ∧ ∀ x H', (Its (S l)).yld i H x H' → g x (wipe σ vs) H' fun σ2 H2 => wipe σ2 vs = wipe σ vs ∧ tt σ2 H2 fun b H3 =>
        if b = true then te σ2 H3 fun y H4 => ∃ acc, H4 D = some (.lst acc) ∧ acc.length < sizeLine ∧ Nx (upd H4 D (.lst (acc ++ [y]))) else Nx H3) := by
  refine ⟨fun i m H => m = l.length - i ∧ i ≤ l.length ∧ Pv i H, ⟨l.length, by simp, Nat.zero_le _, h0⟩, ?_⟩
  rintro i m H ⟨rfl, hi, p⟩
  by_cases hlt : i < l.length
  · refine .inr ⟨by show i < (S l).cps.size; rw [S_size]; exact hlt, Pv (i + 1), fun H' p' => ⟨l.length - (i + 1), by omega, rfl, hlt, p'⟩, fun x H' y => ?_⟩
    obtain ⟨e, c, hc, rfl⟩ := y
    subst e
    rw [S_get] at hc
    exact hs i c _ hc p
  · have e : i = l.length := by omega
    subst e
    exact .inl ⟨by show (S l).cps.size ≤ l.length; rw [S_size]; exact Nat.le_refl _, hd H p⟩
/-- a def whose code object is told -/
theorem okC {P : Program} {w : World} {K : PySem.W.Frag} {mg : Str → Option Value} {base : Heap} {x qual : Str} {st : Stmt} {f c : Addr} {fd : FuncData} {N ps : List Str} {k : Nat} {sp : Sp} (F : Fun K x qual st f fd) (hc : fd.code = .ref c) (S : FnScope N ps (defScope st)) (len : ∀ vs H Q E, sp vs H Q E → vs.length = ps.length)
    (body : ∀ (A : Around) (outer : List Env) (s : Shared) (H : Hp) (vs : List V) (Q : VK) (E : XK), Room k (A.deeper (PyProof.Rows.envOfC qual (defScope st) s.heap.objs.size f (.ref c))) → sp vs H Q E →
      ∃ t, PSs (cxOf CX0 P w K mg base N qual (defScope st) f (.ref c) A outer s H E).nox (defBody st) t ∧ t { nx := fun _ H' => Q .non H', rt := Q } (start N vs) H) : FnOk P w K mg base CX0 (k + 1) f fd ps sp := by
  obtain ⟨_, _, _, _, _, _, cdv, _, _, rfl, lk, hcd⟩ := F.ex
  have e : cdv = .ref c := hc
  subst e
  refine fn_of lk hcd S len fun A outer s H vs Q E hr h => ?_
  obtain ⟨t, a, b⟩ := body A outer s H vs Q E hr h
  exact ⟨t, a.nox, b⟩
def top (i : Nat) : Stmt := PySem.Challenge.pw_ropedance_k03_dances.main.body.getD i (.Pass ⟨0, 0, 0, 0⟩)
abbrev s_after : Stmt := top 1
theorem sc_after : FnScope ["fraction", "dance", "p", "q", "letter"] ["fraction", "dance"] (defScope s_after) := ⟨rfl, rfl, rfl, by decide +kernel, rfl, by decide +kernel, by decide +kernel⟩
abbrev s_turned : Stmt := top 2
theorem sc_turned : FnScope ["p", "q"] ["p", "q"] (defScope s_turned) := ⟨rfl, rfl, rfl, by decide +kernel, rfl, by decide +kernel, by decide +kernel⟩
abbrev s_is_dance : Stmt := top 5
theorem sc_is_dance : FnScope ["text"] ["text"] (defScope s_is_dance) := ⟨rfl, rfl, rfl, by decide +kernel, rfl, by decide +kernel, by decide +kernel⟩
abbrev s_number : Stmt := top 6
theorem sc_number : FnScope ["dance"] ["dance"] (defScope s_number) := ⟨rfl, rfl, rfl, by decide +kernel, rfl, by decide +kernel, by decide +kernel⟩
abbrev s_backward : Stmt := top 7
theorem sc_backward : FnScope ["dance"] ["dance"] (defScope s_backward) := ⟨rfl, rfl, rfl, by decide +kernel, rfl, by decide +kernel, by decide +kernel⟩
abbrev s_mirrored : Stmt := top 8
theorem sc_mirrored : FnScope ["dance", "letter"] ["dance"] (defScope s_mirrored) := ⟨rfl, rfl, rfl, by decide +kernel, rfl, by decide +kernel, by decide +kernel⟩
abbrev s_law_tape : Stmt := top 10
theorem sc_law_tape : FnScope ["script", "k", "cell"] ["script", "k"] (defScope s_law_tape) := ⟨rfl, rfl, rfl, by decide +kernel, rfl, by decide +kernel, by decide +kernel⟩
abbrev s_law_take : Stmt := top 11
theorem sc_law_take : FnScope ["tape", "many", "got", "mixed"] ["tape", "many"] (defScope s_law_take) := ⟨rfl, rfl, rfl, by decide +kernel, rfl, by decide +kernel, by decide +kernel⟩
abbrev s_law_dance : Stmt := top 12
theorem sc_law_dance : FnScope ["tape", "most", "dance", "size", "k"] ["tape", "most"] (defScope s_law_dance) := ⟨rfl, rfl, rfl, by decide +kernel, rfl, by decide +kernel, by decide +kernel⟩
abbrev s_law_called : Stmt := top 13
theorem sc_law_called : FnScope ["value", "letter", "p", "q"] ["value", "letter"] (defScope s_law_called) := ⟨rfl, rfl, rfl, by decide +kernel, rfl, by decide +kernel, by decide +kernel⟩
abbrev s_law_number : Stmt := top 14
theorem sc_law_number : FnScope ["dance", "value", "letter"] ["dance"] (defScope s_law_number) := ⟨rfl, rfl, rfl, by decide +kernel, rfl, by decide +kernel, by decide +kernel⟩
abbrev s_law_same : Stmt := top 15
theorem sc_law_same : FnScope ["told", "due", "k"] ["told", "due"] (defScope s_law_same) := ⟨rfl, rfl, rfl, by decide +kernel, rfl, by decide +kernel, by decide +kernel⟩
abbrev s_law_says : Stmt := top 16
theorem sc_law_says : FnScope ["told", "due"] ["told", "due"] (defScope s_law_says) := ⟨rfl, rfl, rfl, by decide +kernel, rfl, by decide +kernel, by decide +kernel⟩
abbrev s_law_divisor : Stmt := top 17
theorem sc_law_divisor : FnScope ["one", "other"] ["one", "other"] (defScope s_law_divisor) := ⟨rfl, rfl, rfl, by decide +kernel, rfl, by decide +kernel, by decide +kernel⟩
abbrev s_law_integer : Stmt := top 18
theorem sc_law_integer : FnScope ["tape", "size", "whole", "k"] ["tape"] (defScope s_law_integer) := ⟨rfl, rfl, rfl, by decide +kernel, rfl, by decide +kernel, by decide +kernel⟩
abbrev s_law_fraction : Stmt := top 19
theorem sc_law_fraction : FnScope ["tape", "choice", "p", "q", "divisor"] ["tape"] (defScope s_law_fraction) := ⟨rfl, rfl, rfl, by decide +kernel, rfl, by decide +kernel, by decide +kernel⟩
abbrev s_law_turned : Stmt := top 20
theorem sc_law_turned : FnScope ["dance", "letter"] ["dance"] (defScope s_law_turned) := ⟨rfl, rfl, rfl, by decide +kernel, rfl, by decide +kernel, by decide +kernel⟩
abbrev s_law_opposite : Stmt := top 21
theorem sc_law_opposite : FnScope ["value"] ["value"] (defScope s_law_opposite) := ⟨rfl, rfl, rfl, by decide +kernel, rfl, by decide +kernel, by decide +kernel⟩
abbrev s_law_spoilt : Stmt := top 22
theorem sc_law_spoilt : FnScope ["tape", "dance", "chars", "char", "spot"] ["tape", "dance"] (defScope s_law_spoilt) := ⟨rfl, rfl, rfl, by decide +kernel, rfl, by decide +kernel, by decide +kernel⟩
abbrev s_law_long_dance : Stmt := top 23
theorem sc_law_long_dance : FnScope ["tape", "k"] ["tape", "k"] (defScope s_law_long_dance) := ⟨rfl, rfl, rfl, by decide +kernel, rfl, by decide +kernel, by decide +kernel⟩
abbrev s_law : Stmt := top 24
theorem sc_law : FnScope ["script", "k", "tape", "dance", "odd", "text", "turned_v", "back", "value", "char", "j"] ["script"] (defScope s_law) := ⟨rfl, rfl, rfl, by decide +kernel, rfl, by decide +kernel, by decide +kernel⟩
/-! ### heaps, tapes, pairs -/
/-- all that was tracked is as it was, but what stands at a -/
def But (a : Addr) (H H' : Hp) : Prop := ∀ b o, b ≠ a → H b = some o → H' b = some o
theorem But.refl (a : Addr) (H : Hp) : But a H H := fun _ _ _ h => h
theorem But.trans {a : Addr} {H H1 H2 : Hp} (x : But a H H1) (y : But a H1 H2) : But a H H2 := fun b o n h => y b o n (x b o n h)
theorem But.of {a : Addr} {H H' : Hp} (x : Same H H') : But a H H' := fun b o _ h => x b o h
theorem But.upd {a : Addr} {H : Hp} {o : HO} : But a H (upd H a o) := fun b u n h => by rw [upd_ne n]; exact h
theorem But.same {a : Addr} {H0 H H' : Hp} (x : But a H H') (s : Same H0 H) (n : H0 a = none) : Same H0 H' := fun b o h => x b o (ne_of_none h n) (s b o h)
theorem same_new {H : Hp} {p : Addr} (h : H p = none) (o : HO) : Same H (L2.upd H p o) := fun b u q => by rw [upd_ne (ne_of_none q h)]; exact q
theorem Same.tup {K : PySem.W.Frag} {H H' : Hp} {a : Addr} {xs : List V} (e : Same H H') (h : SqT K H a xs) : SqT K H' a xs := by
  rcases h with (h | ⟨o, h⟩) | h
  · exact .inl (.inl (e _ _ h))
  · exact .inl (.inr ⟨o, e _ _ h⟩)
  · exact .inr h
def Tape (H : Hp) (a : Addr) : Prop := ∃ (t c s : Int) (b : Bool), H a = some (.lst [.int t, .bl b, .int c, .int s])
theorem Tape.same {H H' : Hp} {a : Addr} (t : Tape H a) (s : Same H H') : Tape H' a := by
  obtain ⟨x, c, y, b, h⟩ := t
  exact ⟨x, c, y, b, s _ _ h⟩
theorem Tape.ne {H : Hp} {a p : Addr} (t : Tape H a) (h : H p = none) : p ≠ a := by
  obtain ⟨x, c, y, b, e⟩ := t
  exact fun z => by rw [z, e] at h; cases h
theorem But.tup {K : PySem.W.Frag} {a : Addr} {H H' : Hp} {p : Addr} {xs : List V} (x : But a H H') (t : Tape H a) (h : SqT K H p xs) : SqT K H' p xs := by
  obtain ⟨y, c, z, b, e⟩ := t
  rcases h with (h | ⟨o, h⟩) | h
  · exact .inl (.inl (x _ _ (ne_of h e (by intro q; cases q)) h))
  · exact .inl (.inr ⟨o, x _ _ (ne_of h e (by intro q; cases q)) h⟩)
  · exact .inr h
/-- a dance: the letters T, U, R -/
def Lets (l : List Nat) : Prop := ∀ c ∈ l, c = 84 ∨ c = 85 ∨ c = 82
theorem atI_mk {α : Type} {xs : List α} {k : Int} (h0 : 0 ≤ k) (h1 : k < (xs.length : Int)) : ∃ v, atI xs k = some v ∧ v ∈ xs := by
  obtain ⟨n, rfl⟩ := Int.eq_ofNat_of_zero_le h0
  have h : n < xs.length := by omega
  exact ⟨xs[n], atI_nat (List.getElem?_eq_getElem h), List.getElem_mem h⟩
theorem atI_ints {ns : List Int} {k : Int} (h0 : 0 ≤ k) (h1 : k < (ns.length : Int)) : ∃ v : Int, atI (ns.map V.int) k = some (.int v) := by
  obtain ⟨v, e, m⟩ := atI_mk (xs := ns.map V.int) h0 (by rw [List.length_map]; exact h1)
  obtain ⟨i, _, rfl⟩ := List.mem_map.mp m
  exact ⟨i, e⟩
/-! ### a def of the text with its promise, ready to be called -/
structure Dfn (P : Program) (w : World) (K : PySem.W.Frag) (mg : Str → Option Value) (base : Heap) (x : Str) (k : Nat) (ps : List Str) (sp : Sp) : Prop where
  ex : ∃ (f : Addr) (fd : FuncData), FnOk P w K mg base CX0 k f fd ps sp ∧ mg x = some (.ref f) ∧ PySem.W.keepIn K (.ref f) = true ∧ Binds K fd ps []
theorem pe_do {X : Cx} {x : Str} {j : Nat} {ps : List Str} {sp : Sp} {e : Expr} {es : List Expr} {t : TA} {p pos : Pos} (D : Dfn X.prog X.w X.K X.mg X.base x j ps sp) (hr : Room j X.A)
    (ha : PA X (e :: es) t) (hg : Gl X x := by rfl) (hdb : (x == ("__debug__" : Str)) = false := by decide) (he : starEach (e :: es) X.env = (false, eval e X.env) :: starEach es X.env := by rfl) (hpl : (backTo pos (starEach es X.env)).any (·.1) = false := by rfl) :
    PE X (.Call (.Name x p) (e :: es) [] pos) (tCall sp [] E0 t) := by
  obtain ⟨f, fd, ok, mg, kp, bd⟩ := D.ex
  exact pe_call ok hr hg mg kp bd .nil pass0 ha hdb he hpl
theorem Dfn.mono {P : Program} {w : World} {K : PySem.W.Frag} {mg : Str → Option Value} {base : Heap} {x : Str} {j k : Nat} {ps : List Str} {sp : Sp} (D : Dfn P w K mg base x j ps sp) (h : j ≤ k) : Dfn P w K mg base x k ps sp := by
  obtain ⟨f, fd, ok, mg, kp, bd⟩ := D.ex
  exact ⟨f, fd, ok.mono h, mg, kp, bd⟩
section
variable {P : Program} {w : World} {K : PySem.W.Frag} {mg : Str → Option Value} {base : Heap} {f : Addr} {fd : FuncData}
/-! ### the tape of a law -/
def spTape (K : PySem.W.Frag) : Sp := fun vs H Q _ => ∃ (a : Addr) (ns : List Int) (k : Int), vs = [.ref a, .int k] ∧ SqL K H a (ns.map V.int) ∧ 0 ≤ k ∧ ∀ p H', Same H H' → H p = none → Tape H' p → Q (.ref p) H'
theorem ok_tape (F : Fun K "_law_tape" "_law_tape" s_law_tape f fd) (ml : mg "len" = none) (ma : mg "abs" = none) (mi : mg "int" = none) : FnOk P w K mg base CX0 1 f fd ["script", "k"] (spTape K) := by
  refine F.ok sc_law_tape (fun vs H Q E h => ?_) (fun cdv A outer s H vs Q E hr h => ?_)
  · obtain ⟨a, ns, k, rfl, _⟩ := h
    rfl
  obtain ⟨a, ns, k, rfl, hS, hk, q⟩ := h
  refine ⟨_, pss_cons (ps_set (i := 2) sc_law_tape.nd rfl (.inl rfl) pe_int)
    (pss_cons (ps_if (pt_cmpR op_lt (pv 1) (pe_callB call_len_seq rfl ml PySem.boot_len (pa_cons (pv 0) pa_nil)) (nomark _))
        (pss_one (ps_set (i := 2) sc_law_tape.nd rfl (.inl rfl) (pe_callB call_abs rfl ma (by decide +kernel) (pa_cons (pe_ix ix_list (pv 0) (pv 1) (fun _ _ => rfl)) pa_nil)))) pss_nil)
    (pss_one (ps_ret (pe_lst (pa_cons (pv 2) (pa_cons (pe_cmpR op_ge (pv 2) (pe_op op_pow pe_int pe_int) (nomark _)) (pa_cons pe_int
      (pa_cons (pe_op op_modN (pe_callTy call_int1 rfl mi (by decide +kernel) (pa_cons (pe_op op_add (pe_op op_mul (pv 2) pe_int) (pv 1)) pa_nil)) pe_int) pa_nil)))))))), ?_⟩
  refine ⟨_, rfl, _, rfl, a, _, rfl, .inl hS, _, _, rfl, rfl, _, rfl, ?_⟩
  refine ite2 (fun c => ?_) (fun c => ?_)
  · have c' : k < (((ns.map V.int).length : Nat) : Int) := of_decide_eq_true c
    rw [List.length_map] at c'
    obtain ⟨v, hv⟩ := atI_ints hk c'
    refine ⟨_, rfl, _, rfl, a, _, _, _, rfl, rfl, hS, hv, _, rfl, ?_⟩
    refine ⟨_, rfl, _, rfl, _, _, rfl, rfl, ⟨by decide, by decide, by decide⟩, _, _, rfl, rfl, _, rfl, _, _, rfl, rfl, .inr ⟨by decide, by decide⟩, _, rfl, _, _, rfl, rfl, .inl ⟨_, rfl, _, _, rfl, rfl, (show (2147483647 : Int) ≠ 0 by decide), ?_⟩⟩
    exact ⟨(by show 4 ≤ sizeLine; decide), fun p hp => q p _ (same_new hp _) hp ⟨_, _, _, _, upd_same⟩⟩
  · refine ⟨_, rfl, _, rfl, _, _, rfl, rfl, ⟨by decide, by decide, by decide⟩, _, _, rfl, rfl, _, rfl, _, _, rfl, rfl, .inr ⟨by decide, by decide⟩, _, rfl, _, _, rfl, rfl, .inl ⟨_, rfl, _, _, rfl, rfl, (show (2147483647 : Int) ≠ 0 by decide), ?_⟩⟩
    exact ⟨(by show 4 ≤ sizeLine; decide), fun p hp => q p _ (same_new hp _) hp ⟨_, _, _, _, upd_same⟩⟩
def spTake : Sp := fun vs H Q _ => ∃ (a : Addr) (m : Int), vs = [.ref a, .int m] ∧ Tape H a ∧ 0 < m ∧ m < 1073741824 ∧ ∀ r H', 0 ≤ r → r < m → But a H H' → Tape H' a → Q (.int r) H'
theorem ok_take (F : Fun K "_law_take" "_law_take" s_law_take f fd) (mi : mg "int" = none) : FnOk P w K mg base CX0 1 f fd ["tape", "many"] spTake := by
  refine F.ok sc_law_take (fun vs H Q E h => ?_) (fun cdv A outer s H vs Q E hr h => ?_)
  · obtain ⟨a, m, rfl, _⟩ := h
    rfl
  obtain ⟨a, m, rfl, ⟨t, c, sd, b, hT⟩, h0, h1, q⟩ := h
  refine ⟨_, pss_cons (ps_if (PW.pt (pw_and (pt_val (pe_ix ix_list (pv 0) pe_int (fun _ _ => rfl))) (pw_and1 (pt_cmpR op_gt (pe_ix ix_list (pv 0) pe_int (fun _ _ => rfl)) pe_int (nomark _)))))
      (pss_cons (ps_set (i := 2) sc_law_take.nd rfl (.inl rfl) (pe_op op_modN (pe_callTy call_int1 rfl mi (by decide +kernel) (pa_cons (pe_ix ix_list (pv 0) pe_int (fun _ _ => rfl)) pa_nil)) (pv 1)))
      (pss_cons (ps_asg (pe_op op_fdivN (pe_ix ix_list (pv 0) pe_int (fun _ _ => rfl)) (pv 1)) (pg_sub (pv 0) pe_int set_list))
      (pss_one (ps_ret (pv 2))))) pss_nil)
    (pss_cons (ps_asg (pe_op op_add (pe_ix ix_list (pv 0) pe_int (fun _ _ => rfl)) pe_int) (pg_sub (pv 0) pe_int set_list))
    (pss_cons (ps_set (i := 3) sc_law_take.nd rfl (.inl rfl) (pe_op op_modN (pe_callTy call_int1 rfl mi (by decide +kernel) (pa_cons (pe_op op_add (pe_op op_add (pe_op op_mul (pe_ix ix_list (pv 0) pe_int (fun _ _ => rfl)) pe_int) (pe_op op_mul (pe_ix ix_list (pv 0) pe_int (fun _ _ => rfl)) pe_int)) pe_int) pa_nil)) pe_int))
    (pss_cons (ps_set (i := 3) sc_law_take.nd rfl (.inl rfl) (pe_op op_modN (pe_callTy call_int1 rfl mi (by decide +kernel) (pa_cons (pe_op op_add (pe_op op_add (pe_op op_mul (pv 3) pe_int) (pe_op op_mul (pe_op op_fdivN (pv 3) pe_int) pe_int)) (pe_ix ix_list (pv 0) pe_int (fun _ _ => rfl))) pa_nil)) pe_int))
    (pss_one (ps_ret (pe_op op_modN (pe_callTy call_int1 rfl mi (by decide +kernel) (pa_cons (pe_op op_fdivN (pv 3) pe_int) pa_nil)) (pv 1))))))), ?_⟩
  have rest : ∀ x : Int, 0 ≤ x.fmod m ∧ x.fmod m < m := fun x => by
    rw [Int.fmod_eq_emod_of_nonneg x (Int.le_of_lt h0)]
    exact ⟨Int.emod_nonneg x (by omega), Int.emod_lt_of_pos x h0⟩
  refine ⟨_, rfl, a, _, _, _, rfl, rfl, SqL.of hT, rfl, b, rfl, ?_⟩
  refine ite2 (fun hb => ?_) (fun hb => ?_)
  · refine ⟨_, rfl, a, _, _, _, rfl, rfl, SqL.of hT, rfl, _, _, rfl, rfl, _, rfl, ?_⟩
    refine ite2 (fun hc => ?_) (fun hc => ?_)
    · refine ⟨_, rfl, a, _, _, _, rfl, rfl, SqL.of hT, rfl, .inl ⟨_, rfl, _, rfl, _, _, rfl, rfl, (show m ≠ 0 by omega), ?_⟩⟩
      refine ⟨_, rfl, a, _, _, _, rfl, rfl, SqL.of hT, rfl, _, rfl, _, _, rfl, rfl, (show m ≠ 0 ∧ m.natAbs < 1073741824 by omega), _, rfl, a, _, _, _, rfl, rfl, hT, rfl, ?_⟩
      exact ⟨_, rfl, q _ _ (rest _).1 (rest _).2 But.upd ⟨_, _, _, _, upd_same⟩⟩
    · refine ⟨_, rfl, a, _, _, _, rfl, rfl, SqL.of hT, rfl, _, _, rfl, rfl, _, rfl, a, _, _, _, rfl, rfl, hT, rfl, ?_⟩
      refine ⟨_, rfl, a, _, _, _, rfl, rfl, SqL.of upd_same, rfl, _, _, rfl, rfl, .inr ⟨by decide, by decide⟩, _, rfl, a, _, _, _, rfl, rfl, SqL.of upd_same, rfl, _, _, rfl, rfl, .inr ⟨by decide, by decide⟩, _, _, rfl, rfl, _, _, rfl, rfl, .inl ⟨_, rfl, _, _, rfl, rfl, (show (2147483647 : Int) ≠ 0 by decide), ?_⟩⟩
      refine ⟨_, rfl, _, _, rfl, rfl, .inr ⟨by decide, by decide⟩, _, rfl, _, _, rfl, rfl, ⟨by decide, by decide⟩, _, _, rfl, rfl, .inr ⟨by decide, by decide⟩, _, _, rfl, rfl, _, rfl, a, _, _, _, rfl, rfl, SqL.of upd_same, rfl, _, _, rfl, rfl, .inl ⟨_, rfl, _, _, rfl, rfl, (show (2147483399 : Int) ≠ 0 by decide), ?_⟩⟩
      exact ⟨_, rfl, _, _, rfl, rfl, ⟨by decide, by decide⟩, .inl ⟨_, rfl, _, rfl, _, _, rfl, rfl, (show m ≠ 0 by omega), q _ _ (rest _).1 (rest _).2 But.upd ⟨_, _, _, _, upd_same⟩⟩⟩
  · refine ⟨_, rfl, a, _, _, _, rfl, rfl, SqL.of hT, rfl, _, _, rfl, rfl, _, rfl, a, _, _, _, rfl, rfl, hT, rfl, ?_⟩
    refine ⟨_, rfl, a, _, _, _, rfl, rfl, SqL.of upd_same, rfl, _, _, rfl, rfl, .inr ⟨by decide, by decide⟩, _, rfl, a, _, _, _, rfl, rfl, SqL.of upd_same, rfl, _, _, rfl, rfl, .inr ⟨by decide, by decide⟩, _, _, rfl, rfl, _, _, rfl, rfl, .inl ⟨_, rfl, _, _, rfl, rfl, (show (2147483647 : Int) ≠ 0 by decide), ?_⟩⟩
    refine ⟨_, rfl, _, _, rfl, rfl, .inr ⟨by decide, by decide⟩, _, rfl, _, _, rfl, rfl, ⟨by decide, by decide⟩, _, _, rfl, rfl, .inr ⟨by decide, by decide⟩, _, _, rfl, rfl, _, rfl, a, _, _, _, rfl, rfl, SqL.of upd_same, rfl, _, _, rfl, rfl, .inl ⟨_, rfl, _, _, rfl, rfl, (show (2147483399 : Int) ≠ 0 by decide), ?_⟩⟩
    exact ⟨_, rfl, _, _, rfl, rfl, ⟨by decide, by decide⟩, .inl ⟨_, rfl, _, rfl, _, _, rfl, rfl, (show m ≠ 0 by omega), q _ _ (rest _).1 (rest _).2 But.upd ⟨_, _, _, _, upd_same⟩⟩⟩
/-! ### dances, fractions -/
theorem six_letters {r : Int} (h0 : 0 ≤ r) (h1 : r < 6) : ∃ c, atI (("TTUURR" : Str)).cps.toList r = some c ∧ (c = 84 ∨ c = 85 ∨ c = 82) := by
  have e : (("TTUURR" : Str)).cps.toList = [84, 84, 85, 85, 82, 82] := by decide +kernel
  rw [e]
  obtain ⟨c, hc, m⟩ := atI_mk (xs := [84, 84, 85, 85, 82, 82]) h0 h1
  refine ⟨c, hc, ?_⟩
  simp at m
  omega
theorem four_sizes {r : Int} (h0 : 0 ≤ r) (h1 : r < 4) : ∃ z : Int, atI [V.int 1, .int 1, .int 3, .int 9] r = some (.int z) ∧ 1 ≤ z ∧ z ≤ 9 := by
  obtain ⟨c, hc, m⟩ := atI_mk (xs := [V.int 1, .int 1, .int 3, .int 9]) h0 h1
  simp at m
  rcases m with rfl | rfl | rfl
  · exact ⟨1, hc, by decide, by decide⟩
  · exact ⟨3, hc, by decide, by decide⟩
  · exact ⟨9, hc, by decide, by decide⟩
theorem e_empty : (("" : Str)) = S [] := by decide +kernel
theorem sizeLine_big : 16777216 ≤ sizeLine := by rw [sizeLine_eq]; decide
theorem fits {n : Nat} (h : n ≤ 16777216) : n ≤ sizeLine := Nat.le_trans h sizeLine_big
def spDance : Sp := fun vs H Q _ => ∃ (a : Addr) (m : Int), vs = [.ref a, .int m] ∧ Tape H a ∧ 0 ≤ m ∧ m ≤ 1000 ∧ ∀ l H', Lets l → (l.length : Int) ≤ m → But a H H' → Tape H' a → Q (.str (S l)) H'
theorem ok_dance (F : Fun K "_law_dance" "_law_dance" s_law_dance f fd) (DT : Dfn P w K mg base "_law_take" 1 ["tape", "many"] spTake) (mr : mg "range" = none) : FnOk P w K mg base CX0 2 f fd ["tape", "most"] spDance := by
  refine F.ok sc_law_dance (fun vs H Q E h => ?_) (fun cdv A outer s H vs Q E hr h => ?_)
  · obtain ⟨a, m, rfl, _⟩ := h
    rfl
  obtain ⟨a, m, rfl, hT, h0, h1, q⟩ := h
  refine ⟨_, pss_cons (ps_set (i := 2) sc_law_dance.nd rfl (.inl rfl) pe_str)
    (pss_cons (ps_set (i := 3) sc_law_dance.nd rfl (.inl rfl) (pe_ix ix_list (pe_lst (pa_cons pe_int (pa_cons pe_int (pa_cons pe_int (pa_cons pe_int pa_nil))))) (pe_do DT hr (pa_cons (pv 0) (pa_cons pe_int pa_nil))) (fun _ _ => rfl)))
    (pss_cons (ps_for PassesOwn.never rfl (pi_range1 rfl mr (pa_cons (pe_do DT hr (pa_cons (pv 0) (pa_cons (pe_op op_add (pv 1) pe_int) pa_nil))) pa_nil)) (pg_name (i := 4) sc_law_dance.nd rfl (.inl rfl))
      (pss_one (ps_set (i := 2) sc_law_dance.nd rfl (.inl rfl) (pe_op op_add_str (pv 2) (pe_op op_mul_str (pe_ix ix_str pe_str (pe_do DT hr (pa_cons (pv 0) (pa_cons pe_int pa_nil))) (fun _ _ => rfl))
        (pe_op op_add pe_int (pe_do DT hr (pa_cons (pv 0) (pa_cons (pv 3) pa_nil)))))))))
    (pss_one (ps_ret (pe_slice sl_str (pv 2) po_none (po_some (pv 1))))))), ?_⟩
  refine ⟨(by show 4 ≤ sizeLine; exact fits (by decide)), fun p hp => ?_⟩
  have np := hT.ne hp
  refine ⟨_, rfl, a, 4, rfl, hT.same (same_new hp _), by decide, by decide, fun r H1 r0 r1 b1 t1 => ?_⟩
  obtain ⟨z, hz, z1, z9⟩ := four_sizes r0 r1
  refine ⟨p, _, _, _, rfl, rfl, SqL.of (b1 _ _ np upd_same), hz, ?_⟩
  have B1 : But a H H1 := (But.of (same_new hp _)).trans b1
  refine ⟨_, rfl, _, rfl, _, _, rfl, rfl, a, _, rfl, t1, (show 0 < m + 1 by omega), (show m + 1 < 1073741824 by omega), fun r2 H2 r20 r21 b2 t2 => ?_⟩
  refine ⟨r2, rfl, by omega, by omega, for_range (lo := 0) (n := r2.toNat) (fun i σ H' => ∃ (l : List Nat) (v : Option V), σ = [some (.ref a), some (.int m), some (.str (S l)), some (.int z), v] ∧ Lets l ∧ l.length ≤ 9 * i ∧ But a H H' ∧ Tape H' a) ?_ ?_ ?_⟩
  · exact ⟨[], none, by rw [← e_empty]; rfl, fun _ h => (by cases h), Nat.zero_le _, B1.trans b2, t2⟩
  · rintro i σ H' hi ⟨l, v, rfl, hl, hz2, bt, tp⟩
    refine ⟨_, rfl, _, rfl, a, 6, rfl, tp, by decide, by decide, fun r3 H3 r30 r31 b3 t3 => ?_⟩
    obtain ⟨c, hc, hcl⟩ := six_letters r30 r31
    refine ⟨_, _, c, rfl, rfl, (fits (by decide +kernel)), hc, _, rfl, _, rfl, a, z, rfl, t3, by omega, by omega, fun r4 H4 r40 r41 b4 t4 => ?_⟩
    have hn : (1 + r4).toNat ≤ 9 := by omega
    refine ⟨_, _, rfl, rfl, [c], 1 + r4, rfl, rfl, by omega, by omega, by simp only [List.length_singleton]; omega, _, _, rfl, rfl, ?_, ?_⟩
    · rw [S_len, S_len]
      refine fits ?_
      rw [List.length_flatten, List.map_replicate, List.sum_replicate_nat]
      simp only [List.length_singleton]
      omega
    · refine ⟨l ++ (List.replicate (1 + r4).toNat [c]).flatten, _, by rw [S_app]; rfl, fun x hx => ?_, ?_, (bt.trans b3).trans b4, t4⟩
      · rcases List.mem_append.mp hx with hx | hx
        · exact hl x hx
        · obtain ⟨y, hy, hxy⟩ := List.mem_flatten.mp hx
          rw [(List.mem_replicate.mp hy).2] at hxy
          rw [List.mem_singleton.mp hxy]
          exact hcl
      · rw [List.length_append, List.length_flatten, List.map_replicate, List.sum_replicate_nat]
        simp only [List.length_singleton]
        omega
  · rintro σ H' ⟨l, v, rfl, hl, hz2, bt, tp⟩
    refine ⟨_, rfl, _, rfl, _, rfl, _, rfl, (by rw [S_len]; exact fits (by omega)), ?_⟩
    rw [S_take l h0]
    refine q _ _ (fun x hx => hl x (List.mem_of_mem_take hx)) ?_ bt tp
    rw [List.length_take]
    omega
end
section
variable {P : Program} {w : World} {K : PySem.W.Frag} {mg : Str → Option Value} {base : Heap} {f : Addr} {fd : FuncData}
theorem sign_eq {c n : Nat} {z : Str} (e : z = S [n]) : (V.str (S [c]) = V.str z) ↔ c = n := by
  subst e
  constructor
  · intro h
    have := S_inj (V.str.inj h)
    simpa using this
  · rintro rfl; rfl
theorem e_T : (("T" : Str)) = S [84] := by decide +kernel
theorem e_U : (("U" : Str)) = S [85] := by decide +kernel
theorem e_R : (("R" : Str)) = S [82] := by decide +kernel
def Tup2 (H : Hp) (t : Addr) (v : Int × Int) : Prop := H t = some (.tup [.int v.1, .int v.2])
def spCalled (K : PySem.W.Frag) : Sp := fun vs H Q _ => ∃ (t : Addr) (v : Int × Int) (c : Nat), vs = [.ref t, .str (S [c])] ∧ Tup2 H t v ∧ ∀ t' H', Same H H' → Tup2 H' t' (called v c) → Q (.ref t') H'
theorem ok_called (F : Fun K "_law_called" "_law_called" s_law_called f fd) : FnOk P w K mg base CX0 1 f fd ["value", "letter"] (spCalled K) := by
  refine F.ok sc_law_called (fun vs H Q E h => ?_) (fun cdv A outer s H vs Q E hr h => ?_)
  · obtain ⟨a, m, c, rfl, _⟩ := h
    rfl
  obtain ⟨t, ⟨p, q'⟩, c, rfl, hT, q⟩ := h
  refine ⟨_, pss_cons (ps_asg (pv 0) (pg_tup (by rfl) (pgs_cons (pg_name (i := 2) sc_law_called.nd rfl (.inl rfl)) (pgs_cons (pg_name (i := 3) sc_law_called.nd rfl (.inl rfl)) pgs_nil))))
    (pss_cons (ps_if (pt_cmpR op_eq (pv 1) pe_str (nomark _)) (pss_one (ps_ret (pe_tup (pa_cons (pe_op op_add (pv 2) (pv 3)) (pa_cons (pv 3) pa_nil))))) pss_nil)
    (pss_cons (ps_if (pt_cmpR op_eq (pv 1) pe_str (nomark _)) (pss_one (ps_ret (pe_tup (pa_cons (pe_op op_sub (pv 2) (pv 3)) (pa_cons (pv 3) pa_nil))))) pss_nil)
    (pss_cons (ps_if (pt_cmpR op_gt (pv 2) pe_int (nomark _)) (pss_one (ps_ret (pe_tup (pa_cons (pe_op op_sub pe_int (pv 3)) (pa_cons (pv 2) pa_nil))))) pss_nil)
    (pss_cons (ps_if (pt_cmpR op_lt (pv 2) pe_int (nomark _)) (pss_one (ps_ret (pe_tup (pa_cons (pv 3) (pa_cons (pe_op op_sub pe_int (pv 2)) pa_nil))))) pss_nil)
    (pss_one (ps_ret (pe_tup (pa_cons pe_int (pa_cons pe_int pa_nil))))))))), ?_⟩
  have two : 2 ≤ sizeLine := fits (by decide)
  refine ⟨_, rfl, t, _, rfl, SqT.of hT, rfl, _, _, rfl, _, _, rfl, rfl, ?_⟩
  refine ⟨_, rfl, rfl, _, rfl, ite2 (fun c1 => ?_) (fun c1 => ?_)⟩
  · have k1 : c = 84 := (sign_eq e_T).mp (of_decide_eq_true c1)
    refine ⟨_, rfl, _, rfl, _, _, rfl, rfl, _, rfl, two, fun n hn => q n _ (same_new hn _) ?_⟩
    unfold Tup2 called
    rw [upd_same, if_pos k1]
  have k1 : ¬ c = 84 := fun z => c1 (decide_eq_true ((sign_eq e_T).mpr z))
  refine ⟨_, rfl, rfl, _, rfl, ite2 (fun c2 => ?_) (fun c2 => ?_)⟩
  · have k2 : c = 85 := (sign_eq e_U).mp (of_decide_eq_true c2)
    refine ⟨_, rfl, _, rfl, _, _, rfl, rfl, _, rfl, two, fun n hn => q n _ (same_new hn _) ?_⟩
    unfold Tup2 called
    rw [upd_same, if_neg k1, if_pos k2]
  have k2 : ¬ c = 85 := fun z => c2 (decide_eq_true ((sign_eq e_U).mpr z))
  refine ⟨_, rfl, _, _, rfl, rfl, _, rfl, ite2 (fun c3 => ?_) (fun c3 => ?_)⟩
  · have k3 : 0 < p := of_decide_eq_true c3
    refine ⟨_, rfl, _, _, rfl, rfl, _, rfl, two, fun n hn => q n _ (same_new hn _) ?_⟩
    unfold Tup2 called
    rw [upd_same, if_neg k1, if_neg k2, if_pos k3]
  have k3 : ¬ 0 < p := fun z => c3 (decide_eq_true z)
  refine ⟨_, rfl, _, _, rfl, rfl, _, rfl, ite2 (fun c4 => ?_) (fun c4 => ?_)⟩
  · have k4 : p < 0 := of_decide_eq_true c4
    refine ⟨_, rfl, _, rfl, _, _, rfl, rfl, two, fun n hn => q n _ (same_new hn _) ?_⟩
    unfold Tup2 called
    rw [upd_same, if_neg k1, if_neg k2, if_neg k3, if_pos k4]
  have k4 : ¬ p < 0 := fun z => c4 (decide_eq_true z)
  refine ⟨two, fun n hn => q n _ (same_new hn _) ?_⟩
  unfold Tup2 called
  rw [upd_same, if_neg k1, if_neg k2, if_neg k3, if_neg k4]
theorem Tup2.same {H H' : Hp} {t : Addr} {v : Int × Int} (h : Tup2 H t v) (s : Same H H') : Tup2 H' t v := s _ _ h
theorem Tup2.but {H H' : Hp} {a t : Addr} {v : Int × Int} (h : Tup2 H t v) (s : But a H H') (tp : Tape H a) : Tup2 H' t v := by
  obtain ⟨y, c, z, b, e⟩ := tp
  exact s _ _ (ne_of h e (by intro q; cases q)) h
def spNumber (K : PySem.W.Frag) : Sp := fun vs H Q _ => ∃ l : List Nat, vs = [.str (S l)] ∧ ∀ t' H', Same H H' → Tup2 H' t' (run (0, 1) l) → Q (.ref t') H'
theorem ok_number (F : Fun K "_law_number" "_law_number" s_law_number f fd) (DC : Dfn P w K mg base "_law_called" 1 ["value", "letter"] (spCalled K)) : FnOk P w K mg base CX0 2 f fd ["dance"] (spNumber K) := by
  refine F.ok sc_law_number (fun vs H Q E h => ?_) (fun cdv A outer s H vs Q E hr h => ?_)
  · obtain ⟨l, rfl, _⟩ := h
    rfl
  obtain ⟨l, rfl, q⟩ := h
  refine ⟨_, pss_cons (ps_set (i := 1) sc_law_number.nd rfl (.inl rfl) (pe_tup (pa_cons pe_int (pa_cons pe_int pa_nil))))
    (pss_cons (ps_for PassesOwn.never rfl (pi_str (pv 0)) (pg_name (i := 2) sc_law_number.nd rfl (.inl rfl))
      (pss_one (ps_set (i := 1) sc_law_number.nd rfl (.inl rfl) (pe_do DC hr (pa_cons (pv 1) (pa_cons (pv 2) pa_nil))))))
    (pss_one (ps_ret (pv 1)))), ?_⟩
  refine ⟨fits (by decide), fun p hp => ?_⟩
  refine ⟨_, rfl, _, rfl, for_str (l := l) (fun i σ H' => ∃ (t : Addr) (v : Option V), σ = [some (.str (S l)), some (.ref t), v] ∧ Same H H' ∧ Tup2 H' t (run (0, 1) (l.take i))) ?_ ?_ ?_⟩
  · exact ⟨p, _, rfl, same_new hp _, upd_same⟩
  · rintro i c σ H' hc ⟨t, v, rfl, sm, tt⟩
    refine ⟨_, rfl, _, rfl, t, _, c, rfl, tt, fun t' H2 s2 tt2 => ?_⟩
    exact ⟨t', _, rfl, sm.trans s2, by rw [run_take _ hc]; exact tt2⟩
  · rintro σ H' ⟨t, v, rfl, sm, tt⟩
    rw [List.take_of_length_le (Nat.le_refl _)] at tt
    exact ⟨_, rfl, q t H' sm tt⟩
end
section
variable {P : Program} {w : World} {K : PySem.W.Frag} {mg : Str → Option Value} {base : Heap} {f : Addr} {fd : FuncData}
def spDivisor : Sp := fun vs H Q _ => ∃ x y : Int, vs = [.int x, .int y] ∧ Q (.int ((Nat.gcd x.natAbs y.natAbs : Nat) : Int)) H
theorem ok_divisor (F : Fun K "_law_divisor" "_law_divisor" s_law_divisor f fd) (ma : mg "abs" = none) (mi : mg "int" = none) : FnOk P w K mg base CX0 1 f fd ["one", "other"] spDivisor := by
  refine F.ok sc_law_divisor (fun vs H Q E h => ?_) (fun cdv A outer s H vs Q E hr h => ?_)
  · obtain ⟨x, y, rfl, _⟩ := h
    rfl
  obtain ⟨x, y, rfl, q⟩ := h
  refine ⟨_, pss_cons (ps_while PassesOwn.never (pt_cmpR op_ne (pv 1) pe_int (nomark _))
      (pss_one (ps_par (i := 0) (j := 1) (by rfl) sc_law_divisor.nd rfl rfl (by decide) rfl rfl (pa_cons (pv 1) (pa_cons (pe_op op_modN (pe_callTy call_int1 rfl mi (by decide +kernel) (pa_cons (pv 0) pa_nil)) (pv 1)) pa_nil)) (by rfl))))
    (pss_one (ps_ret (pe_callB call_abs rfl ma (by decide +kernel) (pa_cons (pv 0) pa_nil)))), ?_⟩
  refine while_by (fun σ H' => H' = H ∧ ∃ a b : Int, σ = [some (.int a), some (.int b)] ∧ Nat.gcd a.natAbs b.natAbs = Nat.gcd x.natAbs y.natAbs) (fun σ _ => match σ with | [_, some (.int b)] => b.natAbs | _ => 0) ⟨rfl, x, y, rfl, rfl⟩ ?_ ?_
  · rintro σ _ ⟨rfl, a, b, rfl, e⟩
    refine ⟨_, rfl, rfl, _, rfl, ite2 (fun c => ?_) (fun c => ?_)⟩
    · have hb : b ≠ 0 := fun z => by subst z; simp at c
      refine ⟨_, rfl, _, rfl, .inl ⟨_, rfl, _, rfl, _, _, rfl, rfl, hb, _, _, rfl, ⟨rfl, _, _, rfl, ?_⟩, ?_⟩⟩
      · rw [gcd_step]; exact e
      · exact fmod_less hb
    · have hb : b = 0 := Decidable.byContradiction fun z => c (by simp [z])
      subst hb
      refine ⟨_, rfl, _, rfl, ?_⟩
      rw [Int.natAbs_zero, Nat.gcd_zero_right] at e
      have e2 : (if a < 0 then -a else a) = ((Nat.gcd x.natAbs y.natAbs : Nat) : Int) := by
        rw [← e]
        split <;> omega
      rw [e2]
      exact q
  · rintro σ H' Q1 Q2 hm ⟨v, e, s, k, ek, q⟩
    exact ⟨v, e, s, k, ek, hm _ _ q⟩
end
section
variable {P : Program} {w : World} {K : PySem.W.Frag} {mg : Str → Option Value} {base : Heap} {f : Addr} {fd : FuncData}
def spInteger : Sp := fun vs H Q _ => ∃ (a : Addr), vs = [.ref a] ∧ Tape H a ∧ ∀ (z : Int) H', z.natAbs < 2 ^ 100 → But a H H' → Tape H' a → Q (.int z) H'
theorem five_sizes {r : Int} (h0 : 0 ≤ r) (h1 : r < 5) : ∃ z : Int, atI [V.int 3, .int 10, .int 1000, .int (10 ^ (12 : Int).toNat), .int (10 ^ (30 : Int).toNat)] r = some (.int z) ∧ 0 < z ∧ z < 2 ^ 100 := by
  obtain ⟨c, hc, m⟩ := atI_mk (xs := [V.int 3, .int 10, .int 1000, .int (10 ^ (12 : Int).toNat), .int (10 ^ (30 : Int).toNat)]) h0 h1
  simp only [List.mem_cons, List.not_mem_nil, or_false] at m
  rcases m with rfl | rfl | rfl | rfl | rfl
  · exact ⟨3, hc, by decide, by decide⟩
  · exact ⟨10, hc, by decide, by decide⟩
  · exact ⟨1000, hc, by decide, by decide⟩
  · exact ⟨_, hc, by decide, by decide⟩
  · exact ⟨_, hc, by decide, by decide⟩
theorem two_signs {r : Int} (h0 : 0 ≤ r) (h1 : r < 2) : ∃ z : Int, atI [V.int 1, .int (-1)] r = some (.int z) ∧ (z = 1 ∨ z = -1) := by
  obtain ⟨c, hc, m⟩ := atI_mk (xs := [V.int 1, .int (-1)]) h0 h1
  simp only [List.mem_cons, List.not_mem_nil, or_false] at m
  rcases m with rfl | rfl
  · exact ⟨1, hc, .inl rfl⟩
  · exact ⟨-1, hc, .inr rfl⟩
theorem ok_integer (F : Fun K "_law_integer" "_law_integer" s_law_integer f fd) (DT : Dfn P w K mg base "_law_take" 1 ["tape", "many"] spTake) (mr : mg "range" = none) (mi : mg "int" = none) : FnOk P w K mg base CX0 2 f fd ["tape"] spInteger := by
  refine F.ok sc_law_integer (fun vs H Q E h => ?_) (fun cdv A outer s H vs Q E hr h => ?_)
  · obtain ⟨a, rfl, _⟩ := h
    rfl
  obtain ⟨a, rfl, hT, q⟩ := h
  refine ⟨_, pss_cons (ps_set (i := 1) sc_law_integer.nd rfl (.inl rfl) (pe_ix ix_list (pe_lst (pa_cons pe_int (pa_cons pe_int (pa_cons pe_int (pa_cons (pe_op op_pow pe_int pe_int) (pa_cons (pe_op op_pow pe_int pe_int) pa_nil)))))) (pe_do DT hr (pa_cons (pv 0) (pa_cons pe_int pa_nil))) (fun _ _ => rfl)))
    (pss_cons (ps_set (i := 2) sc_law_integer.nd rfl (.inl rfl) pe_int)
    (pss_cons (ps_for PassesOwn.never rfl (pi_range1 rfl mr (pa_cons pe_int pa_nil)) (pg_name (i := 3) sc_law_integer.nd rfl (.inl rfl))
      (pss_one (ps_set (i := 2) sc_law_integer.nd rfl (.inl rfl) (pe_op op_add (pe_op op_mul (pv 2) pe_int) (pe_do DT hr (pa_cons (pv 0) (pa_cons pe_int pa_nil)))))))
    (pss_one (ps_ret (pe_op op_mul (pe_op op_modN (pe_callTy call_int1 rfl mi (by decide +kernel) (pa_cons (pv 2) pa_nil)) (pv 1)) (pe_ix ix_list (pe_lst (pa_cons pe_int (pa_cons (pe_un un_neg pe_int) pa_nil))) (pe_do DT hr (pa_cons (pv 0) (pa_cons pe_int pa_nil))) (fun _ _ => rfl))))))), ?_⟩
  refine ⟨_, _, rfl, rfl, ⟨by decide, by decide, by decide⟩, _, _, rfl, rfl, ⟨by decide, by decide, by decide⟩, fits (by decide), fun p hp => ?_⟩
  have np := hT.ne hp
  refine ⟨_, rfl, a, 5, rfl, hT.same (same_new hp _), by decide, by decide, fun r H1 r0 r1 b1 t1 => ?_⟩
  obtain ⟨z, hz, z0, z1⟩ := five_sizes r0 r1
  refine ⟨p, _, _, _, rfl, rfl, SqL.of (b1 _ _ np upd_same), hz, ?_⟩
  have B1 : But a H H1 := (But.of (same_new hp _)).trans b1
  refine ⟨5, rfl, by decide, by decide, for_range (lo := 0) (n := 5) (fun i σ H' => ∃ (y : Int) (v : Option V), σ = [some (.ref a), some (.int z), some (.int y), v] ∧ But a H H' ∧ Tape H' a) ?_ ?_ ?_⟩
  · exact ⟨0, none, rfl, B1, t1⟩
  · rintro i σ H' hi ⟨y, v, rfl, bt, tp⟩
    refine ⟨_, rfl, _, _, rfl, rfl, .inr ⟨by decide, by decide⟩, _, rfl, a, 1000003, rfl, tp, by decide, by decide, fun r3 H3 r30 r31 b3 t3 => ?_⟩
    exact ⟨_, _, rfl, rfl, _, _, rfl, bt.trans b3, t3⟩
  · rintro σ H' ⟨y, v, rfl, bt, tp⟩
    refine ⟨_, rfl, .inl ⟨_, rfl, _, rfl, _, _, rfl, rfl, (show z ≠ 0 by omega), _, rfl, fits (by decide), fun p2 hp2 => ?_⟩⟩
    have np2 := tp.ne hp2
    refine ⟨_, rfl, a, 2, rfl, tp.same (same_new hp2 _), by decide, by decide, fun r4 H4 r40 r41 b4 t4 => ?_⟩
    obtain ⟨g, hg, g1⟩ := two_signs r40 r41
    refine ⟨p2, _, _, _, rfl, rfl, SqL.of (b4 _ _ np2 upd_same), hg, _, _, rfl, rfl, .inr ⟨by omega, by omega⟩, ?_⟩
    refine q _ _ ?_ ((bt.trans (But.of (same_new hp2 _))).trans b4) t4
    rw [Int.fmod_eq_emod_of_nonneg y (by omega)]
    have h1 := Int.emod_nonneg y (b := z) (by omega)
    have h2 := Int.emod_lt_of_pos y z0
    rw [Int.natAbs_mul]
    have h3 : g.natAbs = 1 := by rcases g1 with rfl | rfl <;> rfl
    rw [h3, Nat.mul_one]
    omega
end
section
variable {P : Program} {w : World} {K : PySem.W.Frag} {mg : Str → Option Value} {base : Heap} {f : Addr} {fd : FuncData}
/-- a law's fraction -/
structure Frac (v : Int × Int) : Prop where
  good : Good v
  s1 : v.1.natAbs < 2 ^ 101
  s2 : v.2.natAbs < 2 ^ 101
def spFraction : Sp := fun vs H Q _ => ∃ (a : Addr), vs = [.ref a] ∧ Tape H a ∧ ∀ (t : Addr) (v : Int × Int) H', Frac v → But a H H' → Tape H' a → Tup2 H' t v → Q (.ref t) H'
theorem frac_run {l : List Nat} (h : (l.length : Int) ≤ 40) : Frac (run (0, 1) l) := by
  have q := run_size l (v := (0, 1)) (n := 1) (by decide) (by decide) (Nat.le_refl _)
  have e : 2 ^ l.length * 1 < 2 ^ 101 := by
    rw [Nat.mul_one]
    exact Nat.pow_lt_pow_right (by decide) (by omega)
  exact ⟨good_run l Good.zero, Nat.lt_of_le_of_lt q.1 e, Nat.lt_of_le_of_lt q.2 e⟩
theorem frac_div {p q : Int} (hp : p.natAbs < 2 ^ 100) (hq : q.natAbs < 2 ^ 101) (h0 : 0 < q) : Frac (p / (Int.gcd p q : Int), q / (Int.gcd p q : Int)) := by
  have g0 : 0 < Int.gcd p q := Int.gcd_pos_of_ne_zero_right p (by omega)
  have a : ∀ (x : Int) (g : Nat), 0 < g → (x / (g : Int)).natAbs ≤ x.natAbs := fun x g hg => Int.natAbs_ediv_le_natAbs x g
  refine ⟨⟨.inl ?_, ?_⟩, Nat.lt_of_le_of_lt (a p _ g0) (by omega), Nat.lt_of_le_of_lt (a q _ g0) hq⟩
  · have := Int.gcd_dvd_right (a := p) (b := q)
    exact Int.ediv_pos_of_pos_of_dvd h0 (by omega) this
  · exact Int.gcd_ediv_gcd_ediv_gcd g0
theorem four_fracs (p1 p2 p3 p4 : Addr) {r : Int} (h0 : 0 ≤ r) (h1 : r < 4) : ∃ p, atI [V.ref p1, .ref p2, .ref p3, .ref p4] r = some (.ref p) ∧ (p = p1 ∨ p = p2 ∨ p = p3 ∨ p = p4) := by
  obtain ⟨c, hc, m⟩ := atI_mk (xs := [V.ref p1, .ref p2, .ref p3, .ref p4]) h0 h1
  simp only [List.mem_cons, List.not_mem_nil, or_false] at m
  rcases m with rfl | rfl | rfl | rfl
  · exact ⟨_, hc, .inl rfl⟩
  · exact ⟨_, hc, .inr (.inl rfl)⟩
  · exact ⟨_, hc, .inr (.inr (.inl rfl))⟩
  · exact ⟨_, hc, .inr (.inr (.inr rfl))⟩
theorem ok_fraction (F : Fun K "_law_fraction" "_law_fraction" s_law_fraction f fd) (DT : Dfn P w K mg base "_law_take" 1 ["tape", "many"] spTake) (DD : Dfn P w K mg base "_law_dance" 2 ["tape", "most"] spDance)
    (DN : Dfn P w K mg base "_law_number" 2 ["dance"] (spNumber K)) (DI : Dfn P w K mg base "_law_integer" 2 ["tape"] spInteger) (DV : Dfn P w K mg base "_law_divisor" 1 ["one", "other"] spDivisor) (ma : mg "abs" = none) : FnOk P w K mg base CX0 3 f fd ["tape"] spFraction := by
  refine F.ok sc_law_fraction (fun vs H Q E h => ?_) (fun cdv A outer s H vs Q E hr h => ?_)
  · obtain ⟨a, rfl, _⟩ := h
    rfl
  obtain ⟨a, rfl, hT, q⟩ := h
  have hr1 := hr.mono (show 1 ≤ 2 by decide)
  refine ⟨_, pss_cons (ps_set (i := 1) sc_law_fraction.nd rfl (.inl rfl) (pe_do DT hr1 (pa_cons (pv 0) (pa_cons pe_int pa_nil))))
    (pss_cons (ps_if (pt_cmpR op_eq (pv 1) pe_int (nomark _)) (pss_one (ps_ret (pe_ix ix_list (pe_lst (pa_cons (pe_tup (pa_cons pe_int (pa_cons pe_int pa_nil))) (pa_cons (pe_tup (pa_cons pe_int (pa_cons pe_int pa_nil))) (pa_cons (pe_tup (pa_cons pe_int (pa_cons pe_int pa_nil))) (pa_cons (pe_tup (pa_cons (pe_un un_neg pe_int) (pa_cons pe_int pa_nil))) pa_nil)))))
        (pe_do DT hr1 (pa_cons (pv 0) (pa_cons pe_int pa_nil))) (fun _ _ => rfl)))) pss_nil)
    (pss_cons (ps_if (pt_cmpR op_lt (pv 1) pe_int (nomark _)) (pss_one (ps_ret (pe_do DN hr (pa_cons (pe_do DD hr (pa_cons (pv 0) (pa_cons pe_int pa_nil))) pa_nil)))) pss_nil)
    (pss_cons (ps_set (i := 2) sc_law_fraction.nd rfl (.inl rfl) (pe_do DI hr (pa_cons (pv 0) pa_nil)))
    (pss_cons (ps_set (i := 3) sc_law_fraction.nd rfl (.inl rfl) (pe_op op_add (pe_callB call_abs rfl ma (by decide +kernel) (pa_cons (pe_do DI hr (pa_cons (pv 0) pa_nil)) pa_nil)) pe_int))
    (pss_cons (ps_set (i := 4) sc_law_fraction.nd rfl (.inl rfl) (pe_do DV hr1 (pa_cons (pv 2) (pa_cons (pv 3) pa_nil))))
    (pss_one (ps_ret (pe_tup (pa_cons (pe_op op_fdivW (pv 2) (pv 4)) (pa_cons (pe_op op_fdivW (pv 3) (pv 4)) pa_nil)))))))))), ?_⟩
  have two : 2 ≤ sizeLine := fits (by decide)
  refine ⟨_, rfl, a, 8, rfl, hT, by decide, by decide, fun r H1 r0 r1 b1 t1 => ?_⟩
  refine ⟨_, rfl, rfl, _, rfl, ite2 (fun c1 => ?_) (fun c1 => ?_)⟩
  · refine ⟨two, fun p1 n1 => ⟨two, fun p2 n2 => ⟨two, fun p3 n3 => ⟨_, rfl, two, fun p4 n4 => ⟨fits (by show 4 ≤ 16777216; decide), fun p5 n5 => ?_⟩⟩⟩⟩⟩
    generalize e1 : upd H1 p1 (.tup [.int 1, .int 0]) = G1 at *
    generalize e2 : upd G1 p2 (.tup [.int 0, .int 1]) = G2 at *
    generalize e3 : upd G2 p3 (.tup [.int 1, .int 1]) = G3 at *
    generalize e4 : upd G3 p4 (.tup [.int (-1), .int 1]) = G4 at *
    generalize e5 : upd G4 p5 (.lst [.ref p1, .ref p2, .ref p3, .ref p4]) = G5 at *
    have s1 : Same H1 G1 := e1 ▸ same_new n1 _
    have s2 : Same G1 G2 := e2 ▸ same_new n2 _
    have s3 : Same G2 G3 := e3 ▸ same_new n3 _
    have s4 : Same G3 G4 := e4 ▸ same_new n4 _
    have s5 : Same G4 G5 := e5 ▸ same_new n5 _
    have t2 : Tape G1 a := t1.same s1
    have t3 : Tape G2 a := t2.same s2
    have t4 : Tape G3 a := t3.same s3
    have t5 : Tape G4 a := t4.same s4
    have t6 : Tape G5 a := t5.same s5
    have u1 : Tup2 G5 p1 (1, 0) := Tup2.same (H := G1) (by rw [← e1]; exact upd_same) (((s2.trans s3).trans s4).trans s5)
    have u2 : Tup2 G5 p2 (0, 1) := Tup2.same (H := G2) (by rw [← e2]; exact upd_same) ((s3.trans s4).trans s5)
    have u3 : Tup2 G5 p3 (1, 1) := Tup2.same (H := G3) (by rw [← e3]; exact upd_same) (s4.trans s5)
    have u4 : Tup2 G5 p4 (-1, 1) := Tup2.same (H := G4) (by rw [← e4]; exact upd_same) s5
    have u5 : G5 p5 = some (.lst [.ref p1, .ref p2, .ref p3, .ref p4]) := by rw [← e5]; exact upd_same
    refine ⟨_, rfl, a, 4, rfl, t6, by decide, by decide, fun r6 H6 r60 r61 b6 t7 => ?_⟩
    obtain ⟨p, hp, hq⟩ := four_fracs p1 p2 p3 p4 r60 r61
    refine ⟨p5, _, _, _, rfl, rfl, SqL.of (b6 _ _ (t5.ne n5) u5), hp, ?_⟩
    have B : But a H H6 := (b1.trans (But.of ((((s1.trans s2).trans s3).trans s4).trans s5))).trans b6
    rcases hq with rfl | rfl | rfl | rfl
    · exact q _ (1, 0) H6 ⟨⟨.inr rfl, by decide⟩, by decide, by decide⟩ B t7 (u1.but b6 t6)
    · exact q _ (0, 1) H6 ⟨⟨.inl (by decide), by decide⟩, by decide, by decide⟩ B t7 (u2.but b6 t6)
    · exact q _ (1, 1) H6 ⟨⟨.inl (by decide), by decide⟩, by decide, by decide⟩ B t7 (u3.but b6 t6)
    · exact q _ (-1, 1) H6 ⟨⟨.inl (by decide), by decide⟩, by decide, by decide⟩ B t7 (u4.but b6 t6)
  refine ⟨_, rfl, _, _, rfl, rfl, _, rfl, ite2 (fun c2 => ?_) (fun c2 => ?_)⟩
  · refine ⟨_, rfl, a, 40, rfl, t1, by decide, by decide, fun l H2 hl hz b2 t2 => ?_⟩
    exact ⟨l, rfl, fun t' H3 s3 tt => q t' _ H3 (frac_run hz) ((b1.trans b2).trans (But.of s3)) (t2.same s3) tt⟩
  refine ⟨_, rfl, a, rfl, t1, fun z1 H2 zb b2 t2 => ?_⟩
  refine ⟨_, rfl, a, rfl, t2, fun z2 H3 zb2 b3 t3 => ⟨_, rfl, _, _, rfl, rfl, ?_⟩⟩
  have e2 : (if z2 < 0 then -z2 else z2) = (z2.natAbs : Int) := by split <;> omega
  rw [e2]
  have hq1 : ((z2.natAbs : Int) + 1).natAbs < 2 ^ 101 := by omega
  have hq0 : 0 < (z2.natAbs : Int) + 1 := by omega
  have g0 : 0 < Int.gcd z1 ((z2.natAbs : Int) + 1) := Int.gcd_pos_of_ne_zero_right z1 (by omega)
  have gl : ((Int.gcd z1 ((z2.natAbs : Int) + 1) : Nat) : Int).natAbs < 2 ^ 101 := by
    have := Int.le_of_dvd hq0 (Int.gcd_dvd_right (a := z1) (b := (z2.natAbs : Int) + 1))
    omega
  have gd := wide_div (i := z1) (Int.ofNat_lt.mpr g0) gl (by decide) (by decide)
  have gd2 := wide_div (i := (z2.natAbs : Int) + 1) (Int.ofNat_lt.mpr g0) gl (by decide) (by decide)
  refine ⟨_, rfl, _, rfl, z1, (z2.natAbs : Int) + 1, rfl, ?_⟩
  refine ⟨_, rfl, _, rfl, _, _, rfl, rfl, gd, _, rfl, _, rfl, _, _, rfl, rfl, gd2, two, fun n hn => ?_⟩
  exact q n _ _ (frac_div zb hq1 hq0) (((b1.trans b2).trans b3).trans (But.of (same_new hn _))) (t3.same (same_new hn _)) upd_same
end
section
variable {P : Program} {w : World} {K : PySem.W.Frag} {mg : Str → Option Value} {base : Heap} {f : Addr} {fd : FuncData}
/-! ### the same data -/
inductive Dt where
  | int (i : Int) | str (z : Str) | non | tup (xs : List Dt) | lst (xs : List Dt)
/-- v stands for d, in at most n levels -/
def Is (H : Hp) : Nat → V → Dt → Prop
  | _, v, .int i => v = .int i
  | _, v, .str z => v = .str z
  | _, v, .non => v = .non
  | 0, _, .tup _ => False
  | 0, _, .lst _ => False
  | n + 1, v, .tup ds => ∃ (a : Addr) (xs : List V), v = .ref a ∧ H a = some (.tup xs) ∧ xs.length = ds.length ∧ ds.length ≤ 1000000 ∧ ∀ (i : Nat) (x : V) (d : Dt), xs[i]? = some x → ds[i]? = some d → Is H n x d
  | n + 1, v, .lst ds => ∃ (a : Addr) (xs : List V), v = .ref a ∧ H a = some (.lst xs) ∧ xs.length = ds.length ∧ ds.length ≤ 1000000 ∧ ∀ (i : Nat) (x : V) (d : Dt), xs[i]? = some x → ds[i]? = some d → Is H n x d
def spSame : Nat → Sp
  | 0 => fun _ _ _ _ => False
  | n + 1 => fun vs H Q _ => ∃ (x y : V) (d : Dt), vs = [x, y] ∧ Is H n x d ∧ Is H n y d ∧ Q (.bl true) H
theorem ok_same {n : Nat} (F : Fun K "_law_same" "_law_same" s_law_same f fd) (DS : Dfn P w K mg base "_law_same" n ["told", "due"] (spSame n)) (mI : mg "isinstance" = none) (mT : mg "tuple" = none) (mL : mg "list" = none) (ml : mg "len" = none) (mr : mg "range" = none)
    (ms : mg "str" = none) (mi : mg "int" = none) (mb : mg "bool" = none) : FnOk P w K mg base CX0 (n + 1) f fd ["told", "due"] (spSame (n + 1)) := by
  refine F.ok sc_law_same (fun vs H Q E h => ?_) (fun cdv A outer s H vs Q E hr h => ?_)
  · obtain ⟨x, y, d, rfl, _⟩ := h
    rfl
  obtain ⟨x, y, d, rfl, hx, hy, q⟩ := h
  have bT : bootBuiltins "tuple" = some (.type "tuple") := by decide +kernel
  have bL : bootBuiltins "list" = some (.type "list") := by decide +kernel
  have bS : bootBuiltins "str" = some (.type "str") := by decide +kernel
  have bI : bootBuiltins "int" = some (.type "int") := by decide +kernel
  have bB : bootBuiltins "bool" = some (.type "bool") := by decide +kernel
  have bi : bootBuiltins "isinstance" = some (.builtin "isinstance") := by decide +kernel
  refine ⟨_, pss_cons (ps_if (PW.pt (pw_or (pt_val (pe_callB call_isi rfl mI bi (pa_cons (pv 1) (pa_cons (pe_bltn (v := .ty "tuple") rfl mT bT rfl) pa_nil)))) (pw_or1 (pt_val (pe_callB call_isi rfl mI bi (pa_cons (pv 1) (pa_cons (pe_bltn (v := .ty "list") rfl mL bL rfl) pa_nil)))))))
      (pss_cons (ps_if (PW.pt (pw_or (pt_cmpR op_ne (pe_callB call_isi rfl mI bi (pa_cons (pv 1) (pa_cons (pe_bltn (v := .ty "tuple") rfl mT bT rfl) pa_nil))) (pe_callB call_isi rfl mI bi (pa_cons (pv 0) (pa_cons (pe_bltn (v := .ty "tuple") rfl mT bT rfl) pa_nil))) (nomark _))
          (pw_or1 (pt_cmpR op_ne (pe_callB call_isi rfl mI bi (pa_cons (pv 1) (pa_cons (pe_bltn (v := .ty "list") rfl mL bL rfl) pa_nil))) (pe_callB call_isi rfl mI bi (pa_cons (pv 0) (pa_cons (pe_bltn (v := .ty "list") rfl mL bL rfl) pa_nil))) (nomark _)))))
        (pss_one (ps_ret pe_bl)) pss_nil)
      (pss_cons (ps_if (pt_cmpR op_ne (pe_callB call_len_seq rfl ml PySem.boot_len (pa_cons (pv 0) pa_nil)) (pe_callB call_len_seq rfl ml PySem.boot_len (pa_cons (pv 1) pa_nil)) (nomark _)) (pss_one (ps_ret pe_bl)) pss_nil)
      (pss_cons (ps_for PassesOwn.never rfl (pi_range1 rfl mr (pa_cons (pe_callB call_len_seq rfl ml PySem.boot_len (pa_cons (pv 1) pa_nil)) pa_nil)) (pg_name (i := 2) sc_law_same.nd rfl (.inl rfl))
        (pss_one (ps_if (pt_not (pt_val (pe_do DS hr (pa_cons (pe_ix ix_seq (pv 0) (pv 2) (fun _ _ => rfl)) (pa_cons (pe_ix ix_seq (pv 1) (pv 2) (fun _ _ => rfl)) pa_nil))))) (pss_one (ps_ret pe_bl)) pss_nil)))
      (pss_one (ps_ret pe_bl))))) pss_nil)
    (pss_cons (ps_if (pt_cmpR op_isN (pv 1) pe_non (nomark _)) (pss_one (ps_ret (pe_cmpR op_isN (pv 0) pe_non (nomark _)))) pss_nil)
    (pss_cons (ps_if (pt_val (pe_callB call_isi rfl mI bi (pa_cons (pv 1) (pa_cons (pe_bltn (v := .ty "str") rfl ms bS rfl) pa_nil))))
      (pss_one (ps_ret (pe_and (pe_callB call_isi rfl mI bi (pa_cons (pv 0) (pa_cons (pe_bltn (v := .ty "str") rfl ms bS rfl) pa_nil))) (pe_one (pe_cmpR op_eq (pv 0) (pv 1) (nomark _)))))) pss_nil)
    (pss_one (ps_ret (pe_and (pe_callB call_isi rfl mI bi (pa_cons (pv 0) (pa_cons (pe_bltn (v := .ty "int") rfl mi bI rfl) pa_nil)))
      (pe_and (pe_not (pe_callB call_isi rfl mI bi (pa_cons (pv 0) (pa_cons (pe_bltn (v := .ty "bool") rfl mb bB rfl) pa_nil)))) (pe_one (pe_cmpR op_eq (pv 0) (pv 1) (nomark _))))))))), ?_⟩
  have isn : ∀ (a b : String) (r : Bool), kitB a b = some r → PySem.W.kitOne K (.type a) (.type b) = some r := fun a b r h => kit_ty h
  cases d with
  | int i =>
    cases (show x = .int i by cases n <;> exact hx)
    cases (show y = .int i by cases n <;> exact hy)
    refine ⟨_, rfl, _, _, _, _, false, rfl, .ty _, .base (.int _), kit_ty (by decide +kernel), _, rfl, iteF ?_⟩
    refine ⟨_, rfl, _, _, _, _, false, rfl, .ty _, .base (.int _), kit_ty (by decide +kernel), _, rfl, iteF ?_⟩
    refine ⟨_, rfl, rfl, _, rfl, iteF ?_⟩
    refine ⟨_, rfl, _, _, _, _, false, rfl, .ty _, .base (.int _), kit_ty (by decide +kernel), _, rfl, iteF ?_⟩
    refine ⟨_, rfl, _, _, _, _, true, rfl, .ty _, .base (.int _), kit_ty (by decide +kernel), _, rfl, iteT ?_⟩
    refine ⟨_, rfl, _, _, _, _, false, rfl, .ty _, .base (.int _), kit_ty (by decide +kernel), _, rfl, _, rfl, iteT ?_⟩
    refine ⟨_, rfl, _, rfl, rfl, ?_⟩
    rw [decide_eq_true rfl]
    exact q
  | str z =>
    cases (show x = .str z by cases n <;> exact hx)
    cases (show y = .str z by cases n <;> exact hy)
    refine ⟨_, rfl, _, _, _, _, false, rfl, .ty _, .base (.str _), kit_ty (by decide +kernel), _, rfl, iteF ?_⟩
    refine ⟨_, rfl, _, _, _, _, false, rfl, .ty _, .base (.str _), kit_ty (by decide +kernel), _, rfl, iteF ?_⟩
    refine ⟨_, rfl, rfl, _, rfl, iteF ?_⟩
    refine ⟨_, rfl, _, _, _, _, true, rfl, .ty _, .base (.str _), kit_ty (by decide +kernel), _, rfl, iteT ?_⟩
    refine ⟨_, rfl, _, _, _, _, true, rfl, .ty _, .base (.str _), kit_ty (by decide +kernel), _, rfl, iteT ?_⟩
    refine ⟨_, rfl, _, rfl, rfl, ?_⟩
    rw [decide_eq_true rfl]
    exact q
  | non =>
    cases (show x = .non by cases n <;> exact hx)
    cases (show y = .non by cases n <;> exact hy)
    refine ⟨_, rfl, _, _, _, _, false, rfl, .ty _, .base .non, kit_ty (by decide +kernel), _, rfl, iteF ?_⟩
    refine ⟨_, rfl, _, _, _, _, false, rfl, .ty _, .base .non, kit_ty (by decide +kernel), _, rfl, iteF ?_⟩
    exact ⟨_, rfl, rfl, _, rfl, iteT ⟨_, rfl, rfl, q⟩⟩
  | tup ds =>
    cases n with
    | zero => exact hx.elim
    | succ n =>
      obtain ⟨a, xs, rfl, ha, la, ln, ka⟩ := hx
      obtain ⟨b, ys, rfl, hb, lb, _, kb⟩ := hy
      refine ⟨_, rfl, _, _, _, _, true, rfl, .ty _, .base (.tup hb), kit_ty (by decide +kernel), _, rfl, iteT ?_⟩
      refine ⟨_, rfl, _, _, _, _, true, rfl, .ty _, .base (.tup hb), kit_ty (by decide +kernel), _, rfl, _, _, _, _, true, rfl, .ty _, .base (.tup ha), kit_ty (by decide +kernel), rfl, _, rfl, iteF ?_⟩
      refine ⟨_, rfl, _, _, _, _, false, rfl, .ty _, .base (.tup hb), kit_ty (by decide +kernel), _, rfl, _, _, _, _, false, rfl, .ty _, .base (.tup ha), kit_ty (by decide +kernel), rfl, _, rfl, iteF ?_⟩
      refine ⟨_, rfl, a, xs, rfl, .inr (SqT.of ha), _, rfl, b, ys, rfl, .inr (SqT.of hb), rfl, _, rfl, ?_⟩
      rw [show (decide (V.int (xs.length : Int) = V.int (ys.length : Int))) = true from decide_eq_true (by rw [la, lb])]
      refine iteF ?_
      refine ⟨_, rfl, b, ys, rfl, .inr (SqT.of hb), (ys.length : Int), rfl, by omega, by omega, for_range (lo := 0) (n := (ys.length : Int).toNat) (fun i σ H' => H' = H ∧ ∃ v, σ = [some (.ref a), some (.ref b), v]) ⟨rfl, none, rfl⟩ ?_ ?_⟩
      · rintro i σ _ hi ⟨rfl, v, rfl⟩
        have hi1 : i < ys.length := by omega
        have hi2 : i < xs.length := by omega
        have hi3 : i < ds.length := by omega
        refine ⟨_, rfl, _, rfl, .inr (.inl ⟨a, xs, _, _, rfl, rfl, SqT.of ha, at_of (j := i) (by omega) (List.getElem?_eq_getElem hi2), ?_⟩)⟩
        refine ⟨_, rfl, _, rfl, .inr (.inl ⟨b, ys, _, _, rfl, rfl, SqT.of hb, at_of (j := i) (by omega) (List.getElem?_eq_getElem hi1), ?_⟩)⟩
        refine ⟨_, _, ds[i], rfl, ka i _ _ (List.getElem?_eq_getElem hi2) (List.getElem?_eq_getElem hi3), kb i _ _ (List.getElem?_eq_getElem hi1) (List.getElem?_eq_getElem hi3), _, rfl, iteF ⟨rfl, _, rfl⟩⟩
      · rintro σ _ ⟨rfl, v, rfl⟩
        exact q
  | lst ds =>
    cases n with
    | zero => exact hx.elim
    | succ n =>
      obtain ⟨a, xs, rfl, ha, la, ln, ka⟩ := hx
      obtain ⟨b, ys, rfl, hb, lb, _, kb⟩ := hy
      refine ⟨_, rfl, _, _, _, _, false, rfl, .ty _, .base (.lst hb), kit_ty (by decide +kernel), _, rfl, iteF ?_⟩
      refine ⟨_, rfl, _, _, _, _, true, rfl, .ty _, .base (.lst hb), kit_ty (by decide +kernel), _, rfl, iteT ?_⟩
      refine ⟨_, rfl, _, _, _, _, false, rfl, .ty _, .base (.lst hb), kit_ty (by decide +kernel), _, rfl, _, _, _, _, false, rfl, .ty _, .base (.lst ha), kit_ty (by decide +kernel), rfl, _, rfl, iteF ?_⟩
      refine ⟨_, rfl, _, _, _, _, true, rfl, .ty _, .base (.lst hb), kit_ty (by decide +kernel), _, rfl, _, _, _, _, true, rfl, .ty _, .base (.lst ha), kit_ty (by decide +kernel), rfl, _, rfl, iteF ?_⟩
      refine ⟨_, rfl, a, xs, rfl, .inl (SqL.of ha), _, rfl, b, ys, rfl, .inl (SqL.of hb), rfl, _, rfl, ?_⟩
      rw [show (decide (V.int (xs.length : Int) = V.int (ys.length : Int))) = true from decide_eq_true (by rw [la, lb])]
      refine iteF ?_
      refine ⟨_, rfl, b, ys, rfl, .inl (SqL.of hb), (ys.length : Int), rfl, by omega, by omega, for_range (lo := 0) (n := (ys.length : Int).toNat) (fun i σ H' => H' = H ∧ ∃ v, σ = [some (.ref a), some (.ref b), v]) ⟨rfl, none, rfl⟩ ?_ ?_⟩
      · rintro i σ _ hi ⟨rfl, v, rfl⟩
        have hi1 : i < ys.length := by omega
        have hi2 : i < xs.length := by omega
        have hi3 : i < ds.length := by omega
        refine ⟨_, rfl, _, rfl, .inl ⟨a, xs, _, _, rfl, rfl, SqL.of ha, at_of (j := i) (by omega) (List.getElem?_eq_getElem hi2), ?_⟩⟩
        refine ⟨_, rfl, _, rfl, .inl ⟨b, ys, _, _, rfl, rfl, SqL.of hb, at_of (j := i) (by omega) (List.getElem?_eq_getElem hi1), ?_⟩⟩
        refine ⟨_, _, ds[i], rfl, ka i _ _ (List.getElem?_eq_getElem hi2) (List.getElem?_eq_getElem hi3), kb i _ _ (List.getElem?_eq_getElem hi1) (List.getElem?_eq_getElem hi3), _, rfl, iteF ⟨rfl, _, rfl⟩⟩
      · rintro σ _ ⟨rfl, v, rfl⟩
        exact q
theorem none_same : FnOk P w K mg base CX0 0 f fd ["told", "due"] (spSame 0) := by
  have no : ∀ vs H Q E, ¬ spSame 0 vs H Q E := fun vs H Q E h => h
  exact ⟨fun vs H Q E h => absurd h (no vs H Q E), fun A outer s H args us vs Q E _ _ _ _ h => absurd h (no vs H Q E)⟩
end
section
variable {P : Program} {w : World} {K : PySem.W.Frag} {mg : Str → Option Value} {base : Heap} {f : Addr} {fd : FuncData}
def spLong : Sp := fun vs H Q _ => ∃ (a : Addr) (k : Int), vs = [.ref a, .int k] ∧ Tape H a ∧ ∀ l H', Lets l → l.length ≤ 1000 → But a H H' → Tape H' a → Q (.str (S l)) H'
theorem ok_long (F : Fun K "_law_long_dance" "_law_long_dance" s_law_long_dance f fd) (DT : Dfn P w K mg base "_law_take" 1 ["tape", "many"] spTake) (DD : Dfn P w K mg base "_law_dance" 2 ["tape", "most"] spDance) : FnOk P w K mg base CX0 3 f fd ["tape", "k"] spLong := by
  refine F.ok sc_law_long_dance (fun vs H Q E h => ?_) (fun cdv A outer s H vs Q E hr h => ?_)
  · obtain ⟨a, k, rfl, _⟩ := h
    rfl
  obtain ⟨a, k, rfl, hT, q⟩ := h
  have hr1 := hr.mono (show 1 ≤ 2 by decide)
  refine ⟨_, pss_cons (ps_if (PW.pt (pw_and (pt_cmpR op_eq (pv 1) pe_int (nomark _)) (pw_and1 (pt_cmpR op_eq (pe_do DT hr1 (pa_cons (pv 0) (pa_cons pe_int pa_nil))) pe_int (nomark _)))))
      (pss_one (ps_ret (pe_op op_mul_str (pe_do DD hr (pa_cons (pv 0) (pa_cons pe_int pa_nil))) (pe_op op_add pe_int (pe_do DT hr1 (pa_cons (pv 0) (pa_cons pe_int pa_nil))))))) pss_nil)
    (pss_one (ps_ret (pe_do DD hr (pa_cons (pv 0) (pa_cons pe_int pa_nil))))), ?_⟩
  have last : ∀ H', But a H H' → Tape H' a → ∃ v, [some (V.ref a), some (V.int k)][0]? = some (some v) ∧ spDance ([v, .int 60] ++ []) H' Q E0 := fun H' b t =>
    ⟨_, rfl, a, 60, rfl, t, by decide, by decide, fun l H2 hl hz b2 t2 => q l H2 hl (by omega) (b.trans b2) t2⟩
  refine ⟨_, rfl, rfl, _, rfl, ite2 (fun c1 => ?_) (fun c1 => iteF (last H (But.refl _ _) hT))⟩
  refine ⟨_, rfl, a, 6, rfl, hT, by decide, by decide, fun r H1 r0 r1 b1 t1 => ?_⟩
  refine ⟨rfl, _, rfl, ite2 (fun c2 => ?_) (fun c2 => last H1 b1 t1)⟩
  refine ⟨_, rfl, a, 20, rfl, t1, by decide, by decide, fun l H2 hl hz b2 t2 => ?_⟩
  refine ⟨_, rfl, a, 50, rfl, t2, by decide, by decide, fun r3 H3 r30 r31 b3 t3 => ⟨_, _, rfl, rfl, ?_⟩⟩
  have hm : l.length * (1 + r3).toNat ≤ 20 * 50 := Nat.mul_le_mul (by omega) (by omega)
  refine ⟨l, _, rfl, rfl, by omega, by omega, by omega, q _ H3 (fun c hc => ?_) ?_ ((b1.trans b2).trans b3) t3⟩
  · obtain ⟨y, hy, hxy⟩ := List.mem_flatten.mp hc
    rw [(List.mem_replicate.mp hy).2] at hxy
    exact hl c hxy
  · rw [List.length_flatten, List.map_replicate, List.sum_replicate_nat, Nat.mul_comm]
    omega
end
section
variable {P : Program} {w : World} {K : PySem.W.Frag} {mg : Str → Option Value} {base : Heap} {f : Addr} {fd : FuncData}
def spSays : Sp := fun vs H Q _ => ∃ b : Bool, vs = [.bl b, .bl b] ∧ Q (.bl true) H
theorem ok_says (F : Fun K "_law_says" "_law_says" s_law_says f fd) (mI : mg "isinstance" = none) (mb : mg "bool" = none) : FnOk P w K mg base CX0 1 f fd ["told", "due"] spSays := by
  refine F.ok sc_law_says (fun vs H Q E h => ?_) (fun cdv A outer s H vs Q E hr h => ?_)
  · obtain ⟨b, rfl, _⟩ := h
    rfl
  obtain ⟨b, rfl, q⟩ := h
  have bB : bootBuiltins "bool" = some (.type "bool") := by decide +kernel
  have bi : bootBuiltins "isinstance" = some (.builtin "isinstance") := by decide +kernel
  refine ⟨_, pss_one (ps_ret (pe_and (pe_callB call_isi rfl mI bi (pa_cons (pv 0) (pa_cons (pe_bltn (v := .ty "bool") rfl mb bB rfl) pa_nil))) (pe_one (pe_cmpR op_eq (pv 0) (pv 1) (nomark _))))), ?_⟩
  refine ⟨_, rfl, _, _, _, _, true, rfl, .ty _, .base (.bl _), kit_ty (by decide +kernel), _, rfl, iteT ?_⟩
  refine ⟨_, rfl, _, rfl, rfl, ?_⟩
  rw [decide_eq_true rfl]
  exact q
end
section
variable {P : Program} {w : World} {K : PySem.W.Frag} {mg : Str → Option Value} {base : Heap} {f : Addr} {fd : FuncData}
/-! ### the program: turned, after -/
def spTurned : Sp := fun vs H Q _ => ∃ p q' : Int, vs = [.int p, .int q'] ∧ ∀ t' H', Same H H' → Tup2 H' t' (called (p, q') 82) → Q (.ref t') H'
theorem ok_turned (F : Fun K "turned" "turned" s_turned f fd) : FnOk P w K mg base CX0 1 f fd ["p", "q"] spTurned := by
  refine F.ok sc_turned (fun vs H Q E h => ?_) (fun cdv A outer s H vs Q E hr h => ?_)
  · obtain ⟨p, q', rfl, _⟩ := h
    rfl
  obtain ⟨p, q', rfl, q⟩ := h
  refine ⟨_, pss_cons (ps_if (pt_cmpR op_eq (pv 0) pe_int (nomark _)) (pss_one (ps_ret (pe_tup (pa_cons pe_int (pa_cons pe_int pa_nil))))) pss_nil)
    (pss_cons (ps_if (pt_cmpR op_lt (pv 0) pe_int (nomark _)) (pss_one (ps_ret (pe_tup (pa_cons (pv 1) (pa_cons (pe_un un_neg (pv 0)) pa_nil))))) pss_nil)
    (pss_one (ps_ret (pe_tup (pa_cons (pe_un un_neg (pv 1)) (pa_cons (pv 0) pa_nil)))))), ?_⟩
  have two : 2 ≤ sizeLine := fits (by decide)
  have e1 : ¬ (82 : Nat) = 84 := by decide
  have e2 : ¬ (82 : Nat) = 85 := by decide
  refine ⟨_, rfl, rfl, _, rfl, ite2 (fun c1 => ?_) (fun c1 => ?_)⟩
  · have k1 : p = 0 := V.int.inj (of_decide_eq_true c1)
    subst k1
    refine ⟨two, fun n hn => q n _ (same_new hn _) ?_⟩
    unfold Tup2 called
    rw [upd_same, if_neg e1, if_neg e2, if_neg (show ¬ (0 : Int) < 0 by decide), if_neg (show ¬ (0 : Int) < 0 by decide)]
  have k1 : ¬ p = 0 := fun z => c1 (decide_eq_true (by rw [z]))
  refine ⟨_, rfl, _, _, rfl, rfl, _, rfl, ite2 (fun c2 => ?_) (fun c2 => ?_)⟩
  · have k2 : p < 0 := of_decide_eq_true c2
    refine ⟨_, rfl, _, rfl, _, rfl, two, fun n hn => q n _ (same_new hn _) ?_⟩
    unfold Tup2 called
    rw [upd_same, if_neg e1, if_neg e2, if_neg (show ¬ (0 : Int) < p by omega), if_pos k2, Int.zero_sub]
  have k2 : ¬ p < 0 := fun z => c2 (decide_eq_true z)
  refine ⟨_, rfl, _, rfl, _, rfl, two, fun n hn => q n _ (same_new hn _) ?_⟩
  unfold Tup2 called
  rw [upd_same, if_neg e1, if_neg e2, if_pos (show (0 : Int) < p by omega), Int.zero_sub]
theorem called_other {v : Int × Int} {c : Nat} (h1 : ¬ c = 84) (h2 : ¬ c = 85) : called v c = called v 82 := by
  unfold called
  rw [if_neg h1, if_neg h2, if_neg (show ¬ (82 : Nat) = 84 by decide), if_neg (show ¬ (82 : Nat) = 85 by decide)]
def spAfter : Sp := fun vs H Q _ => ∃ (t : Addr) (v : Int × Int) (l : List Nat), vs = [.ref t, .str (S l)] ∧ Tup2 H t v ∧ ∀ t' H', Same H H' → Tup2 H' t' (run v l) → Q (.ref t') H'
theorem ok_after (F : Fun K "after" "after" s_after f fd) (DT : Dfn P w K mg base "turned" 1 ["p", "q"] spTurned) : FnOk P w K mg base CX0 2 f fd ["fraction", "dance"] spAfter := by
  refine F.ok sc_after (fun vs H Q E h => ?_) (fun cdv A outer s H vs Q E hr h => ?_)
  · obtain ⟨t, v, l, rfl, _⟩ := h
    rfl
  obtain ⟨t, v, l, rfl, hT, q⟩ := h
  refine ⟨_, pss_cons (ps_asg (pv 0) (pg_tup (by rfl) (pgs_cons (pg_name (i := 2) sc_after.nd rfl (.inl rfl)) (pgs_cons (pg_name (i := 3) sc_after.nd rfl (.inl rfl)) pgs_nil))))
    (pss_cons (ps_for PassesOwn.never rfl (pi_str (pv 1)) (pg_name (i := 4) sc_after.nd rfl (.inl rfl))
      (pss_one (ps_if (pt_cmpR op_eq (pv 4) pe_str (nomark _)) (pss_one (ps_aug (i := 2) sc_after.nd rfl (.inl rfl) (pv 3) ip_add))
        (pss_one (ps_if (pt_cmpR op_eq (pv 4) pe_str (nomark _)) (pss_one (ps_aug (i := 2) sc_after.nd rfl (.inl rfl) (pv 3) ip_sub))
          (pss_one (ps_asg (pe_do DT hr (pa_cons (pv 2) (pa_cons (pv 3) pa_nil))) (pg_tup (by rfl) (pgs_cons (pg_name (i := 2) sc_after.nd rfl (.inl rfl)) (pgs_cons (pg_name (i := 3) sc_after.nd rfl (.inl rfl)) pgs_nil))))))))))
    (pss_one (ps_ret (pe_tup (pa_cons (pv 2) (pa_cons (pv 3) pa_nil)))))), ?_⟩
  refine ⟨_, rfl, t, _, rfl, SqT.of hT, rfl, _, _, rfl, _, _, rfl, rfl, ?_⟩
  refine ⟨_, rfl, _, rfl, for_str (l := l) (fun i σ H' => ∃ (x : Option V), σ = [some (.ref t), some (.str (S l)), some (.int (run v (l.take i)).1), some (.int (run v (l.take i)).2), x] ∧ Same H H') ?_ ?_ ?_⟩
  · exact ⟨none, rfl, Same.refl H⟩
  · rintro i c σ H' hc ⟨x, rfl, sm⟩
    have st := run_take v hc
    generalize run v (l.take i) = u at *
    obtain ⟨p, q'⟩ := u
    refine ⟨_, rfl, rfl, _, rfl, ite2 (fun c1 => ?_) (fun c1 => ?_)⟩
    · have k1 : c = 84 := (sign_eq e_T).mp (of_decide_eq_true c1)
      refine ⟨_, rfl, _, rfl, _, _, rfl, rfl, some (.str (S [c])), ?_, sm⟩
      rw [st]
      unfold called
      rw [if_pos k1]
      rfl
    have k1 : ¬ c = 84 := fun z => c1 (decide_eq_true ((sign_eq e_T).mpr z))
    refine ⟨_, rfl, rfl, _, rfl, ite2 (fun c2 => ?_) (fun c2 => ?_)⟩
    · have k2 : c = 85 := (sign_eq e_U).mp (of_decide_eq_true c2)
      refine ⟨_, rfl, _, rfl, _, _, rfl, rfl, some (.str (S [c])), ?_, sm⟩
      rw [st]
      unfold called
      rw [if_neg k1, if_pos k2]
      rfl
    have k2 : ¬ c = 85 := fun z => c2 (decide_eq_true ((sign_eq e_U).mpr z))
    refine ⟨_, rfl, _, rfl, p, q', rfl, fun t' H2 s2 tt => ?_⟩
    refine ⟨t', _, rfl, SqT.of tt, rfl, _, _, rfl, _, _, rfl, rfl, some (.str (S [c])), ?_, sm.trans s2⟩
    rw [st, called_other k1 k2]
    rfl
  · rintro σ H' ⟨x, rfl, sm⟩
    rw [List.take_of_length_le (Nat.le_refl _)]
    exact ⟨_, rfl, _, rfl, fits (by show 2 ≤ 16777216; decide), fun n hn => q n _ (sm.trans (same_new hn _)) upd_same⟩
end
section
variable {P : Program} {w : World} {K : PySem.W.Frag} {mg : Str → Option Value} {base : Heap} {f : Addr} {fd : FuncData}
/-! ### the letters and their opposites -/
def letter (c : Nat) : Bool := c == 84 || c == 85 || c == 82
theorem letter_iff {c : Nat} : letter c = true ↔ (c = 84 ∨ c = 85 ∨ c = 82) := by
  unfold letter
  simp [or_assoc]
def opp (c : Nat) : Nat := if c = 84 then 85 else if c = 85 then 84 else c
def mir (l : List Nat) : List Nat := l.map opp
theorem mir_take {l : List Nat} {i c : Nat} (h : l[i]? = some c) : mir (l.take (i + 1)) = mir (l.take i) ++ [opp c] := by
  unfold mir
  rw [List.take_add_one, h, List.map_append]
  rfl
theorem lets_mir {l : List Nat} (h : Lets l) : Lets (mir l) := fun c hc => by
  obtain ⟨x, hx, rfl⟩ := List.mem_map.mp hc
  rcases h x hx with rfl | rfl | rfl
  · exact .inr (.inl rfl)
  · exact .inl rfl
  · exact .inr (.inr rfl)
/-- the program's table of opposites, at d -/
structure Opp (K : PySem.W.Frag) (w : World) (d : Addr) : Prop where
  dct : ∃ es n, KDict K w d es n
  yes : ∀ c, letter c = true → ∃ u, PySem.W.nsIn K d (S [c]) = some (some u) ∧ RelV (.str (S [opp c])) u
  no : ∀ c, letter c = false → PySem.W.nsIn K d (S [c]) = some none
def spIsDance (Pt : Addr) : Sp := fun vs H Q _ => ∃ l : List Nat, vs = [.str (S l)] ∧ GxR.TabG H Pt ∧ ∀ H', GxR.Tabbed Pt H H' → Q (.bl (l.all letter)) H'
theorem ok_is_dance {c Pt d : Addr} (F : Fun K "is_dance" "is_dance" s_is_dance f fd) (hc : fd.code = .ref c) (TB : GxR.TabB base mg c Pt) (O : Opp K w d) (gO : mg "OPPOSITES" = some (.ref d)) (mA : mg "all" = none) : FnOk P w K mg base CX0 1 f fd ["text"] (spIsDance Pt) := by
  refine okC F hc sc_is_dance (fun vs H Q E h => ?_) (fun A outer s H vs Q E hr h => ?_)
  · obtain ⟨l, rfl, _⟩ := h
    rfl
  obtain ⟨l, rfl, tg, q⟩ := h
  obtain ⟨es, n, D⟩ := O.dct
  have hp : ∀ c, ∃ r, PySem.W.nsIn K d (S [c]) = some r ∧ r.isSome = letter c := fun c => by
    cases e : letter c with
    | true =>
      obtain ⟨u, hu, _⟩ := O.yes c e
      exact ⟨_, hu, rfl⟩
    | false => exact ⟨_, O.no c e, rfl⟩
  refine ⟨_, pss_one (ps_ret (pe_allG (k := 0) hr rfl mA TB rfl ?sc (pv 0) (elt_in (pb := letter) D gO hp rfl rfl rfl) (fun v => rfl))), ?rd⟩
  case sc => exact ⟨rfl, rfl, by decide +kernel, rfl, rfl, fun y hy e => absurd e (by revert y; decide +kernel)⟩
  case rd => exact ⟨_, rfl, S l, rfl, tg, fun H' tb => by rw [S_list]; exact q H' tb⟩
def spMir : Sp := fun vs H Q _ => ∃ l : List Nat, vs = [.str (S l)] ∧ Lets l ∧ l.length ≤ 1000000 ∧ ∀ H', Same H H' → Q (.str (S (mir l))) H'
theorem ok_mirrored {d : Addr} (F : Fun K "mirrored" "mirrored" s_mirrored f fd) (O : Opp K w d) (gO : mg "OPPOSITES" = some (.ref d)) : FnOk P w K mg base CX0 1 f fd ["dance"] spMir := by
  refine F.ok sc_mirrored (fun vs H Q E h => ?_) (fun cdv A outer s H vs Q E hr h => ?_)
  · obtain ⟨l, rfl, _⟩ := h
    rfl
  obtain ⟨l, rfl, hl, hz, q⟩ := h
  obtain ⟨es, n, D⟩ := O.dct
  refine ⟨_, pss_one (ps_ret (pe_join pe_str (pe_lc (own := [("letter", 1)]) (g := gName 1) (tt := tYes) (by rfl) sc_mirrored.nd (pi_str (pv 0)) (blkOk_by (own := [("letter", 1)]) (N := ["dance", "letter"]) (sc := defScope s_mirrored) (by decide +kernel))
    (fun _ _ _ _ _ => pg_name (i := 1) sc_mirrored.nd rfl (Or.inl rfl)) (fun _ _ _ _ _ => pts_nil) (fun _ _ _ _ _ => pe_ix (r := rIxD K w) ix_kdict (pe_glob (v := .ref d) rfl gO rfl) (pv 1) (fun _ _ => rfl))))), ?_⟩
  refine ⟨⟨_, rfl⟩, _, rfl, _, rfl, fun D' hD => lc_str (l := l) (fun i G => Same H G ∧ G D' = some (.lst ((mir (l.take i)).map fun c => V.str (S [c])))) ⟨same_new hD _, upd_same⟩ ?_ ?_⟩
  · rintro i c G hc ⟨sm, hG⟩
    have hlc := hl c (List.mem_of_getElem? hc)
    obtain ⟨u, hu, ru⟩ := O.yes c (letter_iff.mpr hlc)
    have hi : i < l.length := (List.getElem?_eq_some_iff.mp hc).1
    refine ⟨rfl, ?_⟩
    refine ⟨_, rfl, d, S [c], .str (S [opp c]), rfl, rfl, ⟨es, n, u, D.at_, D.lit, hu, ru⟩, _, hG, ?_, fun b o hb => ?_, ?_⟩
    · rw [List.length_map, mir, List.length_map, List.length_take]
      exact Nat.lt_of_lt_of_le (show min i l.length < 16777216 by omega) sizeLine_big
    · rw [upd_ne (ne_of_none hb hD)]; exact sm _ _ hb
    · rw [upd_same, mir_take hc, List.map_append]
      rfl
  · rintro G ⟨sm, hG⟩
    rw [List.take_of_length_le (Nat.le_refl _)] at hG
    refine ⟨S [], D', (mir l).map fun c => S [c], e_empty ▸ rfl, rfl, .inl (SqL.of ?_), ?_, ?_⟩
    · rw [hG, List.map_map]; rfl
    · rw [sum_ones, S_len, List.length_map, mir, List.length_map]
      show l.length + l.length * 0 ≤ 16777216
      omega
    · rw [join_signs]; exact q G sm
def spBack : Sp := fun vs H Q _ => ∃ l : List Nat, vs = [.str (S l)] ∧ Lets l ∧ l.length ≤ 1000000 ∧ ∀ H', Same H H' → Q (.str (S (mir l.reverse))) H'
theorem ok_backward (F : Fun K "backward" "backward" s_backward f fd) (DM : Dfn P w K mg base "mirrored" 1 ["dance"] spMir) : FnOk P w K mg base CX0 2 f fd ["dance"] spBack := by
  refine F.ok sc_backward (fun vs H Q E h => ?_) (fun cdv A outer s H vs Q E hr h => ?_)
  · obtain ⟨l, rfl, _⟩ := h
    rfl
  obtain ⟨l, rfl, hl, hz, q⟩ := h
  refine ⟨_, pss_one (ps_ret (pe_do DM hr (pa_cons (pe_revS (pv 0)) pa_nil))), ?_⟩
  exact ⟨_, rfl, l, rfl, by omega, l.reverse, rfl, fun c hc => hl c (List.mem_reverse.mp hc), by rw [List.length_reverse]; exact hz, q⟩
def spNum : Sp := fun vs H Q _ => ∃ l : List Nat, vs = [.str (S l)] ∧ ∀ t' H', Same H H' → Tup2 H' t' (run (0, 1) l) → Q (.ref t') H'
theorem ok_num (F : Fun K "number" "number" s_number f fd) (DA : Dfn P w K mg base "after" 2 ["fraction", "dance"] spAfter) : FnOk P w K mg base CX0 3 f fd ["dance"] spNum := by
  refine F.ok sc_number (fun vs H Q E h => ?_) (fun cdv A outer s H vs Q E hr h => ?_)
  · obtain ⟨l, rfl, _⟩ := h
    rfl
  obtain ⟨l, rfl, q⟩ := h
  refine ⟨_, pss_one (ps_ret (pe_do DA hr (pa_cons (pe_tup (pa_cons pe_int (pa_cons pe_int pa_nil))) (pa_cons (pv 0) pa_nil)))), ?_⟩
  refine ⟨fits (by decide), fun p hp => ⟨_, rfl, p, (0, 1), l, rfl, upd_same, fun t' H' sm tt => q t' H' ((same_new hp _).trans sm) tt⟩⟩
end
section
/-! ### backward and mirrored dances, by the numbers -/
theorem Good.zero_one {q : Int} (h : Good (0, q)) : q = 1 := by
  obtain ⟨h1, h2⟩ := h
  rcases h1 with h1 | h1
  · have : Int.gcd 0 q = q.natAbs := Int.gcd_zero_left q
    have h3 : (0 : Int) < q := h1
    have h4 : Int.gcd 0 q = 1 := h2
    omega
  · cases h1
theorem called_opp {v : Int × Int} {c : Nat} (hv : Good v) (hc : c = 84 ∨ c = 85 ∨ c = 82) : called (called v c) (opp c) = v := by
  obtain ⟨p, q⟩ := v
  rcases hc with rfl | rfl | rfl
  · show called (p + q, q) 85 = (p, q)
    show (p + q - q, q) = (p, q)
    rw [Int.add_sub_cancel]
  · show called (p - q, q) 84 = (p, q)
    show (p - q + q, q) = (p, q)
    rw [Int.sub_add_cancel]
  · have e1 : ∀ u : Int × Int, called u 82 = if 0 < u.1 then (0 - u.2, u.1) else if u.1 < 0 then (u.2, 0 - u.1) else (1, 0) := fun u => rfl
    show called (called (p, q) 82) 82 = (p, q)
    have hq : 0 < q ∨ (p = 1 ∧ q = 0) := by
      rcases hv.1 with h | h
      · exact .inl h
      · cases h; exact .inr ⟨rfl, rfl⟩
    by_cases h1 : 0 < p
    · rw [e1 (p, q), if_pos (show 0 < (p, q).1 from h1), e1]
      rcases hq with hq | ⟨rfl, rfl⟩
      · rw [if_neg (show ¬ 0 < (0 - q, p).1 by show ¬ 0 < 0 - q; omega), if_pos (show (0 - q, p).1 < 0 by show 0 - q < 0; omega)]
        show (p, 0 - (0 - q)) = (p, q)
        rw [show 0 - (0 - q) = q by omega]
      · rfl
    · rw [e1 (p, q), if_neg (show ¬ 0 < (p, q).1 from h1)]
      by_cases h2 : p < 0
      · rw [if_pos (show (p, q).1 < 0 from h2), e1]
        have hq' : 0 < q := by rcases hq with hq | ⟨rfl, rfl⟩; exact hq; omega
        rw [if_pos (show 0 < (q, 0 - p).1 from hq')]
        show (0 - (0 - p), q) = (p, q)
        rw [show 0 - (0 - p) = p by omega]
      · have h3 : p = 0 := by omega
        subst h3
        have := hv.zero_one
        subst this
        rfl
theorem run_back : ∀ (l : List Nat) {v : Int × Int}, Good v → Lets l → run (run v l) (mir l.reverse) = v
  | [], v, _, _ => rfl
  | c :: r, v, hv, hl => by
    have hc := hl c (List.mem_cons_self ..)
    have ih := run_back r (v := called v c) (hv.called c) fun x hx => hl x (List.mem_cons_of_mem _ hx)
    have e : mir (c :: r).reverse = mir r.reverse ++ [opp c] := by
      unfold mir
      rw [List.reverse_cons, List.map_append]
      rfl
    show run (run (called v c) r) (mir (c :: r).reverse) = v
    rw [e, run_app, ih]
    exact called_opp hv hc
def oppv (v : Int × Int) : Int × Int := if v.2 = 0 then v else (0 - v.1, v.2)
theorem called_oppv {v : Int × Int} {c : Nat} (hv : Good v) (hc : c = 84 ∨ c = 85 ∨ c = 82) : called (oppv v) (opp c) = oppv (called v c) := by
  obtain ⟨p, q⟩ := v
  have hq : 0 < q ∨ (p = 1 ∧ q = 0) := by
    rcases hv.1 with h | h
    · exact .inl h
    · cases h; exact .inr ⟨rfl, rfl⟩
  rcases hq with hq | ⟨rfl, rfl⟩
  · have e0 : oppv (p, q) = (0 - p, q) := if_neg (show ¬ (p, q).2 = 0 by show ¬ q = 0; omega)
    rw [e0]
    rcases hc with rfl | rfl | rfl
    · show (0 - p - q, q) = oppv (p + q, q)
      rw [oppv, if_neg (show ¬ (p + q, q).2 = 0 by show ¬ q = 0; omega)]
      show (0 - p - q, q) = (0 - (p + q), q)
      rw [show 0 - p - q = 0 - (p + q) by omega]
    · show (0 - p + q, q) = oppv (p - q, q)
      rw [oppv, if_neg (show ¬ (p - q, q).2 = 0 by show ¬ q = 0; omega)]
      show (0 - p + q, q) = (0 - (p - q), q)
      rw [show 0 - p + q = 0 - (p - q) by omega]
    · have e1 : ∀ u : Int × Int, called u 82 = if 0 < u.1 then (0 - u.2, u.1) else if u.1 < 0 then (u.2, 0 - u.1) else (1, 0) := fun u => rfl
      show called (0 - p, q) 82 = oppv (called (p, q) 82)
      rw [e1 (0 - p, q), e1 (p, q)]
      simp only
      by_cases h1 : 0 < p
      · rw [if_neg (show ¬ 0 < 0 - p by omega), if_pos (show 0 - p < 0 by omega), if_pos h1, oppv, if_neg (show ¬ (0 - q, p).2 = 0 by show ¬ p = 0; omega)]
        show (q, 0 - (0 - p)) = (0 - (0 - q), p)
        rw [show 0 - (0 - p) = p by omega, show 0 - (0 - q) = q by omega]
      · rw [if_neg h1]
        by_cases h2 : p < 0
        · rw [if_pos (show 0 < 0 - p by omega), if_pos h2, oppv, if_neg (show ¬ (q, 0 - p).2 = 0 by show ¬ 0 - p = 0; omega)]
        · rw [if_neg h2, if_neg (show ¬ 0 < 0 - p by omega), if_neg (show ¬ 0 - p < 0 by omega)]
          rfl
  · rcases hc with rfl | rfl | rfl <;> rfl
theorem run_mir : ∀ (l : List Nat) {v : Int × Int}, Good v → Lets l → run (oppv v) (mir l) = oppv (run v l)
  | [], _, _, _ => rfl
  | c :: r, v, hv, hl => by
    show run (called (oppv v) (opp c)) (mir r) = oppv (run (called v c) r)
    rw [called_oppv hv (hl c (List.mem_cons_self ..))]
    exact run_mir r (hv.called c) fun x hx => hl x (List.mem_cons_of_mem _ hx)
theorem none_out (l : List Nat) : l.all letter = (((l.filter fun c => !letter c).length : Nat) == 0) := by
  induction l with
  | nil => rfl
  | cons c r ih =>
    rw [List.all_cons, List.filter_cons]
    cases e : letter c with
    | true => rw [Bool.true_and]; exact ih
    | false => rfl
theorem mir_rev (l : List Nat) : mir l.reverse = (mir l).reverse := by
  unfold mir
  rw [List.map_reverse]
end
section
variable {P : Program} {w : World} {K : PySem.W.Frag} {mg : Str → Option Value} {base : Heap} {f : Addr} {fd : FuncData}
theorem opp_table {c : Nat} (hc : c = 84 ∨ c = 85 ∨ c = 82) : valV (mergeK [] [((.inr "T" : Key), V.str "U"), (.inr "U", .str "T"), (.inr "R", .str "R")]) (.inr (S [c])) = some (.str (S [opp c])) := by
  show valV (putK (putK (putK ([] : List (Key × V)) (Sum.inr "T") (V.str "U")) (Sum.inr "U") (V.str "T")) (Sum.inr "R") (V.str "R")) (Sum.inr (S [c]) : Key) = _
  have ne : ∀ {a b : Nat} {z : Str}, z = S [b] → a ≠ b → ¬ ((.inr (S [a]) : Key) = .inr z) := fun {a b z} e h q => by
    rw [e] at q
    have := S_inj (Sum.inr.inj q)
    simp at this
    exact h this
  have eq : ∀ {a : Nat} {z : Str}, z = S [a] → ((.inr (S [a]) : Key) = .inr z) := fun {a z} e => by rw [e]
  rw [valV_put, valV_put, valV_put]
  rcases hc with rfl | rfl | rfl
  · rw [if_neg (ne e_R (by decide)), if_neg (ne e_U (by decide)), if_pos (eq e_T), e_U]; rfl
  · rw [if_neg (ne e_R (by decide)), if_pos (eq e_U), e_T]; rfl
  · rw [if_pos (eq e_R), e_R]; rfl
theorem ok_law_turned (F : Fun K "_law_turned" "_law_turned" s_law_turned f fd) : FnOk P w K mg base CX0 1 f fd ["dance"] spMir := by
  refine F.ok sc_law_turned (fun vs H Q E h => ?_) (fun cdv A outer s H vs Q E hr h => ?_)
  · obtain ⟨l, rfl, _⟩ := h
    rfl
  obtain ⟨l, rfl, hl, hz, q⟩ := h
  have hu := hu_of hr
  refine ⟨_, pss_one (ps_ret (pe_join pe_str (pe_lc (own := [("letter", 1)]) (g := gName 1) (tt := tYes) (by rfl) sc_law_turned.nd (pi_str (pv 0)) (blkOk_by (own := [("letter", 1)]) (N := ["dance", "letter"]) (sc := defScope s_law_turned) (by decide +kernel))
    (fun _ _ _ _ _ => pg_name (i := 1) sc_law_turned.nd rfl (Or.inl rfl)) (fun _ _ _ _ _ => pts_nil) (fun _ _ _ _ _ => pe_dget hu (pe_disp (pps_cons pe_str pe_str (pps_cons pe_str pe_str (pps_cons pe_str pe_str pps_nil))) (by rfl) (by rfl) (fun z => by cases z) (by decide)) (pv 1) (fun _ _ => rfl))))), ?_⟩
  refine ⟨⟨_, rfl⟩, _, rfl, _, rfl, fun D' hD => lc_str (l := l) (fun i G => Same H G ∧ G D' = some (.lst ((mir (l.take i)).map fun c => V.str (S [c])))) ⟨same_new hD _, upd_same⟩ ?_ ?_⟩
  · rintro i c G hc ⟨sm, hG⟩
    have hlc := hl c (List.mem_of_getElem? hc)
    have hi : i < l.length := (List.getElem?_eq_some_iff.mp hc).1
    refine ⟨rfl, ?_⟩
    refine fun p hp => ⟨upd_same, [((.inr "T" : Key), V.str "U"), (.inr "U", .str "T"), (.inr "R", .str "R")], rfl, by show 3 ≤ 15; decide, ?_⟩
    have s2 : Same G (upd (upd G p (.dK [])) p (.dK (mergeK [] [((.inr "T" : Key), V.str "U"), (.inr "U", .str "T"), (.inr "R", .str "R")]))) := fun b o h => by
      rw [upd_ne (ne_of_none h hp), upd_ne (ne_of_none h hp)]; exact h
    have get := DGet.k (H := upd (upd G p (.dK [])) p (.dK (mergeK [] [((.inr "T" : Key), V.str "U"), (.inr "U", .str "T"), (.inr "R", .str "R")]))) (k := .inr (S [c])) upd_same
    rw [opp_table hlc] at get
    refine ⟨_, rfl, p, .str (S [opp c]), rfl, get, _, s2 _ _ hG, ?_, fun b o hb => ?_, ?_⟩
    · rw [List.length_map, mir, List.length_map, List.length_take]
      exact Nat.lt_of_lt_of_le (show min i l.length < 16777216 by omega) sizeLine_big
    · rw [upd_ne (ne_of_none hb hD)]; exact s2 _ _ (sm _ _ hb)
    · rw [upd_same, mir_take hc, List.map_append]
      rfl
  · rintro G ⟨sm, hG⟩
    rw [List.take_of_length_le (Nat.le_refl _)] at hG
    refine ⟨S [], D', (mir l).map fun c => S [c], e_empty ▸ rfl, rfl, .inl (SqL.of ?_), ?_, ?_⟩
    · rw [hG, List.map_map]; rfl
    · rw [sum_ones, S_len, List.length_map, mir, List.length_map]
      show l.length + l.length * 0 ≤ 16777216
      omega
    · rw [join_signs]; exact q G sm
def spOpp : Sp := fun vs H Q _ => ∃ (t : Addr) (v : Int × Int), vs = [.ref t] ∧ Tup2 H t v ∧ ∀ t' H', Same H H' → Tup2 H' t' (oppv v) → Q (.ref t') H'
theorem ok_opposite (F : Fun K "_law_opposite" "_law_opposite" s_law_opposite f fd) : FnOk P w K mg base CX0 1 f fd ["value"] spOpp := by
  refine F.ok sc_law_opposite (fun vs H Q E h => ?_) (fun cdv A outer s H vs Q E hr h => ?_)
  · obtain ⟨t, v, rfl, _⟩ := h
    rfl
  obtain ⟨t, v, rfl, ht, q⟩ := h
  refine ⟨_, pss_cons (ps_if (pt_cmpR op_eq (pe_ix ix_tup (pv 0) pe_int (fun _ _ => rfl)) pe_int (nomark _)) (pss_one (ps_ret (pv 0))) pss_nil)
    (pss_one (ps_ret (pe_tup (pa_cons (pe_op op_sub pe_int (pe_ix ix_tup (pv 0) pe_int (fun _ _ => rfl))) (pa_cons (pe_ix ix_tup (pv 0) pe_int (fun _ _ => rfl)) pa_nil))))), ?_⟩
  refine ⟨_, rfl, t, _, _, _, rfl, rfl, SqT.of ht, rfl, rfl, _, rfl, ite2 (fun c1 => ?_) (fun c1 => ?_)⟩
  · have k1 : v.2 = 0 := V.int.inj (of_decide_eq_true c1)
    refine ⟨_, rfl, q t H (Same.refl H) ?_⟩
    rw [oppv, if_pos k1]
    exact ht
  · have k1 : ¬ v.2 = 0 := fun z => c1 (decide_eq_true (congrArg V.int z))
    refine ⟨_, rfl, t, _, _, _, rfl, rfl, SqT.of ht, rfl, _, _, rfl, rfl, _, rfl, t, _, _, _, rfl, rfl, SqT.of ht, rfl, fits (by show 2 ≤ 16777216; decide), fun n hn => q n _ (same_new hn _) ?_⟩
    rw [oppv, if_neg k1]
    exact upd_same
def spSpoilt : Sp := fun vs H Q _ => ∃ (a : Addr) (l : List Nat), vs = [.ref a, .str (S l)] ∧ Tape H a ∧ l.length ≤ 1000 ∧ ∀ m H', m.length ≤ 1001 → But a H H' → Tape H' a → Q (.str (S m)) H'
theorem sign_at {z : Str} {n r : Int} (hn : (z.cps.toList.length : Int) = n) (h0 : 0 ≤ r) (h1 : r < n) : ∃ c, atI z.cps.toList r = some c := by
  obtain ⟨c, hc, _⟩ := atI_mk (xs := z.cps.toList) h0 (by omega)
  exact ⟨c, hc⟩
theorem str_at {z : Str} {n r : Int} {H : Hp} {Q : VK} (hn : (z.cps.toList.length : Int) = n) (hz : z.length ≤ sizeLine) (h0 : 0 ≤ r) (h1 : r < n) (q : ∀ c, Q (.str (S [c])) H) : rIxS (.str z) (.int r) H Q := by
  obtain ⟨c, hc⟩ := sign_at hn h0 h1
  exact ⟨z, r, c, rfl, rfl, hz, hc, q c⟩
theorem one_of_two (x y : Nat) {r : Int} (h0 : 0 ≤ r) (h1 : r < 2) : ∃ c, atI [V.str (S [x]), .str (S [y])] r = some (.str (S [c])) := by
  obtain ⟨v, hv, m⟩ := atI_mk (xs := [V.str (S [x]), .str (S [y])]) h0 h1
  simp only [List.mem_cons, List.not_mem_nil, or_false] at m
  rcases m with rfl | rfl
  · exact ⟨x, hv⟩
  · exact ⟨y, hv⟩
theorem ok_spoilt (F : Fun K "_law_spoilt" "_law_spoilt" s_law_spoilt f fd) (DT : Dfn P w K mg base "_law_take" 1 ["tape", "many"] spTake) (ml : mg "len" = none) : FnOk P w K mg base CX0 2 f fd ["tape", "dance"] spSpoilt := by
  refine F.ok sc_law_spoilt (fun vs H Q E h => ?_) (fun cdv A outer s H vs Q E hr h => ?_)
  · obtain ⟨a, l, rfl, _⟩ := h
    rfl
  obtain ⟨a, l, rfl, hT, hz, q⟩ := h
  refine ⟨_, pss_cons (ps_set (i := 2) sc_law_spoilt.nd rfl (.inl rfl) pe_str)
    (pss_cons (ps_set (i := 3) sc_law_spoilt.nd rfl (.inl rfl) (pe_ix ix_list (pe_lst (pa_cons (pe_ix ix_str (pv 2) (pe_do DT hr (pa_cons (pv 0) (pa_cons pe_int pa_nil))) (fun _ _ => rfl)) (pa_cons (pe_ix ix_str pe_str (pe_do DT hr (pa_cons (pv 0) (pa_cons pe_int pa_nil))) (fun _ _ => rfl)) pa_nil))) (pe_do DT hr (pa_cons (pv 0) (pa_cons pe_int pa_nil))) (fun _ _ => rfl)))
    (pss_cons (ps_set (i := 4) sc_law_spoilt.nd rfl (.inl rfl) (pe_do DT hr (pa_cons (pv 0) (pa_cons (pe_op op_add (pe_callB call_len_str rfl ml PySem.boot_len (pa_cons (pv 1) pa_nil)) pe_int) pa_nil))))
    (pss_one (ps_ret (pe_op op_add_str (pe_op op_add_str (pe_slice sl_str (pv 1) po_none (po_some (pv 4))) (pv 3)) (pe_slice sl_str (pv 1) (po_some (pe_op op_add (pv 4) (pe_do DT hr (pa_cons (pv 0) (pa_cons pe_int pa_nil))))) po_none)))))), ?_⟩
  refine ⟨_, rfl, _, rfl, a, 94, rfl, hT, by decide, by decide, fun r1 H1 r10 r11 b1 t1 => ?_⟩
  refine str_at (n := 94) (by decide +kernel) (fits (by decide +kernel)) r10 r11 fun c1 => ?_
  refine ⟨_, rfl, a, 5, rfl, t1, by decide, by decide, fun r2 H2 r20 r21 b2 t2 => ?_⟩
  refine str_at (n := 5) (by decide +kernel) (fits (by decide +kernel)) r20 r21 fun c2 => ⟨fits (by show 2 ≤ 16777216; decide), fun p hp => ?_⟩
  have g := same_new hp (.lst [V.str (S [c1]), .str (S [c2])])
  refine ⟨_, rfl, a, 2, rfl, t2.same g, by decide, by decide, fun r3 H3 r30 r31 b3 t3 => ?_⟩
  obtain ⟨c, hc⟩ := one_of_two c1 c2 r30 r31
  refine ⟨p, _, _, _, rfl, rfl, SqL.of (b3 _ _ (t2.ne hp) upd_same), hc, ?_⟩
  have B3 : But a H H3 := ((b1.trans b2).trans (But.of g)).trans b3
  have ls : (S l).length ≤ sizeLine := by rw [S_len]; exact fits (by omega)
  refine ⟨_, rfl, _, rfl, _, rfl, ls, _, _, rfl, rfl, a, _, rfl, t3, by rw [S_len]; omega, by rw [S_len]; omega, fun r4 H4 r40 r41 b4 t4 => ?_⟩
  refine ⟨_, rfl, _, rfl, _, rfl, _, rfl, ls, _, rfl, _, _, rfl, rfl, ?_, _, rfl, _, rfl, _, rfl, a, 2, rfl, t4, by decide, by decide, fun r5 H5 r50 r51 b5 t5 => ⟨_, _, rfl, rfl, _, rfl, _, rfl, ls, _, _, rfl, rfl, ?_, ?_⟩⟩
  · rw [S_take l r40, S_len, S_len, List.length_take]
    exact fits (by show min r4.toNat l.length + 1 ≤ _; omega)
  · rw [S_take l r40, S_app, S_drop l (by omega), S_len, S_len, List.length_append, List.length_take, List.length_drop]
    exact fits (by show min r4.toNat l.length + 1 + _ ≤ _; omega)
  · rw [S_take l r40, S_app, S_drop l (by omega), S_app]
    refine q _ H5 ?_ ((B3.trans b4).trans b5) t5
    rw [List.length_append, List.length_append, List.length_take, List.length_drop]
    show min r4.toNat l.length + 1 + _ ≤ _
    rw [S_len] at r41
    omega
end
section
variable {P : Program} {w : World} {K : PySem.W.Frag} {mg : Str → Option Value} {base : Heap} {f : Addr} {fd : FuncData}
theorem tup2_is {H : Hp} {n : Nat} {t : Addr} {v : Int × Int} (h : Tup2 H t v) : Is H (n + 1) (.ref t) (.tup [.int v.1, .int v.2]) :=
  ⟨t, _, rfl, h, rfl, by show 2 ≤ 1000000; decide, fun i x d hx hd => by
    match i with
    | 0 => cases hx; cases hd; cases n <;> rfl
    | 1 => cases hx; cases hd; cases n <;> rfl
    | i + 2 => cases hx⟩
theorem str_is {H : Hp} {n : Nat} {z : Str} : Is H n (.str z) (.str z) := by cases n <;> rfl
theorem tab_same {H H' : Hp} {t : Addr} (h : GxR.TabG H t) (s : Same H H') : GxR.TabG H' t := let ⟨ps, a, b⟩ := h; ⟨ps, s _ _ a, b⟩
theorem tab_ne {H : Hp} {t a : Addr} (h : GxR.TabG H t) (tp : Tape H a) : t ≠ a := by
  obtain ⟨ps, e, _⟩ := h
  obtain ⟨y, c, z, b, e2⟩ := tp
  exact ne_of e e2 (by intro q; cases q)
theorem tab_but {H H' : Hp} {t a : Addr} (h : GxR.TabG H t) (s : But a H H') (tp : Tape H a) : GxR.TabG H' t := by
  have n := tab_ne h tp
  obtain ⟨ps, e, o⟩ := h
  exact ⟨ps, s _ _ n e, o⟩
theorem but_tabbed {H H' : Hp} {t : Addr} (h : GxR.Tabbed t H H') : But t H H' := fun b o n e => by rw [h.2 b n]; exact e
theorem seq_but {H H' : Hp} {t a : Addr} {xs : List V} (h : SqL K H a xs) (tb : GxR.TabG H t) (s : But t H H') : SqL K H' a xs := by
  obtain ⟨ps, e, _⟩ := tb
  rcases h with (h | ⟨o, h⟩) | h
  · exact .inl (.inl (s _ _ (ne_of h e (by intro q; cases q)) h))
  · exact .inl (.inr ⟨o, s _ _ (ne_of h e (by intro q; cases q)) h⟩)
  · exact .inr h
theorem tape_but {H H' : Hp} {t a : Addr} (h : Tape H a) (tb : GxR.TabG H t) (s : But t H H') : Tape H' a := by
  have n := (tab_ne tb h).symm
  obtain ⟨y, c, z, b, e⟩ := h
  exact ⟨y, c, z, b, s _ _ n e⟩
theorem tur (c : Nat) : decide (c ∈ (("TUR" : Str)).cps.toList) = letter c := by
  have e : (("TUR" : Str)).cps.toList = [84, 85, 82] := by decide +kernel
  rw [e, Bool.eq_iff_iff]
  unfold letter
  simp [or_assoc]
theorem filt_take {l : List Nat} {i c : Nat} (p : Nat → Bool) (h : l[i]? = some c) : (l.take (i + 1)).filter p = (l.take i).filter p ++ (if p c = true then [c] else []) := by
  rw [List.take_add_one, h, List.filter_append]
  congr 1
  show [c].filter p = _
  rw [List.filter_cons]
  cases p c <;> rfl
theorem at_g {α : Type} {xs : List α} {z : Int} {j : Nat} {v : α} (e : z = (j : Int)) (h : xs[j]? = some v) : atI xs z = some v := by
  rw [e]
  exact atI_nat h
theorem ne_same {H : Hp} {s t : Addr} {v : Int × Int} {Q : VK} (hs : Tup2 H s v) (ht : Tup2 H t v) (q : Q (.bl false) H) : rNeD K (.ref s) (.ref t) H Q := by
  refine ⟨.tuple [.int v.1, .int v.2], .tuple [.int v.1, .int v.2], .tup (SqT.of hs) (.cons (.int _) (.cons (.int _) .nil)), .tup (SqT.of ht) (.cons (.int _) (.cons (.int _) .nil)), rfl, rfl, ?_⟩
  rw [SeqAt.eqv_refl _ rfl]
  exact q
def spLaw (K : PySem.W.Frag) (Pt : Addr) : Sp := fun vs H Q _ => ∃ (a : Addr) (ns : List Int), vs = [.ref a] ∧ SqL K H a (ns.map V.int) ∧ ns.length ≤ 63 ∧ GxR.TabG H Pt ∧ ∀ H', Q (.bl true) H'
theorem ok_law {Pt : Addr} (F : Fun K "law" "law" s_law f fd) (DTp : Dfn P w K mg base "_law_tape" 3 ["script", "k"] (spTape K)) (DF : Dfn P w K mg base "_law_fraction" 3 ["tape"] spFraction) (DL : Dfn P w K mg base "_law_long_dance" 3 ["tape", "k"] spLong)
    (DSp : Dfn P w K mg base "_law_spoilt" 3 ["tape", "dance"] spSpoilt) (DY : Dfn P w K mg base "_law_says" 3 ["told", "due"] spSays) (DIs : Dfn P w K mg base "is_dance" 3 ["text"] (spIsDance Pt)) (DTu : Dfn P w K mg base "_law_turned" 3 ["dance"] spMir)
    (DS : Dfn P w K mg base "_law_same" 3 ["told", "due"] (spSame 3)) (DA : Dfn P w K mg base "after" 3 ["fraction", "dance"] spAfter) (DNu : Dfn P w K mg base "number" 3 ["dance"] spNum) (DN : Dfn P w K mg base "_law_number" 3 ["dance"] (spNumber K))
    (DM : Dfn P w K mg base "mirrored" 3 ["dance"] spMir) (DB : Dfn P w K mg base "backward" 3 ["dance"] spBack) (DO : Dfn P w K mg base "_law_opposite" 3 ["value"] spOpp) (mr : mg "range" = none) (ml : mg "len" = none) : FnOk P w K mg base CX0 4 f fd ["script"] (spLaw K Pt) := by
  refine F.ok sc_law (fun vs H Q E h => ?_) (fun cdv A outer s H vs Q E hr h => ?_)
  · obtain ⟨a, ns, rfl, _⟩ := h
    rfl
  obtain ⟨sa, ns, rfl, hS, h63, tb0, q⟩ := h
  refine ⟨_, pss_cons (ps_for PassesOwn.never rfl (pi_range1 rfl mr (pa_cons pe_int pa_nil)) (pg_name (i := 1) sc_law.nd rfl (.inl rfl))
      (pss_cons (ps_set (i := 2) sc_law.nd rfl (.inl rfl) (pe_do DTp hr (pa_cons (pv 0) (pa_cons (pv 1) pa_nil))))
      (pss_cons (ps_set (i := 3) sc_law.nd rfl (.inl rfl) (pe_do DL hr (pa_cons (pv 2) (pa_cons (pv 1) pa_nil))))
      (pss_cons (ps_set (i := 4) sc_law.nd rfl (.inl rfl) (pe_do DSp hr (pa_cons (pv 2) (pa_cons (pv 3) pa_nil))))
      (pss_cons (ps_for PassesOwn.never rfl (pi_list (pe_lst (pa_cons (pv 3) (pa_cons (pv 4) pa_nil)))) (pg_name (i := 5) sc_law.nd rfl (.inl rfl))
        (pss_one (ps_if (pt_not (pt_val (pe_do DY hr (pa_cons (pe_do DIs hr (pa_cons (pv 5) pa_nil)) (pa_cons (pe_cmpR op_eq (pe_callB call_len_seq rfl ml PySem.boot_len (pa_cons
          (pe_lc (own := [("char", 9)]) (g := gName 9) (by rfl) sc_law.nd (pi_str (pv 5)) (blkOk_by (own := [("char", 9)]) (N := ["script", "k", "tape", "dance", "odd", "text", "turned_v", "back", "value", "char", "j"]) (sc := defScope s_law) (by decide +kernel))
            (fun _ _ _ _ _ => pg_name (i := 9) sc_law.nd rfl (Or.inl rfl)) (fun _ _ _ _ _ => pts_one (pt_cmpR op_notIn_sign (pv 9) pe_str rfl)) (fun _ _ _ _ _ => pv 9)) pa_nil)) pe_int (nomark _)) pa_nil))))) (pss_one (ps_ret pe_bl)) pss_nil)))
      (pss_cons (ps_set (i := 6) sc_law.nd rfl (by first | exact .inl rfl | exact .inr rfl) (pe_do DTu hr (pa_cons (pv 3) pa_nil)))
      (pss_cons (ps_set (i := 7) sc_law.nd rfl (.inl rfl) (pe_join pe_str (pe_lc (own := [("j", 10)]) (g := gName 10) (tt := tYes) (by rfl) sc_law.nd (pi_range1 rfl mr (pa_cons (pe_callB call_len_str rfl ml PySem.boot_len (pa_cons (pv 6) pa_nil)) pa_nil))
          (blkOk_by (own := [("j", 10)]) (N := ["script", "k", "tape", "dance", "odd", "text", "turned_v", "back", "value", "char", "j"]) (sc := defScope s_law) (by decide +kernel)) (fun _ _ _ _ _ => pg_name (i := 10) sc_law.nd rfl (Or.inl rfl)) (fun _ _ _ _ _ => pts_nil)
          (fun _ _ _ _ _ => pe_ix ix_str (pv 6) (pe_op op_sub (pe_op op_sub (pe_callB call_len_str rfl ml PySem.boot_len (pa_cons (pv 6) pa_nil)) pe_int) (pv 10)) (fun _ _ => rfl)))))
      (pss_cons (ps_if (PW.pt (pw_or (pt_not (pt_val (pe_do DS hr (pa_cons (pe_do DNu hr (pa_cons (pv 3) pa_nil)) (pa_cons (pe_do DN hr (pa_cons (pv 3) pa_nil)) pa_nil))))) (pw_or1 (pt_not (pt_val (pe_do DS hr (pa_cons (pe_do DM hr (pa_cons (pv 3) pa_nil)) (pa_cons (pv 6) pa_nil)))))))) (pss_one (ps_ret pe_bl)) pss_nil)
      (pss_cons (ps_if (pt_not (pt_val (pe_do DS hr (pa_cons (pe_do DB hr (pa_cons (pv 3) pa_nil)) (pa_cons (pv 7) pa_nil))))) (pss_one (ps_ret pe_bl)) pss_nil)
      (pss_cons (ps_set (i := 8) sc_law.nd rfl (.inl rfl) (pe_do DF hr (pa_cons (pv 2) pa_nil)))
      (pss_one (ps_if (PW.pt (pw_or (pt_cmpR (op_neD hr.units) (pe_do DA hr (pa_cons (pe_do DA hr (pa_cons (pv 8) (pa_cons (pv 3) pa_nil))) (pa_cons (pv 7) pa_nil))) (pv 8) (nomark _)) (pw_or1 (pt_cmpR (op_neD hr.units) (pe_do DNu hr (pa_cons (pv 6) pa_nil)) (pe_do DO hr (pa_cons (pe_do DN hr (pa_cons (pv 3) pa_nil)) pa_nil)) (nomark _))))) (pss_one (ps_ret pe_bl)) pss_nil))))))))))))
    (pss_one (ps_ret pe_bl)), ?_⟩
  refine ⟨8, rfl, by decide, by decide, for_range (lo := 0) (n := 8) (fun i σ G => ∃ (x1 x2 x3 x4 x5 x6 x7 x8 x9 x10 : Option V), σ = [some (.ref sa), x1, x2, x3, x4, x5, x6, x7, x8, x9, x10] ∧ But Pt H G ∧ GxR.TabG G Pt) ?_ ?_ ?_⟩
  · exact ⟨_, _, _, _, _, _, _, _, _, _, rfl, But.refl _ _, tb0⟩
  · rintro i σ G0 hi ⟨x1, x2, x3, x4, x5, x6, x7, x8, x9, x10, rfl, bt, tb⟩
    refine ⟨_, rfl, _, rfl, sa, ns, 0 + (i : Int), rfl, seq_but hS tb0 bt, by omega, fun tp H1 s1 ntp t1 => ?_⟩
    have tb1 := tab_same tb s1
    refine ⟨_, rfl, _, rfl, tp, _, rfl, t1, fun l H2 hl hz b2 t2 => ?_⟩
    have tb2 := tab_but tb1 b2 t1
    refine ⟨_, rfl, _, rfl, tp, l, rfl, t2, hz, fun m H3 hm b3 t3 => ?_⟩
    have tb3 := tab_but tb2 b3 t2
    refine ⟨_, rfl, _, rfl, fits (by show 2 ≤ 16777216; decide), fun lp nlp => ?_⟩
    have g4 := same_new nlp (.lst [V.str (S l), .str (S m)])
    have lP : lp ≠ Pt := by
      obtain ⟨ps, e, _⟩ := tb3
      exact (ne_of_none e nlp).symm
    have F3 : ∀ {b : Addr} {o : HO}, b ≠ Pt → b ≠ tp → G0 b = some o → H3 b = some o := fun {b o} _ n2 e => b3 b o n2 (b2 b o n2 (s1 b o e))
    refine ⟨lp, rfl, ⟨_, SqL.of upd_same⟩, for_list (K := K) (a := lp) (xs := [V.str (S l), .str (S m)]) (fun j σ G => ∃ (x5 x6 x7 x8 x9 x10 : Option V), σ = [some (.ref sa), some (.int (0 + (i : Int))), some (.ref tp), some (.str (S l)), some (.str (S m)), x5, x6, x7, x8, x9, x10] ∧ But Pt (upd H3 lp (.lst [V.str (S l), .str (S m)])) G ∧ GxR.TabG G Pt) ?_ ?_ ?_ ?_⟩
    · exact ⟨_, _, _, _, _, _, rfl, But.refl _ _, tab_same tb3 g4⟩
    · rintro j σ G _ ⟨x5, x6, x7, x8, x9, x10, _, b, _⟩
      exact SqL.of (b _ _ lP upd_same)
    · rintro j y σ G hj ⟨x5, x6, x7, x8, x9, x10, rfl, b, tg⟩
      obtain ⟨u, rfl, hu⟩ : ∃ u : List Nat, y = .str (S u) ∧ u.length ≤ 1001 := by
        match j with
        | 0 => cases hj; exact ⟨l, rfl, by omega⟩
        | 1 => cases hj; exact ⟨m, rfl, hm⟩
        | j + 2 => cases hj
      refine ⟨_, rfl, u, rfl, tg, fun G' tbd => ?_⟩
      refine ⟨_, rfl, _, rfl, fun D hD => lc_str (l := u) (fun i Z => Same G' Z ∧ Z D = some (.lst (((u.take i).filter fun c => !letter c).map fun c => V.str (S [c])))) ⟨same_new hD _, upd_same⟩ ?_ ?_⟩
      · rintro i c Z hc ⟨sm, hZ⟩
        have ft := filt_take (fun c => !letter c) hc
        refine ⟨rfl, ?_⟩
        refine ⟨_, rfl, c, _, rfl, rfl, _, rfl, ?_⟩
        rw [tur]
        cases e : letter c with
        | true =>
          rw [e] at ft
          refine iteF ⟨sm, ?_⟩
          rw [ft, hZ]
          simp
        | false =>
          rw [e] at ft
          refine iteT ⟨_, rfl, _, hZ, ?_, fun b o hb => ?_, ?_⟩
          · have h1 : ((u.take i).filter fun c => !letter c).length ≤ (u.take i).length := List.length_filter_le _ _
            rw [List.length_take] at h1
            rw [List.length_map]
            exact Nat.lt_of_lt_of_le (show _ < 16777216 by omega) sizeLine_big
          · rw [upd_ne (ne_of_none hb hD)]; exact sm _ _ hb
          · rw [upd_same, ft, List.map_append]
            rfl
      · rintro Z ⟨sm, hZ⟩
        rw [List.take_of_length_le (Nat.le_refl _)] at hZ
        refine ⟨D, _, rfl, .inl (SqL.of hZ), rfl, u.all letter, ?_, _, rfl, iteF ⟨_, _, _, _, _, _, rfl, (b.trans (but_tabbed tbd)).trans (But.of sm), tab_same tbd.1 sm⟩⟩
        rw [List.length_map, none_out u, dec_int]
        have : (((u.filter fun c => !letter c).length : Int) == 0) = ((u.filter fun c => !letter c).length == 0) := by
          rw [Bool.eq_iff_iff]; simp
        rw [this]
        rfl
    · rintro σ G ⟨x5, x6, x7, x8, x9, x10, rfl, b, tg⟩
      have t4 : Tape G tp := tape_but (t3.same g4) (tab_same tb3 g4) b
      have F4 : ∀ {b : Addr} {o : HO}, b ≠ Pt → b ≠ tp → G0 b = some o → G b = some o := fun {x o} n1 n2 e => b x o n1 (g4 _ _ (F3 n1 n2 e))
      refine ⟨_, rfl, l, rfl, hl, by omega, fun H5 s5 => ?_⟩
      have lm : (mir l).length = l.length := List.length_map ..
      have ls : (S (mir l)).length ≤ sizeLine := by rw [S_len, lm]; exact fits (by omega)
      refine ⟨⟨_, rfl⟩, _, rfl, _, rfl, ls, _, rfl, by rw [S_len, lm]; omega, by rw [S_len, lm]; omega, fun D hD => lc_range (lo := 0) (n := ((S (mir l)).length : Int).toNat) (fun i Z => Same H5 Z ∧ Z D = some (.lst ((((mir l).reverse).take i).map fun c => V.str (S [c])))) ⟨same_new hD _, upd_same⟩ ?_ ?_⟩
      · rintro i Z hi ⟨sm, hZ⟩
        rw [S_len] at hi
        have hi2 : i < (mir l).length := by omega
        have hi3 : i < (mir l).reverse.length := by rw [List.length_reverse]; exact hi2
        have get : (mir l).reverse[i]? = some ((mir l)[(mir l).length - 1 - i]'(by omega)) := by
          rw [List.getElem?_eq_getElem hi3, List.getElem_reverse]
        refine ⟨rfl, ?_⟩
        refine ⟨_, rfl, _, rfl, _, rfl, ls, _, _, rfl, rfl, _, rfl, _, _, rfl, rfl, S (mir l), ((S (mir l)).length : Int) - 1 - (0 + (i : Int)), (mir l)[(mir l).length - 1 - i]'(by omega), rfl, rfl, ls, ?_, _, hZ, ?_, fun b o hb => ?_, ?_⟩
        · rw [S_list]
          exact at_g (xs := mir l) (z := ((S (mir l)).length : Int) - 1 - (0 + (i : Int))) (j := (mir l).length - 1 - i) (by rw [S_len]; omega) (List.getElem?_eq_getElem (by omega))
        · rw [List.length_map, List.length_take, List.length_reverse]
          exact Nat.lt_of_lt_of_le (show min i (mir l).length < 16777216 by omega) sizeLine_big
        · rw [upd_ne (ne_of_none hb hD)]; exact sm _ _ hb
        · rw [upd_same, List.take_add_one, get, List.map_append]
          rfl
      · rintro H6 ⟨s6, hZ⟩
        rw [S_len, Int.toNat_natCast, List.take_of_length_le (by rw [List.length_reverse]; exact Nat.le_refl _)] at hZ
        refine ⟨S [], D, (mir l).reverse.map fun c => S [c], e_empty ▸ rfl, rfl, .inl (SqL.of (by rw [hZ, List.map_map]; rfl)), ?_, ?_⟩
        · rw [sum_ones, S_len, List.length_map, List.length_reverse, lm]
          show l.length + l.length * 0 ≤ 16777216
          omega
        rw [join_signs]
        have T6 : Tape H6 tp := (t4.same s5).same s6
        have tg6 := tab_same (tab_same tg s5) s6
        refine ⟨_, rfl, l, rfl, fun n1 H7 s7 u1 => ?_⟩
        refine ⟨_, rfl, l, rfl, fun n2 H8 s8 u2 => ?_⟩
        refine ⟨_, _, _, rfl, tup2_is (n := 1) (u1.same s8), tup2_is (n := 1) u2, _, rfl, iteF ?_⟩
        refine ⟨_, rfl, l, rfl, hl, by omega, fun H9 s9 => ?_⟩
        refine ⟨_, rfl, _, _, .str (S (mir l)), rfl, str_is, str_is, _, rfl, iteF ?_⟩
        refine ⟨_, rfl, l, rfl, hl, by omega, fun H10 s10 => ?_⟩
        refine ⟨_, rfl, _, _, .str (S (mir l).reverse), rfl, by rw [mir_rev]; exact str_is, str_is, _, rfl, iteF ?_⟩
        have S10 := (((s7.trans s8).trans s9).trans s10)
        have T10 := T6.same S10
        have tg10 := tab_same tg6 S10
        refine ⟨_, rfl, tp, rfl, T10, fun tv v H11 fv b11 t11 tv11 => ?_⟩
        have tg11 := tab_but tg10 b11 T10
        refine ⟨_, rfl, _, rfl, tv, v, l, rfl, tv11, fun ta H12 s12 ta12 => ?_⟩
        refine ⟨_, rfl, ta, _, (mir l).reverse, rfl, ta12, fun tc H13 s13 tc13 => ?_⟩
        rw [← mir_rev, run_back l fv.good hl] at tc13
        refine ⟨_, rfl, ne_same tc13 ((tv11.same s12).same s13) ⟨_, rfl, iteF ?_⟩⟩
        refine ⟨_, rfl, mir l, rfl, fun td H14 s14 td14 => ?_⟩
        refine ⟨_, rfl, l, rfl, fun te H15 s15 te15 => ?_⟩
        refine ⟨te, _, rfl, te15, fun tf H16 s16 tf16 => ?_⟩
        rw [← run_mir l Good.zero hl] at tf16
        refine ne_same (td14.same (s15.trans s16)) tf16 ⟨_, rfl, iteF ?_⟩
        have S16 := ((((s12.trans s13).trans s14).trans s15).trans s16)
        refine ⟨_, _, _, _, _, _, _, _, _, _, rfl, fun b o n1 e => ?_, tab_same tg11 S16⟩
        have e0 := bt b o n1 e
        have ntb : b ≠ tp := ne_of_none e0 ntp
        exact S16 _ _ (b11 _ _ ntb (S10 _ _ (s6 _ _ (s5 _ _ (F4 n1 ntb e0)))))
  · rintro σ G ⟨x1, x2, x3, x4, x5, x6, x7, x8, x9, x10, rfl, bt, tb⟩
    exact q G
end
section
/-! ### what the head tells: the table of opposites, the law's promise -/
theorem key_is {e : DictEntry} {x : Str} {k : Int} (h : He.keyOf e = some (x, k)) : ∃ t, e.key = .str x t := by
  unfold He.keyOf at h
  split at h
  · rename_i y t q
    obtain ⟨h1, _⟩ := Prod.mk.inj (Option.some.inj h)
    exact ⟨t, by rw [q, h1]⟩
  · cases h
theorem opp_of {K : PySem.W.Frag} {w : World} {a : Addr} (hd : He.dicW K a = some (He.keysIn w.params ["T", "U", "R"])) (hv : He.valsB K a [("T", .str "U"), ("U", .str "T"), ("R", .str "R")] = true) : Opp K w a := by
  obtain ⟨es, n, D⟩ := He.dicW_ok hd
  have v1 := He.valsB_ok hv (q := ("T", .str "U")) (List.mem_cons_self ..)
  have v2 := He.valsB_ok hv (q := ("U", .str "T")) (List.mem_cons_of_mem _ (List.mem_cons_self ..))
  have v3 := He.valsB_ok hv (q := ("R", .str "R")) (List.mem_cons_of_mem _ (List.mem_cons_of_mem _ (List.mem_cons_self ..)))
  refine ⟨⟨es, n, D⟩, fun c hc => ?_, fun c hc => ?_⟩
  · rcases letter_iff.mp hc with rfl | rfl | rfl
    · rw [← e_T, show opp 84 = 85 from rfl, ← e_U]; exact v1
    · rw [← e_U, show opp 85 = 84 from rfl, ← e_T]; exact v2
    · rw [← e_R, show opp 82 = 82 from rfl, ← e_R]; exact v3
  · have lk := D.at_
    unfold He.dicW at hd
    rw [lk] at hd
    have keys : es.toList.map He.keyOf = He.keysIn w.params ["T", "U", "R"] := by
      simp only at hd
      split at hd
      · exact Option.some.inj hd
      · cases hd
    obtain ⟨e1, r1, q1, k1, m1⟩ := List.map_eq_cons_iff.mp keys
    obtain ⟨e2, r2, q2, k2, m2⟩ := List.map_eq_cons_iff.mp m1
    obtain ⟨e3, r3, q3, k3, m3⟩ := List.map_eq_cons_iff.mp m2
    have q4 : r3 = [] := List.map_eq_nil_iff.mp m3
    subst q4
    obtain ⟨t1, k1⟩ := key_is k1
    obtain ⟨t2, k2⟩ := key_is k2
    obtain ⟨t3, k3⟩ := key_is k3
    have no : ∀ {b : Nat} {z : Str}, z = S [b] → letter b = true → ¬ z = S [c] := fun {b z} e hb q => by
      rw [e] at q
      have := S_inj q
      simp at this
      rw [this, hc] at hb
      cases hb
    have n1 := no e_T (by decide)
    have n2 := no e_U (by decide)
    have n3 := no e_R (by decide)
    unfold PySem.W.nsIn
    rw [lk]
    simp only
    rw [q1, q2, q3]
    simp [k1, k2, k3, Value.isStr, DictEntry.refKey, n1, n2, n3]
def spLawK (K : PySem.W.Frag) : Sp := spLaw K (He.cT K ("is_dance", none)).2
end
def d_after : He.DefD := ⟨("after", none), "after", "after", defArgs s_after, defBody s_after, defScope s_after, [], []⟩
def d_turned : He.DefD := ⟨("turned", none), "turned", "turned", defArgs s_turned, defBody s_turned, defScope s_turned, [], []⟩
def d_is_dance : He.DefD := ⟨("is_dance", none), "is_dance", "is_dance", defArgs s_is_dance, defBody s_is_dance, defScope s_is_dance, [], []⟩
def d_number : He.DefD := ⟨("number", none), "number", "number", defArgs s_number, defBody s_number, defScope s_number, [], []⟩
def d_backward : He.DefD := ⟨("backward", none), "backward", "backward", defArgs s_backward, defBody s_backward, defScope s_backward, [], []⟩
def d_mirrored : He.DefD := ⟨("mirrored", none), "mirrored", "mirrored", defArgs s_mirrored, defBody s_mirrored, defScope s_mirrored, [], []⟩
def d__law_tape : He.DefD := ⟨("_law_tape", none), "_law_tape", "_law_tape", defArgs s_law_tape, defBody s_law_tape, defScope s_law_tape, [], []⟩
def d__law_take : He.DefD := ⟨("_law_take", none), "_law_take", "_law_take", defArgs s_law_take, defBody s_law_take, defScope s_law_take, [], []⟩
def d__law_dance : He.DefD := ⟨("_law_dance", none), "_law_dance", "_law_dance", defArgs s_law_dance, defBody s_law_dance, defScope s_law_dance, [], []⟩
def d__law_called : He.DefD := ⟨("_law_called", none), "_law_called", "_law_called", defArgs s_law_called, defBody s_law_called, defScope s_law_called, [], []⟩
def d__law_number : He.DefD := ⟨("_law_number", none), "_law_number", "_law_number", defArgs s_law_number, defBody s_law_number, defScope s_law_number, [], []⟩
def d__law_same : He.DefD := ⟨("_law_same", none), "_law_same", "_law_same", defArgs s_law_same, defBody s_law_same, defScope s_law_same, [], []⟩
def d__law_says : He.DefD := ⟨("_law_says", none), "_law_says", "_law_says", defArgs s_law_says, defBody s_law_says, defScope s_law_says, [], []⟩
def d__law_divisor : He.DefD := ⟨("_law_divisor", none), "_law_divisor", "_law_divisor", defArgs s_law_divisor, defBody s_law_divisor, defScope s_law_divisor, [], []⟩
def d__law_integer : He.DefD := ⟨("_law_integer", none), "_law_integer", "_law_integer", defArgs s_law_integer, defBody s_law_integer, defScope s_law_integer, [], []⟩
def d__law_fraction : He.DefD := ⟨("_law_fraction", none), "_law_fraction", "_law_fraction", defArgs s_law_fraction, defBody s_law_fraction, defScope s_law_fraction, [], []⟩
def d__law_turned : He.DefD := ⟨("_law_turned", none), "_law_turned", "_law_turned", defArgs s_law_turned, defBody s_law_turned, defScope s_law_turned, [], []⟩
def d__law_opposite : He.DefD := ⟨("_law_opposite", none), "_law_opposite", "_law_opposite", defArgs s_law_opposite, defBody s_law_opposite, defScope s_law_opposite, [], []⟩
def d__law_spoilt : He.DefD := ⟨("_law_spoilt", none), "_law_spoilt", "_law_spoilt", defArgs s_law_spoilt, defBody s_law_spoilt, defScope s_law_spoilt, [], []⟩
def d__law_long_dance : He.DefD := ⟨("_law_long_dance", none), "_law_long_dance", "_law_long_dance", defArgs s_law_long_dance, defBody s_law_long_dance, defScope s_law_long_dance, [], []⟩
def d_law : He.DefD := ⟨("law", none), "law", "law", defArgs s_law, defBody s_law, defScope s_law, [], []⟩
def dfs : List He.DefD := [d_after, d_turned, d_is_dance, d_number, d_backward, d_mirrored, d__law_tape, d__law_take, d__law_dance, d__law_called, d__law_number, d__law_same, d__law_says, d__law_divisor, d__law_integer, d__law_fraction, d__law_turned, d__law_opposite, d__law_spoilt, d__law_long_dance, d_law]
def fas : List He.Fa := [.glo "after", .glo "turned", .glo "is_dance", .glo "number", .glo "backward", .glo "mirrored", .glo "_law_tape", .glo "_law_take", .glo "_law_dance", .glo "_law_called", .glo "_law_number", .glo "_law_same", .glo "_law_says", .glo "_law_divisor", .glo "_law_integer", .glo "_law_fraction", .glo "_law_turned", .glo "_law_opposite", .glo "_law_spoilt", .glo "_law_long_dance", .glo "law", .glo "OPPOSITES", .free "len", .free "abs", .free "int", .free "range", .free "isinstance", .free "tuple", .free "list", .free "str", .free "bool", .free "all"]
def tbs : List He.Tab := [(fun K => He.ga K "OPPOSITES", ["T", "U", "R"])]
def tfs : List He.Defn := [("is_dance", none)]
def exs (K : PySem.W.Frag) : Bool := He.valsB K (He.ga K "OPPOSITES") [("T", .str "U"), ("U", .str "T"), ("R", .str "R")]
abbrev Rw : PySem.W.OpenRow := PySem.W.OpenLaw.row PySem.Challenge.rw_ropedance_k03_dances
abbrev hk : PySem.W.Hook := He.hookX 6 fas dfs tbs tfs exs
def ob (s : PySem.W.SharedT) : He.AlX := He.obsX 6 fas dfs tbs tfs exs (HandSHeadRun.getT s)
theorem ob_eq (s : PySem.W.SharedT) : ob s = hk.obs s.abs := He.obsX_eq (HandSHeadRun.getT_eq s)
theorem head_run (w : World) : HandSHeadRun.RunEq Rw (PySem.W.view Rw.prog [24]) hk ob 1500 ["after", "turned", "is_dance", "number", "backward", "mirrored", "_law_tape", "_law_take", "_law_dance", "_law_called", "_law_number", "_law_same", "_law_says", "_law_divisor", "_law_integer", "_law_fraction", "_law_turned", "_law_opposite", "_law_spoilt", "_law_long_dance", "OPPOSITES"] w :=
  PySem.W.byRow2 "special-get-raises" (P := fun w => HandSHeadRun.RunEq Rw (PySem.W.view Rw.prog [24]) hk ob 1500 ["after", "turned", "is_dance", "number", "backward", "mirrored", "_law_tape", "_law_take", "_law_dance", "_law_called", "_law_number", "_law_same", "_law_says", "_law_divisor", "_law_integer", "_law_fraction", "_law_turned", "_law_opposite", "_law_spoilt", "_law_long_dance", "OPPOSITES"] w) (fun w => by intro os; kernel_rfl) (fun w => by intro os; kernel_rfl) w
theorem fun_of {K : PySem.W.Frag} {d : He.DefD} {f : Addr} {fd : FuncData} {st : Stmt} (h : FunD K d.name d.qual d.params d.body d.scope (d.dvs K) (d.kws K) f fd) (ha : d.params = defArgs st) (hb : d.body = defBody st) (hs : d.scope = defScope st) (h0 : d.dfl = []) (h1 : d.kwd = []) : Fun K d.name d.qual st f fd := by
  obtain ⟨oc, od, dV, kV, doc, pm, an, cdv, ct, osl, e, lk, cd, dfl, kw⟩ := h.ex
  have e0 : d.dvs K = [] := by unfold He.DefD.dvs; rw [h0]; rfl
  rw [e0] at dfl
  have ed : dV = .none := by
    rcases dfl with ⟨_, q⟩ | ⟨q, _⟩
    · exact q
    · exact absurd rfl q
  subst ed
  rw [ha, hb, hs] at e
  exact ⟨⟨oc, od, kV, doc, pm, an, cdv, ct, osl, e, lk, cd⟩, h.kp⟩
theorem spLaw_from (K : PySem.W.Frag) : ∀ (H : Hp) (a : Addr) (ns : List Int), ns.length ≤ 63 → (∀ z ∈ ns, Builtin.Int.intBits z ≤ 1048576) → (∀ p ∈ tfs.map (He.cT K), H p.2 = some (.tbl #[])) → SqL K H a (ns.map V.int) → spLawK K [.ref a] H (fun v _ => v = .bl true) fun _ _ _ => False :=
  fun H a ns hl _ hT hS => ⟨a, ns, rfl, hS, hl, ⟨#[], hT _ (List.mem_map.mpr ⟨("is_dance", none), List.mem_cons_self .., rfl⟩), trivial⟩, fun _ => rfl⟩
theorem all_facts {P : Program} {w : World} {K : PySem.W.Frag} {h : Heap} {mg : Str → Option Value} {fa : Addr} (X : K.In h) (G : h.Ns mainGlobals mg) (hfa : mg ("law" : Str) = some (.ref fa)) (c : He.SaysX fas dfs tbs tfs exs w h K) :
    ∃ fd : FuncData, (∀ (s : Shared) (v : Value), BindsTo s fd ⟨[v], []⟩ [("script", v)]) ∧ ∀ base : Heap, K.In base → base.Ns mainGlobals mg → (∀ p ∈ tfs.map (He.cT K), LamX.TabB base mg p.1 p.2) → FnOk P w K mg base CX0 4 fa fd ["script"] (spLawK K) := by
  have cd := c.t.d
  obtain ⟨fd0, G0⟩ := cd.def_ 0 (d := d_after) rfl
  have F_after : Fun K "after" "after" s_after _ fd0 := fun_of G0 rfl rfl rfl rfl rfl
  have m_after := He.glo_ok X G (cd.fact 0 (f := .glo "after") rfl)
  have b_after := F_after.binds (ps := ["fraction", "dance"]) fun _ _ _ _ _ _ us hl => match us, hl with | [_, _], _ => rfl
  obtain ⟨fd1, G1⟩ := cd.def_ 1 (d := d_turned) rfl
  have F_turned : Fun K "turned" "turned" s_turned _ fd1 := fun_of G1 rfl rfl rfl rfl rfl
  have m_turned := He.glo_ok X G (cd.fact 1 (f := .glo "turned") rfl)
  have b_turned := F_turned.binds (ps := ["p", "q"]) fun _ _ _ _ _ _ us hl => match us, hl with | [_, _], _ => rfl
  obtain ⟨fd2, G2⟩ := cd.def_ 2 (d := d_is_dance) rfl
  have F_is_dance : Fun K "is_dance" "is_dance" s_is_dance _ fd2 := fun_of G2 rfl rfl rfl rfl rfl
  have m_is_dance := He.glo_ok X G (cd.fact 2 (f := .glo "is_dance") rfl)
  have b_is_dance := F_is_dance.binds (ps := ["text"]) fun _ _ _ _ _ _ us hl => match us, hl with | [_], _ => rfl
  obtain ⟨fd3, G3⟩ := cd.def_ 3 (d := d_number) rfl
  have F_number : Fun K "number" "number" s_number _ fd3 := fun_of G3 rfl rfl rfl rfl rfl
  have m_number := He.glo_ok X G (cd.fact 3 (f := .glo "number") rfl)
  have b_number := F_number.binds (ps := ["dance"]) fun _ _ _ _ _ _ us hl => match us, hl with | [_], _ => rfl
  obtain ⟨fd4, G4⟩ := cd.def_ 4 (d := d_backward) rfl
  have F_backward : Fun K "backward" "backward" s_backward _ fd4 := fun_of G4 rfl rfl rfl rfl rfl
  have m_backward := He.glo_ok X G (cd.fact 4 (f := .glo "backward") rfl)
  have b_backward := F_backward.binds (ps := ["dance"]) fun _ _ _ _ _ _ us hl => match us, hl with | [_], _ => rfl
  obtain ⟨fd5, G5⟩ := cd.def_ 5 (d := d_mirrored) rfl
  have F_mirrored : Fun K "mirrored" "mirrored" s_mirrored _ fd5 := fun_of G5 rfl rfl rfl rfl rfl
  have m_mirrored := He.glo_ok X G (cd.fact 5 (f := .glo "mirrored") rfl)
  have b_mirrored := F_mirrored.binds (ps := ["dance"]) fun _ _ _ _ _ _ us hl => match us, hl with | [_], _ => rfl
  obtain ⟨fd6, G6⟩ := cd.def_ 6 (d := d__law_tape) rfl
  have F__law_tape : Fun K "_law_tape" "_law_tape" s_law_tape _ fd6 := fun_of G6 rfl rfl rfl rfl rfl
  have m__law_tape := He.glo_ok X G (cd.fact 6 (f := .glo "_law_tape") rfl)
  have b__law_tape := F__law_tape.binds (ps := ["script", "k"]) fun _ _ _ _ _ _ us hl => match us, hl with | [_, _], _ => rfl
  obtain ⟨fd7, G7⟩ := cd.def_ 7 (d := d__law_take) rfl
  have F__law_take : Fun K "_law_take" "_law_take" s_law_take _ fd7 := fun_of G7 rfl rfl rfl rfl rfl
  have m__law_take := He.glo_ok X G (cd.fact 7 (f := .glo "_law_take") rfl)
  have b__law_take := F__law_take.binds (ps := ["tape", "many"]) fun _ _ _ _ _ _ us hl => match us, hl with | [_, _], _ => rfl
  obtain ⟨fd8, G8⟩ := cd.def_ 8 (d := d__law_dance) rfl
  have F__law_dance : Fun K "_law_dance" "_law_dance" s_law_dance _ fd8 := fun_of G8 rfl rfl rfl rfl rfl
  have m__law_dance := He.glo_ok X G (cd.fact 8 (f := .glo "_law_dance") rfl)
  have b__law_dance := F__law_dance.binds (ps := ["tape", "most"]) fun _ _ _ _ _ _ us hl => match us, hl with | [_, _], _ => rfl
  obtain ⟨fd9, G9⟩ := cd.def_ 9 (d := d__law_called) rfl
  have F__law_called : Fun K "_law_called" "_law_called" s_law_called _ fd9 := fun_of G9 rfl rfl rfl rfl rfl
  have m__law_called := He.glo_ok X G (cd.fact 9 (f := .glo "_law_called") rfl)
  have b__law_called := F__law_called.binds (ps := ["value", "letter"]) fun _ _ _ _ _ _ us hl => match us, hl with | [_, _], _ => rfl
  obtain ⟨fd10, G10⟩ := cd.def_ 10 (d := d__law_number) rfl
  have F__law_number : Fun K "_law_number" "_law_number" s_law_number _ fd10 := fun_of G10 rfl rfl rfl rfl rfl
  have m__law_number := He.glo_ok X G (cd.fact 10 (f := .glo "_law_number") rfl)
  have b__law_number := F__law_number.binds (ps := ["dance"]) fun _ _ _ _ _ _ us hl => match us, hl with | [_], _ => rfl
  obtain ⟨fd11, G11⟩ := cd.def_ 11 (d := d__law_same) rfl
  have F__law_same : Fun K "_law_same" "_law_same" s_law_same _ fd11 := fun_of G11 rfl rfl rfl rfl rfl
  have m__law_same := He.glo_ok X G (cd.fact 11 (f := .glo "_law_same") rfl)
  have b__law_same := F__law_same.binds (ps := ["told", "due"]) fun _ _ _ _ _ _ us hl => match us, hl with | [_, _], _ => rfl
  obtain ⟨fd12, G12⟩ := cd.def_ 12 (d := d__law_says) rfl
  have F__law_says : Fun K "_law_says" "_law_says" s_law_says _ fd12 := fun_of G12 rfl rfl rfl rfl rfl
  have m__law_says := He.glo_ok X G (cd.fact 12 (f := .glo "_law_says") rfl)
  have b__law_says := F__law_says.binds (ps := ["told", "due"]) fun _ _ _ _ _ _ us hl => match us, hl with | [_, _], _ => rfl
  obtain ⟨fd13, G13⟩ := cd.def_ 13 (d := d__law_divisor) rfl
  have F__law_divisor : Fun K "_law_divisor" "_law_divisor" s_law_divisor _ fd13 := fun_of G13 rfl rfl rfl rfl rfl
  have m__law_divisor := He.glo_ok X G (cd.fact 13 (f := .glo "_law_divisor") rfl)
  have b__law_divisor := F__law_divisor.binds (ps := ["one", "other"]) fun _ _ _ _ _ _ us hl => match us, hl with | [_, _], _ => rfl
  obtain ⟨fd14, G14⟩ := cd.def_ 14 (d := d__law_integer) rfl
  have F__law_integer : Fun K "_law_integer" "_law_integer" s_law_integer _ fd14 := fun_of G14 rfl rfl rfl rfl rfl
  have m__law_integer := He.glo_ok X G (cd.fact 14 (f := .glo "_law_integer") rfl)
  have b__law_integer := F__law_integer.binds (ps := ["tape"]) fun _ _ _ _ _ _ us hl => match us, hl with | [_], _ => rfl
  obtain ⟨fd15, G15⟩ := cd.def_ 15 (d := d__law_fraction) rfl
  have F__law_fraction : Fun K "_law_fraction" "_law_fraction" s_law_fraction _ fd15 := fun_of G15 rfl rfl rfl rfl rfl
  have m__law_fraction := He.glo_ok X G (cd.fact 15 (f := .glo "_law_fraction") rfl)
  have b__law_fraction := F__law_fraction.binds (ps := ["tape"]) fun _ _ _ _ _ _ us hl => match us, hl with | [_], _ => rfl
  obtain ⟨fd16, G16⟩ := cd.def_ 16 (d := d__law_turned) rfl
  have F__law_turned : Fun K "_law_turned" "_law_turned" s_law_turned _ fd16 := fun_of G16 rfl rfl rfl rfl rfl
  have m__law_turned := He.glo_ok X G (cd.fact 16 (f := .glo "_law_turned") rfl)
  have b__law_turned := F__law_turned.binds (ps := ["dance"]) fun _ _ _ _ _ _ us hl => match us, hl with | [_], _ => rfl
  obtain ⟨fd17, G17⟩ := cd.def_ 17 (d := d__law_opposite) rfl
  have F__law_opposite : Fun K "_law_opposite" "_law_opposite" s_law_opposite _ fd17 := fun_of G17 rfl rfl rfl rfl rfl
  have m__law_opposite := He.glo_ok X G (cd.fact 17 (f := .glo "_law_opposite") rfl)
  have b__law_opposite := F__law_opposite.binds (ps := ["value"]) fun _ _ _ _ _ _ us hl => match us, hl with | [_], _ => rfl
  obtain ⟨fd18, G18⟩ := cd.def_ 18 (d := d__law_spoilt) rfl
  have F__law_spoilt : Fun K "_law_spoilt" "_law_spoilt" s_law_spoilt _ fd18 := fun_of G18 rfl rfl rfl rfl rfl
  have m__law_spoilt := He.glo_ok X G (cd.fact 18 (f := .glo "_law_spoilt") rfl)
  have b__law_spoilt := F__law_spoilt.binds (ps := ["tape", "dance"]) fun _ _ _ _ _ _ us hl => match us, hl with | [_, _], _ => rfl
  obtain ⟨fd19, G19⟩ := cd.def_ 19 (d := d__law_long_dance) rfl
  have F__law_long_dance : Fun K "_law_long_dance" "_law_long_dance" s_law_long_dance _ fd19 := fun_of G19 rfl rfl rfl rfl rfl
  have m__law_long_dance := He.glo_ok X G (cd.fact 19 (f := .glo "_law_long_dance") rfl)
  have b__law_long_dance := F__law_long_dance.binds (ps := ["tape", "k"]) fun _ _ _ _ _ _ us hl => match us, hl with | [_, _], _ => rfl
  obtain ⟨fd20, G20⟩ := cd.def_ 20 (d := d_law) rfl
  have F_law : Fun K "law" "law" s_law _ fd20 := fun_of G20 rfl rfl rfl rfl rfl
  have m_law := He.glo_ok X G (cd.fact 20 (f := .glo "law") rfl)
  have b_law := F_law.binds (ps := ["script"]) fun _ _ _ _ _ _ us hl => match us, hl with | [_], _ => rfl
  have t_OPPOSITES := He.glo_ok X G (cd.fact 21 (f := .glo "OPPOSITES") rfl)
  have y_len := He.free_ok X G (cd.fact 22 (f := .free "len") rfl)
  have y_abs := He.free_ok X G (cd.fact 23 (f := .free "abs") rfl)
  have y_int := He.free_ok X G (cd.fact 24 (f := .free "int") rfl)
  have y_range := He.free_ok X G (cd.fact 25 (f := .free "range") rfl)
  have y_isinstance := He.free_ok X G (cd.fact 26 (f := .free "isinstance") rfl)
  have y_tuple := He.free_ok X G (cd.fact 27 (f := .free "tuple") rfl)
  have y_list := He.free_ok X G (cd.fact 28 (f := .free "list") rfl)
  have y_str := He.free_ok X G (cd.fact 29 (f := .free "str") rfl)
  have y_bool := He.free_ok X G (cd.fact 30 (f := .free "bool") rfl)
  have y_all := He.free_ok X G (cd.fact 31 (f := .free "all") rfl)
  have e := hfa.symm.trans m_law
  cases e
  refine ⟨fd20, fun s v => ?_, fun base KB GB TB => ?_⟩
  · obtain ⟨oc, od, kV, doc, pm, an, cdv, ct, osl, e, _⟩ := F_law.ex
    rw [e]
    exact .of_eq rfl
  have D_tape : Dfn P w K mg base "_law_tape" 1 _ (spTape K) := ⟨_, _, ok_tape F__law_tape y_len y_abs y_int, m__law_tape, F__law_tape.kp, b__law_tape⟩
  have D_take : Dfn P w K mg base "_law_take" 1 _ spTake := ⟨_, _, ok_take F__law_take y_int, m__law_take, F__law_take.kp, b__law_take⟩
  have D_dance : Dfn P w K mg base "_law_dance" 2 _ spDance := ⟨_, _, ok_dance F__law_dance D_take y_range, m__law_dance, F__law_dance.kp, b__law_dance⟩
  have D_called : Dfn P w K mg base "_law_called" 1 _ (spCalled K) := ⟨_, _, ok_called F__law_called, m__law_called, F__law_called.kp, b__law_called⟩
  have D_number : Dfn P w K mg base "_law_number" 2 _ (spNumber K) := ⟨_, _, ok_number F__law_number D_called, m__law_number, F__law_number.kp, b__law_number⟩
  have D_divisor : Dfn P w K mg base "_law_divisor" 1 _ spDivisor := ⟨_, _, ok_divisor F__law_divisor y_abs y_int, m__law_divisor, F__law_divisor.kp, b__law_divisor⟩
  have D_integer : Dfn P w K mg base "_law_integer" 2 _ spInteger := ⟨_, _, ok_integer F__law_integer D_take y_range y_int, m__law_integer, F__law_integer.kp, b__law_integer⟩
  have D_fraction : Dfn P w K mg base "_law_fraction" 3 _ spFraction := ⟨_, _, ok_fraction F__law_fraction D_take D_dance D_number D_integer D_divisor y_abs, m__law_fraction, F__law_fraction.kp, b__law_fraction⟩
  have D_long_dance : Dfn P w K mg base "_law_long_dance" 3 _ spLong := ⟨_, _, ok_long F__law_long_dance D_take D_dance, m__law_long_dance, F__law_long_dance.kp, b__law_long_dance⟩
  have D_same0 : Dfn P w K mg base "_law_same" 0 _ (spSame 0) := ⟨_, _, none_same, m__law_same, F__law_same.kp, b__law_same⟩
  have D_same1 : Dfn P w K mg base "_law_same" 1 _ (spSame 1) := ⟨_, _, ok_same F__law_same D_same0 y_isinstance y_tuple y_list y_len y_range y_str y_int y_bool, m__law_same, F__law_same.kp, b__law_same⟩
  have D_same2 : Dfn P w K mg base "_law_same" 2 _ (spSame 2) := ⟨_, _, ok_same F__law_same D_same1 y_isinstance y_tuple y_list y_len y_range y_str y_int y_bool, m__law_same, F__law_same.kp, b__law_same⟩
  have D_same3 : Dfn P w K mg base "_law_same" 3 _ (spSame 3) := ⟨_, _, ok_same F__law_same D_same2 y_isinstance y_tuple y_list y_len y_range y_str y_int y_bool, m__law_same, F__law_same.kp, b__law_same⟩
  have D_says : Dfn P w K mg base "_law_says" 1 _ spSays := ⟨_, _, ok_says F__law_says y_isinstance y_bool, m__law_says, F__law_says.kp, b__law_says⟩
  have O : Opp K w (He.ga K "OPPOSITES") := by
    have e : He.obsT fas dfs tbs K = He.valT dfs tbs w := c.t
    have e2 := congrArg (fun z : He.AlT => z.2) e
    have e3 : [He.dicW K (He.ga K "OPPOSITES")] = [some (He.keysIn w.params ["T", "U", "R"])] := e2
    exact opp_of (List.cons.inj e3).1 c.more
  have TBG : GxR.TabB base mg (He.cT K ("is_dance", none)).1 (He.cT K ("is_dance", none)).2 := by
    have t := TB (He.cT K ("is_dance", none)) (List.mem_map.mpr ⟨("is_dance", none), List.mem_cons_self .., rfl⟩)
    exact ⟨t.code, t.bm, t.gP⟩
  have codeIs : fd2.code = .ref (He.cT K ("is_dance", none)).1 := by
    obtain ⟨oc, od, kV, doc, pm, an, cdv, ct, osl, e, lk, cdn⟩ := F_is_dance.ex
    obtain ⟨x, hx⟩ := He.codeIn_ref cdn
    have hc : fd2.code = .ref x := by rw [e]; exact hx
    rw [hc]
    exact congrArg Value.ref (He.codeOf_eq (p := ("is_dance", none)) lk hc).symm
  have D_is_dance : Dfn P w K mg base "is_dance" 1 _ (spIsDance (He.cT K ("is_dance", none)).2) := ⟨_, _, ok_is_dance F_is_dance codeIs TBG O t_OPPOSITES y_all, m_is_dance, F_is_dance.kp, b_is_dance⟩
  have D_turned : Dfn P w K mg base "turned" 1 _ spTurned := ⟨_, _, ok_turned F_turned, m_turned, F_turned.kp, b_turned⟩
  have D_after : Dfn P w K mg base "after" 2 _ spAfter := ⟨_, _, ok_after F_after D_turned, m_after, F_after.kp, b_after⟩
  have D_num : Dfn P w K mg base "number" 3 _ spNum := ⟨_, _, ok_num F_number D_after, m_number, F_number.kp, b_number⟩
  have D_mirrored : Dfn P w K mg base "mirrored" 1 _ spMir := ⟨_, _, ok_mirrored F_mirrored O t_OPPOSITES, m_mirrored, F_mirrored.kp, b_mirrored⟩
  have D_backward : Dfn P w K mg base "backward" 2 _ spBack := ⟨_, _, ok_backward F_backward D_mirrored, m_backward, F_backward.kp, b_backward⟩
  have D_lturned : Dfn P w K mg base "_law_turned" 1 _ spMir := ⟨_, _, ok_law_turned F__law_turned, m__law_turned, F__law_turned.kp, b__law_turned⟩
  have D_opposite : Dfn P w K mg base "_law_opposite" 1 _ spOpp := ⟨_, _, ok_opposite F__law_opposite, m__law_opposite, F__law_opposite.kp, b__law_opposite⟩
  have D_spoilt : Dfn P w K mg base "_law_spoilt" 2 _ spSpoilt := ⟨_, _, ok_spoilt F__law_spoilt D_take y_len, m__law_spoilt, F__law_spoilt.kp, b__law_spoilt⟩
  exact ok_law F_law (D_tape.mono (by decide)) D_fraction D_long_dance (D_spoilt.mono (by decide)) (D_says.mono (by decide)) (D_is_dance.mono (by decide)) (D_lturned.mono (by decide)) D_same3 (D_after.mono (by decide)) D_num (D_number.mono (by decide)) (D_mirrored.mono (by decide)) (D_backward.mono (by decide)) (D_opposite.mono (by decide)) y_range y_len
end Rope
open PySem PySem.W PySem.Calls PyProof.Rows
set_option maxRecDepth 100000 in
set_option maxHeartbeats 0 in
theorem PySem.Challenge.cw_ropedance_k03_dances_holds : PySem.Challenge.rw_ropedance_k03_dances.Holds := by
  w_on; o_law
  refine HandSHeadRun.head_any (r := OpenLaw.row PySem.Challenge.rw_ropedance_k03_dances) (q := view (OpenLaw.row PySem.Challenge.rw_ropedance_k03_dances).prog [24]) (H := Rope.hk) (ob := Rope.ob) (M := 1500) (loose := ["after", "turned", "is_dance", "number", "backward", "mirrored", "_law_tape", "_law_take", "_law_dance", "_law_called", "_law_number", "_law_same", "_law_says", "_law_divisor", "_law_integer", "_law_fraction", "_law_turned", "_law_opposite", "_law_spoilt", "_law_long_dance", "OPPOSITES"]) (d := HandSHeadRun.topDef (OpenLaw.row PySem.Challenge.rw_ropedance_k03_dances).prog 24) (kwd := []) Rope.ob_eq
    (by kernel_rfl) (fun s => by kernel_rfl) Rope.head_run (by kernel_rfl) (by kernel_rfl) (by kernel_rfl) (by rfl) (by first | assumption | decide +kernel) (by decide +kernel) ⟨rfl, rfl, rfl, rfl, rfl, by decide +kernel⟩ ?hw ?hc
  case hw => w_witness2
  case hc =>
    refine LamX.walk_ofTsE (l := PySem.Challenge.rw_ropedance_k03_dances) (n := 63) (k := 4) (x := "script") (CX := fun _ => L2.CX0) rfl (by decide) (by kernel_rfl) ⟨rfl, by decide, by decide⟩ ?F (fun _ _ _ _ _ z => z)
    intro w mg fa h Y G hmg0
    obtain ⟨K, KX, c⟩ := Y
    have hmg : mg ("law" : PySem.Str) = some (.ref fa) := by
      have e : (HandSHeadRun.topDef (OpenLaw.row PySem.Challenge.rw_ropedance_k03_dances).prog 24).name = ("law" : PySem.Str) := by kernel_rfl
      rw [← e]
      exact hmg0
    obtain ⟨fd, hb, hF⟩ := Rope.all_facts (P := (PySem.Challenge.rw_ropedance_k03_dances).prog) (w := w) KX G hmg c
    refine ⟨K, KX, fd, Rope.tfs.map (He.cT K), Rope.spLawK K, fun p hp => ?_, fun p hp => ?_, fun p hp => ?_, hb, Rope.spLaw_from K, hF⟩
    · obtain ⟨x, hx, rfl⟩ := List.mem_map.mp hp
      exact c.empty x hx
    · obtain ⟨x, hx, rfl⟩ := List.mem_map.mp hp
      exact c.out x hx
    · obtain ⟨x, hx, rfl⟩ := List.mem_map.mp hp
      exact PySem.W.codeHd_of_K KX (c.hd x hx)
