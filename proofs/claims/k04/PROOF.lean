import PyProof.Rows.All
import Wide.All
import OpenK.AllK
import Wide.FinOn
import PyProof.StrBlock2
import HandS.ForMost
import HandS.Wide
import HandS.IsInst
import PySem.Challenge.RW_ropedance_k04_ends_and_pieces
set_option Elab.async false
set_option linter.all false
set_option maxRecDepth 100000
set_option maxHeartbeats 4000000
namespace Rope
open PySem L2


/-! ### texts as lists of codes -/
def S (l : List Nat) : Str := ⟨l.toArray⟩
theorem S_len (l : List Nat) : (S l).length = l.length := by simp [S, Str.length]
theorem S_list (l : List Nat) : (S l).cps.toList = l := by simp [S]
theorem S_size (l : List Nat) : (S l).cps.size = l.length := by simp [S]
theorem S_get (l : List Nat) (i : Nat) : (S l).cps[i]? = l[i]? := by simp [S]
theorem S_inj {l m : List Nat} (h : S l = S m) : l = m := by
  have := congrArg (fun z : Str => z.cps.toList) h
  simpa [S] using this
theorem S_app (l m : List Nat) : S l ++ S m = S (l ++ m) := by
  show Str.append (S l) (S m) = S (l ++ m)
  simp [Str.append, S]
theorem S_mul (l : List Nat) (n : Int) : Txt.mul (S l) n = S (List.replicate n.toNat l).flatten := by
  unfold Txt.mul
  by_cases h1 : n < 1
  · rw [if_pos h1]
    have : n.toNat = 0 := by omega
    rw [this]
    rfl
  · rw [if_neg h1]
    by_cases h2 : (n == 1 || (S l).length == 0) = true
    · rw [if_pos h2]
      simp only [Bool.or_eq_true, beq_iff_eq] at h2
      rcases h2 with h2 | h2
      · subst h2
        show S l = S (List.replicate 1 l).flatten
        simp
      · rw [S_len] at h2
        have : l = [] := List.eq_nil_of_length_eq_zero h2
        subst this
        simp
    · rw [if_neg h2]
      have aux : ∀ (k : Nat) (a : Array Nat), ((List.replicate k (S l).cps).foldl (· ++ ·) a).toList = a.toList ++ (List.replicate k l).flatten := by
        intro k
        induction k with
        | zero => intro a; simp
        | succ k ih =>
          intro a
          rw [List.replicate_succ, List.foldl_cons, ih, List.replicate_succ, List.flatten_cons, Array.toList_append, List.append_assoc, S_list]
      have := aux n.toNat #[]
      unfold S
      congr 1
      apply Array.toList_inj.mp
      rw [show S l = (⟨l.toArray⟩ : Str) from rfl] at this
      rw [this]
      simp
theorem S_cut (l : List Nat) (lo hi : Option Int) : cutS (S l) lo hi = S ((l.drop (HT.sIx l.length 0 lo)).take (HT.sIx l.length l.length hi - HT.sIx l.length 0 lo)) := by
  unfold cutS
  rw [S_len, S_list]
  rfl
theorem S_take (l : List Nat) {m : Int} (h : 0 ≤ m) : cutS (S l) none (some m) = S (l.take m.toNat) := by
  obtain ⟨k, rfl⟩ := Int.eq_ofNat_of_zero_le h
  rw [S_cut, HT.sIx_none, HT.sIx_nat, List.drop_zero, Nat.sub_zero, Int.toNat_natCast]
  congr 1
  by_cases h2 : k ≤ l.length
  · rw [Nat.min_eq_left h2]
  · rw [Nat.min_eq_right (by omega), List.take_of_length_le (Nat.le_refl _), List.take_of_length_le (by omega)]
theorem S_drop (l : List Nat) {m : Int} (h : 0 ≤ m) : cutS (S l) (some m) none = S (l.drop m.toNat) := by
  obtain ⟨k, rfl⟩ := Int.eq_ofNat_of_zero_le h
  rw [S_cut, HT.sIx_none, HT.sIx_nat, Int.toNat_natCast]
  congr 1
  rw [List.take_of_length_le (by simp)]
  by_cases h2 : k ≤ l.length
  · rw [Nat.min_eq_left h2]
  · rw [Nat.min_eq_right (by omega), List.drop_length, List.drop_eq_nil_of_le (by omega)]
/-- a text times an int -/
theorem op_mul_str {X : Cx} : OpR X (binaryOp .Mult) (fun x y H Q => ∃ (l : List Nat) (n : Int), x = .str (S l) ∧ y = .int n ∧ 0 ≤ n ∧ n < 2 ^ 62 ∧ l.length * n.toNat ≤ 16777215 ∧ Q (.str (S (List.replicate n.toNat l).flatten)) H) := by
  intro pins s σ H x y v u Q I rx ry h
  obtain ⟨l, n, rfl, rfl, h0, h1, h2, q⟩ := h
  obtain ⟨t, rfl⟩ := rx
  obtain ⟨t', rfl⟩ := ry
  have e1 : decide (n < -(2 ^ 63 : Int)) = false := decide_eq_false (by omega)
  have e2 : decide (n ≥ 2 ^ 63) = false := decide_eq_false (by omega)
  refine SB.mul ⟨by rw [e1, e2]; rfl, fun z1 z2 => ?_, fun z1 z2 => ?_⟩ fun t' k => ⟨.str _, H, I.tok _, ⟨_, rfl⟩, by rw [S_mul]; exact q⟩
  · rw [S_len]
    have h3 : (l.length : Int) * n ≤ 16777215 := by
      have : ((l.length * n.toNat : Nat) : Int) ≤ 16777215 := Int.ofNat_le.mpr h2
      rw [Int.natCast_mul, Int.toNat_of_nonneg h0] at this
      exact this
    have hn : 0 < n := by omega
    intro hc
    have hc' : (2 ^ 63 - 1) / n < (l.length : Int) := hc
    have := (Int.ediv_lt_iff_lt_mul hn).mp hc'
    omega
  · rw [S_len]
    unfold Builtin.Str.tooLong
    rw [sizeLine_eq]
    exact decide_eq_false (by omega)
/-! ### the calls: a fraction by a letter -/
def called (v : Int × Int) (c : Nat) : Int × Int :=
  if c = 84 then (v.1 + v.2, v.2) else if c = 85 then (v.1 - v.2, v.2) else if 0 < v.1 then (0 - v.2, v.1) else if v.1 < 0 then (v.2, 0 - v.1) else (1, 0)
def run (v : Int × Int) (l : List Nat) : Int × Int := l.foldl called v
theorem run_nil (v : Int × Int) : run v [] = v := rfl
theorem run_app (v : Int × Int) (l m : List Nat) : run v (l ++ m) = run (run v l) m := List.foldl_append
theorem run_take {l : List Nat} {i c : Nat} (v : Int × Int) (h : l[i]? = some c) : run v (l.take (i + 1)) = called (run v (l.take i)) c := by
  rw [List.take_add_one, h, run_app]
  rfl
/-- what a fraction of the laws keeps: q positive or infinite, no common divisor -/
def Good (v : Int × Int) : Prop := (0 < v.2 ∨ v = (1, 0)) ∧ Int.gcd v.1 v.2 = 1
theorem Good.zero : Good (0, 1) := ⟨.inl (by decide), by decide⟩
theorem gcd_add' (p q : Int) : Int.gcd (p + q) q = Int.gcd p q := by
  have := Int.gcd_add_mul_right_left p q 1
  simpa using this
theorem Good.called {v : Int × Int} (h : Good v) (c : Nat) : Good (called v c) := by
  obtain ⟨p, q⟩ := v
  obtain ⟨h1, h2⟩ := h
  simp only at h1 h2
  unfold Rope.called
  by_cases c1 : c = 84
  · rw [if_pos c1]
    refine ⟨?_, ?_⟩
    · rcases h1 with h1 | h1
      · exact .inl h1
      · cases h1; exact .inr rfl
    · show Int.gcd (p + q) q = 1
      rw [gcd_add']; exact h2
  rw [if_neg c1]
  by_cases c2 : c = 85
  · rw [if_pos c2]
    refine ⟨?_, ?_⟩
    · rcases h1 with h1 | h1
      · exact .inl h1
      · cases h1; exact .inr rfl
    · show Int.gcd (p - q) q = 1
      have := gcd_add' (p - q) q
      rw [Int.sub_add_cancel] at this
      rw [← this]; exact h2
  rw [if_neg c2]
  by_cases c3 : 0 < p
  · rw [if_pos (show 0 < (p, q).1 from c3)]
    refine ⟨.inl c3, ?_⟩
    show Int.gcd (0 - q) p = 1
    rw [Int.zero_sub, Int.neg_gcd, Int.gcd_comm]; exact h2
  rw [if_neg (show ¬ 0 < (p, q).1 from c3)]
  by_cases c4 : p < 0
  · rw [if_pos (show (p, q).1 < 0 from c4)]
    refine ⟨.inl (by show 0 < 0 - p; omega), ?_⟩
    show Int.gcd q (0 - p) = 1
    rw [Int.zero_sub, Int.gcd_neg, Int.gcd_comm]; exact h2
  rw [if_neg (show ¬ (p, q).1 < 0 from c4)]
  exact ⟨.inr rfl, by decide⟩
theorem good_run : ∀ (l : List Nat) {v : Int × Int}, Good v → Good (run v l)
  | [], _, h => h
  | c :: r, _, h => good_run r (h.called c)
/-- its size grows by a bit a letter -/
theorem called_size {v : Int × Int} {n : Nat} (h1 : v.1.natAbs ≤ n) (h2 : v.2.natAbs ≤ n) (h0 : 1 ≤ n) (c : Nat) : (called v c).1.natAbs ≤ 2 * n ∧ (called v c).2.natAbs ≤ 2 * n := by
  unfold called
  repeat' split
  all_goals simp only
  all_goals omega
theorem run_size : ∀ (l : List Nat) {v : Int × Int} {n : Nat}, v.1.natAbs ≤ n → v.2.natAbs ≤ n → 1 ≤ n → (run v l).1.natAbs ≤ 2 ^ l.length * n ∧ (run v l).2.natAbs ≤ 2 ^ l.length * n
  | [], v, n, h1, h2, _ => by simpa [run] using ⟨h1, h2⟩
  | c :: r, v, n, h1, h2, h0 => by
    have q := called_size h1 h2 h0 c
    have ih := run_size r q.1 q.2 (by omega)
    have e : 2 ^ (c :: r).length * n = 2 ^ r.length * (2 * n) := by
      rw [List.length_cons, Nat.pow_succ, Nat.mul_assoc]
    rw [e]
    exact ih
/-! ### the divisor -/
theorem gcd_step (x y : Int) : Nat.gcd y.natAbs (x.fmod y).natAbs = Nat.gcd x.natAbs y.natAbs := by
  show Int.gcd y (x.fmod y) = Int.gcd x y
  have e : x.fmod y = x + y * (-(x.fdiv y)) := by
    have := Int.fmod_def x y
    rw [this, Int.mul_neg]
    rfl
  rw [e, Int.gcd_add_mul_left_right, Int.gcd_comm]
theorem fmod_less {x y : Int} (h : y ≠ 0) : (x.fmod y).natAbs < y.natAbs := by
  by_cases h0 : 0 < y
  · rw [Int.fmod_eq_emod_of_nonneg x (by omega)]
    have h1 := Int.emod_nonneg x h
    have h2 := Int.emod_lt_of_pos x h0
    omega
  · have e : x.fmod y = -((-x).fmod (-y)) := by
      have := Int.neg_fmod_neg (a := x) (b := y)
      omega
    rw [e, Int.fmod_eq_emod_of_nonneg _ (by omega)]
    have h1 := Int.emod_nonneg (-x) (b := -y) (by omega)
    have h2 := Int.emod_lt_of_pos (-x) (b := -y) (by omega)
    omega
/-- for letter in text -/
theorem for_str {l : List Nat} {g : TG} {tb : TS} {D : Ends} {σ : L2.St} {H : Hp} (Pv : Nat → L2.St → Hp → Prop) (h0 : Pv 0 σ H)
    (hs : ∀ i c σ H, l[i]? = some c → Pv i σ H → g (.str (S [c])) σ H fun σ2 H2 => tb { D with nx := Pv (i + 1), ct := Pv (i + 1), bk := D.nx } σ2 H2) (hd : ∀ σ H, Pv l.length σ H → D.nx σ H) :
    ∃ W : Nat → Nat → L2.St → Hp → Prop, (∃ m, W 0 m σ H) ∧ ∀ i m σ H, W i m σ H →
      ((Its (S l)).stop i H ∧ D.nx σ H) ∨ ((Its (S l)).go i H ∧ ∃ N : L2.St → Hp → Prop, (∀ σ' H', N σ' H' → ∃ m', m' < m ∧ W (i + 1) m' σ' H') ∧ ∀ x H', (Its (S l)).yld i H x H' → g x σ H' fun σ2 H2 => tb { D with nx := N, ct := N, bk := D.nx } σ2 H2) := by
  refine ⟨fun i m σ H => m = l.length - i ∧ i ≤ l.length ∧ Pv i σ H, ⟨l.length, by simp, Nat.zero_le _, h0⟩, ?_⟩
  rintro i m σ H ⟨rfl, hi, p⟩
  by_cases hlt : i < l.length
  · refine .inr ⟨by show i < (S l).cps.size; rw [S_size]; exact hlt, Pv (i + 1), fun σ' H' p' => ⟨l.length - (i + 1), by omega, rfl, hlt, p'⟩, fun x H' y => ?_⟩
    obtain ⟨e, c, hc, rfl⟩ := y
    subst e
    rw [S_get] at hc
    exact hs i c σ _ hc p
  · have e : i = l.length := by omega
    subst e
    exact .inl ⟨by show (S l).cps.size ≤ l.length; rw [S_size]; exact Nat.le_refl _, hd σ H p⟩
def top (i : Nat) : Stmt := PySem.Challenge.pw_ropedance_k04_ends_and_pieces.main.body.getD i (.Pass ⟨0, 0, 0, 0⟩)
abbrev s_partner : Stmt := top 1
theorem sc_partner : FnScope ["dance", "nw", "ne", "sw", "_"] ["dance"] (defScope s_partner) := ⟨rfl, rfl, rfl, by decide +kernel, rfl, by decide +kernel, by decide +kernel⟩
abbrev s_pieces : Stmt := top 2
theorem sc_pieces : FnScope ["dance", "way", "tied_to_nw"] ["dance", "way"] (defScope s_pieces) := ⟨rfl, rfl, rfl, by decide +kernel, rfl, by decide +kernel, by decide +kernel⟩
abbrev s_ropes_at_ends : Stmt := top 3
theorem sc_ropes_at_ends : FnScope ["dance", "nw", "ne", "sw", "se", "letter"] ["dance"] (defScope s_ropes_at_ends) := ⟨rfl, rfl, rfl, by decide +kernel, rfl, by decide +kernel, by decide +kernel⟩
abbrev s_law_tape : Stmt := top 5
theorem sc_law_tape : FnScope ["script", "k", "cell"] ["script", "k"] (defScope s_law_tape) := ⟨rfl, rfl, rfl, by decide +kernel, rfl, by decide +kernel, by decide +kernel⟩
abbrev s_law_take : Stmt := top 6
theorem sc_law_take : FnScope ["tape", "many", "got", "mixed"] ["tape", "many"] (defScope s_law_take) := ⟨rfl, rfl, rfl, by decide +kernel, rfl, by decide +kernel, by decide +kernel⟩
abbrev s_law_dance : Stmt := top 7
theorem sc_law_dance : FnScope ["tape", "most", "dance", "size", "k"] ["tape", "most"] (defScope s_law_dance) := ⟨rfl, rfl, rfl, by decide +kernel, rfl, by decide +kernel, by decide +kernel⟩
abbrev s_law_called : Stmt := top 8
theorem sc_law_called : FnScope ["value", "letter", "p", "q"] ["value", "letter"] (defScope s_law_called) := ⟨rfl, rfl, rfl, by decide +kernel, rfl, by decide +kernel, by decide +kernel⟩
abbrev s_law_number : Stmt := top 9
theorem sc_law_number : FnScope ["dance", "value", "letter"] ["dance"] (defScope s_law_number) := ⟨rfl, rfl, rfl, by decide +kernel, rfl, by decide +kernel, by decide +kernel⟩
abbrev s_law_same : Stmt := top 10
theorem sc_law_same : FnScope ["told", "due", "k"] ["told", "due"] (defScope s_law_same) := ⟨rfl, rfl, rfl, by decide +kernel, rfl, by decide +kernel, by decide +kernel⟩
abbrev s_law_places : Stmt := top 11
theorem sc_law_places : FnScope ["dance", "places", "letter", "where", "name"] ["dance"] (defScope s_law_places) := ⟨rfl, rfl, rfl, by decide +kernel, rfl, by decide +kernel, by decide +kernel⟩
abbrev s_law_joined : Stmt := top 12
theorem sc_law_joined : FnScope ["dance", "places", "joined", "one", "other"] ["dance"] (defScope s_law_joined) := ⟨rfl, rfl, rfl, by decide +kernel, rfl, by decide +kernel, by decide +kernel⟩
abbrev s_law_pieces : Stmt := top 13
theorem sc_law_pieces : FnScope ["joined", "way", "tied", "seen", "count", "first", "end", "turn"] ["joined", "way"] (defScope s_law_pieces) := ⟨rfl, rfl, rfl, by decide +kernel, rfl, by decide +kernel, by decide +kernel⟩
abbrev s_law : Stmt := top 14
theorem sc_law : FnScope ["script", "k", "tape", "dance", "joined", "p", "q", "due", "way"] ["script"] (defScope s_law) := ⟨rfl, rfl, rfl, by decide +kernel, rfl, by decide +kernel, by decide +kernel⟩
/-! ### heaps, tapes, pairs -/
/-- all that was tracked is as it was, but what stands at a -/
def But (a : Addr) (H H' : Hp) : Prop := ∀ b o, b ≠ a → H b = some o → H' b = some o
theorem But.refl (a : Addr) (H : Hp) : But a H H := fun _ _ _ h => h
theorem But.trans {a : Addr} {H H1 H2 : Hp} (x : But a H H1) (y : But a H1 H2) : But a H H2 := fun b o n h => y b o n (x b o n h)
theorem But.of {a : Addr} {H H' : Hp} (x : Same H H') : But a H H' := fun b o _ h => x b o h
theorem But.upd {a : Addr} {H : Hp} {o : HO} : But a H (upd H a o) := fun b u n h => by rw [upd_ne n]; exact h
theorem But.same {a : Addr} {H0 H H' : Hp} (x : But a H H') (s : Same H0 H) (n : H0 a = none) : Same H0 H' := fun b o h => x b o (ne_of_none h n) (s b o h)
theorem same_new {H : Hp} {p : Addr} (h : H p = none) (o : HO) : Same H (L2.upd H p o) := fun b u q => by rw [upd_ne (ne_of_none q h)]; exact q
theorem Same.tup {K : PySem.W.Frag} {H H' : Hp} {a : Addr} {xs : List V} (e : Same H H') (h : SqT K H a xs) : SqT K H' a xs := by
  rcases h with (h | ⟨o, h⟩) | h
  · exact .inl (.inl (e _ _ h))
  · exact .inl (.inr ⟨o, e _ _ h⟩)
  · exact .inr h
def Tape (H : Hp) (a : Addr) : Prop := ∃ (t c s : Int) (b : Bool), H a = some (.lst [.int t, .bl b, .int c, .int s])
theorem Tape.same {H H' : Hp} {a : Addr} (t : Tape H a) (s : Same H H') : Tape H' a := by
  obtain ⟨x, c, y, b, h⟩ := t
  exact ⟨x, c, y, b, s _ _ h⟩
theorem Tape.ne {H : Hp} {a p : Addr} (t : Tape H a) (h : H p = none) : p ≠ a := by
  obtain ⟨x, c, y, b, e⟩ := t
  exact fun z => by rw [z, e] at h; cases h
theorem But.tup {K : PySem.W.Frag} {a : Addr} {H H' : Hp} {p : Addr} {xs : List V} (x : But a H H') (t : Tape H a) (h : SqT K H p xs) : SqT K H' p xs := by
  obtain ⟨y, c, z, b, e⟩ := t
  rcases h with (h | ⟨o, h⟩) | h
  · exact .inl (.inl (x _ _ (ne_of h e (by intro q; cases q)) h))
  · exact .inl (.inr ⟨o, x _ _ (ne_of h e (by intro q; cases q)) h⟩)
  · exact .inr h
/-- a dance: the letters T, U, R -/
def Lets (l : List Nat) : Prop := ∀ c ∈ l, c = 84 ∨ c = 85 ∨ c = 82
theorem atI_mk {α : Type} {xs : List α} {k : Int} (h0 : 0 ≤ k) (h1 : k < (xs.length : Int)) : ∃ v, atI xs k = some v ∧ v ∈ xs := by
  obtain ⟨n, rfl⟩ := Int.eq_ofNat_of_zero_le h0
  have h : n < xs.length := by omega
  exact ⟨xs[n], atI_nat (List.getElem?_eq_getElem h), List.getElem_mem h⟩
theorem atI_ints {ns : List Int} {k : Int} (h0 : 0 ≤ k) (h1 : k < (ns.length : Int)) : ∃ v : Int, atI (ns.map V.int) k = some (.int v) := by
  obtain ⟨v, e, m⟩ := atI_mk (xs := ns.map V.int) h0 (by rw [List.length_map]; exact h1)
  obtain ⟨i, _, rfl⟩ := List.mem_map.mp m
  exact ⟨i, e⟩
/-! ### a def of the text with its promise, ready to be called -/
structure Dfn (P : Program) (w : World) (K : PySem.W.Frag) (mg : Str → Option Value) (base : Heap) (x : Str) (k : Nat) (ps : List Str) (sp : Sp) : Prop where
  ex : ∃ (f : Addr) (fd : FuncData), FnOk P w K mg base CX0 k f fd ps sp ∧ mg x = some (.ref f) ∧ PySem.W.keepIn K (.ref f) = true ∧ Binds K fd ps []
theorem pe_do {X : Cx} {x : Str} {j : Nat} {ps : List Str} {sp : Sp} {e : Expr} {es : List Expr} {t : TA} {p pos : Pos} (D : Dfn X.prog X.w X.K X.mg X.base x j ps sp) (hr : Room j X.A)
    (ha : PA X (e :: es) t) (hg : Gl X x := by rfl) (hdb : (x == ("__debug__" : Str)) = false := by decide) (he : starEach (e :: es) X.env = (false, eval e X.env) :: starEach es X.env := by rfl) (hpl : (backTo pos (starEach es X.env)).any (·.1) = false := by rfl) :
    PE X (.Call (.Name x p) (e :: es) [] pos) (tCall sp [] E0 t) := by
  obtain ⟨f, fd, ok, mg, kp, bd⟩ := D.ex
  exact pe_call ok hr hg mg kp bd .nil pass0 ha hdb he hpl
theorem Dfn.mono {P : Program} {w : World} {K : PySem.W.Frag} {mg : Str → Option Value} {base : Heap} {x : Str} {j k : Nat} {ps : List Str} {sp : Sp} (D : Dfn P w K mg base x j ps sp) (h : j ≤ k) : Dfn P w K mg base x k ps sp := by
  obtain ⟨f, fd, ok, mg, kp, bd⟩ := D.ex
  exact ⟨f, fd, ok.mono h, mg, kp, bd⟩
section
variable {P : Program} {w : World} {K : PySem.W.Frag} {mg : Str → Option Value} {base : Heap} {f : Addr} {fd : FuncData}
/-! ### the tape of a law -/
def spTape (K : PySem.W.Frag) : Sp := fun vs H Q _ => ∃ (a : Addr) (ns : List Int) (k : Int), vs = [.ref a, .int k] ∧ SqL K H a (ns.map V.int) ∧ 0 ≤ k ∧ ∀ p H', Same H H' → H p = none → Tape H' p → Q (.ref p) H'
theorem ok_tape (F : Fun K "_law_tape" "_law_tape" s_law_tape f fd) (ml : mg "len" = none) (ma : mg "abs" = none) (mi : mg "int" = none) : FnOk P w K mg base CX0 1 f fd ["script", "k"] (spTape K) := by
  refine F.ok sc_law_tape (fun vs H Q E h => ?_) (fun cdv A outer s H vs Q E hr h => ?_)
  · obtain ⟨a, ns, k, rfl, _⟩ := h
    rfl
  obtain ⟨a, ns, k, rfl, hS, hk, q⟩ := h
  refine ⟨_, pss_cons (ps_set (i := 2) sc_law_tape.nd rfl (.inl rfl) pe_int)
    (pss_cons (ps_if (pt_cmpR op_lt (pv 1) (pe_callB call_len_seq rfl ml PySem.boot_len (pa_cons (pv 0) pa_nil)) (nomark _))
        (pss_one (ps_set (i := 2) sc_law_tape.nd rfl (.inl rfl) (pe_callB call_abs rfl ma (by decide +kernel) (pa_cons (pe_ix ix_list (pv 0) (pv 1) (fun _ _ => rfl)) pa_nil)))) pss_nil)
    (pss_one (ps_ret (pe_lst (pa_cons (pv 2) (pa_cons (pe_cmpR op_ge (pv 2) (pe_op op_pow pe_int pe_int) (nomark _)) (pa_cons pe_int
      (pa_cons (pe_op op_modN (pe_callTy call_int1 rfl mi (by decide +kernel) (pa_cons (pe_op op_add (pe_op op_mul (pv 2) pe_int) (pv 1)) pa_nil)) pe_int) pa_nil)))))))), ?_⟩
  refine ⟨_, rfl, _, rfl, a, _, rfl, .inl hS, _, _, rfl, rfl, _, rfl, ?_⟩
  refine ite2 (fun c => ?_) (fun c => ?_)
  · have c' : k < (((ns.map V.int).length : Nat) : Int) := of_decide_eq_true c
    rw [List.length_map] at c'
    obtain ⟨v, hv⟩ := atI_ints hk c'
    refine ⟨_, rfl, _, rfl, a, _, _, _, rfl, rfl, hS, hv, _, rfl, ?_⟩
    refine ⟨_, rfl, _, rfl, _, _, rfl, rfl, ⟨by decide, by decide, by decide⟩, _, _, rfl, rfl, _, rfl, _, _, rfl, rfl, .inr ⟨by decide, by decide⟩, _, rfl, _, _, rfl, rfl, .inl ⟨_, rfl, _, _, rfl, rfl, (show (2147483647 : Int) ≠ 0 by decide), ?_⟩⟩
    exact ⟨(by show 4 ≤ sizeLine; decide), fun p hp => q p _ (same_new hp _) hp ⟨_, _, _, _, upd_same⟩⟩
  · refine ⟨_, rfl, _, rfl, _, _, rfl, rfl, ⟨by decide, by decide, by decide⟩, _, _, rfl, rfl, _, rfl, _, _, rfl, rfl, .inr ⟨by decide, by decide⟩, _, rfl, _, _, rfl, rfl, .inl ⟨_, rfl, _, _, rfl, rfl, (show (2147483647 : Int) ≠ 0 by decide), ?_⟩⟩
    exact ⟨(by show 4 ≤ sizeLine; decide), fun p hp => q p _ (same_new hp _) hp ⟨_, _, _, _, upd_same⟩⟩
def spTake : Sp := fun vs H Q _ => ∃ (a : Addr) (m : Int), vs = [.ref a, .int m] ∧ Tape H a ∧ 0 < m ∧ m < 1073741824 ∧ ∀ r H', 0 ≤ r → r < m → But a H H' → Tape H' a → Q (.int r) H'
theorem ok_take (F : Fun K "_law_take" "_law_take" s_law_take f fd) (mi : mg "int" = none) : FnOk P w K mg base CX0 1 f fd ["tape", "many"] spTake := by
  refine F.ok sc_law_take (fun vs H Q E h => ?_) (fun cdv A outer s H vs Q E hr h => ?_)
  · obtain ⟨a, m, rfl, _⟩ := h
    rfl
  obtain ⟨a, m, rfl, ⟨t, c, sd, b, hT⟩, h0, h1, q⟩ := h
  refine ⟨_, pss_cons (ps_if (PW.pt (pw_and (pt_val (pe_ix ix_list (pv 0) pe_int (fun _ _ => rfl))) (pw_and1 (pt_cmpR op_gt (pe_ix ix_list (pv 0) pe_int (fun _ _ => rfl)) pe_int (nomark _)))))
      (pss_cons (ps_set (i := 2) sc_law_take.nd rfl (.inl rfl) (pe_op op_modN (pe_callTy call_int1 rfl mi (by decide +kernel) (pa_cons (pe_ix ix_list (pv 0) pe_int (fun _ _ => rfl)) pa_nil)) (pv 1)))
      (pss_cons (ps_asg (pe_op op_fdivN (pe_ix ix_list (pv 0) pe_int (fun _ _ => rfl)) (pv 1)) (pg_sub (pv 0) pe_int set_list))
      (pss_one (ps_ret (pv 2))))) pss_nil)
    (pss_cons (ps_asg (pe_op op_add (pe_ix ix_list (pv 0) pe_int (fun _ _ => rfl)) pe_int) (pg_sub (pv 0) pe_int set_list))
    (pss_cons (ps_set (i := 3) sc_law_take.nd rfl (.inl rfl) (pe_op op_modN (pe_callTy call_int1 rfl mi (by decide +kernel) (pa_cons (pe_op op_add (pe_op op_add (pe_op op_mul (pe_ix ix_list (pv 0) pe_int (fun _ _ => rfl)) pe_int) (pe_op op_mul (pe_ix ix_list (pv 0) pe_int (fun _ _ => rfl)) pe_int)) pe_int) pa_nil)) pe_int))
    (pss_cons (ps_set (i := 3) sc_law_take.nd rfl (.inl rfl) (pe_op op_modN (pe_callTy call_int1 rfl mi (by decide +kernel) (pa_cons (pe_op op_add (pe_op op_add (pe_op op_mul (pv 3) pe_int) (pe_op op_mul (pe_op op_fdivN (pv 3) pe_int) pe_int)) (pe_ix ix_list (pv 0) pe_int (fun _ _ => rfl))) pa_nil)) pe_int))
    (pss_one (ps_ret (pe_op op_modN (pe_callTy call_int1 rfl mi (by decide +kernel) (pa_cons (pe_op op_fdivN (pv 3) pe_int) pa_nil)) (pv 1))))))), ?_⟩
  have rest : ∀ x : Int, 0 ≤ x.fmod m ∧ x.fmod m < m := fun x => by
    rw [Int.fmod_eq_emod_of_nonneg x (Int.le_of_lt h0)]
    exact ⟨Int.emod_nonneg x (by omega), Int.emod_lt_of_pos x h0⟩
  refine ⟨_, rfl, a, _, _, _, rfl, rfl, SqL.of hT, rfl, b, rfl, ?_⟩
  refine ite2 (fun hb => ?_) (fun hb => ?_)
  · refine ⟨_, rfl, a, _, _, _, rfl, rfl, SqL.of hT, rfl, _, _, rfl, rfl, _, rfl, ?_⟩
    refine ite2 (fun hc => ?_) (fun hc => ?_)
    · refine ⟨_, rfl, a, _, _, _, rfl, rfl, SqL.of hT, rfl, .inl ⟨_, rfl, _, rfl, _, _, rfl, rfl, (show m ≠ 0 by omega), ?_⟩⟩
      refine ⟨_, rfl, a, _, _, _, rfl, rfl, SqL.of hT, rfl, _, rfl, _, _, rfl, rfl, (show m ≠ 0 ∧ m.natAbs < 1073741824 by omega), _, rfl, a, _, _, _, rfl, rfl, hT, rfl, ?_⟩
      exact ⟨_, rfl, q _ _ (rest _).1 (rest _).2 But.upd ⟨_, _, _, _, upd_same⟩⟩
    · refine ⟨_, rfl, a, _, _, _, rfl, rfl, SqL.of hT, rfl, _, _, rfl, rfl, _, rfl, a, _, _, _, rfl, rfl, hT, rfl, ?_⟩
      refine ⟨_, rfl, a, _, _, _, rfl, rfl, SqL.of upd_same, rfl, _, _, rfl, rfl, .inr ⟨by decide, by decide⟩, _, rfl, a, _, _, _, rfl, rfl, SqL.of upd_same, rfl, _, _, rfl, rfl, .inr ⟨by decide, by decide⟩, _, _, rfl, rfl, _, _, rfl, rfl, .inl ⟨_, rfl, _, _, rfl, rfl, (show (2147483647 : Int) ≠ 0 by decide), ?_⟩⟩
      refine ⟨_, rfl, _, _, rfl, rfl, .inr ⟨by decide, by decide⟩, _, rfl, _, _, rfl, rfl, ⟨by decide, by decide⟩, _, _, rfl, rfl, .inr ⟨by decide, by decide⟩, _, _, rfl, rfl, _, rfl, a, _, _, _, rfl, rfl, SqL.of upd_same, rfl, _, _, rfl, rfl, .inl ⟨_, rfl, _, _, rfl, rfl, (show (2147483399 : Int) ≠ 0 by decide), ?_⟩⟩
      exact ⟨_, rfl, _, _, rfl, rfl, ⟨by decide, by decide⟩, .inl ⟨_, rfl, _, rfl, _, _, rfl, rfl, (show m ≠ 0 by omega), q _ _ (rest _).1 (rest _).2 But.upd ⟨_, _, _, _, upd_same⟩⟩⟩
  · refine ⟨_, rfl, a, _, _, _, rfl, rfl, SqL.of hT, rfl, _, _, rfl, rfl, _, rfl, a, _, _, _, rfl, rfl, hT, rfl, ?_⟩
    refine ⟨_, rfl, a, _, _, _, rfl, rfl, SqL.of upd_same, rfl, _, _, rfl, rfl, .inr ⟨by decide, by decide⟩, _, rfl, a, _, _, _, rfl, rfl, SqL.of upd_same, rfl, _, _, rfl, rfl, .inr ⟨by decide, by decide⟩, _, _, rfl, rfl, _, _, rfl, rfl, .inl ⟨_, rfl, _, _, rfl, rfl, (show (2147483647 : Int) ≠ 0 by decide), ?_⟩⟩
    refine ⟨_, rfl, _, _, rfl, rfl, .inr ⟨by decide, by decide⟩, _, rfl, _, _, rfl, rfl, ⟨by decide, by decide⟩, _, _, rfl, rfl, .inr ⟨by decide, by decide⟩, _, _, rfl, rfl, _, rfl, a, _, _, _, rfl, rfl, SqL.of upd_same, rfl, _, _, rfl, rfl, .inl ⟨_, rfl, _, _, rfl, rfl, (show (2147483399 : Int) ≠ 0 by decide), ?_⟩⟩
    exact ⟨_, rfl, _, _, rfl, rfl, ⟨by decide, by decide⟩, .inl ⟨_, rfl, _, rfl, _, _, rfl, rfl, (show m ≠ 0 by omega), q _ _ (rest _).1 (rest _).2 But.upd ⟨_, _, _, _, upd_same⟩⟩⟩
/-! ### dances, fractions -/
theorem six_letters {r : Int} (h0 : 0 ≤ r) (h1 : r < 6) : ∃ c, atI (("TTUURR" : Str)).cps.toList r = some c ∧ (c = 84 ∨ c = 85 ∨ c = 82) := by
  have e : (("TTUURR" : Str)).cps.toList = [84, 84, 85, 85, 82, 82] := by decide +kernel
  rw [e]
  obtain ⟨c, hc, m⟩ := atI_mk (xs := [84, 84, 85, 85, 82, 82]) h0 h1
  refine ⟨c, hc, ?_⟩
  simp at m
  omega
theorem four_sizes {r : Int} (h0 : 0 ≤ r) (h1 : r < 4) : ∃ z : Int, atI [V.int 1, .int 1, .int 3, .int 9] r = some (.int z) ∧ 1 ≤ z ∧ z ≤ 9 := by
  obtain ⟨c, hc, m⟩ := atI_mk (xs := [V.int 1, .int 1, .int 3, .int 9]) h0 h1
  simp at m
  rcases m with rfl | rfl | rfl
  · exact ⟨1, hc, by decide, by decide⟩
  · exact ⟨3, hc, by decide, by decide⟩
  · exact ⟨9, hc, by decide, by decide⟩
theorem e_empty : (("" : Str)) = S [] := by decide +kernel
theorem sizeLine_big : 16777216 ≤ sizeLine := by rw [sizeLine_eq]; decide
theorem fits {n : Nat} (h : n ≤ 16777216) : n ≤ sizeLine := Nat.le_trans h sizeLine_big
def spDance : Sp := fun vs H Q _ => ∃ (a : Addr) (m : Int), vs = [.ref a, .int m] ∧ Tape H a ∧ 0 ≤ m ∧ m ≤ 1000 ∧ ∀ l H', Lets l → (l.length : Int) ≤ m → But a H H' → Tape H' a → Q (.str (S l)) H'
theorem ok_dance (F : Fun K "_law_dance" "_law_dance" s_law_dance f fd) (DT : Dfn P w K mg base "_law_take" 1 ["tape", "many"] spTake) (mr : mg "range" = none) : FnOk P w K mg base CX0 2 f fd ["tape", "most"] spDance := by
  refine F.ok sc_law_dance (fun vs H Q E h => ?_) (fun cdv A outer s H vs Q E hr h => ?_)
  · obtain ⟨a, m, rfl, _⟩ := h
    rfl
  obtain ⟨a, m, rfl, hT, h0, h1, q⟩ := h
  refine ⟨_, pss_cons (ps_set (i := 2) sc_law_dance.nd rfl (.inl rfl) pe_str)
    (pss_cons (ps_set (i := 3) sc_law_dance.nd rfl (.inl rfl) (pe_ix ix_list (pe_lst (pa_cons pe_int (pa_cons pe_int (pa_cons pe_int (pa_cons pe_int pa_nil))))) (pe_do DT hr (pa_cons (pv 0) (pa_cons pe_int pa_nil))) (fun _ _ => rfl)))
    (pss_cons (ps_for PassesOwn.never rfl (pi_range1 rfl mr (pa_cons (pe_do DT hr (pa_cons (pv 0) (pa_cons (pe_op op_add (pv 1) pe_int) pa_nil))) pa_nil)) (pg_name (i := 4) sc_law_dance.nd rfl (.inl rfl))
      (pss_one (ps_set (i := 2) sc_law_dance.nd rfl (.inl rfl) (pe_op op_add_str (pv 2) (pe_op op_mul_str (pe_ix ix_str pe_str (pe_do DT hr (pa_cons (pv 0) (pa_cons pe_int pa_nil))) (fun _ _ => rfl))
        (pe_op op_add pe_int (pe_do DT hr (pa_cons (pv 0) (pa_cons (pv 3) pa_nil)))))))))
    (pss_one (ps_ret (pe_slice sl_str (pv 2) po_none (po_some (pv 1))))))), ?_⟩
  refine ⟨(by show 4 ≤ sizeLine; exact fits (by decide)), fun p hp => ?_⟩
  have np := hT.ne hp
  refine ⟨_, rfl, a, 4, rfl, hT.same (same_new hp _), by decide, by decide, fun r H1 r0 r1 b1 t1 => ?_⟩
  obtain ⟨z, hz, z1, z9⟩ := four_sizes r0 r1
  refine ⟨p, _, _, _, rfl, rfl, SqL.of (b1 _ _ np upd_same), hz, ?_⟩
  have B1 : But a H H1 := (But.of (same_new hp _)).trans b1
  refine ⟨_, rfl, _, rfl, _, _, rfl, rfl, a, _, rfl, t1, (show 0 < m + 1 by omega), (show m + 1 < 1073741824 by omega), fun r2 H2 r20 r21 b2 t2 => ?_⟩
  refine ⟨r2, rfl, by omega, by omega, for_range (lo := 0) (n := r2.toNat) (fun i σ H' => ∃ (l : List Nat) (v : Option V), σ = [some (.ref a), some (.int m), some (.str (S l)), some (.int z), v] ∧ Lets l ∧ l.length ≤ 9 * i ∧ But a H H' ∧ Tape H' a) ?_ ?_ ?_⟩
  · exact ⟨[], none, by rw [← e_empty]; rfl, fun _ h => (by cases h), Nat.zero_le _, B1.trans b2, t2⟩
  · rintro i σ H' hi ⟨l, v, rfl, hl, hz2, bt, tp⟩
    refine ⟨_, rfl, _, rfl, a, 6, rfl, tp, by decide, by decide, fun r3 H3 r30 r31 b3 t3 => ?_⟩
    obtain ⟨c, hc, hcl⟩ := six_letters r30 r31
    refine ⟨_, _, c, rfl, rfl, (fits (by decide +kernel)), hc, _, rfl, _, rfl, a, z, rfl, t3, by omega, by omega, fun r4 H4 r40 r41 b4 t4 => ?_⟩
    have hn : (1 + r4).toNat ≤ 9 := by omega
    refine ⟨_, _, rfl, rfl, [c], 1 + r4, rfl, rfl, by omega, by omega, by simp only [List.length_singleton]; omega, _, _, rfl, rfl, ?_, ?_⟩
    · rw [S_len, S_len]
      refine fits ?_
      rw [List.length_flatten, List.map_replicate, List.sum_replicate_nat]
      simp only [List.length_singleton]
      omega
    · refine ⟨l ++ (List.replicate (1 + r4).toNat [c]).flatten, _, by rw [S_app]; rfl, fun x hx => ?_, ?_, (bt.trans b3).trans b4, t4⟩
      · rcases List.mem_append.mp hx with hx | hx
        · exact hl x hx
        · obtain ⟨y, hy, hxy⟩ := List.mem_flatten.mp hx
          rw [(List.mem_replicate.mp hy).2] at hxy
          rw [List.mem_singleton.mp hxy]
          exact hcl
      · rw [List.length_append, List.length_flatten, List.map_replicate, List.sum_replicate_nat]
        simp only [List.length_singleton]
        omega
  · rintro σ H' ⟨l, v, rfl, hl, hz2, bt, tp⟩
    refine ⟨_, rfl, _, rfl, _, rfl, _, rfl, (by rw [S_len]; exact fits (by omega)), ?_⟩
    rw [S_take l h0]
    refine q _ _ (fun x hx => hl x (List.mem_of_mem_take hx)) ?_ bt tp
    rw [List.length_take]
    omega
end
section
variable {P : Program} {w : World} {K : PySem.W.Frag} {mg : Str → Option Value} {base : Heap} {f : Addr} {fd : FuncData}
theorem sign_eq {c n : Nat} {z : Str} (e : z = S [n]) : (V.str (S [c]) = V.str z) ↔ c = n := by
  subst e
  constructor
  · intro h
    have := S_inj (V.str.inj h)
    simpa using this
  · rintro rfl; rfl
theorem e_T : (("T" : Str)) = S [84] := by decide +kernel
theorem e_U : (("U" : Str)) = S [85] := by decide +kernel
theorem e_R : (("R" : Str)) = S [82] := by decide +kernel
def Tup2 (H : Hp) (t : Addr) (v : Int × Int) : Prop := H t = some (.tup [.int v.1, .int v.2])
def spCalled (K : PySem.W.Frag) : Sp := fun vs H Q _ => ∃ (t : Addr) (v : Int × Int) (c : Nat), vs = [.ref t, .str (S [c])] ∧ Tup2 H t v ∧ ∀ t' H', Same H H' → Tup2 H' t' (called v c) → Q (.ref t') H'
theorem ok_called (F : Fun K "_law_called" "_law_called" s_law_called f fd) : FnOk P w K mg base CX0 1 f fd ["value", "letter"] (spCalled K) := by
  refine F.ok sc_law_called (fun vs H Q E h => ?_) (fun cdv A outer s H vs Q E hr h => ?_)
  · obtain ⟨a, m, c, rfl, _⟩ := h
    rfl
  obtain ⟨t, ⟨p, q'⟩, c, rfl, hT, q⟩ := h
  refine ⟨_, pss_cons (ps_asg (pv 0) (pg_tup (by rfl) (pgs_cons (pg_name (i := 2) sc_law_called.nd rfl (.inl rfl)) (pgs_cons (pg_name (i := 3) sc_law_called.nd rfl (.inl rfl)) pgs_nil))))
    (pss_cons (ps_if (pt_cmpR op_eq (pv 1) pe_str (nomark _)) (pss_one (ps_ret (pe_tup (pa_cons (pe_op op_add (pv 2) (pv 3)) (pa_cons (pv 3) pa_nil))))) pss_nil)
    (pss_cons (ps_if (pt_cmpR op_eq (pv 1) pe_str (nomark _)) (pss_one (ps_ret (pe_tup (pa_cons (pe_op op_sub (pv 2) (pv 3)) (pa_cons (pv 3) pa_nil))))) pss_nil)
    (pss_cons (ps_if (pt_cmpR op_gt (pv 2) pe_int (nomark _)) (pss_one (ps_ret (pe_tup (pa_cons (pe_op op_sub pe_int (pv 3)) (pa_cons (pv 2) pa_nil))))) pss_nil)
    (pss_cons (ps_if (pt_cmpR op_lt (pv 2) pe_int (nomark _)) (pss_one (ps_ret (pe_tup (pa_cons (pv 3) (pa_cons (pe_op op_sub pe_int (pv 2)) pa_nil))))) pss_nil)
    (pss_one (ps_ret (pe_tup (pa_cons pe_int (pa_cons pe_int pa_nil))))))))), ?_⟩
  have two : 2 ≤ sizeLine := fits (by decide)
  refine ⟨_, rfl, t, _, rfl, SqT.of hT, rfl, _, _, rfl, _, _, rfl, rfl, ?_⟩
  refine ⟨_, rfl, rfl, _, rfl, ite2 (fun c1 => ?_) (fun c1 => ?_)⟩
  · have k1 : c = 84 := (sign_eq e_T).mp (of_decide_eq_true c1)
    refine ⟨_, rfl, _, rfl, _, _, rfl, rfl, _, rfl, two, fun n hn => q n _ (same_new hn _) ?_⟩
    unfold Tup2 called
    rw [upd_same, if_pos k1]
  have k1 : ¬ c = 84 := fun z => c1 (decide_eq_true ((sign_eq e_T).mpr z))
  refine ⟨_, rfl, rfl, _, rfl, ite2 (fun c2 => ?_) (fun c2 => ?_)⟩
  · have k2 : c = 85 := (sign_eq e_U).mp (of_decide_eq_true c2)
    refine ⟨_, rfl, _, rfl, _, _, rfl, rfl, _, rfl, two, fun n hn => q n _ (same_new hn _) ?_⟩
    unfold Tup2 called
    rw [upd_same, if_neg k1, if_pos k2]
  have k2 : ¬ c = 85 := fun z => c2 (decide_eq_true ((sign_eq e_U).mpr z))
  refine ⟨_, rfl, _, _, rfl, rfl, _, rfl, ite2 (fun c3 => ?_) (fun c3 => ?_)⟩
  · have k3 : 0 < p := of_decide_eq_true c3
    refine ⟨_, rfl, _, _, rfl, rfl, _, rfl, two, fun n hn => q n _ (same_new hn _) ?_⟩
    unfold Tup2 called
    rw [upd_same, if_neg k1, if_neg k2, if_pos k3]
  have k3 : ¬ 0 < p := fun z => c3 (decide_eq_true z)
  refine ⟨_, rfl, _, _, rfl, rfl, _, rfl, ite2 (fun c4 => ?_) (fun c4 => ?_)⟩
  · have k4 : p < 0 := of_decide_eq_true c4
    refine ⟨_, rfl, _, rfl, _, _, rfl, rfl, two, fun n hn => q n _ (same_new hn _) ?_⟩
    unfold Tup2 called
    rw [upd_same, if_neg k1, if_neg k2, if_neg k3, if_pos k4]
  have k4 : ¬ p < 0 := fun z => c4 (decide_eq_true z)
  refine ⟨two, fun n hn => q n _ (same_new hn _) ?_⟩
  unfold Tup2 called
  rw [upd_same, if_neg k1, if_neg k2, if_neg k3, if_neg k4]
theorem Tup2.same {H H' : Hp} {t : Addr} {v : Int × Int} (h : Tup2 H t v) (s : Same H H') : Tup2 H' t v := s _ _ h
theorem Tup2.but {H H' : Hp} {a t : Addr} {v : Int × Int} (h : Tup2 H t v) (s : But a H H') (tp : Tape H a) : Tup2 H' t v := by
  obtain ⟨y, c, z, b, e⟩ := tp
  exact s _ _ (ne_of h e (by intro q; cases q)) h
def spNumber (K : PySem.W.Frag) : Sp := fun vs H Q _ => ∃ l : List Nat, vs = [.str (S l)] ∧ ∀ t' H', Same H H' → Tup2 H' t' (run (0, 1) l) → Q (.ref t') H'
theorem ok_number (F : Fun K "_law_number" "_law_number" s_law_number f fd) (DC : Dfn P w K mg base "_law_called" 1 ["value", "letter"] (spCalled K)) : FnOk P w K mg base CX0 2 f fd ["dance"] (spNumber K) := by
  refine F.ok sc_law_number (fun vs H Q E h => ?_) (fun cdv A outer s H vs Q E hr h => ?_)
  · obtain ⟨l, rfl, _⟩ := h
    rfl
  obtain ⟨l, rfl, q⟩ := h
  refine ⟨_, pss_cons (ps_set (i := 1) sc_law_number.nd rfl (.inl rfl) (pe_tup (pa_cons pe_int (pa_cons pe_int pa_nil))))
    (pss_cons (ps_for PassesOwn.never rfl (pi_str (pv 0)) (pg_name (i := 2) sc_law_number.nd rfl (.inl rfl))
      (pss_one (ps_set (i := 1) sc_law_number.nd rfl (.inl rfl) (pe_do DC hr (pa_cons (pv 1) (pa_cons (pv 2) pa_nil))))))
    (pss_one (ps_ret (pv 1)))), ?_⟩
  refine ⟨fits (by decide), fun p hp => ?_⟩
  refine ⟨_, rfl, _, rfl, for_str (l := l) (fun i σ H' => ∃ (t : Addr) (v : Option V), σ = [some (.str (S l)), some (.ref t), v] ∧ Same H H' ∧ Tup2 H' t (run (0, 1) (l.take i))) ?_ ?_ ?_⟩
  · exact ⟨p, _, rfl, same_new hp _, upd_same⟩
  · rintro i c σ H' hc ⟨t, v, rfl, sm, tt⟩
    refine ⟨_, rfl, _, rfl, t, _, c, rfl, tt, fun t' H2 s2 tt2 => ?_⟩
    exact ⟨t', _, rfl, sm.trans s2, by rw [run_take _ hc]; exact tt2⟩
  · rintro σ H' ⟨t, v, rfl, sm, tt⟩
    rw [List.take_of_length_le (Nat.le_refl _)] at tt
    exact ⟨_, rfl, q t H' sm tt⟩
end
section
variable {P : Program} {w : World} {K : PySem.W.Frag} {mg : Str → Option Value} {base : Heap} {f : Addr} {fd : FuncData}
/-! ### the same data -/
inductive Dt where
  | int (i : Int) | str (z : Str) | non | tup (xs : List Dt) | lst (xs : List Dt)
/-- v stands for d, in at most n levels -/
def Is (H : Hp) : Nat → V → Dt → Prop
  | _, v, .int i => v = .int i
  | _, v, .str z => v = .str z
  | _, v, .non => v = .non
  | 0, _, .tup _ => False
  | 0, _, .lst _ => False
  | n + 1, v, .tup ds => ∃ (a : Addr) (xs : List V), v = .ref a ∧ H a = some (.tup xs) ∧ xs.length = ds.length ∧ ds.length ≤ 1000000 ∧ ∀ (i : Nat) (x : V) (d : Dt), xs[i]? = some x → ds[i]? = some d → Is H n x d
  | n + 1, v, .lst ds => ∃ (a : Addr) (xs : List V), v = .ref a ∧ H a = some (.lst xs) ∧ xs.length = ds.length ∧ ds.length ≤ 1000000 ∧ ∀ (i : Nat) (x : V) (d : Dt), xs[i]? = some x → ds[i]? = some d → Is H n x d
def spSame : Nat → Sp
  | 0 => fun _ _ _ _ => False
  | n + 1 => fun vs H Q _ => ∃ (x y : V) (d : Dt), vs = [x, y] ∧ Is H n x d ∧ Is H n y d ∧ Q (.bl true) H
theorem ok_same {n : Nat} (F : Fun K "_law_same" "_law_same" s_law_same f fd) (DS : Dfn P w K mg base "_law_same" n ["told", "due"] (spSame n)) (mI : mg "isinstance" = none) (mT : mg "tuple" = none) (mL : mg "list" = none) (ml : mg "len" = none) (mr : mg "range" = none)
    (ms : mg "str" = none) (mi : mg "int" = none) (mb : mg "bool" = none) : FnOk P w K mg base CX0 (n + 1) f fd ["told", "due"] (spSame (n + 1)) := by
  refine F.ok sc_law_same (fun vs H Q E h => ?_) (fun cdv A outer s H vs Q E hr h => ?_)
  · obtain ⟨x, y, d, rfl, _⟩ := h
    rfl
  obtain ⟨x, y, d, rfl, hx, hy, q⟩ := h
  have bT : bootBuiltins "tuple" = some (.type "tuple") := by decide +kernel
  have bL : bootBuiltins "list" = some (.type "list") := by decide +kernel
  have bS : bootBuiltins "str" = some (.type "str") := by decide +kernel
  have bI : bootBuiltins "int" = some (.type "int") := by decide +kernel
  have bB : bootBuiltins "bool" = some (.type "bool") := by decide +kernel
  have bi : bootBuiltins "isinstance" = some (.builtin "isinstance") := by decide +kernel
  refine ⟨_, pss_cons (ps_if (PW.pt (pw_or (pt_val (pe_callB call_isi rfl mI bi (pa_cons (pv 1) (pa_cons (pe_bltn (v := .ty "tuple") rfl mT bT rfl) pa_nil)))) (pw_or1 (pt_val (pe_callB call_isi rfl mI bi (pa_cons (pv 1) (pa_cons (pe_bltn (v := .ty "list") rfl mL bL rfl) pa_nil)))))))
      (pss_cons (ps_if (PW.pt (pw_or (pt_cmpR op_ne (pe_callB call_isi rfl mI bi (pa_cons (pv 1) (pa_cons (pe_bltn (v := .ty "tuple") rfl mT bT rfl) pa_nil))) (pe_callB call_isi rfl mI bi (pa_cons (pv 0) (pa_cons (pe_bltn (v := .ty "tuple") rfl mT bT rfl) pa_nil))) (nomark _))
          (pw_or1 (pt_cmpR op_ne (pe_callB call_isi rfl mI bi (pa_cons (pv 1) (pa_cons (pe_bltn (v := .ty "list") rfl mL bL rfl) pa_nil))) (pe_callB call_isi rfl mI bi (pa_cons (pv 0) (pa_cons (pe_bltn (v := .ty "list") rfl mL bL rfl) pa_nil))) (nomark _)))))
        (pss_one (ps_ret pe_bl)) pss_nil)
      (pss_cons (ps_if (pt_cmpR op_ne (pe_callB call_len_seq rfl ml PySem.boot_len (pa_cons (pv 0) pa_nil)) (pe_callB call_len_seq rfl ml PySem.boot_len (pa_cons (pv 1) pa_nil)) (nomark _)) (pss_one (ps_ret pe_bl)) pss_nil)
      (pss_cons (ps_for PassesOwn.never rfl (pi_range1 rfl mr (pa_cons (pe_callB call_len_seq rfl ml PySem.boot_len (pa_cons (pv 1) pa_nil)) pa_nil)) (pg_name (i := 2) sc_law_same.nd rfl (.inl rfl))
        (pss_one (ps_if (pt_not (pt_val (pe_do DS hr (pa_cons (pe_ix ix_seq (pv 0) (pv 2) (fun _ _ => rfl)) (pa_cons (pe_ix ix_seq (pv 1) (pv 2) (fun _ _ => rfl)) pa_nil))))) (pss_one (ps_ret pe_bl)) pss_nil)))
      (pss_one (ps_ret pe_bl))))) pss_nil)
    (pss_cons (ps_if (pt_cmpR op_isN (pv 1) pe_non (nomark _)) (pss_one (ps_ret (pe_cmpR op_isN (pv 0) pe_non (nomark _)))) pss_nil)
    (pss_cons (ps_if (pt_val (pe_callB call_isi rfl mI bi (pa_cons (pv 1) (pa_cons (pe_bltn (v := .ty "str") rfl ms bS rfl) pa_nil))))
      (pss_one (ps_ret (pe_and (pe_callB call_isi rfl mI bi (pa_cons (pv 0) (pa_cons (pe_bltn (v := .ty "str") rfl ms bS rfl) pa_nil))) (pe_one (pe_cmpR op_eq (pv 0) (pv 1) (nomark _)))))) pss_nil)
    (pss_one (ps_ret (pe_and (pe_callB call_isi rfl mI bi (pa_cons (pv 0) (pa_cons (pe_bltn (v := .ty "int") rfl mi bI rfl) pa_nil)))
      (pe_and (pe_not (pe_callB call_isi rfl mI bi (pa_cons (pv 0) (pa_cons (pe_bltn (v := .ty "bool") rfl mb bB rfl) pa_nil)))) (pe_one (pe_cmpR op_eq (pv 0) (pv 1) (nomark _))))))))), ?_⟩
  have isn : ∀ (a b : String) (r : Bool), kitB a b = some r → PySem.W.kitOne K (.type a) (.type b) = some r := fun a b r h => kit_ty h
  cases d with
  | int i =>
    cases (show x = .int i by cases n <;> exact hx)
    cases (show y = .int i by cases n <;> exact hy)
    refine ⟨_, rfl, _, _, _, _, false, rfl, .ty _, .base (.int _), kit_ty (by decide +kernel), _, rfl, iteF ?_⟩
    refine ⟨_, rfl, _, _, _, _, false, rfl, .ty _, .base (.int _), kit_ty (by decide +kernel), _, rfl, iteF ?_⟩
    refine ⟨_, rfl, rfl, _, rfl, iteF ?_⟩
    refine ⟨_, rfl, _, _, _, _, false, rfl, .ty _, .base (.int _), kit_ty (by decide +kernel), _, rfl, iteF ?_⟩
    refine ⟨_, rfl, _, _, _, _, true, rfl, .ty _, .base (.int _), kit_ty (by decide +kernel), _, rfl, iteT ?_⟩
    refine ⟨_, rfl, _, _, _, _, false, rfl, .ty _, .base (.int _), kit_ty (by decide +kernel), _, rfl, _, rfl, iteT ?_⟩
    refine ⟨_, rfl, _, rfl, rfl, ?_⟩
    rw [decide_eq_true rfl]
    exact q
  | str z =>
    cases (show x = .str z by cases n <;> exact hx)
    cases (show y = .str z by cases n <;> exact hy)
    refine ⟨_, rfl, _, _, _, _, false, rfl, .ty _, .base (.str _), kit_ty (by decide +kernel), _, rfl, iteF ?_⟩
    refine ⟨_, rfl, _, _, _, _, false, rfl, .ty _, .base (.str _), kit_ty (by decide +kernel), _, rfl, iteF ?_⟩
    refine ⟨_, rfl, rfl, _, rfl, iteF ?_⟩
    refine ⟨_, rfl, _, _, _, _, true, rfl, .ty _, .base (.str _), kit_ty (by decide +kernel), _, rfl, iteT ?_⟩
    refine ⟨_, rfl, _, _, _, _, true, rfl, .ty _, .base (.str _), kit_ty (by decide +kernel), _, rfl, iteT ?_⟩
    refine ⟨_, rfl, _, rfl, rfl, ?_⟩
    rw [decide_eq_true rfl]
    exact q
  | non =>
    cases (show x = .non by cases n <;> exact hx)
    cases (show y = .non by cases n <;> exact hy)
    refine ⟨_, rfl, _, _, _, _, false, rfl, .ty _, .base .non, kit_ty (by decide +kernel), _, rfl, iteF ?_⟩
    refine ⟨_, rfl, _, _, _, _, false, rfl, .ty _, .base .non, kit_ty (by decide +kernel), _, rfl, iteF ?_⟩
    exact ⟨_, rfl, rfl, _, rfl, iteT ⟨_, rfl, rfl, q⟩⟩
  | tup ds =>
    cases n with
    | zero => exact hx.elim
    | succ n =>
      obtain ⟨a, xs, rfl, ha, la, ln, ka⟩ := hx
      obtain ⟨b, ys, rfl, hb, lb, _, kb⟩ := hy
      refine ⟨_, rfl, _, _, _, _, true, rfl, .ty _, .base (.tup hb), kit_ty (by decide +kernel), _, rfl, iteT ?_⟩
      refine ⟨_, rfl, _, _, _, _, true, rfl, .ty _, .base (.tup hb), kit_ty (by decide +kernel), _, rfl, _, _, _, _, true, rfl, .ty _, .base (.tup ha), kit_ty (by decide +kernel), rfl, _, rfl, iteF ?_⟩
      refine ⟨_, rfl, _, _, _, _, false, rfl, .ty _, .base (.tup hb), kit_ty (by decide +kernel), _, rfl, _, _, _, _, false, rfl, .ty _, .base (.tup ha), kit_ty (by decide +kernel), rfl, _, rfl, iteF ?_⟩
      refine ⟨_, rfl, a, xs, rfl, .inr (SqT.of ha), _, rfl, b, ys, rfl, .inr (SqT.of hb), rfl, _, rfl, ?_⟩
      rw [show (decide (V.int (xs.length : Int) = V.int (ys.length : Int))) = true from decide_eq_true (by rw [la, lb])]
      refine iteF ?_
      refine ⟨_, rfl, b, ys, rfl, .inr (SqT.of hb), (ys.length : Int), rfl, by omega, by omega, for_range (lo := 0) (n := (ys.length : Int).toNat) (fun i σ H' => H' = H ∧ ∃ v, σ = [some (.ref a), some (.ref b), v]) ⟨rfl, none, rfl⟩ ?_ ?_⟩
      · rintro i σ _ hi ⟨rfl, v, rfl⟩
        have hi1 : i < ys.length := by omega
        have hi2 : i < xs.length := by omega
        have hi3 : i < ds.length := by omega
        refine ⟨_, rfl, _, rfl, .inr (.inl ⟨a, xs, _, _, rfl, rfl, SqT.of ha, at_of (j := i) (by omega) (List.getElem?_eq_getElem hi2), ?_⟩)⟩
        refine ⟨_, rfl, _, rfl, .inr (.inl ⟨b, ys, _, _, rfl, rfl, SqT.of hb, at_of (j := i) (by omega) (List.getElem?_eq_getElem hi1), ?_⟩)⟩
        refine ⟨_, _, ds[i], rfl, ka i _ _ (List.getElem?_eq_getElem hi2) (List.getElem?_eq_getElem hi3), kb i _ _ (List.getElem?_eq_getElem hi1) (List.getElem?_eq_getElem hi3), _, rfl, iteF ⟨rfl, _, rfl⟩⟩
      · rintro σ _ ⟨rfl, v, rfl⟩
        exact q
  | lst ds =>
    cases n with
    | zero => exact hx.elim
    | succ n =>
      obtain ⟨a, xs, rfl, ha, la, ln, ka⟩ := hx
      obtain ⟨b, ys, rfl, hb, lb, _, kb⟩ := hy
      refine ⟨_, rfl, _, _, _, _, false, rfl, .ty _, .base (.lst hb), kit_ty (by decide +kernel), _, rfl, iteF ?_⟩
      refine ⟨_, rfl, _, _, _, _, true, rfl, .ty _, .base (.lst hb), kit_ty (by decide +kernel), _, rfl, iteT ?_⟩
      refine ⟨_, rfl, _, _, _, _, false, rfl, .ty _, .base (.lst hb), kit_ty (by decide +kernel), _, rfl, _, _, _, _, false, rfl, .ty _, .base (.lst ha), kit_ty (by decide +kernel), rfl, _, rfl, iteF ?_⟩
      refine ⟨_, rfl, _, _, _, _, true, rfl, .ty _, .base (.lst hb), kit_ty (by decide +kernel), _, rfl, _, _, _, _, true, rfl, .ty _, .base (.lst ha), kit_ty (by decide +kernel), rfl, _, rfl, iteF ?_⟩
      refine ⟨_, rfl, a, xs, rfl, .inl (SqL.of ha), _, rfl, b, ys, rfl, .inl (SqL.of hb), rfl, _, rfl, ?_⟩
      rw [show (decide (V.int (xs.length : Int) = V.int (ys.length : Int))) = true from decide_eq_true (by rw [la, lb])]
      refine iteF ?_
      refine ⟨_, rfl, b, ys, rfl, .inl (SqL.of hb), (ys.length : Int), rfl, by omega, by omega, for_range (lo := 0) (n := (ys.length : Int).toNat) (fun i σ H' => H' = H ∧ ∃ v, σ = [some (.ref a), some (.ref b), v]) ⟨rfl, none, rfl⟩ ?_ ?_⟩
      · rintro i σ _ hi ⟨rfl, v, rfl⟩
        have hi1 : i < ys.length := by omega
        have hi2 : i < xs.length := by omega
        have hi3 : i < ds.length := by omega
        refine ⟨_, rfl, _, rfl, .inl ⟨a, xs, _, _, rfl, rfl, SqL.of ha, at_of (j := i) (by omega) (List.getElem?_eq_getElem hi2), ?_⟩⟩
        refine ⟨_, rfl, _, rfl, .inl ⟨b, ys, _, _, rfl, rfl, SqL.of hb, at_of (j := i) (by omega) (List.getElem?_eq_getElem hi1), ?_⟩⟩
        refine ⟨_, _, ds[i], rfl, ka i _ _ (List.getElem?_eq_getElem hi2) (List.getElem?_eq_getElem hi3), kb i _ _ (List.getElem?_eq_getElem hi1) (List.getElem?_eq_getElem hi3), _, rfl, iteF ⟨rfl, _, rfl⟩⟩
      · rintro σ _ ⟨rfl, v, rfl⟩
        exact q
theorem none_same : FnOk P w K mg base CX0 0 f fd ["told", "due"] (spSame 0) := by
  have no : ∀ vs H Q E, ¬ spSame 0 vs H Q E := fun vs H Q E h => h
  exact ⟨fun vs H Q E h => absurd h (no vs H Q E), fun A outer s H args us vs Q E _ _ _ _ h => absurd h (no vs H Q E)⟩
end
/-! ### the four ends -/
inductive End where
  | nw | ne | sw | se
  deriving DecidableEq
namespace End
def nm : End → Str
  | nw => "nw"
  | ne => "ne"
  | sw => "sw"
  | se => "se"
theorem nm_inj : ∀ {a b : End}, nm a = nm b → a = b := by
  intro a b e
  cases a <;> cases b <;> first | rfl | exact absurd e (by decide +kernel)
/-- where a letter moves what lies at an end -/
def mturn : End → End
  | sw => nw
  | nw => ne
  | ne => se
  | se => sw
def mswap : End → End
  | nw => nw
  | ne => se
  | sw => sw
  | se => ne
def mv (c : Nat) (e : End) : End := if c = 82 then mturn e else mswap e
theorem mv_inj (c : Nat) {a b : End} (h : mv c a = mv c b) : a = b := by
  unfold mv at h
  split at h <;> cases a <;> cases b <;> first | rfl | cases h
def mate : End → End
  | nw => ne
  | ne => nw
  | sw => se
  | se => sw
def pos (l : List Nat) (e : End) : End := l.foldl (fun x c => mv c x) e
theorem pos_take {l : List Nat} {i c : Nat} (e : End) (h : l[i]? = some c) : pos (l.take (i + 1)) e = mv c (pos (l.take i) e) := by
  unfold pos
  rw [List.take_add_one, h, List.foldl_append]
  rfl
theorem pos_inj : ∀ (l : List Nat) {a b : End}, pos l a = pos l b → a = b
  | [], _, _, h => h
  | c :: r, _, _, h => mv_inj c (pos_inj r h)
/-- the partner of nw -/
def pturn : End → End
  | nw => nw
  | ne => sw
  | sw => ne
  | se => se
def pswap : End → End
  | nw => nw
  | ne => se
  | sw => sw
  | se => ne
def pstep (c : Nat) (p : End) : End := if c = 82 then pturn p else pswap p
theorem pstep_R (p : End) : pstep 82 p = pturn p := if_pos rfl
theorem pstep_X {c : Nat} (h : ¬ c = 82) (p : End) : pstep c p = pswap p := if_neg h
def pn (l : List Nat) : End := l.foldl (fun p c => pstep c p) ne
theorem pn_take {l : List Nat} {i c : Nat} (h : l[i]? = some c) : pn (l.take (i + 1)) = pstep c (pn (l.take i)) := by
  unfold pn
  rw [List.take_add_one, h, List.foldl_append]
  rfl
/-- the joining in which nw has the partner p -/
def jsw : End → End
  | nw => sw
  | sw => nw
  | ne => se
  | se => ne
def jse : End → End
  | nw => se
  | se => nw
  | ne => sw
  | sw => ne
def jn : End → End → End
  | ne => mate
  | sw => jsw
  | se => jse
  | nw => jse
theorem jn_step (c : Nat) (p e : End) (h : p ≠ nw) : mv c (jn p e) = jn (pstep c p) (mv c e) := by
  unfold mv pstep
  by_cases hc : c = 82
  · simp only [if_pos hc]
    cases p <;> cases e <;> first | rfl | exact absurd rfl h
  · simp only [if_neg hc]
    cases p <;> cases e <;> first | rfl | exact absurd rfl h
theorem pstep_ne (c : Nat) {p : End} (h : p ≠ nw) : pstep c p ≠ nw := by
  unfold pstep
  by_cases hc : c = 82
  · simp only [if_pos hc]
    cases p <;> first | exact absurd rfl h | (intro z; cases z)
  · simp only [if_neg hc]
    cases p <;> first | exact absurd rfl h | (intro z; cases z)
theorem foldl_snoc {α β : Type} (f : α → β → α) (a : α) (l : List β) (b : β) : (l ++ [b]).foldl f a = f (l.foldl f a) b := by rw [List.foldl_append]; rfl
theorem both (l : List Nat) : pn l ≠ nw ∧ ∀ e, pos l (mate e) = jn (pn l) (pos l e) := by
  suffices h : ∀ n, ∀ l : List Nat, l.length = n → pn l ≠ nw ∧ ∀ e, pos l (mate e) = jn (pn l) (pos l e) from h _ l rfl
  intro n
  induction n with
  | zero =>
    intro l hl
    cases List.eq_nil_of_length_eq_zero hl
    exact ⟨(by intro z; cases z), fun e => rfl⟩
  | succ n ih =>
    intro l hl
    have hne : l ≠ [] := fun z => by rw [z] at hl; cases hl
    obtain ⟨r, c, rfl⟩ : ∃ r c, l = r ++ [c] := ⟨l.dropLast, l.getLast hne, (List.dropLast_concat_getLast hne).symm⟩
    have hr : r.length = n := by rw [List.length_append, List.length_singleton] at hl; omega
    obtain ⟨h1, h2⟩ := ih r hr
    have e1 : pn (r ++ [c]) = pstep c (pn r) := foldl_snoc _ _ _ _
    have e2 : ∀ e, pos (r ++ [c]) e = mv c (pos r e) := fun e => foldl_snoc _ _ _ _
    rw [e1]
    exact ⟨pstep_ne c h1, fun e => by rw [e2, e2, h2, jn_step c _ _ h1]⟩
/-- the ropes' numbers at nw, ne, sw, se, where nw has the partner p -/
def Rp (a b c d : Int) (p : End) : Prop := match p with
  | ne => a = b ∧ c = d ∧ a ≠ c
  | sw => a = c ∧ b = d ∧ a ≠ b
  | se => a = d ∧ b = c ∧ a ≠ b
  | nw => False
theorem Rp.turn {a b c d : Int} {p : End} (h : Rp a b c d p) : Rp c a d b (pstep 82 p) := by
  rw [pstep_R]
  cases p <;> simp only [Rp, pturn] at * <;> first | exact h | omega
theorem Rp.swap {a b c d : Int} {p : End} {x : Nat} (hx : ¬ x = 82) (h : Rp a b c d p) : Rp a d c b (pstep x p) := by
  rw [pstep_X hx]
  cases p <;> simp only [Rp, pswap] at * <;> first | exact h | omega
theorem Rp.mine {a b c d : Int} {p : End} (h : Rp a b c d p) : (b = a ↔ p = ne) ∧ (c = a ↔ p = sw) := by
  cases p <;> simp only [Rp] at h
  · obtain ⟨h1, h2, h3⟩ := h
    exact ⟨⟨fun _ => rfl, fun _ => h1.symm⟩, ⟨fun z => absurd z.symm h3, fun z => by cases z⟩⟩
  · obtain ⟨h1, h2, h3⟩ := h
    exact ⟨⟨fun z => absurd z.symm h3, fun z => by cases z⟩, ⟨fun _ => rfl, fun _ => h1.symm⟩⟩
  · obtain ⟨h1, h2, h3⟩ := h
    exact ⟨⟨fun z => absurd z.symm h3, fun z => by cases z⟩, ⟨fun z => absurd (z.symm.trans h2.symm) h3, fun z => by cases z⟩⟩
/-- the parities of the number -/
def Par (v : Int × Int) (p : End) : Prop := match p with
  | ne => v.1 % 2 = 0 ∧ v.2 % 2 = 1
  | sw => v.1 % 2 = 1 ∧ v.2 % 2 = 0
  | se => v.1 % 2 = 1 ∧ v.2 % 2 = 1
  | nw => False
theorem Par.step {v : Int × Int} {p : End} {c : Nat} (hc : c = 84 ∨ c = 85 ∨ c = 82) (h : Par v p) : Par (called v c) (pstep c p) := by
  obtain ⟨x, y⟩ := v
  rcases hc with rfl | rfl | rfl
  · rw [pstep_X (by decide), show called (x, y) 84 = (x + y, y) from rfl]
    cases p <;> simp only [Par, pswap] at * <;> omega
  · rw [pstep_X (by decide), show called (x, y) 85 = (x - y, y) from rfl]
    cases p <;> simp only [Par, pswap] at * <;> omega
  · rw [pstep_R]
    unfold called
    rw [if_neg (by decide), if_neg (by decide)]
    by_cases h1 : 0 < x
    · rw [if_pos (show 0 < (x, y).1 from h1)]
      cases p <;> simp only [Par, pturn] at * <;> omega
    · rw [if_neg (show ¬ 0 < (x, y).1 from h1)]
      by_cases h2 : x < 0
      · rw [if_pos (show (x, y).1 < 0 from h2)]
        cases p <;> simp only [Par, pturn] at * <;> omega
      · rw [if_neg (show ¬ (x, y).1 < 0 from h2)]
        have h3 : x = 0 := by omega
        subst h3
        cases p <;> simp only [Par, pturn] at * <;> omega
theorem par_run (l : List Nat) (hl : Lets l) : Par (run (0, 1) l) (pn l) := by
  suffices h : ∀ i, i ≤ l.length → Par (run (0, 1) (l.take i)) (pn (l.take i)) by
    have := h l.length (Nat.le_refl _)
    rwa [List.take_of_length_le (Nat.le_refl _)] at this
  intro i
  induction i with
  | zero => intro _; exact ⟨by show (0 : Int) % 2 = 0; decide, by show (1 : Int) % 2 = 1; decide⟩
  | succ i ih =>
    intro hi
    have h1 : i < l.length := hi
    rw [run_take _ (List.getElem?_eq_getElem h1), pn_take (List.getElem?_eq_getElem h1)]
    exact (ih (Nat.le_of_lt h1)).step (hl _ (List.getElem_mem h1))
/-! the closed ropes, as the law counts them -/
def walk (J td : End → End) : Nat → List End × End → List End × End
  | 0, s => s
  | n + 1, s => walk J td n (s.1 ++ [s.2, J s.2], td (J s.2))
def goes (J td : End → End) (s : List End × Nat) (e : End) : List End × Nat := if s.1.contains e then s else ((walk J td 4 (s.1, e)).1, s.2 + 1)
def all4 : List End := [nw, ne, sw, se]
def count (J td : End → End) : Nat := (all4.foldl (goes J td) ([], 0)).2
/-- the ends that a way ties -/
def tie (down : Bool) : End → End := if down then jn sw else mate
theorem count_is (p : End) (h : p ≠ nw) (down : Bool) : count (jn p) (tie down) = if p = tie down nw then 2 else 1 := by
  cases p <;> cases down <;> first | decide | exact absurd rfl h
end End
section
open End
variable {P : Program} {w : World} {K : PySem.W.Frag} {mg : Str → Option Value} {base : Heap} {f : Addr} {fd : FuncData}
/-! ### the program: ropes_at_ends, partner, pieces -/
def spRopes : Sp := fun vs H Q _ => ∃ l : List Nat, vs = [.str (S l)] ∧ Lets l ∧ ∀ (t : Addr) (a b c d : Int) H', Same H H' → Rp a b c d (pn l) → H' t = some (.tup [.int a, .int b, .int c, .int d]) → Q (.ref t) H'
theorem ok_ropes (F : Fun K "ropes_at_ends" "ropes_at_ends" s_ropes_at_ends f fd) : FnOk P w K mg base CX0 1 f fd ["dance"] spRopes := by
  refine F.ok sc_ropes_at_ends (fun vs H Q E h => ?_) (fun cdv A outer s H vs Q E hr h => ?_)
  · obtain ⟨l, rfl, _⟩ := h
    rfl
  obtain ⟨l, rfl, hl, q⟩ := h
  refine ⟨_, pss_cons (ps_asg (pe_tup (pa_cons pe_int (pa_cons pe_int (pa_cons pe_int (pa_cons pe_int pa_nil))))) (pg_tup (by rfl) (pgs_cons (pg_name (i := 1) sc_ropes_at_ends.nd rfl (.inl rfl)) (pgs_cons (pg_name (i := 2) sc_ropes_at_ends.nd rfl (.inl rfl)) (pgs_cons (pg_name (i := 3) sc_ropes_at_ends.nd rfl (.inl rfl)) (pgs_cons (pg_name (i := 4) sc_ropes_at_ends.nd rfl (.inl rfl)) pgs_nil))))))
    (pss_cons (ps_for PassesOwn.never rfl (pi_str (pv 0)) (pg_name (i := 5) sc_ropes_at_ends.nd rfl (.inl rfl))
      (pss_one (ps_if (pt_cmpR op_eq (pv 5) pe_str (nomark _))
        (pss_one (ps_asg (pe_tup (pa_cons (pv 3) (pa_cons (pv 1) (pa_cons (pv 4) (pa_cons (pv 2) pa_nil))))) (pg_tup (by rfl) (pgs_cons (pg_name (i := 1) sc_ropes_at_ends.nd rfl (.inl rfl)) (pgs_cons (pg_name (i := 2) sc_ropes_at_ends.nd rfl (.inl rfl)) (pgs_cons (pg_name (i := 3) sc_ropes_at_ends.nd rfl (.inl rfl)) (pgs_cons (pg_name (i := 4) sc_ropes_at_ends.nd rfl (.inl rfl)) pgs_nil)))))))
        (pss_one (ps_par (i := 2) (j := 4) (by rfl) sc_ropes_at_ends.nd rfl rfl (by decide) rfl rfl (pa_cons (pv 4) (pa_cons (pv 2) pa_nil)) (by rfl))))))
    (pss_one (ps_ret (pe_tup (pa_cons (pv 1) (pa_cons (pv 2) (pa_cons (pv 3) (pa_cons (pv 4) pa_nil)))))))), ?_⟩
  have sz : 4 ≤ sizeLine := fits (by decide)
  refine ⟨sz, fun t0 n0 => ⟨t0, _, rfl, SqT.of upd_same, rfl, _, _, rfl, _, _, rfl, _, _, rfl, _, _, rfl, rfl, ?_⟩⟩
  refine ⟨_, rfl, _, rfl, for_str (l := l) (fun i σ H' => ∃ (a b c d : Int) (x : Option V), σ = [some (.str (S l)), some (.int a), some (.int b), some (.int c), some (.int d), x] ∧ Same H H' ∧ Rp a b c d (pn (l.take i))) ?_ ?_ ?_⟩
  · exact ⟨0, 0, 1, 1, _, rfl, same_new n0 _, rfl, rfl, by decide⟩
  · rintro i c σ H' hc ⟨a, b, cc, d, x, rfl, sm, rp⟩
    rw [pn_take hc]
    refine ⟨_, rfl, rfl, _, rfl, ite2 (fun c1 => ?_) (fun c1 => ?_)⟩
    · have k1 : c = 82 := (sign_eq e_R).mp (of_decide_eq_true c1)
      subst k1
      refine ⟨_, rfl, _, rfl, _, rfl, _, rfl, sz, fun t1 n1 => ⟨t1, _, rfl, SqT.of upd_same, rfl, _, _, rfl, _, _, rfl, _, _, rfl, _, _, rfl, rfl, ?_⟩⟩
      exact ⟨_, _, _, _, _, rfl, sm.trans (same_new n1 _), rp.turn⟩
    · have k1 : ¬ c = 82 := fun z => c1 (decide_eq_true ((sign_eq e_R).mpr z))
      exact ⟨_, rfl, _, rfl, _, _, rfl, _, _, _, _, _, rfl, sm, rp.swap k1⟩
  · rintro σ H' ⟨a, b, cc, d, x, rfl, sm, rp⟩
    rw [List.take_of_length_le (Nat.le_refl _)] at rp
    exact ⟨_, rfl, _, rfl, _, rfl, _, rfl, sz, fun t1 n1 => q t1 a b cc d _ (sm.trans (same_new n1 _)) rp upd_same⟩
def spPartner : Sp := fun vs H Q _ => ∃ l : List Nat, vs = [.str (S l)] ∧ Lets l ∧ ∀ H', Same H H' → Q (.str (nm (pn l))) H'
theorem ok_partner (F : Fun K "partner" "partner" s_partner f fd) (DR : Dfn P w K mg base "ropes_at_ends" 1 ["dance"] spRopes) : FnOk P w K mg base CX0 2 f fd ["dance"] spPartner := by
  refine F.ok sc_partner (fun vs H Q E h => ?_) (fun cdv A outer s H vs Q E hr h => ?_)
  · obtain ⟨l, rfl, _⟩ := h
    rfl
  obtain ⟨l, rfl, hl, q⟩ := h
  refine ⟨_, pss_cons (ps_asg (pe_do DR hr (pa_cons (pv 0) pa_nil)) (pg_tup (by rfl) (pgs_cons (pg_name (i := 1) sc_partner.nd rfl (.inl rfl)) (pgs_cons (pg_name (i := 2) sc_partner.nd rfl (.inl rfl)) (pgs_cons (pg_name (i := 3) sc_partner.nd rfl (.inl rfl)) (pgs_cons (pg_name (i := 4) sc_partner.nd rfl (.inl rfl)) pgs_nil))))))
    (pss_cons (ps_if (pt_cmpR op_eq (pv 2) (pv 1) (nomark _)) (pss_one (ps_ret pe_str)) pss_nil)
    (pss_cons (ps_if (pt_cmpR op_eq (pv 3) (pv 1) (nomark _)) (pss_one (ps_ret pe_str)) pss_nil)
    (pss_one (ps_ret pe_str)))), ?_⟩
  refine ⟨_, rfl, l, rfl, hl, fun t a b c d H' sm rp ht => ?_⟩
  refine ⟨t, _, rfl, SqT.of ht, rfl, _, _, rfl, _, _, rfl, _, _, rfl, _, _, rfl, rfl, ?_⟩
  have m := rp.mine
  have nn := (both l).1
  have q' := q H' sm
  refine ⟨_, rfl, _, rfl, rfl, _, rfl, ite2 (fun c1 => ?_) (fun c1 => ?_)⟩
  · have k1 : pn l = ne := m.1.mp (V.int.inj (of_decide_eq_true c1))
    rw [k1] at q'
    exact q'
  have k1 : ¬ pn l = ne := fun z => c1 (decide_eq_true (by rw [m.1.mpr z]))
  refine ⟨_, rfl, _, rfl, rfl, _, rfl, ite2 (fun c2 => ?_) (fun c2 => ?_)⟩
  · have k2 : pn l = sw := m.2.mp (V.int.inj (of_decide_eq_true c2))
    rw [k2] at q'
    exact q'
  have k2 : ¬ pn l = sw := fun z => c2 (decide_eq_true (by rw [m.2.mpr z]))
  have k3 : pn l = se := by
    cases e : pn l <;> first | rfl | exact absurd e nn | exact absurd e k1 | exact absurd e k2
  rw [k3] at q'
  exact q'
def wayName (down : Bool) : Str := if down then "down" else "across"
theorem way_across (down : Bool) : decide (V.str (wayName down) = V.str ("across" : Str)) = !down := by
  cases down <;> decide +kernel
theorem way_down (down : Bool) : decide (V.str (wayName down) = V.str ("down" : Str)) = down := by
  cases down <;> decide +kernel
theorem nm_dec (a b : End) : decide (V.str (nm a) = V.str (nm b)) = decide (a = b) := by
  rw [decide_eq_decide]
  exact ⟨fun h => nm_inj (V.str.inj h), fun h => by rw [h]⟩
def spPieces : Sp := fun vs H Q _ => ∃ (l : List Nat) (down : Bool), vs = [.str (S l), .str (wayName down)] ∧ Lets l ∧ ∀ H', Same H H' → Q (.int (count (jn (pn l)) (tie down) : Nat)) H'
theorem ok_pieces (F : Fun K "pieces" "pieces" s_pieces f fd) (DP : Dfn P w K mg base "partner" 2 ["dance"] spPartner) : FnOk P w K mg base CX0 3 f fd ["dance", "way"] spPieces := by
  refine F.ok sc_pieces (fun vs H Q E h => ?_) (fun cdv A outer s H vs Q E hr h => ?_)
  · obtain ⟨l, d, rfl, _⟩ := h
    rfl
  obtain ⟨l, d, rfl, hl, q⟩ := h
  refine ⟨_, pss_cons (ps_set (i := 2) sc_pieces.nd rfl (.inl rfl) (pe_ifExp (pt_cmpR op_eq (pv 1) pe_str (nomark _)) pe_str pe_str))
    (pss_one (ps_ret (pe_ifExp (pt_cmpR op_eq (pe_do DP hr (pa_cons (pv 0) pa_nil)) (pv 2) (nomark _)) pe_int pe_int))), ?_⟩
  have ct := count_is (pn l) (both l).1 d
  have fin : ∀ x : End, x = tie d nw → ∀ H', Same H H' → (∃ k, V.bl (decide (V.str (nm (pn l)) = V.str (nm x))) = .bl k ∧ if k = true then Q (.int 2) H' else Q (.int 1) H') := fun x hx H' sm => by
    refine ⟨_, rfl, ?_⟩
    rw [nm_dec, hx]
    have q' := q H' sm
    rw [ct] at q'
    by_cases e : pn l = tie d nw
    · rw [if_pos e] at q'
      rw [decide_eq_true e]
      exact iteT q'
    · rw [if_neg e] at q'
      rw [decide_eq_false e]
      exact iteF q'
  refine ⟨_, rfl, rfl, _, rfl, ?_⟩
  rw [way_across]
  cases d with
  | false => exact iteT ⟨_, rfl, l, rfl, hl, fun H' sm => ⟨_, rfl, rfl, fin ne rfl H' sm⟩⟩
  | true => exact iteF ⟨_, rfl, l, rfl, hl, fun H' sm => ⟨_, rfl, rfl, fin sw rfl H' sm⟩⟩
end
section
open End
variable {P : Program} {w : World} {K : PySem.W.Frag} {mg : Str → Option Value} {base : Heap} {f : Addr} {fd : FuncData}
/-! ### dicts of ends -/
def ky (e : End) : Key := .inr (nm e)
def vl (e : End) : V := .str (nm e)
theorem ky_iff {a b : End} : ky a = ky b ↔ a = b := ⟨fun h => nm_inj (Sum.inr.inj h), fun h => by rw [h]⟩
theorem put_len (kvs : List (Key × V)) (k : Key) (v : V) : (putK kvs k v).length ≤ kvs.length + 1 := by
  unfold putK
  split
  · rw [List.length_map]; omega
  · rw [List.length_append]; exact Nat.le_refl _
def Dct (H : Hp) (d : Addr) (g : End → Option End) (n : Nat) : Prop := ∃ kvs : List (Key × V), H d = some (.dK kvs) ∧ kvs.length ≤ n ∧ ∀ e, valV kvs (ky e) = (g e).map vl
theorem Dct.same {H H' : Hp} {d : Addr} {g : End → Option End} {n : Nat} (h : Dct H d g n) (s : Same H H') : Dct H' d g n := let ⟨k, e, l, v⟩ := h; ⟨k, s _ _ e, l, v⟩
theorem Dct.but {H H' : Hp} {a d : Addr} {g : End → Option End} {n : Nat} (h : Dct H d g n) (s : But a H H') (ne : d ≠ a) : Dct H' d g n := let ⟨k, e, l, v⟩ := h; ⟨k, s _ _ ne e, l, v⟩
theorem Dct.get {H : Hp} {d : Addr} {g : End → Option End} {n : Nat} {e x : End} (h : Dct H d g n) (hx : g e = some x) : DGet H d (vl e) (some (vl x)) := by
  obtain ⟨k, ek, l, v⟩ := h
  have := DGet.k (H := H) (k := ky e) ek
  rw [v e, hx] at this
  exact this
theorem Dct.put {H : Hp} {d : Addr} {g : End → Option End} {n : Nat} (h : Dct H d g n) (hn : n ≤ 1000000) (e x : End) : ∃ H', DPut H d (vl e) (vl x) H' ∧ But d H H' ∧ Dct H' d (fun y => if y = e then some x else g y) (n + 1) := by
  obtain ⟨k, ek, l, v⟩ := h
  refine ⟨_, DPut.k (k := ky e) ek (Nat.lt_of_lt_of_le (Nat.lt_succ_of_le l) (fits (by omega))), But.upd, _, upd_same, Nat.le_trans (put_len _ _ _) (Nat.succ_le_succ l), fun y => ?_⟩
  rw [valV_put]
  show _ = Option.map vl (if y = e then some x else g y)
  by_cases c : y = e
  · rw [if_pos (ky_iff.mpr c), if_pos c]; rfl
  · rw [if_neg (fun z => c (ky_iff.mp z)), if_neg c]; exact v y
def ent (p : End × End) : Key × V := (ky p.1, vl p.2)
def look (es : List (End × End)) (e : End) : Option End := es.foldl (fun acc p => if e = p.1 then some p.2 else acc) none
theorem disp_val (es : List (End × End)) : ∀ (kvs : List (Key × V)) (g : End → Option End), (∀ e, valV kvs (ky e) = (g e).map vl) → ∀ e, valV (mergeK kvs (es.map ent)) (ky e) = (es.foldl (fun acc p => if e = p.1 then some p.2 else acc) (g e)).map vl := by
  induction es with
  | nil => intro kvs g h e; exact h e
  | cons p r ih =>
    intro kvs g h e
    show valV (mergeK (putK kvs (ky p.1) (vl p.2)) (r.map ent)) (ky e) = _
    refine ih _ (fun y => if y = p.1 then some p.2 else g y) (fun y => ?_) e
    rw [valV_put]
    show _ = Option.map vl (if y = p.1 then some p.2 else g y)
    by_cases c : y = p.1
    · rw [if_pos (ky_iff.mpr c), if_pos c]; rfl
    · rw [if_neg (fun z => c (ky_iff.mp z)), if_neg c]; exact h y
theorem merge_len (more : List (Key × V)) : ∀ kvs : List (Key × V), (mergeK kvs more).length ≤ kvs.length + more.length := by
  induction more with
  | nil => intro kvs; exact Nat.le_refl _
  | cons p r ih =>
    intro kvs
    have h1 := ih (putK kvs p.1 p.2)
    have h2 := put_len kvs p.1 p.2
    show (mergeK (putK kvs p.1 p.2) r).length ≤ kvs.length + (r.length + 1)
    omega
theorem Dct.disp {H : Hp} {p : Addr} (es : List (End × End)) {g : End → Option End} (hg : ∀ e, look es e = g e) : Dct (upd H p (.dK (mergeK [] (es.map ent)))) p g es.length := by
  refine ⟨_, upd_same, ?_, fun e => ?_⟩
  · have := merge_len (es.map ent) []
    rw [List.length_map] at this
    simpa using this
  · rw [← hg e]
    exact disp_val es [] (fun _ => none) (fun _ => rfl) e
theorem same_new2 {H : Hp} {p : Addr} (h : H p = none) (o u : HO) : Same H (upd (upd H p o) p u) := fun b x q => by rw [upd_ne (ne_of_none q h), upd_ne (ne_of_none q h)]; exact q
theorem le15 : 4 ≤ 15 := by decide
theorem Tape.same_dict {H : Hp} {a d : Addr} (t : Tape H a) {g : End → Option End} {n : Nat} (h : Dct H d g n) : d ≠ a := by
  obtain ⟨y, c, z, b, e⟩ := t
  obtain ⟨k, ek, _⟩ := h
  exact ne_of ek e (by intro q; cases q)
/-! ### _law_places, _law_joined -/
theorem names4 {i : Nat} {y : V} (h : [V.str "nw", V.str "ne", V.str "sw", V.str "se"][i]? = some y) : ∃ e, all4[i]? = some e ∧ y = vl e := by
  match i with
  | 0 => cases h; exact ⟨nw, rfl, rfl⟩
  | 1 => cases h; exact ⟨ne, rfl, rfl⟩
  | 2 => cases h; exact ⟨sw, rfl, rfl⟩
  | 3 => cases h; exact ⟨se, rfl, rfl⟩
  | i + 4 => cases h
def rank : End → Nat
  | nw => 0
  | ne => 1
  | sw => 2
  | se => 3
theorem rank_at {i : Nat} {e : End} (h : all4[i]? = some e) : rank e = i := by
  match i with
  | 0 => cases h; rfl
  | 1 => cases h; rfl
  | 2 => cases h; rfl
  | 3 => cases h; rfl
  | i + 4 => cases h
theorem rank_inj {a b : End} (h : rank a = rank b) : a = b := by
  cases a <;> cases b <;> first | rfl | cases h
theorem rank_lt (e : End) : rank e < 4 := by cases e <;> decide
theorem tbl4 (a : End → End) : ∀ e, look [(nw, a nw), (ne, a ne), (sw, a sw), (se, a se)] e = some (a e) := by
  intro e
  cases e <;> rfl
theorem tblR : ∀ e, look [(sw, nw), (nw, ne), (ne, se), (se, sw)] e = some (mturn e) := by
  intro e
  cases e <;> rfl
def spPlaces : Sp := fun vs H Q _ => ∃ l : List Nat, vs = [.str (S l)] ∧ l.length ≤ 10000 ∧ ∀ (d : Addr) (n : Nat) H', Same H H' → n ≤ 4 * l.length + 4 → Dct H' d (fun e => some (pos l e)) n → Q (.ref d) H'
theorem Dct.congr {H : Hp} {d : Addr} {g g' : End → Option End} {n : Nat} (h : Dct H d g n) (e : ∀ x, g x = g' x) : Dct H d g' n := by
  obtain ⟨k, ek, l, v⟩ := h
  exact ⟨k, ek, l, fun x => by rw [← e x]; exact v x⟩
/-- the inner loop over the four names -/
theorem turn4 {H H2 H4 : Hp} {l : List Nat} {i c n : Nat} {pl wh : Addr} {x4 : Option V} {D : Ends} (hc : l[i]? = some c) (hn : n ≤ 4 * i + 4) (hi : i < l.length) (hz : l.length ≤ 10000) (s4 : Same H2 H4) (sm : Same H H2) (dp : Dct H2 pl (fun e => some (pos (l.take i) e)) n) (hne : pl ≠ wh) (n1 : H pl = none)
    (dw : Dct H4 wh (fun e => some (mv c e)) 4) (hD : ∀ (n : Nat) (x4 : Option V) H', Same H H' → n ≤ 4 * (i + 1) + 4 → Dct H' pl (fun e => some (pos (l.take (i + 1)) e)) n → D.nx [some (.str (S l)), some (.ref pl), some (.str (S [c])), some (.ref wh), x4] H') :
    tFor (iList K (tLst (tCons (tC (.str "nw")) (tCons (tC (.str "ne")) (tCons (tC (.str "sw")) (tCons (tC (.str "se")) tNil)))))) (gName 4) (sDPut (tVar 1) (tVar 4) (tDGet (tVar 3) (tDGet (tVar 1) (tVar 4)))) D
      [some (.str (S l)), some (.ref pl), some (.str (S [c])), some (.ref wh), x4] H4 := by
  have dp4 := dp.same s4
  refine ⟨fits (by decide), fun lp hlp => ?_⟩
  have nlp : lp ≠ pl := by
    obtain ⟨k, ek, _⟩ := dp4
    exact (ne_of_none ek hlp).symm
  refine ⟨lp, rfl, ⟨_, SqL.of upd_same⟩, for_list (K := K) (a := lp) (xs := [V.str "nw", .str "ne", .str "sw", .str "se"]) (fun j σ G => ∃ (m : Nat) (x4 : Option V), σ = [some (.str (S l)), some (.ref pl), some (.str (S [c])), some (.ref wh), x4] ∧
    But pl (upd H4 lp (.lst [V.str "nw", .str "ne", .str "sw", .str "se"])) G ∧ m ≤ 4 * i + 4 + j ∧ Dct G pl (fun e => some (if rank e < j then mv c (pos (l.take i) e) else pos (l.take i) e)) m) ?_ ?_ ?_ ?_⟩
  · exact ⟨n, x4, rfl, But.refl _ _, hn, (dp4.same (same_new hlp _)).congr fun e => by rw [if_neg (Nat.not_lt_zero _)]⟩
  · rintro j σ G _ ⟨m, x4, _, bt, _⟩
    exact SqL.of (bt _ _ nlp upd_same)
  · rintro j y σ G hj ⟨m, x4, rfl, bt, hm, dg⟩
    obtain ⟨e, he, rfl⟩ := names4 hj
    have re := rank_at he
    have dwg : Dct G wh (fun e => some (mv c e)) 4 := (dw.same (same_new hlp _)).but bt hne.symm
    have get1 := dg.get (e := e) (x := pos (l.take i) e) (by show some (if rank e < j then _ else _) = _; rw [if_neg (by omega)])
    have get2 := dwg.get (e := pos (l.take i) e) rfl
    obtain ⟨G', hput, b2, d2⟩ := dg.put (by have := rank_lt e; omega) e (mv c (pos (l.take i) e))
    refine ⟨_, rfl, _, rfl, _, rfl, pl, _, rfl, get1, wh, _, rfl, get2, _, rfl, _, rfl, pl, G', rfl, hput, m + 1, _, rfl, bt.trans b2, by omega, d2.congr fun y => ?_⟩
    by_cases hy : y = e
    · rw [if_pos hy, hy, if_pos (by omega)]
    · rw [if_neg hy]
      have : ¬ rank y = j := fun z => hy (rank_inj (z.trans re.symm))
      by_cases h3 : rank y < j
      · rw [if_pos h3, if_pos (by omega)]
      · rw [if_neg h3, if_neg (by omega)]
  · rintro σ G ⟨m, x4, rfl, bt, hm, dg⟩
    refine hD m x4 G ((bt.trans (But.refl _ _)).same ((sm.trans s4).trans (same_new hlp _)) n1) (by show m ≤ 4 * (i + 1) + 4; have : [V.str "nw", .str "ne", .str "sw", .str "se"].length = 4 := rfl; omega) (dg.congr fun e => ?_)
    have h4 := rank_lt e
    show some (if rank e < 4 then _ else _) = _
    rw [if_pos h4, pos_take e hc]
theorem ok_places (F : Fun K "_law_places" "_law_places" s_law_places f fd) : FnOk P w K mg base CX0 1 f fd ["dance"] spPlaces := by
  refine F.ok sc_law_places (fun vs H Q E h => ?_) (fun cdv A outer s H vs Q E hr h => ?_)
  · obtain ⟨l, rfl, _⟩ := h
    rfl
  obtain ⟨l, rfl, hz, q⟩ := h
  have hu := hu_of hr
  refine ⟨_, pss_cons (ps_set (i := 1) sc_law_places.nd rfl (.inl rfl) (pe_disp (pps_cons pe_str pe_str (pps_cons pe_str pe_str (pps_cons pe_str pe_str (pps_cons pe_str pe_str pps_nil)))) (by rfl) (by rfl) (fun z => by cases z) (by decide)))
    (pss_cons (ps_for PassesOwn.never rfl (pi_str (pv 0)) (pg_name (i := 2) sc_law_places.nd rfl (.inl rfl))
      (pss_cons (ps_set (i := 3) sc_law_places.nd rfl (.inl rfl) (pe_disp (pps_cons pe_str pe_str (pps_cons pe_str pe_str (pps_cons pe_str pe_str (pps_cons pe_str pe_str pps_nil)))) (by rfl) (by rfl) (fun z => by cases z) (by decide)))
      (pss_cons (ps_if (pt_cmpR op_eq (pv 2) pe_str (nomark _)) (pss_one (ps_set (i := 3) sc_law_places.nd rfl (.inl rfl) (pe_disp (pps_cons pe_str pe_str (pps_cons pe_str pe_str (pps_cons pe_str pe_str (pps_cons pe_str pe_str pps_nil)))) (by rfl) (by rfl) (fun z => by cases z) (by decide)))) pss_nil)
      (pss_one (ps_for PassesOwn.never rfl (pi_list (pe_lst (pa_cons pe_str (pa_cons pe_str (pa_cons pe_str (pa_cons pe_str pa_nil)))))) (pg_name (i := 4) sc_law_places.nd rfl (.inl rfl))
        (pss_one (ps_dput hu (pv 1) (pv 4) (pe_dget hu (pv 3) (pe_dget hu (pv 1) (pv 4) (fun _ _ => rfl)) (fun _ _ => rfl)) rfl)))))))
    (pss_one (ps_ret (pv 1)))), ?_⟩
  refine fun pl n1 => ⟨upd_same, [(nw, nw), (ne, ne), (sw, sw), (se, se)].map ent, rfl, le15, ?_⟩
  have d1 := Dct.disp (H := upd H pl (.dK [])) (p := pl) [(nw, nw), (ne, ne), (sw, sw), (se, se)] (g := fun e => some (pos [] e)) (tbl4 id)
  have s1 := same_new2 n1 (.dK []) (.dK (mergeK [] ([(nw, nw), (ne, ne), (sw, sw), (se, se)].map ent)))
  refine ⟨_, rfl, _, rfl, for_str (l := l) (fun i σ H' => ∃ (n : Nat) (x2 x3 x4 : Option V), σ = [some (.str (S l)), some (.ref pl), x2, x3, x4] ∧ Same H H' ∧ n ≤ 4 * i + 4 ∧ Dct H' pl (fun e => some (pos (l.take i) e)) n) ?_ ?_ ?_⟩
  · exact ⟨4, _, _, _, rfl, s1, Nat.le_refl _, d1⟩
  · rintro i c σ H2 hc ⟨n, x2, x3, x4, rfl, sm, hn, dp⟩
    have hi : i < l.length := (List.getElem?_eq_some_iff.mp hc).1
    refine fun w1 nw1 => ⟨upd_same, [(nw, nw), (ne, se), (sw, sw), (se, ne)].map ent, rfl, le15, ?_⟩
    have dw1 := Dct.disp (H := upd H2 w1 (.dK [])) (p := w1) [(nw, nw), (ne, se), (sw, sw), (se, ne)] (g := fun e => some (mswap e)) (tbl4 mswap)
    have s3 := same_new2 nw1 (.dK []) (.dK (mergeK [] ([(nw, nw), (ne, se), (sw, sw), (se, ne)].map ent)))
    have npw : pl ≠ w1 := by
      obtain ⟨k, ek, _⟩ := dp
      exact ne_of_none ek nw1
    refine ⟨_, rfl, rfl, _, rfl, ite2 (fun c1 => ?A) (fun c1 => ?B)⟩
    case A =>
      have k1 : c = 82 := (sign_eq e_R).mp (of_decide_eq_true c1)
      refine fun w2 nw2 => ⟨upd_same, [(sw, nw), (nw, ne), (ne, se), (se, sw)].map ent, rfl, le15, ?_⟩
      have dw2 := Dct.disp (H := upd (upd (upd H2 w1 (.dK [])) w1 (.dK (mergeK [] ([(nw, nw), (ne, se), (sw, sw), (se, ne)].map ent)))) w2 (.dK [])) (p := w2) [(sw, nw), (nw, ne), (ne, se), (se, sw)] (g := fun e => some (mturn e)) tblR
      have s4 := same_new2 nw2 (.dK []) (.dK (mergeK [] ([(sw, nw), (nw, ne), (ne, se), (se, sw)].map ent)))
      have npw2 : pl ≠ w2 := by
        obtain ⟨k, ek, _⟩ := dp
        exact ne_of_none (s3 _ _ ek) nw2
      exact turn4 hc hn hi hz (s3.trans s4) sm dp npw2 n1 (by rw [k1]; exact dw2) fun m x4 H' a b d => ⟨m, _, _, _, rfl, a, b, d⟩
    case B =>
      have k1 : ¬ c = 82 := fun z => c1 (decide_eq_true ((sign_eq e_R).mpr z))
      exact turn4 hc hn hi hz s3 sm dp npw n1 (dw1.congr fun e => by rw [mv, if_neg k1]) fun m x4 H' a b d => ⟨m, _, _, _, rfl, a, b, d⟩
  · rintro σ H2 ⟨n, x2, x3, x4, rfl, sm, hn, dp⟩
    rw [List.take_of_length_le (Nat.le_refl _)] at dp
    exact ⟨_, rfl, q pl n H2 sm hn dp⟩
/-- the four pairs of ends that the law goes along -/
def prs : List (End × End) := [(nw, ne), (ne, nw), (sw, se), (se, sw)]
theorem prs_at {i : Nat} {p : End × End} (h : prs[i]? = some p) : p.2 = mate p.1 ∧ rank p.1 = i := by
  match i with
  | 0 => cases h; exact ⟨rfl, rfl⟩
  | 1 => cases h; exact ⟨rfl, rfl⟩
  | 2 => cases h; exact ⟨rfl, rfl⟩
  | 3 => cases h; exact ⟨rfl, rfl⟩
  | i + 4 => cases h
def spJoined : Sp := fun vs H Q _ => ∃ l : List Nat, vs = [.str (S l)] ∧ l.length ≤ 10000 ∧ ∀ (d : Addr) (n : Nat) H', Same H H' → Dct H' d (fun e => some (jn (pn l) e)) n → Q (.ref d) H'
theorem pos_onto (l : List Nat) (e : End) : ∃ x, pos l x = e := by
  suffices h : ∀ (l : List Nat) (e : End), ∃ x, l.foldl (fun x c => mv c x) x = e from h l e
  intro l
  induction l with
  | nil => intro e; exact ⟨e, rfl⟩
  | cons c r ih =>
    intro e
    obtain ⟨x, hx⟩ := ih e
    have : ∃ y, mv c y = x := by
      unfold mv
      by_cases hc : c = 82
      · simp only [if_pos hc]
        cases x
        · exact ⟨sw, rfl⟩
        · exact ⟨nw, rfl⟩
        · exact ⟨se, rfl⟩
        · exact ⟨ne, rfl⟩
      · simp only [if_neg hc]
        cases x
        · exact ⟨nw, rfl⟩
        · exact ⟨se, rfl⟩
        · exact ⟨sw, rfl⟩
        · exact ⟨ne, rfl⟩
    obtain ⟨y, hy⟩ := this
    exact ⟨y, by show r.foldl _ (mv c y) = e; rw [hy]; exact hx⟩
theorem ok_joined (F : Fun K "_law_joined" "_law_joined" s_law_joined f fd) (DP : Dfn P w K mg base "_law_places" 1 ["dance"] spPlaces) : FnOk P w K mg base CX0 2 f fd ["dance"] spJoined := by
  refine F.ok sc_law_joined (fun vs H Q E h => ?_) (fun cdv A outer s H vs Q E hr h => ?_)
  · obtain ⟨l, rfl, _⟩ := h
    rfl
  obtain ⟨l, rfl, hz, q⟩ := h
  have hu := hu_of hr
  refine ⟨_, pss_cons (ps_set (i := 1) sc_law_joined.nd rfl (.inl rfl) (pe_do DP hr (pa_cons (pv 0) pa_nil)))
    (pss_cons (ps_set (i := 2) sc_law_joined.nd rfl (.inl rfl) pe_dnewK)
    (pss_cons (ps_for PassesOwn.never rfl (pi_list (pe_lst (pa_cons (pe_tup (pa_cons pe_str (pa_cons pe_str pa_nil))) (pa_cons (pe_tup (pa_cons pe_str (pa_cons pe_str pa_nil))) (pa_cons (pe_tup (pa_cons pe_str (pa_cons pe_str pa_nil))) (pa_cons (pe_tup (pa_cons pe_str (pa_cons pe_str pa_nil))) pa_nil))))))
        (pg_tup (by rfl) (pgs_cons (pg_name (i := 3) sc_law_joined.nd rfl (.inl rfl)) (pgs_cons (pg_name (i := 4) sc_law_joined.nd rfl (.inl rfl)) pgs_nil)))
      (pss_one (ps_dput hu (pv 2) (pe_dget hu (pv 1) (pv 3) (fun _ _ => rfl)) (pe_dget hu (pv 1) (pv 4) (fun _ _ => rfl)) rfl)))
    (pss_one (ps_ret (pv 2))))), ?_⟩
  have two : 2 ≤ sizeLine := fits (by decide)
  refine ⟨_, rfl, l, rfl, hz, fun pl n H1 s1 hn dp => ?_⟩
  refine fun jd nj => ?_
  refine ⟨two, fun t1 n1 => ⟨two, fun t2 n2 => ⟨two, fun t3 n3 => ⟨two, fun t4 n4 => ⟨fits (by show 4 ≤ 16777216; decide), fun lp nl => ?_⟩⟩⟩⟩⟩
  have g0 : Same H1 (upd H1 jd (.dK [])) := same_new nj _
  have g1 := same_new n1 (.tup [.str "nw", .str "ne"])
  have g2 := same_new n2 (.tup [.str "ne", .str "nw"])
  have g3 := same_new n3 (.tup [.str "sw", .str "se"])
  have g4 := same_new n4 (.tup [.str "se", .str "sw"])
  have g5 := same_new nl (.lst [.ref t1, .ref t2, .ref t3, .ref t4])
  have u0 : Dct (upd H1 jd (.dK [])) jd (fun _ => none) 0 := ⟨[], upd_same, Nat.le_refl _, fun e => rfl⟩
  have u1 : upd (upd H1 jd (.dK [])) t1 (.tup [.str "nw", .str "ne"]) t1 = some (.tup [vl nw, vl ne]) := upd_same
  have u2 : upd (upd (upd H1 jd (.dK [])) t1 (.tup [.str "nw", .str "ne"])) t2 (.tup [.str "ne", .str "nw"]) t2 = some (.tup [vl ne, vl nw]) := upd_same
  have u3 : upd (upd (upd (upd H1 jd (.dK [])) t1 (.tup [.str "nw", .str "ne"])) t2 (.tup [.str "ne", .str "nw"])) t3 (.tup [.str "sw", .str "se"]) t3 = some (.tup [vl sw, vl se]) := upd_same
  have u4 : upd (upd (upd (upd (upd H1 jd (.dK [])) t1 (.tup [.str "nw", .str "ne"])) t2 (.tup [.str "ne", .str "nw"])) t3 (.tup [.str "sw", .str "se"])) t4 (.tup [.str "se", .str "sw"]) t4 = some (.tup [vl se, vl sw]) := upd_same
  have u5 : upd (upd (upd (upd (upd (upd H1 jd (.dK [])) t1 (.tup [.str "nw", .str "ne"])) t2 (.tup [.str "ne", .str "nw"])) t3 (.tup [.str "sw", .str "se"])) t4 (.tup [.str "se", .str "sw"])) lp (.lst [.ref t1, .ref t2, .ref t3, .ref t4]) lp = some (.lst [.ref t1, .ref t2, .ref t3, .ref t4]) := upd_same
  have dp0 := (((((dp.same g0).same g1).same g2).same g3).same g4).same g5
  have dj0 := ((((u0.same g1).same g2).same g3).same g4).same g5
  have v1 := g5 _ _ (g4 _ _ (g3 _ _ (g2 _ _ u1)))
  have v2 := g5 _ _ (g4 _ _ (g3 _ _ u2))
  have v3 := g5 _ _ (g4 _ _ u3)
  have v4 := g5 _ _ u4
  have S6 := ((((g0.trans g1).trans g2).trans g3).trans g4).trans g5
  have npj : pl ≠ jd := by
    obtain ⟨k, ek, _⟩ := dp
    exact ne_of_none ek nj
  generalize upd (upd (upd (upd (upd (upd H1 jd (.dK [])) t1 (.tup [.str "nw", .str "ne"])) t2 (.tup [.str "ne", .str "nw"])) t3 (.tup [.str "sw", .str "se"])) t4 (.tup [.str "se", .str "sw"])) lp (.lst [.ref t1, .ref t2, .ref t3, .ref t4]) = H6 at *
  have item : ∀ {i : Nat} {y : V}, [V.ref t1, .ref t2, .ref t3, .ref t4][i]? = some y → ∃ (t : Addr) (p : End × End), y = .ref t ∧ prs[i]? = some p ∧ H6 t = some (.tup [vl p.1, vl p.2]) := fun {i y} h => by
    match i with
    | 0 => cases h; exact ⟨t1, _, rfl, rfl, v1⟩
    | 1 => cases h; exact ⟨t2, _, rfl, rfl, v2⟩
    | 2 => cases h; exact ⟨t3, _, rfl, rfl, v3⟩
    | 3 => cases h; exact ⟨t4, _, rfl, rfl, v4⟩
    | i + 4 => cases h
  have nlj : lp ≠ jd := by
    obtain ⟨k, ek, _⟩ := dj0
    exact ne_of u5 ek (by intro q; cases q)
  refine ⟨lp, rfl, ⟨_, SqL.of u5⟩, for_list (K := K) (a := lp) (xs := [V.ref t1, .ref t2, .ref t3, .ref t4]) (fun i σ G => ∃ (m : Nat) (g : End → Option End) (x3 x4 : Option V), σ = [some (.str (S l)), some (.ref pl), some (.ref jd), x3, x4] ∧ But jd H6 G ∧ m ≤ i ∧ Dct G jd g m ∧
    ∀ x, rank x < i → g (pos l x) = some (pos l (mate x))) ?_ ?_ ?_ ?_⟩
  · exact ⟨0, _, _, _, rfl, But.refl _ _, Nat.le_refl _, dj0, fun x h => absurd h (Nat.not_lt_zero _)⟩
  · rintro i σ G _ ⟨m, g, x3, x4, _, bt, _⟩
    exact SqL.of (bt _ _ nlj u5)
  · rintro i y σ G hi ⟨m, g, x3, x4, rfl, bt, hm, dg, hg⟩
    obtain ⟨t, p, rfl, hp, ht⟩ := item hi
    have hi4 : i < 4 := (List.getElem?_eq_some_iff.mp hi).1
    obtain ⟨pm, pr⟩ := prs_at hp
    have ntj : t ≠ jd := by
      obtain ⟨k, ek, _⟩ := dj0
      exact ne_of ht ek (by intro q; cases q)
    have dpG := dp0.but bt npj
    obtain ⟨G', hput, b2, d2⟩ := dg.put (by omega) (pos l p.1) (pos l p.2)
    refine ⟨t, _, rfl, SqT.of (bt _ _ ntj ht), rfl, _, _, rfl, _, _, rfl, rfl, ?_⟩
    refine ⟨_, rfl, _, rfl, pl, _, rfl, dpG.get (e := p.2) rfl, _, rfl, _, rfl, _, rfl, pl, _, rfl, dpG.get (e := p.1) rfl, jd, G', rfl, hput, m + 1, _, _, _, rfl, bt.trans b2, by omega, d2, fun x hx => ?_⟩
    by_cases e : x = p.1
    · rw [e, if_pos rfl, pm]
    · have h1 : ¬ pos l x = pos l p.1 := fun z => e (pos_inj l z)
      have h2 : ¬ rank x = i := fun z => e (rank_inj (z.trans pr.symm))
      show (if pos l x = pos l p.1 then _ else _) = _
      rw [if_neg h1]
      exact hg x (by omega)
  · rintro σ G ⟨m, g, x3, x4, rfl, bt, hm, dg, hg⟩
    have nj1 : H1 jd = none := nj
    refine ⟨_, rfl, q jd m G (fun b o h => (bt.same S6 nj1) b o (s1 b o h)) (dg.congr fun e => ?_)⟩
    obtain ⟨x, rfl⟩ := pos_onto l e
    rw [hg x (rank_lt x), (both l).2 x]
end
section
open End
variable {P : Program} {w : World} {K : PySem.W.Frag} {mg : Str → Option Value} {base : Heap} {f : Addr} {fd : FuncData}
theorem walk_succ (J td : End → End) : ∀ (n : Nat) (s : List End × End), walk J td (n + 1) s = ((walk J td n s).1 ++ [(walk J td n s).2, J (walk J td n s).2], td (J (walk J td n s).2))
  | 0, s => rfl
  | n + 1, s => by
    show walk J td (n + 1) (s.1 ++ [s.2, J s.2], td (J s.2)) = _
    rw [walk_succ J td n]
    rfl
theorem walk_len (J td : End → End) : ∀ (n : Nat) (s : List End × End), (walk J td n s).1.length = s.1.length + 2 * n
  | 0, s => rfl
  | n + 1, s => by
    rw [walk_succ, List.length_append, walk_len J td n]
    show _ + 2 = _
    omega
theorem in_seen (e : End) (s : List End) : inV (vl e) (s.map vl) = s.contains e := by
  unfold inV
  rw [List.any_map, List.contains_eq_any_beq]
  congr 1
  funext y
  show (nm y == nm e) = (e == y)
  by_cases h : y = e
  · subst h; simp
  · have h1 : ¬ nm y = nm e := fun z => h (nm_inj z)
    rw [beq_eq_false_iff_ne.mpr h1, beq_eq_false_iff_ne.mpr (Ne.symm h)]
theorem flat_all (s : List End) : (s.map vl).all flatV = true := by
  rw [List.all_map, List.all_eq_true]
  intro x _
  rfl
theorem fold_take {α β : Type} (f : α → β → α) (a : α) {l : List β} {i : Nat} {x : β} (h : l[i]? = some x) : (l.take (i + 1)).foldl f a = f ((l.take i).foldl f a) x := by
  rw [List.take_add_one, h, List.foldl_append]
  rfl
theorem rest_pieces {H0 : Hp} {jd wd : Addr} {way : Str} {J td : End → End} {n m : Nat} {x3 x4 x5 x6 x7 : Option V} {D : Ends} (dj : Dct H0 jd (fun e => some (J e)) n) (dw : Dct H0 wd (fun e => some (td e)) m)
    (hD : ∀ G, Same H0 G → D.rt (.int (count J td : Nat)) G) :
    tSeq (tAsg (tLst tNil) (gName 3)) (tSeq (tAsg (tC (.int 0)) (gName 4)) (tSeq
      (tFor (iList K (tLst (tCons (tC (.str "nw")) (tCons (tC (.str "ne")) (tCons (tC (.str "sw")) (tCons (tC (.str "se")) tNil)))))) (gName 5)
        (tIfS (tTest (tOp (rIn K true) (tVar 5) (tVar 3))) (tSeq (tAsg (tOp (rI0 fun i j => .int (i + j)) (tVar 4) (tC (.int 1))) (gName 4)) (tSeq (tAsg (tVar 5) (gName 6))
          (tFor (iRng1 (tCons (tC (.int 4)) tNil)) (gName 7) (tSeq (tAsg (tOp rCat (tVar 3) (tLst (tCons (tVar 6) (tCons (tDGet (tVar 0) (tVar 6)) tNil)))) (gName 3)) (tAsg (tDGet (tVar 2) (tDGet (tVar 0) (tVar 6))) (gName 6)))))) tNext))
      (tRet (tVar 4)))) D [some (.ref jd), some (.str way), some (.ref wd), x3, x4, x5, x6, x7] H0 := by
  refine ⟨Nat.zero_le _, fun s0 n0 => ?_⟩
  refine ⟨fits (by decide), fun lp nl => ?_⟩
  have g0 := same_new n0 (.lst [])
  have g1 := same_new nl (.lst [V.str "nw", .str "ne", .str "sw", .str "se"])
  refine ⟨lp, rfl, ⟨_, SqL.of upd_same⟩, for_list (K := K) (a := lp) (xs := [V.str "nw", .str "ne", .str "sw", .str "se"]) (fun i σ G => ∃ (sd : Addr) (s : List End × Nat) (x5 x6 x7 : Option V), σ = [some (.ref jd), some (.str way), some (.ref wd), some (.ref sd), some (.int (s.2 : Nat)), x5, x6, x7] ∧
    Same (upd (upd H0 s0 (.lst [])) lp (.lst [V.str "nw", .str "ne", .str "sw", .str "se"])) G ∧ G sd = some (.lst (s.1.map vl)) ∧ s = (all4.take i).foldl (goes J td) ([], 0) ∧ s.1.length ≤ 8 * i) ?_ ?_ ?_ ?_⟩
  · exact ⟨s0, ([], 0), _, _, _, rfl, Same.refl _, g1 _ _ upd_same, rfl, Nat.le_refl _⟩
  · rintro i σ G _ ⟨sd, s, x5, x6, x7, _, sm, _⟩
    exact SqL.of (sm _ _ upd_same)
  · rintro i y σ G hi ⟨sd, s, x5, x6, x7, rfl, sm, hs, es, ls⟩
    obtain ⟨e, he, rfl⟩ := names4 hi
    have hi4 : i < 4 := (List.getElem?_eq_some_iff.mp hi).1
    have S0 : Same H0 G := (g0.trans g1).trans sm
    have st := fold_take (goes J td) ([], 0) he
    rw [← es] at st
    refine ⟨_, rfl, _, rfl, sd, _, rfl, .inl (SqL.of hs), rfl, flat_all _, _, rfl, ?_⟩
    rw [if_pos rfl, in_seen]
    by_cases hc : s.1.contains e = true
    · rw [hc]
      refine iteF ⟨sd, s, _, _, _, rfl, sm, hs, ?_, by omega⟩
      rw [st, goes, if_pos hc]
    · have hc' : s.1.contains e = false := Bool.eq_false_iff.mpr hc
      rw [hc']
      refine iteT ?_
      refine ⟨_, rfl, _, _, rfl, rfl, _, rfl, ?_⟩
      refine ⟨4, rfl, by decide, by decide, for_range (lo := 0) (n := 4) (fun j σ G' => ∃ (sd' : Addr) (x7 : Option V), σ = [some (.ref jd), some (.str way), some (.ref wd), some (.ref sd'), some (.int ((s.2 : Int) + 1)), some (vl e), some (vl (walk J td j (s.1, e)).2), x7] ∧ Same G G' ∧ G' sd' = some (.lst ((walk J td j (s.1, e)).1.map vl))) ?_ ?_ ?_⟩
      · exact ⟨sd, _, rfl, Same.refl _, hs⟩
      · rintro j σ G' hj ⟨sd', x7, rfl, s1, hs'⟩
        have djG := (dj.same S0).same s1
        have lw := walk_len J td j (s.1, e)
        refine ⟨_, rfl, _, rfl, _, rfl, _, rfl, jd, _, rfl, djG.get (e := (walk J td j (s.1, e)).2) rfl, fits (by show 2 ≤ 16777216; decide), fun t1 n1 => ?_⟩
        have k1 := same_new n1 (.lst [vl (walk J td j (s.1, e)).2, vl (J (walk J td j (s.1, e)).2)])
        refine ⟨sd', t1, _, _, rfl, rfl, k1 _ _ hs', upd_same, fits (by rw [List.length_map, lw]; show s.1.length + 2 * j + 2 ≤ 16777216; omega), fun t2 n2 => ?_⟩
        have k2 := same_new n2 (.lst ((walk J td j (s.1, e)).1.map vl ++ [vl (walk J td j (s.1, e)).2, vl (J (walk J td j (s.1, e)).2)]))
        have djH := (djG.same k1).same k2
        have dwH := ((((dw.same S0).same s1).same k1).same k2)
        refine ⟨_, rfl, _, rfl, _, rfl, jd, _, rfl, djH.get (e := (walk J td j (s.1, e)).2) rfl, wd, _, rfl, dwH.get (e := J (walk J td j (s.1, e)).2) rfl, t2, some (.int (0 + (j : Int))), ?_, (s1.trans k1).trans k2, ?_⟩
        · rw [walk_succ]
          rfl
        · rw [upd_same, walk_succ, List.map_append]
          rfl
      · rintro σ G' ⟨sd', x7, rfl, s1, hs'⟩
        refine ⟨sd', ((walk J td 4 (s.1, e)).1, s.2 + 1), _, _, _, rfl, sm.trans s1, hs', ?_, by have h9 : (walk J td 4 (s.1, e)).1.length = s.1.length + 2 * 4 := walk_len J td 4 (s.1, e); show (walk J td 4 (s.1, e)).1.length ≤ _; omega⟩
        rw [st, goes, if_neg (by rw [hc']; exact Bool.false_ne_true)]
  · rintro σ G ⟨sd, s, x5, x6, x7, rfl, sm, hs, es, ls⟩
    refine ⟨_, rfl, ?_⟩
    have := hD G ((g0.trans g1).trans sm)
    rw [es]
    exact this
def spLawPieces : Sp := fun vs H Q _ => ∃ (jd : Addr) (down : Bool) (J : End → End) (n : Nat), vs = [.ref jd, .str (wayName down)] ∧ Dct H jd (fun e => some (J e)) n ∧ ∀ H', Same H H' → Q (.int (count J (tie down) : Nat)) H'
theorem tblD : ∀ e, look [(nw, sw), (sw, nw), (ne, se), (se, ne)] e = some (jn sw e) := by
  intro e
  cases e <;> rfl
theorem ok_law_pieces (F : Fun K "_law_pieces" "_law_pieces" s_law_pieces f fd) (mr : mg "range" = none) : FnOk P w K mg base CX0 1 f fd ["joined", "way"] spLawPieces := by
  refine F.ok sc_law_pieces (fun vs H Q E h => ?_) (fun cdv A outer s H vs Q E hr h => ?_)
  · obtain ⟨jd, d, J, n, rfl, _⟩ := h
    rfl
  obtain ⟨jd, d, J, n, rfl, dj, q⟩ := h
  have hu := hu_of hr
  refine ⟨_, pss_cons (ps_set (i := 2) sc_law_pieces.nd rfl (.inl rfl) (pe_disp (pps_cons pe_str pe_str (pps_cons pe_str pe_str (pps_cons pe_str pe_str (pps_cons pe_str pe_str pps_nil)))) (by rfl) (by rfl) (fun z => by cases z) (by decide)))
    (pss_cons (ps_if (pt_cmpR op_eq (pv 1) pe_str (nomark _)) (pss_one (ps_set (i := 2) sc_law_pieces.nd rfl (.inl rfl) (pe_disp (pps_cons pe_str pe_str (pps_cons pe_str pe_str (pps_cons pe_str pe_str (pps_cons pe_str pe_str pps_nil)))) (by rfl) (by rfl) (fun z => by cases z) (by decide)))) pss_nil)
    (pss_cons (ps_set (i := 3) sc_law_pieces.nd rfl (.inl rfl) (pe_lst pa_nil))
    (pss_cons (ps_set (i := 4) sc_law_pieces.nd rfl (.inl rfl) pe_int)
    (pss_cons (ps_for PassesOwn.never rfl (pi_list (pe_lst (pa_cons pe_str (pa_cons pe_str (pa_cons pe_str (pa_cons pe_str pa_nil)))))) (pg_name (i := 5) sc_law_pieces.nd rfl (.inl rfl))
      (pss_one (ps_if (pt_cmpR op_notIn_seq (pv 5) (pv 3) (by rfl))
        (pss_cons (ps_set (i := 4) sc_law_pieces.nd rfl (.inl rfl) (pe_op op_add (pv 4) pe_int))
        (pss_cons (ps_set (i := 6) sc_law_pieces.nd rfl (.inl rfl) (pv 5))
        (pss_one (ps_for PassesOwn.never rfl (pi_range1 rfl mr (pa_cons pe_int pa_nil)) (pg_name (i := 7) sc_law_pieces.nd rfl (.inl rfl))
          (pss_cons (ps_set (i := 3) sc_law_pieces.nd rfl (.inl rfl) (pe_op op_cat (pv 3) (pe_lst (pa_cons (pv 6) (pa_cons (pe_dget hu (pv 0) (pv 6) (fun _ _ => rfl)) pa_nil)))))
          (pss_one (ps_set (i := 6) sc_law_pieces.nd rfl (.inl rfl) (pe_dget hu (pv 2) (pe_dget hu (pv 0) (pv 6) (fun _ _ => rfl)) (fun _ _ => rfl)))))))))
        pss_nil)))
    (pss_one (ps_ret (pv 4))))))), ?_⟩
  refine fun p1 n1 => ⟨upd_same, [(nw, ne), (ne, nw), (sw, se), (se, sw)].map ent, rfl, le15, ?_⟩
  have d1 := Dct.disp (H := upd H p1 (.dK [])) (p := p1) [(nw, ne), (ne, nw), (sw, se), (se, sw)] (g := fun e => some (mate e)) (tbl4 mate)
  have s1 := same_new2 n1 (.dK []) (.dK (mergeK [] ([(nw, ne), (ne, nw), (sw, se), (se, sw)].map ent)))
  refine ⟨_, rfl, rfl, _, rfl, ?_⟩
  rw [way_down]
  cases d with
  | false => exact iteF (rest_pieces (dj.same s1) d1 fun G sm => q G (s1.trans sm))
  | true =>
    refine iteT ?_
    refine fun p2 n2 => ⟨upd_same, [(nw, sw), (sw, nw), (ne, se), (se, ne)].map ent, rfl, le15, ?_⟩
    have d2 := Dct.disp (H := upd (upd (upd H p1 (.dK [])) p1 (.dK (mergeK [] ([(nw, ne), (ne, nw), (sw, se), (se, sw)].map ent)))) p2 (.dK [])) (p := p2) [(nw, sw), (sw, nw), (ne, se), (se, ne)] (g := fun e => some (jn sw e)) tblD
    have s2 := same_new2 n2 (.dK []) (.dK (mergeK [] ([(nw, sw), (sw, nw), (ne, se), (se, ne)].map ent)))
    exact rest_pieces ((dj.same s1).same s2) d2 fun G sm => q G ((s1.trans s2).trans sm)
theorem par_due (l : List Nat) (hl : Lets l) : (if (run (0, 1) l).2.fmod 2 = 0 then sw else if (run (0, 1) l).1.fmod 2 = 0 then ne else se) = pn l := by
  have h := par_run l hl
  rw [Int.fmod_eq_emod_of_nonneg _ (by decide), Int.fmod_eq_emod_of_nonneg _ (by decide)]
  have nn := (both l).1
  cases e : pn l <;> rw [e] at h <;> simp only [Par] at h
  · rw [if_neg (by omega), if_pos (by omega)]
  · rw [if_pos (by omega)]
  · rw [if_neg (by omega), if_neg (by omega)]
theorem way_at {i : Nat} {y : V} (h : [V.str "across", V.str "down"][i]? = some y) : ∃ d : Bool, y = .str (wayName d) := by
  match i with
  | 0 => cases h; exact ⟨false, rfl⟩
  | 1 => cases h; exact ⟨true, rfl⟩
  | i + 2 => cases h
theorem int_is {H : Hp} {n : Nat} {i : Int} : Is H n (.int i) (.int i) := by cases n <;> rfl
theorem str_is {H : Hp} {n : Nat} {z : Str} : Is H n (.str z) (.str z) := by cases n <;> rfl
/-- the rest of a turn of the law, from the dance on -/
theorem goOn {H0 H : Hp} {l : List Nat} {sa tp : Addr} {kk : Int} {x4 x5 x6 x7 x8 : Option V} {D : Ends} {u : Prop} (hu : u) (hl : Lets l) (hz : l.length ≤ 10000) (S4 : Same H0 H)
    (hD : ∀ (x1 x2 x3 x4 x5 x6 x7 x8 : Option V) G, Same H0 G → D.nx [some (.ref sa), x1, x2, x3, x4, x5, x6, x7, x8] G) :
    tSeq (tAsg (tCall spJoined [] E0 (tCons (tVar 3) tNil)) (gName 4)) (tSeq (tAsg (tCall (spNumber K) [] E0 (tCons (tVar 3) tNil)) (gTup K 2 (gCons (gName 5) (gCons (gName 6) gNil)))) (tSeq (tAsg (tC (.str "se")) (gName 7))
      (tSeq (tIfS (tTest (tOp rEq (tOp (rI (fun _ j => j ≠ 0) fun i j => .int (i.fmod j)) (tCB (fun xs H Q => (∃ i, xs = [.int i] ∧ Q (.int i) H) ∨ ∃ k, xs = [.bl k] ∧ Q (.int (if k = true then 1 else 0)) H) (tCons (tVar 5) tNil)) (tC (.int 2))) (tC (.int 0)))) (tAsg (tC (.str "ne")) (gName 7)) tNext)
      (tSeq (tIfS (tTest (tOp rEq (tOp (rI (fun _ j => j ≠ 0) fun i j => .int (i.fmod j)) (tCB (fun xs H Q => (∃ i, xs = [.int i] ∧ Q (.int i) H) ∨ ∃ k, xs = [.bl k] ∧ Q (.int (if k = true then 1 else 0)) H) (tCons (tVar 6) tNil)) (tC (.int 2))) (tC (.int 0)))) (tAsg (tC (.str "sw")) (gName 7)) tNext)
      (tSeq (tIfS (tOr (tNot (tB (tCall (spSame 3) [] E0 (tCons (tCall spPartner [] E0 (tCons (tVar 3) tNil)) (tCons (tDGet (tVar 4) (tC (.str "nw"))) tNil))))) (tTest (tOp rNe (tDGet (tVar 4) (tC (.str "nw"))) (tVar 7)))) (tRet (tC (.bl false))) tNext)
      (tFor (iList K (tLst (tCons (tC (.str "across")) (tCons (tC (.str "down")) tNil)))) (gName 8)
        (tIfS (tNot (tB (tCall (spSame 3) [] E0 (tCons (tCall spPieces [] E0 (tCons (tVar 3) (tCons (tVar 8) tNil))) (tCons (tCall spLawPieces [] E0 (tCons (tVar 4) (tCons (tVar 8) tNil))) tNil))))) (tRet (tC (.bl false))) tNext)))))))
      D [some (.ref sa), some (.int kk), some (.ref tp), some (.str (S l)), x4, x5, x6, x7, x8] H := by
  refine ⟨_, rfl, l, rfl, hz, fun jd n H5 s5 dj => ?_⟩
  refine ⟨_, rfl, l, rfl, fun t H6 s6 tt => ?_⟩
  refine ⟨t, _, rfl, SqT.of tt, rfl, _, _, rfl, _, _, rfl, rfl, ?_⟩
  have par := par_due l hl
  have dj6 := dj.same s6
  have last : ∀ (y : End), y = pn l → tSeq (tIfS (tOr (tNot (tB (tCall (spSame 3) [] E0 (tCons (tCall spPartner [] E0 (tCons (tVar 3) tNil)) (tCons (tDGet (tVar 4) (tC (.str "nw"))) tNil))))) (tTest (tOp rNe (tDGet (tVar 4) (tC (.str "nw"))) (tVar 7)))) (tRet (tC (.bl false))) tNext)
      (tFor (iList K (tLst (tCons (tC (.str "across")) (tCons (tC (.str "down")) tNil)))) (gName 8)
        (tIfS (tNot (tB (tCall (spSame 3) [] E0 (tCons (tCall spPieces [] E0 (tCons (tVar 3) (tCons (tVar 8) tNil))) (tCons (tCall spLawPieces [] E0 (tCons (tVar 4) (tCons (tVar 8) tNil))) tNil))))) (tRet (tC (.bl false))) tNext))
      D [some (.ref sa), some (.int kk), some (.ref tp), some (.str (S l)), some (.ref jd), some (.int (run (0, 1) l).1), some (.int (run (0, 1) l).2), some (vl y), x8] H6 := by
    intro y hy
    refine ⟨_, rfl, l, rfl, hl, fun H7 s7 => ?_⟩
    have dj7 := dj6.same s7
    have jp : jn (pn l) nw = pn l := by
      have nn := (both l).1
      cases e : pn l <;> first | rfl | exact absurd e nn
    have g7 := dj7.get (e := nw) (x := pn l) (congrArg some jp)
    refine ⟨_, rfl, jd, _, rfl, g7, vl (pn l), vl (pn l), .str (nm (pn l)), rfl, str_is, str_is, _, rfl, iteF ?_⟩
    refine ⟨_, rfl, jd, _, rfl, g7, _, rfl, rfl, _, rfl, ?_⟩
    rw [hy, decide_eq_true rfl]
    refine iteF ⟨fits (by show 2 ≤ 16777216; decide), fun lp nl => ?_⟩
    have g1 := same_new nl (.lst [V.str "across", .str "down"])
    refine ⟨lp, rfl, ⟨_, SqL.of upd_same⟩, for_list (K := K) (a := lp) (xs := [V.str "across", .str "down"]) (fun i σ G => ∃ (x8 : Option V), σ = [some (.ref sa), some (.int kk), some (.ref tp), some (.str (S l)), some (.ref jd), some (.int (run (0, 1) l).1), some (.int (run (0, 1) l).2), some (vl (pn l)), x8] ∧ Same (upd H7 lp (.lst [V.str "across", .str "down"])) G) ?_ ?_ ?_ ?_⟩
    · exact ⟨_, rfl, Same.refl _⟩
    · rintro i σ G _ ⟨x8, _, sm⟩
      exact SqL.of (sm _ _ upd_same)
    · rintro i y σ G hi ⟨x8, rfl, sm⟩
      obtain ⟨d, rfl⟩ := way_at hi
      refine ⟨_, rfl, _, rfl, l, d, rfl, hl, fun H8 s8 => ?_⟩
      refine ⟨_, rfl, _, rfl, jd, d, jn (pn l), n, rfl, ((dj7.same g1).same sm).same s8, fun H9 s9 => ?_⟩
      exact ⟨_, _, .int _, rfl, int_is, int_is, _, rfl, iteF ⟨_, rfl, (sm.trans s8).trans s9⟩⟩
    · rintro σ G ⟨x8, rfl, sm⟩
      exact hD _ _ _ _ _ _ _ _ G ((((S4.trans s5).trans s6).trans s7).trans (g1.trans sm))
  refine ⟨_, rfl, .inl ⟨_, rfl, _, _, rfl, rfl, (show (2 : Int) ≠ 0 by decide), rfl, _, rfl, ite2 (fun c1 => ?_) (fun c1 => ?_)⟩⟩
  · have k1 : (run (0, 1) l).1.fmod 2 = 0 := V.int.inj (of_decide_eq_true c1)
    refine ⟨_, rfl, .inl ⟨_, rfl, _, _, rfl, rfl, (show (2 : Int) ≠ 0 by decide), rfl, _, rfl, ite2 (fun c2 => ?_) (fun c2 => ?_)⟩⟩
    · have k2 : (run (0, 1) l).2.fmod 2 = 0 := V.int.inj (of_decide_eq_true c2)
      rw [if_pos k2] at par
      exact last sw par
    · have k2 : ¬ (run (0, 1) l).2.fmod 2 = 0 := fun z => c2 (decide_eq_true (congrArg V.int z))
      rw [if_neg k2, if_pos k1] at par
      exact last ne par
  · have k1 : ¬ (run (0, 1) l).1.fmod 2 = 0 := fun z => c1 (decide_eq_true (congrArg V.int z))
    refine ⟨_, rfl, .inl ⟨_, rfl, _, _, rfl, rfl, (show (2 : Int) ≠ 0 by decide), rfl, _, rfl, ite2 (fun c2 => ?_) (fun c2 => ?_)⟩⟩
    · have k2 : (run (0, 1) l).2.fmod 2 = 0 := V.int.inj (of_decide_eq_true c2)
      rw [if_pos k2] at par
      exact last sw par
    · have k2 : ¬ (run (0, 1) l).2.fmod 2 = 0 := fun z => c2 (decide_eq_true (congrArg V.int z))
      rw [if_neg k2, if_neg k1] at par
      exact last se par
def spLaw (K : PySem.W.Frag) : Sp := fun vs H Q _ => ∃ (a : Addr) (ns : List Int), vs = [.ref a] ∧ SqL K H a (ns.map V.int) ∧ ns.length ≤ 63 ∧ ∀ H', Q (.bl true) H'
theorem ok_law (F : Fun K "law" "law" s_law f fd) (DTp : Dfn P w K mg base "_law_tape" 3 ["script", "k"] (spTape K)) (DD : Dfn P w K mg base "_law_dance" 3 ["tape", "most"] spDance) (DT : Dfn P w K mg base "_law_take" 3 ["tape", "many"] spTake)
    (DJ : Dfn P w K mg base "_law_joined" 3 ["dance"] spJoined) (DN : Dfn P w K mg base "_law_number" 3 ["dance"] (spNumber K)) (DS : Dfn P w K mg base "_law_same" 3 ["told", "due"] (spSame 3)) (DP : Dfn P w K mg base "partner" 3 ["dance"] spPartner)
    (DI : Dfn P w K mg base "pieces" 3 ["dance", "way"] spPieces) (DL : Dfn P w K mg base "_law_pieces" 3 ["joined", "way"] spLawPieces) (mr : mg "range" = none) (mi : mg "int" = none) : FnOk P w K mg base CX0 4 f fd ["script"] (spLaw K) := by
  refine F.ok sc_law (fun vs H Q E h => ?_) (fun cdv A outer s H vs Q E hr h => ?_)
  · obtain ⟨a, ns, rfl, _⟩ := h
    rfl
  obtain ⟨sa, ns, rfl, hS, h63, q⟩ := h
  have hu := hu_of hr
  refine ⟨_, pss_cons (ps_for PassesOwn.never rfl (pi_range1 rfl mr (pa_cons pe_int pa_nil)) (pg_name (i := 1) sc_law.nd rfl (.inl rfl))
      (pss_cons (ps_set (i := 2) sc_law.nd rfl (.inl rfl) (pe_do DTp hr (pa_cons (pv 0) (pa_cons (pv 1) pa_nil))))
      (pss_cons (ps_set (i := 3) sc_law.nd rfl (.inl rfl) (pe_do DD hr (pa_cons (pv 2) (pa_cons pe_int pa_nil))))
      (pss_cons (ps_if (pt_cmpR op_eq (pe_do DT hr (pa_cons (pv 2) (pa_cons pe_int pa_nil))) pe_int (nomark _)) (pss_one (ps_set (i := 3) sc_law.nd rfl (.inl rfl) (pe_op op_mul_str (pv 3) (pe_op op_add pe_int (pe_do DT hr (pa_cons (pv 2) (pa_cons pe_int pa_nil))))))) pss_nil)
      (pss_cons (ps_set (i := 4) sc_law.nd rfl (.inl rfl) (pe_do DJ hr (pa_cons (pv 3) pa_nil)))
      (pss_cons (ps_asg (pe_do DN hr (pa_cons (pv 3) pa_nil)) (pg_tup (by rfl) (pgs_cons (pg_name (i := 5) sc_law.nd rfl (.inl rfl)) (pgs_cons (pg_name (i := 6) sc_law.nd rfl (.inl rfl)) pgs_nil))))
      (pss_cons (ps_set (i := 7) sc_law.nd rfl (.inl rfl) pe_str)
      (pss_cons (ps_if (pt_cmpR op_eq (pe_op op_modN (pe_callTy call_int1 rfl mi (by decide +kernel) (pa_cons (pv 5) pa_nil)) pe_int) pe_int (nomark _)) (pss_one (ps_set (i := 7) sc_law.nd rfl (.inl rfl) pe_str)) pss_nil)
      (pss_cons (ps_if (pt_cmpR op_eq (pe_op op_modN (pe_callTy call_int1 rfl mi (by decide +kernel) (pa_cons (pv 6) pa_nil)) pe_int) pe_int (nomark _)) (pss_one (ps_set (i := 7) sc_law.nd rfl (.inl rfl) pe_str)) pss_nil)
      (pss_cons (ps_if (PW.pt (pw_or (pt_not (pt_val (pe_do DS hr (pa_cons (pe_do DP hr (pa_cons (pv 3) pa_nil)) (pa_cons (pe_dget hu (pv 4) pe_str (fun _ _ => rfl)) pa_nil))))) (pw_or1 (pt_cmpR op_ne (pe_dget hu (pv 4) pe_str (fun _ _ => rfl)) (pv 7) (nomark _))))) (pss_one (ps_ret pe_bl)) pss_nil)
      (pss_one (ps_for PassesOwn.never rfl (pi_list (pe_lst (pa_cons pe_str (pa_cons pe_str pa_nil)))) (pg_name (i := 8) sc_law.nd rfl (.inl rfl))
        (pss_one (ps_if (pt_not (pt_val (pe_do DS hr (pa_cons (pe_do DI hr (pa_cons (pv 3) (pa_cons (pv 8) pa_nil))) (pa_cons (pe_do DL hr (pa_cons (pv 4) (pa_cons (pv 8) pa_nil))) pa_nil))))) (pss_one (ps_ret pe_bl)) pss_nil))))))))))))))
    (pss_one (ps_ret pe_bl)), ?_⟩
  refine ⟨8, rfl, by decide, by decide, for_range (lo := 0) (n := 8) (fun i σ H' => ∃ (x1 x2 x3 x4 x5 x6 x7 x8 : Option V), σ = [some (.ref sa), x1, x2, x3, x4, x5, x6, x7, x8] ∧ Same H H') ?_ ?_ ?_⟩
  · exact ⟨_, _, _, _, _, _, _, _, rfl, Same.refl H⟩
  · rintro i σ H0 hi ⟨x1, x2, x3, x4, x5, x6, x7, x8, rfl, sm⟩
    refine ⟨_, rfl, _, rfl, sa, ns, 0 + (i : Int), rfl, sm.seq hS, by omega, fun tp H1 s1 ntp t1 => ?_⟩
    refine ⟨_, rfl, tp, 60, rfl, t1, by decide, by decide, fun l0 H2 hl0 hz0 b2 t2 => ?_⟩
    refine ⟨_, rfl, tp, 8, rfl, t2, by decide, by decide, fun r H3 r0 r1 b3 t3 => ?_⟩
    have S3 : Same H0 H3 := ((But.of s1).trans (b2.trans b3)).same (Same.refl H0) ntp
    refine ⟨rfl, _, rfl, ite2 (fun c1 => ?A) (fun c1 => ?B)⟩
    case A =>
      refine ⟨_, rfl, _, rfl, tp, 15, rfl, t3, by decide, by decide, fun r4 H4 r40 r41 b4 t4 => ⟨_, _, rfl, rfl, ?_⟩⟩
      have S4 : Same H0 H4 := ((But.of S3).trans b4).same (Same.refl H0) ntp
      have hm : l0.length * (2 + r4).toNat ≤ 60 * 20 := Nat.mul_le_mul (by omega) (by omega)
      refine ⟨l0, _, rfl, rfl, by omega, by omega, by omega, ?_⟩
      have hl : Lets (List.replicate (2 + r4).toNat l0).flatten := fun c hc => by
        obtain ⟨y, hy, hxy⟩ := List.mem_flatten.mp hc
        rw [(List.mem_replicate.mp hy).2] at hxy
        exact hl0 c hxy
      have hz : (List.replicate (2 + r4).toNat l0).flatten.length ≤ 10000 := by
        rw [List.length_flatten, List.map_replicate, List.sum_replicate_nat, Nat.mul_comm]
        omega
      exact goOn hu hl hz S4 fun x1 x2 x3 x4 x5 x6 x7 x8 G sG => ⟨_, _, _, _, _, _, _, _, rfl, sm.trans sG⟩
    case B =>
      exact goOn hu hl0 (by omega) S3 fun x1 x2 x3 x4 x5 x6 x7 x8 G sG => ⟨_, _, _, _, _, _, _, _, rfl, sm.trans sG⟩
  · rintro σ H' ⟨x1, x2, x3, x4, x5, x6, x7, x8, rfl, sm⟩
    exact q H'
end
theorem all_mk {l : PySem.W.OpenLaw} {w : World} {K : PySem.W.Frag} {h : Heap} {mg : Str → Option Value} {fa : Addr} (X : K.In h) (G : h.Ns mainGlobals mg) (hfa : mg "law" = some (.ref fa))
    {f0 f1 f2 f3 f4 f5 f6 f7 f8 f9 f10 f11 f12 : Addr} {od0 an0 od1 an1 od2 an2 od3 an3 od4 an4 od5 an5 od6 an6 od7 an7 od8 an8 od9 an9 od10 an10 od11 an11 od12 an12 : Option Addr} {sl0 sl1 sl2 sl3 sl4 sl5 sl6 sl7 sl8 sl9 sl10 sl11 sl12 : Array (Option Value)}
    {oc0 kV0 dc0 pm0 cd0 ct0 oc1 kV1 dc1 pm1 cd1 ct1 oc2 kV2 dc2 pm2 cd2 ct2 oc3 kV3 dc3 pm3 cd3 ct3 oc4 kV4 dc4 pm4 cd4 ct4 oc5 kV5 dc5 pm5 cd5 ct5 oc6 kV6 dc6 pm6 cd6 ct6 oc7 kV7 dc7 pm7 cd7 ct7 oc8 kV8 dc8 pm8 cd8 ct8 oc9 kV9 dc9 pm9 cd9 ct9 oc10 kV10 dc10 pm10 cd10 ct10 oc11 kV11 dc11 pm11 cd11 ct11 oc12 kV12 dc12 pm12 cd12 ct12 : Value}
    (a0 : PySem.W.nsIn K mainGlobals "partner" = some (some (.ref f0))) (l0 : K.lookup f0 = some ⟨oc0, od0, .func (PySem.W.fnOf "partner" "partner" (defArgs s_partner) (defBody s_partner) (defScope s_partner) .none kV0 dc0 pm0 an0 cd0 ct0), sl0⟩) (c0 : PySem.W.codeIn K cd0 "partner" = true) (k0 : PySem.W.keepIn K (.ref f0) = true)
    (a1 : PySem.W.nsIn K mainGlobals "pieces" = some (some (.ref f1))) (l1 : K.lookup f1 = some ⟨oc1, od1, .func (PySem.W.fnOf "pieces" "pieces" (defArgs s_pieces) (defBody s_pieces) (defScope s_pieces) .none kV1 dc1 pm1 an1 cd1 ct1), sl1⟩) (c1 : PySem.W.codeIn K cd1 "pieces" = true) (k1 : PySem.W.keepIn K (.ref f1) = true)
    (a2 : PySem.W.nsIn K mainGlobals "ropes_at_ends" = some (some (.ref f2))) (l2 : K.lookup f2 = some ⟨oc2, od2, .func (PySem.W.fnOf "ropes_at_ends" "ropes_at_ends" (defArgs s_ropes_at_ends) (defBody s_ropes_at_ends) (defScope s_ropes_at_ends) .none kV2 dc2 pm2 an2 cd2 ct2), sl2⟩) (c2 : PySem.W.codeIn K cd2 "ropes_at_ends" = true) (k2 : PySem.W.keepIn K (.ref f2) = true)
    (a3 : PySem.W.nsIn K mainGlobals "_law_tape" = some (some (.ref f3))) (l3 : K.lookup f3 = some ⟨oc3, od3, .func (PySem.W.fnOf "_law_tape" "_law_tape" (defArgs s_law_tape) (defBody s_law_tape) (defScope s_law_tape) .none kV3 dc3 pm3 an3 cd3 ct3), sl3⟩) (c3 : PySem.W.codeIn K cd3 "_law_tape" = true) (k3 : PySem.W.keepIn K (.ref f3) = true)
    (a4 : PySem.W.nsIn K mainGlobals "_law_take" = some (some (.ref f4))) (l4 : K.lookup f4 = some ⟨oc4, od4, .func (PySem.W.fnOf "_law_take" "_law_take" (defArgs s_law_take) (defBody s_law_take) (defScope s_law_take) .none kV4 dc4 pm4 an4 cd4 ct4), sl4⟩) (c4 : PySem.W.codeIn K cd4 "_law_take" = true) (k4 : PySem.W.keepIn K (.ref f4) = true)
    (a5 : PySem.W.nsIn K mainGlobals "_law_dance" = some (some (.ref f5))) (l5 : K.lookup f5 = some ⟨oc5, od5, .func (PySem.W.fnOf "_law_dance" "_law_dance" (defArgs s_law_dance) (defBody s_law_dance) (defScope s_law_dance) .none kV5 dc5 pm5 an5 cd5 ct5), sl5⟩) (c5 : PySem.W.codeIn K cd5 "_law_dance" = true) (k5 : PySem.W.keepIn K (.ref f5) = true)
    (a6 : PySem.W.nsIn K mainGlobals "_law_called" = some (some (.ref f6))) (l6 : K.lookup f6 = some ⟨oc6, od6, .func (PySem.W.fnOf "_law_called" "_law_called" (defArgs s_law_called) (defBody s_law_called) (defScope s_law_called) .none kV6 dc6 pm6 an6 cd6 ct6), sl6⟩) (c6 : PySem.W.codeIn K cd6 "_law_called" = true) (k6 : PySem.W.keepIn K (.ref f6) = true)
    (a7 : PySem.W.nsIn K mainGlobals "_law_number" = some (some (.ref f7))) (l7 : K.lookup f7 = some ⟨oc7, od7, .func (PySem.W.fnOf "_law_number" "_law_number" (defArgs s_law_number) (defBody s_law_number) (defScope s_law_number) .none kV7 dc7 pm7 an7 cd7 ct7), sl7⟩) (c7 : PySem.W.codeIn K cd7 "_law_number" = true) (k7 : PySem.W.keepIn K (.ref f7) = true)
    (a8 : PySem.W.nsIn K mainGlobals "_law_same" = some (some (.ref f8))) (l8 : K.lookup f8 = some ⟨oc8, od8, .func (PySem.W.fnOf "_law_same" "_law_same" (defArgs s_law_same) (defBody s_law_same) (defScope s_law_same) .none kV8 dc8 pm8 an8 cd8 ct8), sl8⟩) (c8 : PySem.W.codeIn K cd8 "_law_same" = true) (k8 : PySem.W.keepIn K (.ref f8) = true)
    (a9 : PySem.W.nsIn K mainGlobals "_law_places" = some (some (.ref f9))) (l9 : K.lookup f9 = some ⟨oc9, od9, .func (PySem.W.fnOf "_law_places" "_law_places" (defArgs s_law_places) (defBody s_law_places) (defScope s_law_places) .none kV9 dc9 pm9 an9 cd9 ct9), sl9⟩) (c9 : PySem.W.codeIn K cd9 "_law_places" = true) (k9 : PySem.W.keepIn K (.ref f9) = true)
    (a10 : PySem.W.nsIn K mainGlobals "_law_joined" = some (some (.ref f10))) (l10 : K.lookup f10 = some ⟨oc10, od10, .func (PySem.W.fnOf "_law_joined" "_law_joined" (defArgs s_law_joined) (defBody s_law_joined) (defScope s_law_joined) .none kV10 dc10 pm10 an10 cd10 ct10), sl10⟩) (c10 : PySem.W.codeIn K cd10 "_law_joined" = true) (k10 : PySem.W.keepIn K (.ref f10) = true)
    (a11 : PySem.W.nsIn K mainGlobals "_law_pieces" = some (some (.ref f11))) (l11 : K.lookup f11 = some ⟨oc11, od11, .func (PySem.W.fnOf "_law_pieces" "_law_pieces" (defArgs s_law_pieces) (defBody s_law_pieces) (defScope s_law_pieces) .none kV11 dc11 pm11 an11 cd11 ct11), sl11⟩) (c11 : PySem.W.codeIn K cd11 "_law_pieces" = true) (k11 : PySem.W.keepIn K (.ref f11) = true)
    (a12 : PySem.W.nsIn K mainGlobals "law" = some (some (.ref f12))) (l12 : K.lookup f12 = some ⟨oc12, od12, .func (PySem.W.fnOf "law" "law" (defArgs s_law) (defBody s_law) (defScope s_law) .none kV12 dc12 pm12 an12 cd12 ct12), sl12⟩) (c12 : PySem.W.codeIn K cd12 "law" = true) (k12 : PySem.W.keepIn K (.ref f12) = true)
    (z_len : PySem.W.nsIn K mainGlobals "len" = some none)
    (z_abs : PySem.W.nsIn K mainGlobals "abs" = some none)
    (z_int : PySem.W.nsIn K mainGlobals "int" = some none)
    (z_range : PySem.W.nsIn K mainGlobals "range" = some none)
    (z_isinstance : PySem.W.nsIn K mainGlobals "isinstance" = some none)
    (z_tuple : PySem.W.nsIn K mainGlobals "tuple" = some none)
    (z_list : PySem.W.nsIn K mainGlobals "list" = some none)
    (z_str : PySem.W.nsIn K mainGlobals "str" = some none)
    (z_bool : PySem.W.nsIn K mainGlobals "bool" = some none) :
    ∃ fd : FuncData, (∀ (s : Shared) (v : Value), BindsTo s fd ⟨[v], []⟩ [("script", v)]) ∧ ∀ base : Heap, K.In base → base.Ns mainGlobals mg → FnOk l.prog w K mg base CX0 4 fa fd ["script"] (spLaw K) := by
  have e := hfa.symm.trans (PySem.W.mg_of X G a12)
  cases e
  have F_partner := fun_mk (st := s_partner) l0 c0 k0
  have m_partner := PySem.W.mg_of X G a0
  have b_partner := F_partner.binds (ps := ["dance"]) fun _ _ _ _ _ _ us hl => match us, hl with | [_], _ => rfl
  have F_pieces := fun_mk (st := s_pieces) l1 c1 k1
  have m_pieces := PySem.W.mg_of X G a1
  have b_pieces := F_pieces.binds (ps := ["dance", "way"]) fun _ _ _ _ _ _ us hl => match us, hl with | [_, _], _ => rfl
  have F_ropes_at_ends := fun_mk (st := s_ropes_at_ends) l2 c2 k2
  have m_ropes_at_ends := PySem.W.mg_of X G a2
  have b_ropes_at_ends := F_ropes_at_ends.binds (ps := ["dance"]) fun _ _ _ _ _ _ us hl => match us, hl with | [_], _ => rfl
  have F__law_tape := fun_mk (st := s_law_tape) l3 c3 k3
  have m__law_tape := PySem.W.mg_of X G a3
  have b__law_tape := F__law_tape.binds (ps := ["script", "k"]) fun _ _ _ _ _ _ us hl => match us, hl with | [_, _], _ => rfl
  have F__law_take := fun_mk (st := s_law_take) l4 c4 k4
  have m__law_take := PySem.W.mg_of X G a4
  have b__law_take := F__law_take.binds (ps := ["tape", "many"]) fun _ _ _ _ _ _ us hl => match us, hl with | [_, _], _ => rfl
  have F__law_dance := fun_mk (st := s_law_dance) l5 c5 k5
  have m__law_dance := PySem.W.mg_of X G a5
  have b__law_dance := F__law_dance.binds (ps := ["tape", "most"]) fun _ _ _ _ _ _ us hl => match us, hl with | [_, _], _ => rfl
  have F__law_called := fun_mk (st := s_law_called) l6 c6 k6
  have m__law_called := PySem.W.mg_of X G a6
  have b__law_called := F__law_called.binds (ps := ["value", "letter"]) fun _ _ _ _ _ _ us hl => match us, hl with | [_, _], _ => rfl
  have F__law_number := fun_mk (st := s_law_number) l7 c7 k7
  have m__law_number := PySem.W.mg_of X G a7
  have b__law_number := F__law_number.binds (ps := ["dance"]) fun _ _ _ _ _ _ us hl => match us, hl with | [_], _ => rfl
  have F__law_same := fun_mk (st := s_law_same) l8 c8 k8
  have m__law_same := PySem.W.mg_of X G a8
  have b__law_same := F__law_same.binds (ps := ["told", "due"]) fun _ _ _ _ _ _ us hl => match us, hl with | [_, _], _ => rfl
  have F__law_places := fun_mk (st := s_law_places) l9 c9 k9
  have m__law_places := PySem.W.mg_of X G a9
  have b__law_places := F__law_places.binds (ps := ["dance"]) fun _ _ _ _ _ _ us hl => match us, hl with | [_], _ => rfl
  have F__law_joined := fun_mk (st := s_law_joined) l10 c10 k10
  have m__law_joined := PySem.W.mg_of X G a10
  have b__law_joined := F__law_joined.binds (ps := ["dance"]) fun _ _ _ _ _ _ us hl => match us, hl with | [_], _ => rfl
  have F__law_pieces := fun_mk (st := s_law_pieces) l11 c11 k11
  have m__law_pieces := PySem.W.mg_of X G a11
  have b__law_pieces := F__law_pieces.binds (ps := ["joined", "way"]) fun _ _ _ _ _ _ us hl => match us, hl with | [_, _], _ => rfl
  have F_law := fun_mk (st := s_law) l12 c12 k12
  have m_law := PySem.W.mg_of X G a12
  have b_law := F_law.binds (ps := ["script"]) fun _ _ _ _ _ _ us hl => match us, hl with | [_], _ => rfl
  have y_len := PySem.W.mg_none_of X G z_len
  have y_abs := PySem.W.mg_none_of X G z_abs
  have y_int := PySem.W.mg_none_of X G z_int
  have y_range := PySem.W.mg_none_of X G z_range
  have y_isinstance := PySem.W.mg_none_of X G z_isinstance
  have y_tuple := PySem.W.mg_none_of X G z_tuple
  have y_list := PySem.W.mg_none_of X G z_list
  have y_str := PySem.W.mg_none_of X G z_str
  have y_bool := PySem.W.mg_none_of X G z_bool
  refine ⟨PySem.W.fnOf "law" "law" (defArgs s_law) (defBody s_law) (defScope s_law) .none kV12 dc12 pm12 an12 cd12 ct12, fun s v => .of_eq rfl, fun base _ _ => ?_⟩
  have D_tape : Dfn l.prog w K mg base "_law_tape" 1 _ (spTape K) := ⟨_, _, ok_tape F__law_tape y_len y_abs y_int, m__law_tape, F__law_tape.kp, b__law_tape⟩
  have D_take : Dfn l.prog w K mg base "_law_take" 1 _ spTake := ⟨_, _, ok_take F__law_take y_int, m__law_take, F__law_take.kp, b__law_take⟩
  have D_dance : Dfn l.prog w K mg base "_law_dance" 2 _ spDance := ⟨_, _, ok_dance F__law_dance D_take y_range, m__law_dance, F__law_dance.kp, b__law_dance⟩
  have D_called : Dfn l.prog w K mg base "_law_called" 1 _ (spCalled K) := ⟨_, _, ok_called F__law_called, m__law_called, F__law_called.kp, b__law_called⟩
  have D_number : Dfn l.prog w K mg base "_law_number" 2 _ (spNumber K) := ⟨_, _, ok_number F__law_number D_called, m__law_number, F__law_number.kp, b__law_number⟩
  have D_same0 : Dfn l.prog w K mg base "_law_same" 0 _ (spSame 0) := ⟨_, _, none_same, m__law_same, F__law_same.kp, b__law_same⟩
  have D_same1 : Dfn l.prog w K mg base "_law_same" 1 _ (spSame 1) := ⟨_, _, ok_same F__law_same D_same0 y_isinstance y_tuple y_list y_len y_range y_str y_int y_bool, m__law_same, F__law_same.kp, b__law_same⟩
  have D_same2 : Dfn l.prog w K mg base "_law_same" 2 _ (spSame 2) := ⟨_, _, ok_same F__law_same D_same1 y_isinstance y_tuple y_list y_len y_range y_str y_int y_bool, m__law_same, F__law_same.kp, b__law_same⟩
  have D_same3 : Dfn l.prog w K mg base "_law_same" 3 _ (spSame 3) := ⟨_, _, ok_same F__law_same D_same2 y_isinstance y_tuple y_list y_len y_range y_str y_int y_bool, m__law_same, F__law_same.kp, b__law_same⟩
  have D_ropes_at_ends : Dfn l.prog w K mg base "ropes_at_ends" 1 _ spRopes := ⟨_, _, ok_ropes F_ropes_at_ends, m_ropes_at_ends, F_ropes_at_ends.kp, b_ropes_at_ends⟩
  have D_partner : Dfn l.prog w K mg base "partner" 2 _ spPartner := ⟨_, _, ok_partner F_partner D_ropes_at_ends, m_partner, F_partner.kp, b_partner⟩
  have D_pieces : Dfn l.prog w K mg base "pieces" 3 _ spPieces := ⟨_, _, ok_pieces F_pieces D_partner, m_pieces, F_pieces.kp, b_pieces⟩
  have D_places : Dfn l.prog w K mg base "_law_places" 1 _ spPlaces := ⟨_, _, ok_places F__law_places, m__law_places, F__law_places.kp, b__law_places⟩
  have D_joined : Dfn l.prog w K mg base "_law_joined" 2 _ spJoined := ⟨_, _, ok_joined F__law_joined D_places, m__law_joined, F__law_joined.kp, b__law_joined⟩
  have D_law_pieces : Dfn l.prog w K mg base "_law_pieces" 1 _ spLawPieces := ⟨_, _, ok_law_pieces F__law_pieces y_range, m__law_pieces, F__law_pieces.kp, b__law_pieces⟩
  exact ok_law F_law (D_tape.mono (by decide)) (D_dance.mono (by decide)) (D_take.mono (by decide)) (D_joined.mono (by decide)) (D_number.mono (by decide)) D_same3 (D_partner.mono (by decide)) D_pieces (D_law_pieces.mono (by decide)) y_range y_int
theorem walk {l : PySem.W.OpenLaw} {q : Program} {loose : List Str} {XP : (Str → Option Value) → Heap → Prop} {YP : World → Heap → Prop} {d : DefRec} {K : Params → PySem.W.Frag} (hn : l.most = some 63) (hdf : d.params.defaults = [])
    (hY : ∀ (w : World) (h : Heap), YP w h → (K w.params).In h)
    (F : ∀ (w : World) (mg : Str → Option Value) (fa : Addr) (h : Heap), (K w.params).In h → h.Ns mainGlobals mg → mg d.name = some (.ref fa) →
      ∃ fd : FuncData, (∀ (s : Shared) (u : Value), BindsTo s fd ⟨[u], []⟩ [("script", u)]) ∧ ∀ base : Heap, (K w.params).In base → base.Ns mainGlobals mg → FnOk l.prog w (K w.params) mg base CX0 4 fa fd ["script"] (spLaw (K w.params))) :
    PySem.W.WalkO q loose XP YP l.row.toRowW d [] (fun f vs => PySem.call f vs) :=
  L2.walk_of (n := 63) (k := 4) (x := "script") (CX := fun _ => CX0) (sp := fun w => spLaw (K w.params)) hn (by decide) hdf ⟨rfl, by decide, by decide⟩ hY F (fun _ _ a ns hl _ hS => ⟨a, ns, rfl, hS, hl, fun _ => rfl⟩) fun _ _ _ _ _ z => z
end Rope
open PySem PySem.W PyProof.Rows
set_option maxRecDepth 100000 in
set_option maxHeartbeats 0 in
theorem PySem.Challenge.cw_ropedance_k04_ends_and_pieces_holds : PySem.Challenge.rw_ropedance_k04_ends_and_pieces.Holds := by
  w_on; o_law; k_head; (case hw => w_witness2)
  k_fill
  refine Rope.walk (l := PySem.Challenge.rw_ropedance_k04_ends_and_pieces) rfl rfl (fun w h Y => PySem.W.kIn_of Y) ?F
  case F =>
    intro w mg fa h KX G hmg
    refine' Rope.all_mk KX G hmg ?a0 ?l0 ?c0 ?k0 ?a1 ?l1 ?c1 ?k1 ?a2 ?l2 ?c2 ?k2 ?a3 ?l3 ?c3 ?k3 ?a4 ?l4 ?c4 ?k4 ?a5 ?l5 ?c5 ?k5 ?a6 ?l6 ?c6 ?k6 ?a7 ?l7 ?c7 ?k7 ?a8 ?l8 ?c8 ?k8 ?a9 ?l9 ?c9 ?k9 ?a10 ?l10 ?c10 ?k10 ?a11 ?l11 ?c11 ?k11 ?a12 ?l12 ?c12 ?k12 ?z_len ?z_abs ?z_int ?z_range ?z_isinstance ?z_tuple ?z_list ?z_str ?z_bool
    (case a0 => k_is)
    (case l0 => k_is)
    (case c0 => k_is)
    (case k0 => k_is)
    (case a1 => k_is)
    (case l1 => k_is)
    (case c1 => k_is)
    (case k1 => k_is)
    (case a2 => k_is)
    (case l2 => k_is)
    (case c2 => k_is)
    (case k2 => k_is)
    (case a3 => k_is)
    (case l3 => k_is)
    (case c3 => k_is)
    (case k3 => k_is)
    (case a4 => k_is)
    (case l4 => k_is)
    (case c4 => k_is)
    (case k4 => k_is)
    (case a5 => k_is)
    (case l5 => k_is)
    (case c5 => k_is)
    (case k5 => k_is)
    (case a6 => k_is)
    (case l6 => k_is)
    (case c6 => k_is)
    (case k6 => k_is)
    (case a7 => k_is)
    (case l7 => k_is)
    (case c7 => k_is)
    (case k7 => k_is)
    (case a8 => k_is)
    (case l8 => k_is)
    (case c8 => k_is)
    (case k8 => k_is)
    (case a9 => k_is)
    (case l9 => k_is)
    (case c9 => k_is)
    (case k9 => k_is)
    (case a10 => k_is)
    (case l10 => k_is)
    (case c10 => k_is)
    (case k10 => k_is)
    (case a11 => k_is)
    (case l11 => k_is)
    (case c11 => k_is)
    (case k11 => k_is)
    (case a12 => k_is)
    (case l12 => k_is)
    (case c12 => k_is)
    (case k12 => k_is)
    (case z_len => k_is)
    (case z_abs => k_is)
    (case z_int => k_is)
    (case z_range => k_is)
    (case z_isinstance => k_is)
    (case z_tuple => k_is)
    (case z_list => k_is)
    (case z_str => k_is)
    (case z_bool => k_is)
