import PyProof.Rows.All
import Wide.All
import OpenK.AllK
import Wide.FinOn
import PyProof.StrBlock2
import HandS.ForMost
import HandS.Wide
import HandS.IsInst
import PySem.Challenge.RW_ropedance_k10_diagrams
set_option Elab.async false
set_option linter.all false
set_option maxRecDepth 100000
set_option maxHeartbeats 4000000
namespace Rope
open PySem L2


/-! ### texts as lists of codes -/
def S (l : List Nat) : Str := ⟨l.toArray⟩
theorem S_len (l : List Nat) : (S l).length = l.length := by simp [S, Str.length]
theorem S_list (l : List Nat) : (S l).cps.toList = l := by simp [S]
theorem S_size (l : List Nat) : (S l).cps.size = l.length := by simp [S]
theorem S_get (l : List Nat) (i : Nat) : (S l).cps[i]? = l[i]? := by simp [S]
theorem S_inj {l m : List Nat} (h : S l = S m) : l = m := by
  have := congrArg (fun z : Str => z.cps.toList) h
  simpa [S] using this
theorem S_app (l m : List Nat) : S l ++ S m = S (l ++ m) := by
  show Str.append (S l) (S m) = S (l ++ m)
  simp [Str.append, S]
theorem S_mul (l : List Nat) (n : Int) : Txt.mul (S l) n = S (List.replicate n.toNat l).flatten := by
  unfold Txt.mul
  by_cases h1 : n < 1
  · rw [if_pos h1]
    have : n.toNat = 0 := by omega
    rw [this]
    rfl
  · rw [if_neg h1]
    by_cases h2 : (n == 1 || (S l).length == 0) = true
    · rw [if_pos h2]
      simp only [Bool.or_eq_true, beq_iff_eq] at h2
      rcases h2 with h2 | h2
      · subst h2
        show S l = S (List.replicate 1 l).flatten
        simp
      · rw [S_len] at h2
        have : l = [] := List.eq_nil_of_length_eq_zero h2
        subst this
        simp
    · rw [if_neg h2]
      have aux : ∀ (k : Nat) (a : Array Nat), ((List.replicate k (S l).cps).foldl (· ++ ·) a).toList = a.toList ++ (List.replicate k l).flatten := by
        intro k
        induction k with
        | zero => intro a; simp
        | succ k ih =>
          intro a
          rw [List.replicate_succ, List.foldl_cons, ih, List.replicate_succ, List.flatten_cons, Array.toList_append, List.append_assoc, S_list]
      have := aux n.toNat #[]
      unfold S
      congr 1
      apply Array.toList_inj.mp
      rw [show S l = (⟨l.toArray⟩ : Str) from rfl] at this
      rw [this]
      simp
theorem S_cut (l : List Nat) (lo hi : Option Int) : cutS (S l) lo hi = S ((l.drop (HT.sIx l.length 0 lo)).take (HT.sIx l.length l.length hi - HT.sIx l.length 0 lo)) := by
  unfold cutS
  rw [S_len, S_list]
  rfl
theorem S_take (l : List Nat) {m : Int} (h : 0 ≤ m) : cutS (S l) none (some m) = S (l.take m.toNat) := by
  obtain ⟨k, rfl⟩ := Int.eq_ofNat_of_zero_le h
  rw [S_cut, HT.sIx_none, HT.sIx_nat, List.drop_zero, Nat.sub_zero, Int.toNat_natCast]
  congr 1
  by_cases h2 : k ≤ l.length
  · rw [Nat.min_eq_left h2]
  · rw [Nat.min_eq_right (by omega), List.take_of_length_le (Nat.le_refl _), List.take_of_length_le (by omega)]
theorem S_drop (l : List Nat) {m : Int} (h : 0 ≤ m) : cutS (S l) (some m) none = S (l.drop m.toNat) := by
  obtain ⟨k, rfl⟩ := Int.eq_ofNat_of_zero_le h
  rw [S_cut, HT.sIx_none, HT.sIx_nat, Int.toNat_natCast]
  congr 1
  rw [List.take_of_length_le (by simp)]
  by_cases h2 : k ≤ l.length
  · rw [Nat.min_eq_left h2]
  · rw [Nat.min_eq_right (by omega), List.drop_length, List.drop_eq_nil_of_le (by omega)]
/-- a text times an int -/
theorem op_mul_str {X : Cx} : OpR X (binaryOp .Mult) (fun x y H Q => ∃ (l : List Nat) (n : Int), x = .str (S l) ∧ y = .int n ∧ 0 ≤ n ∧ n < 2 ^ 62 ∧ l.length * n.toNat ≤ 16777215 ∧ Q (.str (S (List.replicate n.toNat l).flatten)) H) := by
  intro pins s σ H x y v u Q I rx ry h
  obtain ⟨l, n, rfl, rfl, h0, h1, h2, q⟩ := h
  obtain ⟨t, rfl⟩ := rx
  obtain ⟨t', rfl⟩ := ry
  have e1 : decide (n < -(2 ^ 63 : Int)) = false := decide_eq_false (by omega)
  have e2 : decide (n ≥ 2 ^ 63) = false := decide_eq_false (by omega)
  refine SB.mul ⟨by rw [e1, e2]; rfl, fun z1 z2 => ?_, fun z1 z2 => ?_⟩ fun t' k => ⟨.str _, H, I.tok _, ⟨_, rfl⟩, by rw [S_mul]; exact q⟩
  · rw [S_len]
    have h3 : (l.length : Int) * n ≤ 16777215 := by
      have : ((l.length * n.toNat : Nat) : Int) ≤ 16777215 := Int.ofNat_le.mpr h2
      rw [Int.natCast_mul, Int.toNat_of_nonneg h0] at this
      exact this
    have hn : 0 < n := by omega
    intro hc
    have hc' : (2 ^ 63 - 1) / n < (l.length : Int) := hc
    have := (Int.ediv_lt_iff_lt_mul hn).mp hc'
    omega
  · rw [S_len]
    unfold Builtin.Str.tooLong
    rw [sizeLine_eq]
    exact decide_eq_false (by omega)
/-! ### the calls: a fraction by a letter -/
def called (v : Int × Int) (c : Nat) : Int × Int :=
  if c = 84 then (v.1 + v.2, v.2) else if c = 85 then (v.1 - v.2, v.2) else if 0 < v.1 then (0 - v.2, v.1) else if v.1 < 0 then (v.2, 0 - v.1) else (1, 0)
def run (v : Int × Int) (l : List Nat) : Int × Int := l.foldl called v
theorem run_nil (v : Int × Int) : run v [] = v := rfl
theorem run_app (v : Int × Int) (l m : List Nat) : run v (l ++ m) = run (run v l) m := List.foldl_append
theorem run_take {l : List Nat} {i c : Nat} (v : Int × Int) (h : l[i]? = some c) : run v (l.take (i + 1)) = called (run v (l.take i)) c := by
  rw [List.take_add_one, h, run_app]
  rfl
/-- what a fraction of the laws keeps: q positive or infinite, no common divisor -/
def Good (v : Int × Int) : Prop := (0 < v.2 ∨ v = (1, 0)) ∧ Int.gcd v.1 v.2 = 1
theorem Good.zero : Good (0, 1) := ⟨.inl (by decide), by decide⟩
theorem gcd_add' (p q : Int) : Int.gcd (p + q) q = Int.gcd p q := by
  have := Int.gcd_add_mul_right_left p q 1
  simpa using this
theorem Good.called {v : Int × Int} (h : Good v) (c : Nat) : Good (called v c) := by
  obtain ⟨p, q⟩ := v
  obtain ⟨h1, h2⟩ := h
  simp only at h1 h2
  unfold Rope.called
  by_cases c1 : c = 84
  · rw [if_pos c1]
    refine ⟨?_, ?_⟩
    · rcases h1 with h1 | h1
      · exact .inl h1
      · cases h1; exact .inr rfl
    · show Int.gcd (p + q) q = 1
      rw [gcd_add']; exact h2
  rw [if_neg c1]
  by_cases c2 : c = 85
  · rw [if_pos c2]
    refine ⟨?_, ?_⟩
    · rcases h1 with h1 | h1
      · exact .inl h1
      · cases h1; exact .inr rfl
    · show Int.gcd (p - q) q = 1
      have := gcd_add' (p - q) q
      rw [Int.sub_add_cancel] at this
      rw [← this]; exact h2
  rw [if_neg c2]
  by_cases c3 : 0 < p
  · rw [if_pos (show 0 < (p, q).1 from c3)]
    refine ⟨.inl c3, ?_⟩
    show Int.gcd (0 - q) p = 1
    rw [Int.zero_sub, Int.neg_gcd, Int.gcd_comm]; exact h2
  rw [if_neg (show ¬ 0 < (p, q).1 from c3)]
  by_cases c4 : p < 0
  · rw [if_pos (show (p, q).1 < 0 from c4)]
    refine ⟨.inl (by show 0 < 0 - p; omega), ?_⟩
    show Int.gcd q (0 - p) = 1
    rw [Int.zero_sub, Int.gcd_neg, Int.gcd_comm]; exact h2
  rw [if_neg (show ¬ (p, q).1 < 0 from c4)]
  exact ⟨.inr rfl, by decide⟩
theorem good_run : ∀ (l : List Nat) {v : Int × Int}, Good v → Good (run v l)
  | [], _, h => h
  | c :: r, _, h => good_run r (h.called c)
/-- its size grows by a bit a letter -/
theorem called_size {v : Int × Int} {n : Nat} (h1 : v.1.natAbs ≤ n) (h2 : v.2.natAbs ≤ n) (h0 : 1 ≤ n) (c : Nat) : (called v c).1.natAbs ≤ 2 * n ∧ (called v c).2.natAbs ≤ 2 * n := by
  unfold called
  repeat' split
  all_goals simp only
  all_goals omega
theorem run_size : ∀ (l : List Nat) {v : Int × Int} {n : Nat}, v.1.natAbs ≤ n → v.2.natAbs ≤ n → 1 ≤ n → (run v l).1.natAbs ≤ 2 ^ l.length * n ∧ (run v l).2.natAbs ≤ 2 ^ l.length * n
  | [], v, n, h1, h2, _ => by simpa [run] using ⟨h1, h2⟩
  | c :: r, v, n, h1, h2, h0 => by
    have q := called_size h1 h2 h0 c
    have ih := run_size r q.1 q.2 (by omega)
    have e : 2 ^ (c :: r).length * n = 2 ^ r.length * (2 * n) := by
      rw [List.length_cons, Nat.pow_succ, Nat.mul_assoc]
    rw [e]
    exact ih
/-! ### the divisor -/
theorem gcd_step (x y : Int) : Nat.gcd y.natAbs (x.fmod y).natAbs = Nat.gcd x.natAbs y.natAbs := by
  show Int.gcd y (x.fmod y) = Int.gcd x y
  have e : x.fmod y = x + y * (-(x.fdiv y)) := by
    have := Int.fmod_def x y
    rw [this, Int.mul_neg]
    rfl
  rw [e, Int.gcd_add_mul_left_right, Int.gcd_comm]
theorem fmod_less {x y : Int} (h : y ≠ 0) : (x.fmod y).natAbs < y.natAbs := by
  by_cases h0 : 0 < y
  · rw [Int.fmod_eq_emod_of_nonneg x (by omega)]
    have h1 := Int.emod_nonneg x h
    have h2 := Int.emod_lt_of_pos x h0
    omega
  · have e : x.fmod y = -((-x).fmod (-y)) := by
      have := Int.neg_fmod_neg (a := x) (b := y)
      omega
    rw [e, Int.fmod_eq_emod_of_nonneg _ (by omega)]
    have h1 := Int.emod_nonneg (-x) (b := -y) (by omega)
    have h2 := Int.emod_lt_of_pos (-x) (b := -y) (by omega)
    omega
/-- for letter in text -/
theorem for_str {l : List Nat} {g : TG} {tb : TS} {D : Ends} {σ : L2.St} {H : Hp} (Pv : Nat → L2.St → Hp → Prop) (h0 : Pv 0 σ H)
    (hs : ∀ i c σ H, l[i]? = some c → Pv i σ H → g (.str (S [c])) σ H fun σ2 H2 => tb { D with nx := Pv (i + 1), ct := Pv (i + 1), bk := D.nx } σ2 H2) (hd : ∀ σ H, Pv l.length σ H → D.nx σ H) :
    ∃ W : Nat → Nat → L2.St → Hp → Prop, (∃ m, W 0 m σ H) ∧ ∀ i m σ H, W i m σ H →
      ((Its (S l)).stop i H ∧ D.nx σ H) ∨ ((Its (S l)).go i H ∧ ∃ N : L2.St → Hp → Prop, (∀ σ' H', N σ' H' → ∃ m', m' < m ∧ W (i + 1) m' σ' H') ∧ ∀ x H', (Its (S l)).yld i H x H' → g x σ H' fun σ2 H2 => tb { D with nx := N, ct := N, bk := D.nx } σ2 H2) := by
  refine ⟨fun i m σ H => m = l.length - i ∧ i ≤ l.length ∧ Pv i σ H, ⟨l.length, by simp, Nat.zero_le _, h0⟩, ?_⟩
  rintro i m σ H ⟨rfl, hi, p⟩
  by_cases hlt : i < l.length
  · refine .inr ⟨by show i < (S l).cps.size; rw [S_size]; exact hlt, Pv (i + 1), fun σ' H' p' => ⟨l.length - (i + 1), by omega, rfl, hlt, p'⟩, fun x H' y => ?_⟩
    obtain ⟨e, c, hc, rfl⟩ := y
    subst e
    rw [S_get] at hc
    exact hs i c σ _ hc p
  · have e : i = l.length := by omega
    subst e
    exact .inl ⟨by show (S l).cps.size ≤ l.length; rw [S_size]; exact Nat.le_refl _, hd σ H p⟩
def top (i : Nat) : Stmt := PySem.Challenge.pw_ropedance_k10_diagrams.main.body.getD i (.Pass ⟨0, 0, 0, 0⟩)
abbrev s_diagram : Stmt := top 1
theorem sc_diagram : FnScope ["dance", "arc_count", "crossings", "nw", "ne", "sw", "se", "letter"] ["dance"] (defScope s_diagram) := ⟨rfl, rfl, rfl, by decide +kernel, rfl, by decide +kernel, by decide +kernel⟩
abbrev s_law_tape : Stmt := top 3
theorem sc_law_tape : FnScope ["script", "k", "cell"] ["script", "k"] (defScope s_law_tape) := ⟨rfl, rfl, rfl, by decide +kernel, rfl, by decide +kernel, by decide +kernel⟩
abbrev s_law_take : Stmt := top 4
theorem sc_law_take : FnScope ["tape", "many", "got", "mixed"] ["tape", "many"] (defScope s_law_take) := ⟨rfl, rfl, rfl, by decide +kernel, rfl, by decide +kernel, by decide +kernel⟩
abbrev s_law_dance : Stmt := top 5
theorem sc_law_dance : FnScope ["tape", "most", "dance", "size", "k"] ["tape", "most"] (defScope s_law_dance) := ⟨rfl, rfl, rfl, by decide +kernel, rfl, by decide +kernel, by decide +kernel⟩
abbrev s_law_same : Stmt := top 6
theorem sc_law_same : FnScope ["told", "due", "k"] ["told", "due"] (defScope s_law_same) := ⟨rfl, rfl, rfl, by decide +kernel, rfl, by decide +kernel, by decide +kernel⟩
abbrev s_law_diagram : Stmt := top 7
theorem sc_law_diagram : FnScope ["dance", "count", "crossings", "ends", "letter", "a", "b", "c", "d"] ["dance"] (defScope s_law_diagram) := ⟨rfl, rfl, rfl, by decide +kernel, rfl, by decide +kernel, by decide +kernel⟩
abbrev s_law_long_dance : Stmt := top 8
theorem sc_law_long_dance : FnScope ["tape", "k"] ["tape", "k"] (defScope s_law_long_dance) := ⟨rfl, rfl, rfl, by decide +kernel, rfl, by decide +kernel, by decide +kernel⟩
abbrev s_law : Stmt := top 9
theorem sc_law : FnScope ["script", "k", "dance", "due", "told"] ["script"] (defScope s_law) := ⟨rfl, rfl, rfl, by decide +kernel, rfl, by decide +kernel, by decide +kernel⟩
/-! ### heaps, tapes, pairs -/
/-- all that was tracked is as it was, but what stands at a -/
def But (a : Addr) (H H' : Hp) : Prop := ∀ b o, b ≠ a → H b = some o → H' b = some o
theorem But.refl (a : Addr) (H : Hp) : But a H H := fun _ _ _ h => h
theorem But.trans {a : Addr} {H H1 H2 : Hp} (x : But a H H1) (y : But a H1 H2) : But a H H2 := fun b o n h => y b o n (x b o n h)
theorem But.of {a : Addr} {H H' : Hp} (x : Same H H') : But a H H' := fun b o _ h => x b o h
theorem But.upd {a : Addr} {H : Hp} {o : HO} : But a H (upd H a o) := fun b u n h => by rw [upd_ne n]; exact h
theorem But.same {a : Addr} {H0 H H' : Hp} (x : But a H H') (s : Same H0 H) (n : H0 a = none) : Same H0 H' := fun b o h => x b o (ne_of_none h n) (s b o h)
theorem same_new {H : Hp} {p : Addr} (h : H p = none) (o : HO) : Same H (L2.upd H p o) := fun b u q => by rw [upd_ne (ne_of_none q h)]; exact q
theorem Same.tup {K : PySem.W.Frag} {H H' : Hp} {a : Addr} {xs : List V} (e : Same H H') (h : SqT K H a xs) : SqT K H' a xs := by
  rcases h with (h | ⟨o, h⟩) | h
  · exact .inl (.inl (e _ _ h))
  · exact .inl (.inr ⟨o, e _ _ h⟩)
  · exact .inr h
def Tape (H : Hp) (a : Addr) : Prop := ∃ (t c s : Int) (b : Bool), H a = some (.lst [.int t, .bl b, .int c, .int s])
theorem Tape.same {H H' : Hp} {a : Addr} (t : Tape H a) (s : Same H H') : Tape H' a := by
  obtain ⟨x, c, y, b, h⟩ := t
  exact ⟨x, c, y, b, s _ _ h⟩
theorem Tape.ne {H : Hp} {a p : Addr} (t : Tape H a) (h : H p = none) : p ≠ a := by
  obtain ⟨x, c, y, b, e⟩ := t
  exact fun z => by rw [z, e] at h; cases h
theorem But.tup {K : PySem.W.Frag} {a : Addr} {H H' : Hp} {p : Addr} {xs : List V} (x : But a H H') (t : Tape H a) (h : SqT K H p xs) : SqT K H' p xs := by
  obtain ⟨y, c, z, b, e⟩ := t
  rcases h with (h | ⟨o, h⟩) | h
  · exact .inl (.inl (x _ _ (ne_of h e (by intro q; cases q)) h))
  · exact .inl (.inr ⟨o, x _ _ (ne_of h e (by intro q; cases q)) h⟩)
  · exact .inr h
/-- a dance: the letters T, U, R -/
def Lets (l : List Nat) : Prop := ∀ c ∈ l, c = 84 ∨ c = 85 ∨ c = 82
theorem atI_mk {α : Type} {xs : List α} {k : Int} (h0 : 0 ≤ k) (h1 : k < (xs.length : Int)) : ∃ v, atI xs k = some v ∧ v ∈ xs := by
  obtain ⟨n, rfl⟩ := Int.eq_ofNat_of_zero_le h0
  have h : n < xs.length := by omega
  exact ⟨xs[n], atI_nat (List.getElem?_eq_getElem h), List.getElem_mem h⟩
theorem atI_ints {ns : List Int} {k : Int} (h0 : 0 ≤ k) (h1 : k < (ns.length : Int)) : ∃ v : Int, atI (ns.map V.int) k = some (.int v) := by
  obtain ⟨v, e, m⟩ := atI_mk (xs := ns.map V.int) h0 (by rw [List.length_map]; exact h1)
  obtain ⟨i, _, rfl⟩ := List.mem_map.mp m
  exact ⟨i, e⟩
/-! ### a def of the text with its promise, ready to be called -/
structure Dfn (P : Program) (w : World) (K : PySem.W.Frag) (mg : Str → Option Value) (base : Heap) (x : Str) (k : Nat) (ps : List Str) (sp : Sp) : Prop where
  ex : ∃ (f : Addr) (fd : FuncData), FnOk P w K mg base CX0 k f fd ps sp ∧ mg x = some (.ref f) ∧ PySem.W.keepIn K (.ref f) = true ∧ Binds K fd ps []
theorem pe_do {X : Cx} {x : Str} {j : Nat} {ps : List Str} {sp : Sp} {e : Expr} {es : List Expr} {t : TA} {p pos : Pos} (D : Dfn X.prog X.w X.K X.mg X.base x j ps sp) (hr : Room j X.A)
    (ha : PA X (e :: es) t) (hg : Gl X x := by rfl) (hdb : (x == ("__debug__" : Str)) = false := by decide) (he : starEach (e :: es) X.env = (false, eval e X.env) :: starEach es X.env := by rfl) (hpl : (backTo pos (starEach es X.env)).any (·.1) = false := by rfl) :
    PE X (.Call (.Name x p) (e :: es) [] pos) (tCall sp [] E0 t) := by
  obtain ⟨f, fd, ok, mg, kp, bd⟩ := D.ex
  exact pe_call ok hr hg mg kp bd .nil pass0 ha hdb he hpl
theorem Dfn.mono {P : Program} {w : World} {K : PySem.W.Frag} {mg : Str → Option Value} {base : Heap} {x : Str} {j k : Nat} {ps : List Str} {sp : Sp} (D : Dfn P w K mg base x j ps sp) (h : j ≤ k) : Dfn P w K mg base x k ps sp := by
  obtain ⟨f, fd, ok, mg, kp, bd⟩ := D.ex
  exact ⟨f, fd, ok.mono h, mg, kp, bd⟩
section
variable {P : Program} {w : World} {K : PySem.W.Frag} {mg : Str → Option Value} {base : Heap} {f : Addr} {fd : FuncData}
/-! ### the tape of a law -/
def spTape (K : PySem.W.Frag) : Sp := fun vs H Q _ => ∃ (a : Addr) (ns : List Int) (k : Int), vs = [.ref a, .int k] ∧ SqL K H a (ns.map V.int) ∧ 0 ≤ k ∧ ∀ p H', Same H H' → H p = none → Tape H' p → Q (.ref p) H'
theorem ok_tape (F : Fun K "_law_tape" "_law_tape" s_law_tape f fd) (ml : mg "len" = none) (ma : mg "abs" = none) (mi : mg "int" = none) : FnOk P w K mg base CX0 1 f fd ["script", "k"] (spTape K) := by
  refine F.ok sc_law_tape (fun vs H Q E h => ?_) (fun cdv A outer s H vs Q E hr h => ?_)
  · obtain ⟨a, ns, k, rfl, _⟩ := h
    rfl
  obtain ⟨a, ns, k, rfl, hS, hk, q⟩ := h
  refine ⟨_, pss_cons (ps_set (i := 2) sc_law_tape.nd rfl (.inl rfl) pe_int)
    (pss_cons (ps_if (pt_cmpR op_lt (pv 1) (pe_callB call_len_seq rfl ml PySem.boot_len (pa_cons (pv 0) pa_nil)) (nomark _))
        (pss_one (ps_set (i := 2) sc_law_tape.nd rfl (.inl rfl) (pe_callB call_abs rfl ma (by decide +kernel) (pa_cons (pe_ix ix_list (pv 0) (pv 1) (fun _ _ => rfl)) pa_nil)))) pss_nil)
    (pss_one (ps_ret (pe_lst (pa_cons (pv 2) (pa_cons (pe_cmpR op_ge (pv 2) (pe_op op_pow pe_int pe_int) (nomark _)) (pa_cons pe_int
      (pa_cons (pe_op op_modN (pe_callTy call_int1 rfl mi (by decide +kernel) (pa_cons (pe_op op_add (pe_op op_mul (pv 2) pe_int) (pv 1)) pa_nil)) pe_int) pa_nil)))))))), ?_⟩
  refine ⟨_, rfl, _, rfl, a, _, rfl, .inl hS, _, _, rfl, rfl, _, rfl, ?_⟩
  refine ite2 (fun c => ?_) (fun c => ?_)
  · have c' : k < (((ns.map V.int).length : Nat) : Int) := of_decide_eq_true c
    rw [List.length_map] at c'
    obtain ⟨v, hv⟩ := atI_ints hk c'
    refine ⟨_, rfl, _, rfl, a, _, _, _, rfl, rfl, hS, hv, _, rfl, ?_⟩
    refine ⟨_, rfl, _, rfl, _, _, rfl, rfl, ⟨by decide, by decide, by decide⟩, _, _, rfl, rfl, _, rfl, _, _, rfl, rfl, .inr ⟨by decide, by decide⟩, _, rfl, _, _, rfl, rfl, .inl ⟨_, rfl, _, _, rfl, rfl, (show (2147483647 : Int) ≠ 0 by decide), ?_⟩⟩
    exact ⟨(by show 4 ≤ sizeLine; decide), fun p hp => q p _ (same_new hp _) hp ⟨_, _, _, _, upd_same⟩⟩
  · refine ⟨_, rfl, _, rfl, _, _, rfl, rfl, ⟨by decide, by decide, by decide⟩, _, _, rfl, rfl, _, rfl, _, _, rfl, rfl, .inr ⟨by decide, by decide⟩, _, rfl, _, _, rfl, rfl, .inl ⟨_, rfl, _, _, rfl, rfl, (show (2147483647 : Int) ≠ 0 by decide), ?_⟩⟩
    exact ⟨(by show 4 ≤ sizeLine; decide), fun p hp => q p _ (same_new hp _) hp ⟨_, _, _, _, upd_same⟩⟩
def spTake : Sp := fun vs H Q _ => ∃ (a : Addr) (m : Int), vs = [.ref a, .int m] ∧ Tape H a ∧ 0 < m ∧ m < 1073741824 ∧ ∀ r H', 0 ≤ r → r < m → But a H H' → Tape H' a → Q (.int r) H'
theorem ok_take (F : Fun K "_law_take" "_law_take" s_law_take f fd) (mi : mg "int" = none) : FnOk P w K mg base CX0 1 f fd ["tape", "many"] spTake := by
  refine F.ok sc_law_take (fun vs H Q E h => ?_) (fun cdv A outer s H vs Q E hr h => ?_)
  · obtain ⟨a, m, rfl, _⟩ := h
    rfl
  obtain ⟨a, m, rfl, ⟨t, c, sd, b, hT⟩, h0, h1, q⟩ := h
  refine ⟨_, pss_cons (ps_if (PW.pt (pw_and (pt_val (pe_ix ix_list (pv 0) pe_int (fun _ _ => rfl))) (pw_and1 (pt_cmpR op_gt (pe_ix ix_list (pv 0) pe_int (fun _ _ => rfl)) pe_int (nomark _)))))
      (pss_cons (ps_set (i := 2) sc_law_take.nd rfl (.inl rfl) (pe_op op_modN (pe_callTy call_int1 rfl mi (by decide +kernel) (pa_cons (pe_ix ix_list (pv 0) pe_int (fun _ _ => rfl)) pa_nil)) (pv 1)))
      (pss_cons (ps_asg (pe_op op_fdivN (pe_ix ix_list (pv 0) pe_int (fun _ _ => rfl)) (pv 1)) (pg_sub (pv 0) pe_int set_list))
      (pss_one (ps_ret (pv 2))))) pss_nil)
    (pss_cons (ps_asg (pe_op op_add (pe_ix ix_list (pv 0) pe_int (fun _ _ => rfl)) pe_int) (pg_sub (pv 0) pe_int set_list))
    (pss_cons (ps_set (i := 3) sc_law_take.nd rfl (.inl rfl) (pe_op op_modN (pe_callTy call_int1 rfl mi (by decide +kernel) (pa_cons (pe_op op_add (pe_op op_add (pe_op op_mul (pe_ix ix_list (pv 0) pe_int (fun _ _ => rfl)) pe_int) (pe_op op_mul (pe_ix ix_list (pv 0) pe_int (fun _ _ => rfl)) pe_int)) pe_int) pa_nil)) pe_int))
    (pss_cons (ps_set (i := 3) sc_law_take.nd rfl (.inl rfl) (pe_op op_modN (pe_callTy call_int1 rfl mi (by decide +kernel) (pa_cons (pe_op op_add (pe_op op_add (pe_op op_mul (pv 3) pe_int) (pe_op op_mul (pe_op op_fdivN (pv 3) pe_int) pe_int)) (pe_ix ix_list (pv 0) pe_int (fun _ _ => rfl))) pa_nil)) pe_int))
    (pss_one (ps_ret (pe_op op_modN (pe_callTy call_int1 rfl mi (by decide +kernel) (pa_cons (pe_op op_fdivN (pv 3) pe_int) pa_nil)) (pv 1))))))), ?_⟩
  have rest : ∀ x : Int, 0 ≤ x.fmod m ∧ x.fmod m < m := fun x => by
    rw [Int.fmod_eq_emod_of_nonneg x (Int.le_of_lt h0)]
    exact ⟨Int.emod_nonneg x (by omega), Int.emod_lt_of_pos x h0⟩
  refine ⟨_, rfl, a, _, _, _, rfl, rfl, SqL.of hT, rfl, b, rfl, ?_⟩
  refine ite2 (fun hb => ?_) (fun hb => ?_)
  · refine ⟨_, rfl, a, _, _, _, rfl, rfl, SqL.of hT, rfl, _, _, rfl, rfl, _, rfl, ?_⟩
    refine ite2 (fun hc => ?_) (fun hc => ?_)
    · refine ⟨_, rfl, a, _, _, _, rfl, rfl, SqL.of hT, rfl, .inl ⟨_, rfl, _, rfl, _, _, rfl, rfl, (show m ≠ 0 by omega), ?_⟩⟩
      refine ⟨_, rfl, a, _, _, _, rfl, rfl, SqL.of hT, rfl, _, rfl, _, _, rfl, rfl, (show m ≠ 0 ∧ m.natAbs < 1073741824 by omega), _, rfl, a, _, _, _, rfl, rfl, hT, rfl, ?_⟩
      exact ⟨_, rfl, q _ _ (rest _).1 (rest _).2 But.upd ⟨_, _, _, _, upd_same⟩⟩
    · refine ⟨_, rfl, a, _, _, _, rfl, rfl, SqL.of hT, rfl, _, _, rfl, rfl, _, rfl, a, _, _, _, rfl, rfl, hT, rfl, ?_⟩
      refine ⟨_, rfl, a, _, _, _, rfl, rfl, SqL.of upd_same, rfl, _, _, rfl, rfl, .inr ⟨by decide, by decide⟩, _, rfl, a, _, _, _, rfl, rfl, SqL.of upd_same, rfl, _, _, rfl, rfl, .inr ⟨by decide, by decide⟩, _, _, rfl, rfl, _, _, rfl, rfl, .inl ⟨_, rfl, _, _, rfl, rfl, (show (2147483647 : Int) ≠ 0 by decide), ?_⟩⟩
      refine ⟨_, rfl, _, _, rfl, rfl, .inr ⟨by decide, by decide⟩, _, rfl, _, _, rfl, rfl, ⟨by decide, by decide⟩, _, _, rfl, rfl, .inr ⟨by decide, by decide⟩, _, _, rfl, rfl, _, rfl, a, _, _, _, rfl, rfl, SqL.of upd_same, rfl, _, _, rfl, rfl, .inl ⟨_, rfl, _, _, rfl, rfl, (show (2147483399 : Int) ≠ 0 by decide), ?_⟩⟩
      exact ⟨_, rfl, _, _, rfl, rfl, ⟨by decide, by decide⟩, .inl ⟨_, rfl, _, rfl, _, _, rfl, rfl, (show m ≠ 0 by omega), q _ _ (rest _).1 (rest _).2 But.upd ⟨_, _, _, _, upd_same⟩⟩⟩
  · refine ⟨_, rfl, a, _, _, _, rfl, rfl, SqL.of hT, rfl, _, _, rfl, rfl, _, rfl, a, _, _, _, rfl, rfl, hT, rfl, ?_⟩
    refine ⟨_, rfl, a, _, _, _, rfl, rfl, SqL.of upd_same, rfl, _, _, rfl, rfl, .inr ⟨by decide, by decide⟩, _, rfl, a, _, _, _, rfl, rfl, SqL.of upd_same, rfl, _, _, rfl, rfl, .inr ⟨by decide, by decide⟩, _, _, rfl, rfl, _, _, rfl, rfl, .inl ⟨_, rfl, _, _, rfl, rfl, (show (2147483647 : Int) ≠ 0 by decide), ?_⟩⟩
    refine ⟨_, rfl, _, _, rfl, rfl, .inr ⟨by decide, by decide⟩, _, rfl, _, _, rfl, rfl, ⟨by decide, by decide⟩, _, _, rfl, rfl, .inr ⟨by decide, by decide⟩, _, _, rfl, rfl, _, rfl, a, _, _, _, rfl, rfl, SqL.of upd_same, rfl, _, _, rfl, rfl, .inl ⟨_, rfl, _, _, rfl, rfl, (show (2147483399 : Int) ≠ 0 by decide), ?_⟩⟩
    exact ⟨_, rfl, _, _, rfl, rfl, ⟨by decide, by decide⟩, .inl ⟨_, rfl, _, rfl, _, _, rfl, rfl, (show m ≠ 0 by omega), q _ _ (rest _).1 (rest _).2 But.upd ⟨_, _, _, _, upd_same⟩⟩⟩
/-! ### dances, fractions -/
theorem six_letters {r : Int} (h0 : 0 ≤ r) (h1 : r < 6) : ∃ c, atI (("TTUURR" : Str)).cps.toList r = some c ∧ (c = 84 ∨ c = 85 ∨ c = 82) := by
  have e : (("TTUURR" : Str)).cps.toList = [84, 84, 85, 85, 82, 82] := by decide +kernel
  rw [e]
  obtain ⟨c, hc, m⟩ := atI_mk (xs := [84, 84, 85, 85, 82, 82]) h0 h1
  refine ⟨c, hc, ?_⟩
  simp at m
  omega
theorem four_sizes {r : Int} (h0 : 0 ≤ r) (h1 : r < 4) : ∃ z : Int, atI [V.int 1, .int 1, .int 3, .int 9] r = some (.int z) ∧ 1 ≤ z ∧ z ≤ 9 := by
  obtain ⟨c, hc, m⟩ := atI_mk (xs := [V.int 1, .int 1, .int 3, .int 9]) h0 h1
  simp at m
  rcases m with rfl | rfl | rfl
  · exact ⟨1, hc, by decide, by decide⟩
  · exact ⟨3, hc, by decide, by decide⟩
  · exact ⟨9, hc, by decide, by decide⟩
theorem e_empty : (("" : Str)) = S [] := by decide +kernel
theorem sizeLine_big : 16777216 ≤ sizeLine := by rw [sizeLine_eq]; decide
theorem fits {n : Nat} (h : n ≤ 16777216) : n ≤ sizeLine := Nat.le_trans h sizeLine_big
def spDance : Sp := fun vs H Q _ => ∃ (a : Addr) (m : Int), vs = [.ref a, .int m] ∧ Tape H a ∧ 0 ≤ m ∧ m ≤ 1000 ∧ ∀ l H', Lets l → (l.length : Int) ≤ m → But a H H' → Tape H' a → Q (.str (S l)) H'
theorem ok_dance (F : Fun K "_law_dance" "_law_dance" s_law_dance f fd) (DT : Dfn P w K mg base "_law_take" 1 ["tape", "many"] spTake) (mr : mg "range" = none) : FnOk P w K mg base CX0 2 f fd ["tape", "most"] spDance := by
  refine F.ok sc_law_dance (fun vs H Q E h => ?_) (fun cdv A outer s H vs Q E hr h => ?_)
  · obtain ⟨a, m, rfl, _⟩ := h
    rfl
  obtain ⟨a, m, rfl, hT, h0, h1, q⟩ := h
  refine ⟨_, pss_cons (ps_set (i := 2) sc_law_dance.nd rfl (.inl rfl) pe_str)
    (pss_cons (ps_set (i := 3) sc_law_dance.nd rfl (.inl rfl) (pe_ix ix_list (pe_lst (pa_cons pe_int (pa_cons pe_int (pa_cons pe_int (pa_cons pe_int pa_nil))))) (pe_do DT hr (pa_cons (pv 0) (pa_cons pe_int pa_nil))) (fun _ _ => rfl)))
    (pss_cons (ps_for PassesOwn.never rfl (pi_range1 rfl mr (pa_cons (pe_do DT hr (pa_cons (pv 0) (pa_cons (pe_op op_add (pv 1) pe_int) pa_nil))) pa_nil)) (pg_name (i := 4) sc_law_dance.nd rfl (.inl rfl))
      (pss_one (ps_set (i := 2) sc_law_dance.nd rfl (.inl rfl) (pe_op op_add_str (pv 2) (pe_op op_mul_str (pe_ix ix_str pe_str (pe_do DT hr (pa_cons (pv 0) (pa_cons pe_int pa_nil))) (fun _ _ => rfl))
        (pe_op op_add pe_int (pe_do DT hr (pa_cons (pv 0) (pa_cons (pv 3) pa_nil)))))))))
    (pss_one (ps_ret (pe_slice sl_str (pv 2) po_none (po_some (pv 1))))))), ?_⟩
  refine ⟨(by show 4 ≤ sizeLine; exact fits (by decide)), fun p hp => ?_⟩
  have np := hT.ne hp
  refine ⟨_, rfl, a, 4, rfl, hT.same (same_new hp _), by decide, by decide, fun r H1 r0 r1 b1 t1 => ?_⟩
  obtain ⟨z, hz, z1, z9⟩ := four_sizes r0 r1
  refine ⟨p, _, _, _, rfl, rfl, SqL.of (b1 _ _ np upd_same), hz, ?_⟩
  have B1 : But a H H1 := (But.of (same_new hp _)).trans b1
  refine ⟨_, rfl, _, rfl, _, _, rfl, rfl, a, _, rfl, t1, (show 0 < m + 1 by omega), (show m + 1 < 1073741824 by omega), fun r2 H2 r20 r21 b2 t2 => ?_⟩
  refine ⟨r2, rfl, by omega, by omega, for_range (lo := 0) (n := r2.toNat) (fun i σ H' => ∃ (l : List Nat) (v : Option V), σ = [some (.ref a), some (.int m), some (.str (S l)), some (.int z), v] ∧ Lets l ∧ l.length ≤ 9 * i ∧ But a H H' ∧ Tape H' a) ?_ ?_ ?_⟩
  · exact ⟨[], none, by rw [← e_empty]; rfl, fun _ h => (by cases h), Nat.zero_le _, B1.trans b2, t2⟩
  · rintro i σ H' hi ⟨l, v, rfl, hl, hz2, bt, tp⟩
    refine ⟨_, rfl, _, rfl, a, 6, rfl, tp, by decide, by decide, fun r3 H3 r30 r31 b3 t3 => ?_⟩
    obtain ⟨c, hc, hcl⟩ := six_letters r30 r31
    refine ⟨_, _, c, rfl, rfl, (fits (by decide +kernel)), hc, _, rfl, _, rfl, a, z, rfl, t3, by omega, by omega, fun r4 H4 r40 r41 b4 t4 => ?_⟩
    have hn : (1 + r4).toNat ≤ 9 := by omega
    refine ⟨_, _, rfl, rfl, [c], 1 + r4, rfl, rfl, by omega, by omega, by simp only [List.length_singleton]; omega, _, _, rfl, rfl, ?_, ?_⟩
    · rw [S_len, S_len]
      refine fits ?_
      rw [List.length_flatten, List.map_replicate, List.sum_replicate_nat]
      simp only [List.length_singleton]
      omega
    · refine ⟨l ++ (List.replicate (1 + r4).toNat [c]).flatten, _, by rw [S_app]; rfl, fun x hx => ?_, ?_, (bt.trans b3).trans b4, t4⟩
      · rcases List.mem_append.mp hx with hx | hx
        · exact hl x hx
        · obtain ⟨y, hy, hxy⟩ := List.mem_flatten.mp hx
          rw [(List.mem_replicate.mp hy).2] at hxy
          rw [List.mem_singleton.mp hxy]
          exact hcl
      · rw [List.length_append, List.length_flatten, List.map_replicate, List.sum_replicate_nat]
        simp only [List.length_singleton]
        omega
  · rintro σ H' ⟨l, v, rfl, hl, hz2, bt, tp⟩
    refine ⟨_, rfl, _, rfl, _, rfl, _, rfl, (by rw [S_len]; exact fits (by omega)), ?_⟩
    rw [S_take l h0]
    refine q _ _ (fun x hx => hl x (List.mem_of_mem_take hx)) ?_ bt tp
    rw [List.length_take]
    omega
end
section
variable {P : Program} {w : World} {K : PySem.W.Frag} {mg : Str → Option Value} {base : Heap} {f : Addr} {fd : FuncData}
/-! ### the same data -/
inductive Dt where
  | int (i : Int) | str (z : Str) | non | tup (xs : List Dt) | lst (xs : List Dt)
/-- v stands for d, in at most n levels -/
def Is (H : Hp) : Nat → V → Dt → Prop
  | _, v, .int i => v = .int i
  | _, v, .str z => v = .str z
  | _, v, .non => v = .non
  | 0, _, .tup _ => False
  | 0, _, .lst _ => False
  | n + 1, v, .tup ds => ∃ (a : Addr) (xs : List V), v = .ref a ∧ H a = some (.tup xs) ∧ xs.length = ds.length ∧ ds.length ≤ 1000000 ∧ ∀ (i : Nat) (x : V) (d : Dt), xs[i]? = some x → ds[i]? = some d → Is H n x d
  | n + 1, v, .lst ds => ∃ (a : Addr) (xs : List V), v = .ref a ∧ H a = some (.lst xs) ∧ xs.length = ds.length ∧ ds.length ≤ 1000000 ∧ ∀ (i : Nat) (x : V) (d : Dt), xs[i]? = some x → ds[i]? = some d → Is H n x d
def spSame : Nat → Sp
  | 0 => fun _ _ _ _ => False
  | n + 1 => fun vs H Q _ => ∃ (x y : V) (d : Dt), vs = [x, y] ∧ Is H n x d ∧ Is H n y d ∧ Q (.bl true) H
theorem ok_same {n : Nat} (F : Fun K "_law_same" "_law_same" s_law_same f fd) (DS : Dfn P w K mg base "_law_same" n ["told", "due"] (spSame n)) (mI : mg "isinstance" = none) (mT : mg "tuple" = none) (mL : mg "list" = none) (ml : mg "len" = none) (mr : mg "range" = none)
    (ms : mg "str" = none) (mi : mg "int" = none) (mb : mg "bool" = none) : FnOk P w K mg base CX0 (n + 1) f fd ["told", "due"] (spSame (n + 1)) := by
  refine F.ok sc_law_same (fun vs H Q E h => ?_) (fun cdv A outer s H vs Q E hr h => ?_)
  · obtain ⟨x, y, d, rfl, _⟩ := h
    rfl
  obtain ⟨x, y, d, rfl, hx, hy, q⟩ := h
  have bT : bootBuiltins "tuple" = some (.type "tuple") := by decide +kernel
  have bL : bootBuiltins "list" = some (.type "list") := by decide +kernel
  have bS : bootBuiltins "str" = some (.type "str") := by decide +kernel
  have bI : bootBuiltins "int" = some (.type "int") := by decide +kernel
  have bB : bootBuiltins "bool" = some (.type "bool") := by decide +kernel
  have bi : bootBuiltins "isinstance" = some (.builtin "isinstance") := by decide +kernel
  refine ⟨_, pss_cons (ps_if (PW.pt (pw_or (pt_val (pe_callB call_isi rfl mI bi (pa_cons (pv 1) (pa_cons (pe_bltn (v := .ty "tuple") rfl mT bT rfl) pa_nil)))) (pw_or1 (pt_val (pe_callB call_isi rfl mI bi (pa_cons (pv 1) (pa_cons (pe_bltn (v := .ty "list") rfl mL bL rfl) pa_nil)))))))
      (pss_cons (ps_if (PW.pt (pw_or (pt_cmpR op_ne (pe_callB call_isi rfl mI bi (pa_cons (pv 1) (pa_cons (pe_bltn (v := .ty "tuple") rfl mT bT rfl) pa_nil))) (pe_callB call_isi rfl mI bi (pa_cons (pv 0) (pa_cons (pe_bltn (v := .ty "tuple") rfl mT bT rfl) pa_nil))) (nomark _))
          (pw_or1 (pt_cmpR op_ne (pe_callB call_isi rfl mI bi (pa_cons (pv 1) (pa_cons (pe_bltn (v := .ty "list") rfl mL bL rfl) pa_nil))) (pe_callB call_isi rfl mI bi (pa_cons (pv 0) (pa_cons (pe_bltn (v := .ty "list") rfl mL bL rfl) pa_nil))) (nomark _)))))
        (pss_one (ps_ret pe_bl)) pss_nil)
      (pss_cons (ps_if (pt_cmpR op_ne (pe_callB call_len_seq rfl ml PySem.boot_len (pa_cons (pv 0) pa_nil)) (pe_callB call_len_seq rfl ml PySem.boot_len (pa_cons (pv 1) pa_nil)) (nomark _)) (pss_one (ps_ret pe_bl)) pss_nil)
      (pss_cons (ps_for PassesOwn.never rfl (pi_range1 rfl mr (pa_cons (pe_callB call_len_seq rfl ml PySem.boot_len (pa_cons (pv 1) pa_nil)) pa_nil)) (pg_name (i := 2) sc_law_same.nd rfl (.inl rfl))
        (pss_one (ps_if (pt_not (pt_val (pe_do DS hr (pa_cons (pe_ix ix_seq (pv 0) (pv 2) (fun _ _ => rfl)) (pa_cons (pe_ix ix_seq (pv 1) (pv 2) (fun _ _ => rfl)) pa_nil))))) (pss_one (ps_ret pe_bl)) pss_nil)))
      (pss_one (ps_ret pe_bl))))) pss_nil)
    (pss_cons (ps_if (pt_cmpR op_isN (pv 1) pe_non (nomark _)) (pss_one (ps_ret (pe_cmpR op_isN (pv 0) pe_non (nomark _)))) pss_nil)
    (pss_cons (ps_if (pt_val (pe_callB call_isi rfl mI bi (pa_cons (pv 1) (pa_cons (pe_bltn (v := .ty "str") rfl ms bS rfl) pa_nil))))
      (pss_one (ps_ret (pe_and (pe_callB call_isi rfl mI bi (pa_cons (pv 0) (pa_cons (pe_bltn (v := .ty "str") rfl ms bS rfl) pa_nil))) (pe_one (pe_cmpR op_eq (pv 0) (pv 1) (nomark _)))))) pss_nil)
    (pss_one (ps_ret (pe_and (pe_callB call_isi rfl mI bi (pa_cons (pv 0) (pa_cons (pe_bltn (v := .ty "int") rfl mi bI rfl) pa_nil)))
      (pe_and (pe_not (pe_callB call_isi rfl mI bi (pa_cons (pv 0) (pa_cons (pe_bltn (v := .ty "bool") rfl mb bB rfl) pa_nil)))) (pe_one (pe_cmpR op_eq (pv 0) (pv 1) (nomark _))))))))), ?_⟩
  have isn : ∀ (a b : String) (r : Bool), kitB a b = some r → PySem.W.kitOne K (.type a) (.type b) = some r := fun a b r h => kit_ty h
  cases d with
  | int i =>
    cases (show x = .int i by cases n <;> exact hx)
    cases (show y = .int i by cases n <;> exact hy)
    refine ⟨_, rfl, _, _, _, _, false, rfl, .ty _, .base (.int _), kit_ty (by decide +kernel), _, rfl, iteF ?_⟩
    refine ⟨_, rfl, _, _, _, _, false, rfl, .ty _, .base (.int _), kit_ty (by decide +kernel), _, rfl, iteF ?_⟩
    refine ⟨_, rfl, rfl, _, rfl, iteF ?_⟩
    refine ⟨_, rfl, _, _, _, _, false, rfl, .ty _, .base (.int _), kit_ty (by decide +kernel), _, rfl, iteF ?_⟩
    refine ⟨_, rfl, _, _, _, _, true, rfl, .ty _, .base (.int _), kit_ty (by decide +kernel), _, rfl, iteT ?_⟩
    refine ⟨_, rfl, _, _, _, _, false, rfl, .ty _, .base (.int _), kit_ty (by decide +kernel), _, rfl, _, rfl, iteT ?_⟩
    refine ⟨_, rfl, _, rfl, rfl, ?_⟩
    rw [decide_eq_true rfl]
    exact q
  | str z =>
    cases (show x = .str z by cases n <;> exact hx)
    cases (show y = .str z by cases n <;> exact hy)
    refine ⟨_, rfl, _, _, _, _, false, rfl, .ty _, .base (.str _), kit_ty (by decide +kernel), _, rfl, iteF ?_⟩
    refine ⟨_, rfl, _, _, _, _, false, rfl, .ty _, .base (.str _), kit_ty (by decide +kernel), _, rfl, iteF ?_⟩
    refine ⟨_, rfl, rfl, _, rfl, iteF ?_⟩
    refine ⟨_, rfl, _, _, _, _, true, rfl, .ty _, .base (.str _), kit_ty (by decide +kernel), _, rfl, iteT ?_⟩
    refine ⟨_, rfl, _, _, _, _, true, rfl, .ty _, .base (.str _), kit_ty (by decide +kernel), _, rfl, iteT ?_⟩
    refine ⟨_, rfl, _, rfl, rfl, ?_⟩
    rw [decide_eq_true rfl]
    exact q
  | non =>
    cases (show x = .non by cases n <;> exact hx)
    cases (show y = .non by cases n <;> exact hy)
    refine ⟨_, rfl, _, _, _, _, false, rfl, .ty _, .base .non, kit_ty (by decide +kernel), _, rfl, iteF ?_⟩
    refine ⟨_, rfl, _, _, _, _, false, rfl, .ty _, .base .non, kit_ty (by decide +kernel), _, rfl, iteF ?_⟩
    exact ⟨_, rfl, rfl, _, rfl, iteT ⟨_, rfl, rfl, q⟩⟩
  | tup ds =>
    cases n with
    | zero => exact hx.elim
    | succ n =>
      obtain ⟨a, xs, rfl, ha, la, ln, ka⟩ := hx
      obtain ⟨b, ys, rfl, hb, lb, _, kb⟩ := hy
      refine ⟨_, rfl, _, _, _, _, true, rfl, .ty _, .base (.tup hb), kit_ty (by decide +kernel), _, rfl, iteT ?_⟩
      refine ⟨_, rfl, _, _, _, _, true, rfl, .ty _, .base (.tup hb), kit_ty (by decide +kernel), _, rfl, _, _, _, _, true, rfl, .ty _, .base (.tup ha), kit_ty (by decide +kernel), rfl, _, rfl, iteF ?_⟩
      refine ⟨_, rfl, _, _, _, _, false, rfl, .ty _, .base (.tup hb), kit_ty (by decide +kernel), _, rfl, _, _, _, _, false, rfl, .ty _, .base (.tup ha), kit_ty (by decide +kernel), rfl, _, rfl, iteF ?_⟩
      refine ⟨_, rfl, a, xs, rfl, .inr (SqT.of ha), _, rfl, b, ys, rfl, .inr (SqT.of hb), rfl, _, rfl, ?_⟩
      rw [show (decide (V.int (xs.length : Int) = V.int (ys.length : Int))) = true from decide_eq_true (by rw [la, lb])]
      refine iteF ?_
      refine ⟨_, rfl, b, ys, rfl, .inr (SqT.of hb), (ys.length : Int), rfl, by omega, by omega, for_range (lo := 0) (n := (ys.length : Int).toNat) (fun i σ H' => H' = H ∧ ∃ v, σ = [some (.ref a), some (.ref b), v]) ⟨rfl, none, rfl⟩ ?_ ?_⟩
      · rintro i σ _ hi ⟨rfl, v, rfl⟩
        have hi1 : i < ys.length := by omega
        have hi2 : i < xs.length := by omega
        have hi3 : i < ds.length := by omega
        refine ⟨_, rfl, _, rfl, .inr (.inl ⟨a, xs, _, _, rfl, rfl, SqT.of ha, at_of (j := i) (by omega) (List.getElem?_eq_getElem hi2), ?_⟩)⟩
        refine ⟨_, rfl, _, rfl, .inr (.inl ⟨b, ys, _, _, rfl, rfl, SqT.of hb, at_of (j := i) (by omega) (List.getElem?_eq_getElem hi1), ?_⟩)⟩
        refine ⟨_, _, ds[i], rfl, ka i _ _ (List.getElem?_eq_getElem hi2) (List.getElem?_eq_getElem hi3), kb i _ _ (List.getElem?_eq_getElem hi1) (List.getElem?_eq_getElem hi3), _, rfl, iteF ⟨rfl, _, rfl⟩⟩
      · rintro σ _ ⟨rfl, v, rfl⟩
        exact q
  | lst ds =>
    cases n with
    | zero => exact hx.elim
    | succ n =>
      obtain ⟨a, xs, rfl, ha, la, ln, ka⟩ := hx
      obtain ⟨b, ys, rfl, hb, lb, _, kb⟩ := hy
      refine ⟨_, rfl, _, _, _, _, false, rfl, .ty _, .base (.lst hb), kit_ty (by decide +kernel), _, rfl, iteF ?_⟩
      refine ⟨_, rfl, _, _, _, _, true, rfl, .ty _, .base (.lst hb), kit_ty (by decide +kernel), _, rfl, iteT ?_⟩
      refine ⟨_, rfl, _, _, _, _, false, rfl, .ty _, .base (.lst hb), kit_ty (by decide +kernel), _, rfl, _, _, _, _, false, rfl, .ty _, .base (.lst ha), kit_ty (by decide +kernel), rfl, _, rfl, iteF ?_⟩
      refine ⟨_, rfl, _, _, _, _, true, rfl, .ty _, .base (.lst hb), kit_ty (by decide +kernel), _, rfl, _, _, _, _, true, rfl, .ty _, .base (.lst ha), kit_ty (by decide +kernel), rfl, _, rfl, iteF ?_⟩
      refine ⟨_, rfl, a, xs, rfl, .inl (SqL.of ha), _, rfl, b, ys, rfl, .inl (SqL.of hb), rfl, _, rfl, ?_⟩
      rw [show (decide (V.int (xs.length : Int) = V.int (ys.length : Int))) = true from decide_eq_true (by rw [la, lb])]
      refine iteF ?_
      refine ⟨_, rfl, b, ys, rfl, .inl (SqL.of hb), (ys.length : Int), rfl, by omega, by omega, for_range (lo := 0) (n := (ys.length : Int).toNat) (fun i σ H' => H' = H ∧ ∃ v, σ = [some (.ref a), some (.ref b), v]) ⟨rfl, none, rfl⟩ ?_ ?_⟩
      · rintro i σ _ hi ⟨rfl, v, rfl⟩
        have hi1 : i < ys.length := by omega
        have hi2 : i < xs.length := by omega
        have hi3 : i < ds.length := by omega
        refine ⟨_, rfl, _, rfl, .inl ⟨a, xs, _, _, rfl, rfl, SqL.of ha, at_of (j := i) (by omega) (List.getElem?_eq_getElem hi2), ?_⟩⟩
        refine ⟨_, rfl, _, rfl, .inl ⟨b, ys, _, _, rfl, rfl, SqL.of hb, at_of (j := i) (by omega) (List.getElem?_eq_getElem hi1), ?_⟩⟩
        refine ⟨_, _, ds[i], rfl, ka i _ _ (List.getElem?_eq_getElem hi2) (List.getElem?_eq_getElem hi3), kb i _ _ (List.getElem?_eq_getElem hi1) (List.getElem?_eq_getElem hi3), _, rfl, iteF ⟨rfl, _, rfl⟩⟩
      · rintro σ _ ⟨rfl, v, rfl⟩
        exact q
theorem none_same : FnOk P w K mg base CX0 0 f fd ["told", "due"] (spSame 0) := by
  have no : ∀ vs H Q E, ¬ spSame 0 vs H Q E := fun vs H Q E h => h
  exact ⟨fun vs H Q E h => absurd h (no vs H Q E), fun A outer s H args us vs Q E _ _ _ _ h => absurd h (no vs H Q E)⟩
end
section
variable {P : Program} {w : World} {K : PySem.W.Frag} {mg : Str → Option Value} {base : Heap} {f : Addr} {fd : FuncData}
def spLong : Sp := fun vs H Q _ => ∃ (a : Addr) (k : Int), vs = [.ref a, .int k] ∧ Tape H a ∧ ∀ l H', Lets l → l.length ≤ 1000 → But a H H' → Tape H' a → Q (.str (S l)) H'
theorem ok_long (F : Fun K "_law_long_dance" "_law_long_dance" s_law_long_dance f fd) (DT : Dfn P w K mg base "_law_take" 1 ["tape", "many"] spTake) (DD : Dfn P w K mg base "_law_dance" 2 ["tape", "most"] spDance) : FnOk P w K mg base CX0 3 f fd ["tape", "k"] spLong := by
  refine F.ok sc_law_long_dance (fun vs H Q E h => ?_) (fun cdv A outer s H vs Q E hr h => ?_)
  · obtain ⟨a, k, rfl, _⟩ := h
    rfl
  obtain ⟨a, k, rfl, hT, q⟩ := h
  have hr1 := hr.mono (show 1 ≤ 2 by decide)
  refine ⟨_, pss_cons (ps_if (PW.pt (pw_and (pt_cmpR op_eq (pv 1) pe_int (nomark _)) (pw_and1 (pt_cmpR op_eq (pe_do DT hr1 (pa_cons (pv 0) (pa_cons pe_int pa_nil))) pe_int (nomark _)))))
      (pss_one (ps_ret (pe_op op_mul_str (pe_do DD hr (pa_cons (pv 0) (pa_cons pe_int pa_nil))) (pe_op op_add pe_int (pe_do DT hr1 (pa_cons (pv 0) (pa_cons pe_int pa_nil))))))) pss_nil)
    (pss_one (ps_ret (pe_do DD hr (pa_cons (pv 0) (pa_cons pe_int pa_nil))))), ?_⟩
  have last : ∀ H', But a H H' → Tape H' a → ∃ v, [some (V.ref a), some (V.int k)][0]? = some (some v) ∧ spDance ([v, .int 60] ++ []) H' Q E0 := fun H' b t =>
    ⟨_, rfl, a, 60, rfl, t, by decide, by decide, fun l H2 hl hz b2 t2 => q l H2 hl (by omega) (b.trans b2) t2⟩
  refine ⟨_, rfl, rfl, _, rfl, ite2 (fun c1 => ?_) (fun c1 => iteF (last H (But.refl _ _) hT))⟩
  refine ⟨_, rfl, a, 6, rfl, hT, by decide, by decide, fun r H1 r0 r1 b1 t1 => ?_⟩
  refine ⟨rfl, _, rfl, ite2 (fun c2 => ?_) (fun c2 => last H1 b1 t1)⟩
  refine ⟨_, rfl, a, 20, rfl, t1, by decide, by decide, fun l H2 hl hz b2 t2 => ?_⟩
  refine ⟨_, rfl, a, 50, rfl, t2, by decide, by decide, fun r3 H3 r30 r31 b3 t3 => ⟨_, _, rfl, rfl, ?_⟩⟩
  have hm : l.length * (1 + r3).toNat ≤ 20 * 50 := Nat.mul_le_mul (by omega) (by omega)
  refine ⟨l, _, rfl, rfl, by omega, by omega, by omega, q _ H3 (fun c hc => ?_) ?_ ((b1.trans b2).trans b3) t3⟩
  · obtain ⟨y, hy, hxy⟩ := List.mem_flatten.mp hc
    rw [(List.mem_replicate.mp hy).2] at hxy
    exact hl c hxy
  · rw [List.length_flatten, List.map_replicate, List.sum_replicate_nat, Nat.mul_comm]
    omega
end
theorem sign_eq {c n : Nat} {z : Str} (e : z = S [n]) : (V.str (S [c]) = V.str z) ↔ c = n := by
  subst e
  constructor
  · intro h
    have := S_inj (V.str.inj h)
    simpa using this
  · rintro rfl; rfl
theorem e_T : (("T" : Str)) = S [84] := by decide +kernel
theorem e_U : (("U" : Str)) = S [85] := by decide +kernel
theorem e_R : (("R" : Str)) = S [82] := by decide +kernel
section
variable {P : Program} {w : World} {K : PySem.W.Frag} {mg : Str → Option Value} {base : Heap} {f : Addr} {fd : FuncData}
/-! ### diagrams -/
structure Dg where
  n : Nat
  cs : List (Nat × Nat × Nat)
  a : Nat
  b : Nat
  c : Nat
  d : Nat
def dg1 (g : Dg) (c : Nat) : Dg :=
  if c = 82 then ⟨g.n, g.cs, g.c, g.a, g.d, g.b⟩ else if c = 84 then ⟨g.n + 1, g.cs ++ [(g.b, g.d, g.n)], g.a, g.n, g.c, g.b⟩ else ⟨g.n + 1, g.cs ++ [(g.d, g.b, g.n)], g.a, g.d, g.c, g.n⟩
def dg0 : Dg := ⟨2, [], 0, 0, 1, 1⟩
def dg (l : List Nat) : Dg := l.foldl dg1 dg0
theorem dg_take {l : List Nat} {i c : Nat} (h : l[i]? = some c) : dg (l.take (i + 1)) = dg1 (dg (l.take i)) c := by
  unfold dg
  rw [List.take_add_one, h, List.foldl_append]
  rfl
theorem dg_len (l : List Nat) : (dg l).cs.length ≤ l.length := by
  suffices h : ∀ (l : List Nat) (g : Dg), (l.foldl dg1 g).cs.length ≤ g.cs.length + l.length by
    have := h l dg0
    simpa [dg, dg0] using this
  intro l
  induction l with
  | nil => intro g; simp
  | cons c r ih =>
    intro g
    have h1 := ih (dg1 g c)
    have h2 : (dg1 g c).cs.length ≤ g.cs.length + 1 := by
      unfold dg1
      repeat' split
      all_goals simp
    simp only [List.foldl_cons, List.length_cons]
    omega
def t3 (c : Nat × Nat × Nat) : HO := .tup [.int (c.1 : Int), .int (c.2.1 : Int), .int (c.2.2 : Int)]
/-- at p a list of the crossings cs, a tuple each -/
def Crs (H : Hp) (p : Addr) (cs : List (Nat × Nat × Nat)) : Prop := ∃ rs : List Addr, H p = some (.lst (rs.map V.ref)) ∧ rs.length = cs.length ∧ ∀ (i : Nat) (r : Addr) (c : Nat × Nat × Nat), rs[i]? = some r → cs[i]? = some c → H r = some (t3 c)
theorem Crs.same {H H' : Hp} {p : Addr} {cs : List (Nat × Nat × Nat)} (h : Crs H p cs) (s : Same H H') : Crs H' p cs := by
  obtain ⟨rs, e, z, k⟩ := h
  exact ⟨rs, s _ _ e, z, fun i r c a b => s _ _ (k i r c a b)⟩
theorem Crs.but {H H' : Hp} {a p : Addr} {cs : List (Nat × Nat × Nat)} {zs : List V} (h : Crs H p cs) (s : But a H H') (ne : p ≠ a) (ha : H a = some (.lst zs)) : Crs H' p cs := by
  obtain ⟨rs, e, z, k⟩ := h
  exact ⟨rs, s _ _ ne e, z, fun i r c x y => s _ _ (ne_of (k i r c x y) ha (by intro q; cases q)) (k i r c x y)⟩
/-- one more crossing: a new tuple at t, appended -/
theorem Crs.push {H : Hp} {p t : Addr} {cs : List (Nat × Nat × Nat)} (h : Crs H p cs) (ht : H t = none) (c : Nat × Nat × Nat) :
    ∃ xs, upd H t (t3 c) p = some (.lst xs) ∧ xs.length = cs.length ∧ Crs (upd (upd H t (t3 c)) p (.lst (xs ++ [.ref t]))) p (cs ++ [c]) := by
  obtain ⟨rs, e, z, k⟩ := h
  have hpt : p ≠ t := ne_of_none e ht
  refine ⟨rs.map V.ref, by rw [upd_ne hpt]; exact e, by rw [List.length_map]; exact z, rs ++ [t], by rw [upd_same, List.map_append]; rfl, by rw [List.length_append, List.length_append, z]; rfl, fun i r c' hr hc => ?_⟩
  by_cases hi : i < rs.length
  · rw [List.getElem?_append_left hi] at hr
    rw [List.getElem?_append_left (by omega)] at hc
    have hk := k i r c' hr hc
    rw [upd_ne (ne_of hk e (by intro q; cases q)), upd_ne (ne_of_none hk ht)]
    exact hk
  · rw [List.getElem?_append_right (by omega)] at hr hc
    rw [z] at hr
    by_cases h0 : i - cs.length = 0
    · rw [h0] at hr hc
      cases hr; cases hc
      rw [upd_ne (Ne.symm hpt), upd_same]
    · obtain ⟨m, hm⟩ := Nat.exists_eq_succ_of_ne_zero h0
      rw [hm] at hr
      cases hr
def e4 (g : Dg) : HO := .tup [.int (g.a : Int), .int (g.b : Int), .int (g.c : Int), .int (g.d : Int)]
/-- at t a diagram, its list of crossings at p -/
def Diag (H : Hp) (t p : Addr) (g : Dg) : Prop := ∃ e, H t = some (.tup [.int (g.n : Int), .ref p, .ref e]) ∧ H e = some (e4 g) ∧ Crs H p g.cs
theorem Diag.same {H H' : Hp} {t p : Addr} {g : Dg} (h : Diag H t p g) (s : Same H H') : Diag H' t p g := by
  obtain ⟨e, a, b, c⟩ := h
  exact ⟨e, s _ _ a, s _ _ b, c.same s⟩
theorem Diag.but {H H' : Hp} {a t p : Addr} {g : Dg} {zs : List V} (h : Diag H t p g) (s : But a H H') (ne : p ≠ a) (ha : H a = some (.lst zs)) : Diag H' t p g := by
  obtain ⟨e, x, y, c⟩ := h
  exact ⟨e, s _ _ (ne_of x ha (by intro q; cases q)) x, s _ _ (ne_of y ha (by intro q; cases q)) y, c.but s ne ha⟩
def spDiag : Sp := fun vs H Q _ => ∃ l : List Nat, vs = [.str (S l)] ∧ l.length ≤ 1000000 ∧ ∀ (t p : Addr) H', Same H H' → H p = none → Diag H' t p (dg l) → Q (.ref t) H'
end
section
variable {P : Program} {w : World} {K : PySem.W.Frag} {mg : Str → Option Value} {base : Heap} {f : Addr} {fd : FuncData}
theorem ok_law_diagram (F : Fun K "_law_diagram" "_law_diagram" s_law_diagram f fd)   : FnOk P w K mg base CX0 1 f fd ["dance"] spDiag := by
  refine F.ok sc_law_diagram (fun vs H Q E h => ?_) (fun cdv A outer s H vs Q E hr h => ?_)
  · obtain ⟨l, rfl, hz, q⟩ := h
    rfl
  obtain ⟨l, rfl, hz, q⟩ := h
  refine ⟨_, (pss_cons (ps_set (i := 1) sc_law_diagram.nd rfl (.inl rfl) pe_int)
    (pss_cons (ps_set (i := 2) sc_law_diagram.nd rfl (.inl rfl) (pe_lst pa_nil))
    (pss_cons (ps_set (i := 3) sc_law_diagram.nd rfl (.inl rfl) (pe_tup (pa_cons pe_int (pa_cons pe_int (pa_cons pe_int (pa_cons pe_int pa_nil))))))
    (pss_cons (ps_for PassesOwn.never rfl (pi_str (pv 0)) (pg_name (i := 4) sc_law_diagram.nd rfl (.inl rfl))
    (pss_cons (ps_asg (pv 3) (pg_tup (by rfl) (pgs_cons (pg_name (i := 5) sc_law_diagram.nd rfl (.inl rfl)) (pgs_cons (pg_name (i := 6) sc_law_diagram.nd rfl (.inl rfl)) (pgs_cons (pg_name (i := 7) sc_law_diagram.nd rfl (.inl rfl)) (pgs_cons (pg_name (i := 8) sc_law_diagram.nd rfl (.inl rfl)) pgs_nil))))))
    (pss_one (ps_if (pt_cmpR op_eq (pv 4) pe_str (nomark _)) (pss_one (ps_set (i := 3) sc_law_diagram.nd rfl (.inl rfl) (pe_tup (pa_cons (pv 7) (pa_cons (pv 5) (pa_cons (pv 8) (pa_cons (pv 6) pa_nil))))))) (pss_one (ps_if (pt_cmpR op_eq (pv 4) pe_str (nomark _)) (pss_cons (ps_expr (pe_bm PySem.F.plainAttrs_list PySem.F.slot_list_append PySem.F.type_list_append mt_append (pv 2) (pa_cons (pe_tup (pa_cons (pv 6) (pa_cons (pv 8) (pa_cons (pv 1) pa_nil)))) pa_nil)))
    (pss_cons (ps_set (i := 3) sc_law_diagram.nd rfl (.inl rfl) (pe_tup (pa_cons (pv 5) (pa_cons (pv 1) (pa_cons (pv 7) (pa_cons (pv 6) pa_nil))))))
    (pss_one (ps_set (i := 1) sc_law_diagram.nd rfl (.inl rfl) (pe_op op_add (pv 1) pe_int))))) (pss_cons (ps_expr (pe_bm PySem.F.plainAttrs_list PySem.F.slot_list_append PySem.F.type_list_append mt_append (pv 2) (pa_cons (pe_tup (pa_cons (pv 8) (pa_cons (pv 6) (pa_cons (pv 1) pa_nil)))) pa_nil)))
    (pss_cons (ps_set (i := 3) sc_law_diagram.nd rfl (.inl rfl) (pe_tup (pa_cons (pv 5) (pa_cons (pv 8) (pa_cons (pv 7) (pa_cons (pv 1) pa_nil))))))
    (pss_one (ps_set (i := 1) sc_law_diagram.nd rfl (.inl rfl) (pe_op op_add (pv 1) pe_int)))))))))))
    (pss_one (ps_ret (pe_tup (pa_cons (pv 1) (pa_cons (pv 2) (pa_cons (pv 3) pa_nil)))))))))), ?_⟩
  have sz : 4 ≤ sizeLine := fits (by decide)
  have s3 : 3 ≤ sizeLine := fits (by decide)
  refine ⟨fits (by decide), fun p hp => ⟨sz, fun e0 he0 => ?_⟩⟩
  refine ⟨_, rfl, _, rfl, for_str (l := l) (fun i σ H' => ∃ (e : Addr) (x1 x2 x3 x4 x5 : Option V), σ = [some (.str (S l)), some (.int ((dg (l.take i)).n : Int)), some (.ref p), some (.ref e), x1, x2, x3, x4, x5] ∧ Same H H' ∧ H' e = some (e4 (dg (l.take i))) ∧ Crs H' p (dg (l.take i)).cs) ?_ ?_ ?_⟩
  · refine ⟨e0, _, _, _, _, _, rfl, (same_new hp _).trans (same_new he0 _), upd_same, [], ?_, rfl, fun i r c a _ => by cases a⟩
    rw [upd_ne (ne_of_none upd_same he0), upd_same]
    rfl
  · rintro i c σ H1 hc ⟨e, x1, x2, x3, x4, x5, rfl, sm, he, cr⟩
    have hi : i < l.length := (List.getElem?_eq_some_iff.mp hc).1
    have dl := dg_len (l.take i)
    rw [List.length_take] at dl
    have st := dg_take hc
    generalize dg (l.take i) = g at *
    refine ⟨_, rfl, e, _, rfl, SqT.of he, rfl, _, _, rfl, _, _, rfl, _, _, rfl, _, _, rfl, rfl, ?_⟩
    refine ⟨_, rfl, rfl, _, rfl, ite2 (fun c1 => ?_) (fun c1 => ?_)⟩
    · have k1 : c = 82 := (sign_eq e_R).mp (of_decide_eq_true c1)
      have e1 : dg1 g c = ⟨g.n, g.cs, g.c, g.a, g.d, g.b⟩ := if_pos k1
      rw [e1] at st
      rw [st]
      refine ⟨_, rfl, _, rfl, _, rfl, _, rfl, sz, fun t ht => ⟨t, _, _, _, _, _, rfl, sm.trans (same_new ht _), upd_same, cr.same (same_new ht _)⟩⟩
    have k1 : ¬ c = 82 := fun z => c1 (decide_eq_true ((sign_eq e_R).mpr z))
    refine ⟨_, rfl, rfl, _, rfl, ite2 (fun c2 => ?_) (fun c2 => ?_)⟩
    · have k2 : c = 84 := (sign_eq e_T).mp (of_decide_eq_true c2)
      have e1 : dg1 g c = ⟨g.n + 1, g.cs ++ [(g.b, g.d, g.n)], g.a, g.n, g.c, g.b⟩ := (if_neg k1).trans (if_pos k2)
      rw [e1] at st
      rw [st]
      obtain ⟨rs, hrs, _⟩ := cr
      refine ⟨_, rfl, .inl ⟨rfl, _, SqL.of hrs⟩, _, rfl, _, rfl, _, rfl, s3, fun t ht => ?_⟩
      obtain ⟨xs, hx, hl, cr'⟩ := Crs.push ⟨rs, hrs, ‹_›⟩ ht (g.b, g.d, g.n)
      refine ⟨p, xs, _, rfl, rfl, hx, Nat.lt_of_lt_of_le (show xs.length < 16777216 by omega) sizeLine_big, ?_⟩
      refine ⟨_, rfl, _, rfl, _, rfl, _, rfl, sz, fun t2 ht2 => ⟨_, rfl, _, _, rfl, rfl, t2, _, _, _, _, _, rfl, ?_, upd_same, cr'.same (same_new ht2 _)⟩⟩
      refine Same.trans (fun b o hb => ?_) (same_new ht2 _)
      rw [upd_ne (ne_of_none hb hp), upd_ne (ne_of_none (sm _ _ hb) ht)]
      exact sm _ _ hb
    · have k2 : ¬ c = 84 := fun z => c2 (decide_eq_true ((sign_eq e_T).mpr z))
      have e1 : dg1 g c = ⟨g.n + 1, g.cs ++ [(g.d, g.b, g.n)], g.a, g.d, g.c, g.n⟩ := (if_neg k1).trans (if_neg k2)
      rw [e1] at st
      rw [st]
      obtain ⟨rs, hrs, _⟩ := cr
      refine ⟨_, rfl, .inl ⟨rfl, _, SqL.of hrs⟩, _, rfl, _, rfl, _, rfl, s3, fun t ht => ?_⟩
      obtain ⟨xs, hx, hl, cr'⟩ := Crs.push ⟨rs, hrs, ‹_›⟩ ht (g.d, g.b, g.n)
      refine ⟨p, xs, _, rfl, rfl, hx, Nat.lt_of_lt_of_le (show xs.length < 16777216 by omega) sizeLine_big, ?_⟩
      refine ⟨_, rfl, _, rfl, _, rfl, _, rfl, sz, fun t2 ht2 => ⟨_, rfl, _, _, rfl, rfl, t2, _, _, _, _, _, rfl, ?_, upd_same, cr'.same (same_new ht2 _)⟩⟩
      refine Same.trans (fun b o hb => ?_) (same_new ht2 _)
      rw [upd_ne (ne_of_none hb hp), upd_ne (ne_of_none (sm _ _ hb) ht)]
      exact sm _ _ hb
  · rintro σ H1 ⟨e, x1, x2, x3, x4, x5, rfl, sm, he, cr⟩
    rw [List.take_of_length_le (Nat.le_refl _)] at he cr ⊢
    exact ⟨_, rfl, _, rfl, _, rfl, s3, fun t ht => q t p _ (sm.trans (same_new ht _)) hp ⟨e, upd_same, same_new ht _ _ _ he, cr.same (same_new ht _)⟩⟩
end
section
variable {P : Program} {w : World} {K : PySem.W.Frag} {mg : Str → Option Value} {base : Heap} {f : Addr} {fd : FuncData}
theorem ok_diagram (F : Fun K "diagram" "diagram" s_diagram f fd)   : FnOk P w K mg base CX0 1 f fd ["dance"] spDiag := by
  refine F.ok sc_diagram (fun vs H Q E h => ?_) (fun cdv A outer s H vs Q E hr h => ?_)
  · obtain ⟨l, rfl, hz, q⟩ := h
    rfl
  obtain ⟨l, rfl, hz, q⟩ := h
  refine ⟨_, (pss_cons (ps_set (i := 1) sc_diagram.nd rfl (.inl rfl) pe_int)
    (pss_cons (ps_set (i := 2) sc_diagram.nd rfl (.inl rfl) (pe_lst pa_nil))
    (pss_cons (ps_asg (pe_tup (pa_cons pe_int (pa_cons pe_int (pa_cons pe_int (pa_cons pe_int pa_nil))))) (pg_tup (by rfl) (pgs_cons (pg_name (i := 3) sc_diagram.nd rfl (.inl rfl)) (pgs_cons (pg_name (i := 4) sc_diagram.nd rfl (.inl rfl)) (pgs_cons (pg_name (i := 5) sc_diagram.nd rfl (.inl rfl)) (pgs_cons (pg_name (i := 6) sc_diagram.nd rfl (.inl rfl)) pgs_nil))))))
    (pss_cons (ps_for PassesOwn.never rfl (pi_str (pv 0)) (pg_name (i := 7) sc_diagram.nd rfl (.inl rfl))
    (pss_cons (ps_if (pt_cmpR op_eq (pv 7) pe_str (nomark _)) (pss_cons (ps_asg (pe_tup (pa_cons (pv 5) (pa_cons (pv 3) (pa_cons (pv 6) (pa_cons (pv 4) pa_nil))))) (pg_tup (by rfl) (pgs_cons (pg_name (i := 3) sc_diagram.nd rfl (.inl rfl)) (pgs_cons (pg_name (i := 4) sc_diagram.nd rfl (.inl rfl)) (pgs_cons (pg_name (i := 5) sc_diagram.nd rfl (.inl rfl)) (pgs_cons (pg_name (i := 6) sc_diagram.nd rfl (.inl rfl)) pgs_nil))))))
    (pss_one ps_continue)) pss_nil)
    (pss_cons (ps_if (pt_cmpR op_eq (pv 7) pe_str (nomark _)) (pss_cons (ps_expr (pe_bm PySem.F.plainAttrs_list PySem.F.slot_list_append PySem.F.type_list_append mt_append (pv 2) (pa_cons (pe_tup (pa_cons (pv 4) (pa_cons (pv 6) (pa_cons (pv 1) pa_nil)))) pa_nil)))
    (pss_one (ps_par (i := 4) (j := 6) (by rfl) sc_diagram.nd rfl rfl (by decide) rfl rfl (pa_cons (pv 1) (pa_cons (pv 4) pa_nil)) (by rfl)))) (pss_cons (ps_expr (pe_bm PySem.F.plainAttrs_list PySem.F.slot_list_append PySem.F.type_list_append mt_append (pv 2) (pa_cons (pe_tup (pa_cons (pv 6) (pa_cons (pv 4) (pa_cons (pv 1) pa_nil)))) pa_nil)))
    (pss_one (ps_par (i := 4) (j := 6) (by rfl) sc_diagram.nd rfl rfl (by decide) rfl rfl (pa_cons (pv 6) (pa_cons (pv 1) pa_nil)) (by rfl)))))
    (pss_one (ps_aug (i := 1) sc_diagram.nd rfl (.inl rfl) pe_int ip_add)))))
    (pss_one (ps_ret (pe_tup (pa_cons (pv 1) (pa_cons (pv 2) (pa_cons (pe_tup (pa_cons (pv 3) (pa_cons (pv 4) (pa_cons (pv 5) (pa_cons (pv 6) pa_nil))))) pa_nil)))))))))), ?_⟩
  have sz : 4 ≤ sizeLine := fits (by decide)
  have s3 : 3 ≤ sizeLine := fits (by decide)
  refine ⟨fits (by decide), fun p hp => ⟨sz, fun e0 he0 => ?_⟩⟩
  refine ⟨e0, _, rfl, SqT.of upd_same, rfl, _, _, rfl, _, _, rfl, _, _, rfl, _, _, rfl, rfl, ?_⟩
  refine ⟨_, rfl, _, rfl, for_str (l := l) (fun i σ H' => ∃ (x1 : Option V), σ = [some (.str (S l)), some (.int ((dg (l.take i)).n : Int)), some (.ref p), some (.int ((dg (l.take i)).a : Int)), some (.int ((dg (l.take i)).b : Int)), some (.int ((dg (l.take i)).c : Int)), some (.int ((dg (l.take i)).d : Int)), x1] ∧ Same H H' ∧ Crs H' p (dg (l.take i)).cs) ?_ ?_ ?_⟩
  · refine ⟨_, rfl, (same_new hp _).trans (same_new he0 _), [], ?_, rfl, fun i r c a _ => by cases a⟩
    rw [upd_ne (ne_of_none upd_same he0), upd_same]
    rfl
  · rintro i c σ H1 hc ⟨x1, rfl, sm, cr⟩
    have hi : i < l.length := (List.getElem?_eq_some_iff.mp hc).1
    have dl := dg_len (l.take i)
    rw [List.length_take] at dl
    have st := dg_take hc
    generalize dg (l.take i) = g at *
    refine ⟨_, rfl, rfl, _, rfl, ite2 (fun c1 => ?_) (fun c1 => ?_)⟩
    · have k1 : c = 82 := (sign_eq e_R).mp (of_decide_eq_true c1)
      have e1 : dg1 g c = ⟨g.n, g.cs, g.c, g.a, g.d, g.b⟩ := if_pos k1
      rw [e1] at st
      rw [st]
      refine ⟨_, rfl, _, rfl, _, rfl, _, rfl, sz, fun t ht => ⟨t, _, rfl, SqT.of upd_same, rfl, _, _, rfl, _, _, rfl, _, _, rfl, _, _, rfl, rfl, ?_⟩⟩
      exact ⟨_, rfl, sm.trans (same_new ht _), cr.same (same_new ht _)⟩
    have k1 : ¬ c = 82 := fun z => c1 (decide_eq_true ((sign_eq e_R).mpr z))
    refine ⟨_, rfl, rfl, _, rfl, ite2 (fun c2 => ?_) (fun c2 => ?_)⟩
    · have k2 : c = 84 := (sign_eq e_T).mp (of_decide_eq_true c2)
      have e1 : dg1 g c = ⟨g.n + 1, g.cs ++ [(g.b, g.d, g.n)], g.a, g.n, g.c, g.b⟩ := (if_neg k1).trans (if_pos k2)
      rw [e1] at st
      rw [st]
      obtain ⟨rs, hrs, _⟩ := cr
      refine ⟨_, rfl, .inl ⟨rfl, _, SqL.of hrs⟩, _, rfl, _, rfl, _, rfl, s3, fun t ht => ?_⟩
      obtain ⟨xs, hx, hl, cr'⟩ := Crs.push ⟨rs, hrs, ‹_›⟩ ht (g.b, g.d, g.n)
      refine ⟨p, xs, _, rfl, rfl, hx, Nat.lt_of_lt_of_le (show xs.length < 16777216 by omega) sizeLine_big, ?_⟩
      refine ⟨_, rfl, _, rfl, _, _, rfl, _, rfl, _, _, rfl, rfl, _, rfl, fun b o hb => ?_, cr'⟩
      rw [upd_ne (ne_of_none hb hp), upd_ne (ne_of_none (sm _ _ hb) ht)]
      exact sm _ _ hb
    · have k2 : ¬ c = 84 := fun z => c2 (decide_eq_true ((sign_eq e_T).mpr z))
      have e1 : dg1 g c = ⟨g.n + 1, g.cs ++ [(g.d, g.b, g.n)], g.a, g.d, g.c, g.n⟩ := (if_neg k1).trans (if_neg k2)
      rw [e1] at st
      rw [st]
      obtain ⟨rs, hrs, _⟩ := cr
      refine ⟨_, rfl, .inl ⟨rfl, _, SqL.of hrs⟩, _, rfl, _, rfl, _, rfl, s3, fun t ht => ?_⟩
      obtain ⟨xs, hx, hl, cr'⟩ := Crs.push ⟨rs, hrs, ‹_›⟩ ht (g.d, g.b, g.n)
      refine ⟨p, xs, _, rfl, rfl, hx, Nat.lt_of_lt_of_le (show xs.length < 16777216 by omega) sizeLine_big, ?_⟩
      refine ⟨_, rfl, _, rfl, _, _, rfl, _, rfl, _, _, rfl, rfl, _, rfl, fun b o hb => ?_, cr'⟩
      rw [upd_ne (ne_of_none hb hp), upd_ne (ne_of_none (sm _ _ hb) ht)]
      exact sm _ _ hb
  · rintro σ H1 ⟨x1, rfl, sm, cr⟩
    rw [List.take_of_length_le (Nat.le_refl _)] at cr ⊢
    exact ⟨_, rfl, _, rfl, _, rfl, _, rfl, _, rfl, _, rfl, sz, fun e he => ⟨s3, fun t ht => q t p _ ((sm.trans (same_new he _)).trans (same_new ht _)) hp ⟨e, upd_same, same_new ht _ _ _ upd_same, (cr.same (same_new he _)).same (same_new ht _)⟩⟩⟩
end
section
def dtC (c : Nat × Nat × Nat) : Dt := .tup [.int (c.1 : Int), .int (c.2.1 : Int), .int (c.2.2 : Int)]
def dtD (g : Dg) : Dt := .tup [.int (g.n : Int), .lst (g.cs.map dtC), .tup [.int (g.a : Int), .int (g.b : Int), .int (g.c : Int), .int (g.d : Int)]]
theorem int_is {H : Hp} {n : Nat} {i : Int} : Is H n (.int i) (.int i) := by cases n <;> rfl
theorem str_is {H : Hp} {n : Nat} {z : Str} : Is H n (.str z) (.str z) := by cases n <;> rfl
theorem is_tup {H : Hp} {n : Nat} {a : Addr} {xs : List V} {ds : List Dt} (h : H a = some (.tup xs)) (z : xs.length = ds.length) (m : ds.length ≤ 1000000) (k : ∀ (i : Nat) (x : V) (d : Dt), xs[i]? = some x → ds[i]? = some d → Is H n x d) : Is H (n + 1) (.ref a) (.tup ds) := ⟨a, xs, rfl, h, z, m, k⟩
theorem is_lst {H : Hp} {n : Nat} {a : Addr} {xs : List V} {ds : List Dt} (h : H a = some (.lst xs)) (z : xs.length = ds.length) (m : ds.length ≤ 1000000) (k : ∀ (i : Nat) (x : V) (d : Dt), xs[i]? = some x → ds[i]? = some d → Is H n x d) : Is H (n + 1) (.ref a) (.lst ds) := ⟨a, xs, rfl, h, z, m, k⟩
theorem Crs.is {H : Hp} {p : Addr} {cs : List (Nat × Nat × Nat)} (h : Crs H p cs) (hc : cs.length ≤ 1000000) : Is H 2 (.ref p) (.lst (cs.map dtC)) := by
  obtain ⟨rs, e, z, k⟩ := h
  refine is_lst e (by rw [List.length_map, List.length_map, z]) (by rw [List.length_map]; exact hc) fun i x d hx hd => ?_
  rw [List.getElem?_map] at hx hd
  cases hr : rs[i]? with
  | none => rw [hr] at hx; cases hx
  | some r =>
    cases hc' : cs[i]? with
    | none => rw [hc'] at hd; cases hd
    | some c =>
      rw [hr] at hx; rw [hc'] at hd
      cases hx; cases hd
      refine is_tup (k i r c hr hc') rfl (by show 3 ≤ 1000000; decide) fun j x d hx hd => ?_
      match j with
      | 0 => cases hx; cases hd; exact int_is
      | 1 => cases hx; cases hd; exact int_is
      | 2 => cases hx; cases hd; exact int_is
      | j + 3 => cases hx
theorem Diag.is {H : Hp} {t p : Addr} {g : Dg} (h : Diag H t p g) (hc : g.cs.length ≤ 1000000) : Is H 3 (.ref t) (dtD g) := by
  obtain ⟨e, a, b, c⟩ := h
  refine is_tup a rfl (by show 3 ≤ 1000000; decide) fun j x d hx hd => ?_
  match j with
  | 0 => cases hx; cases hd; exact int_is
  | 1 => cases hx; cases hd; exact c.is hc
  | 2 =>
    cases hx; cases hd
    refine is_tup b rfl (by show 4 ≤ 1000000; decide) fun j x d hx hd => ?_
    match j with
    | 0 => cases hx; cases hd; exact int_is
    | 1 => cases hx; cases hd; exact int_is
    | 2 => cases hx; cases hd; exact int_is
    | 3 => cases hx; cases hd; exact int_is
    | j + 4 => cases hx
  | j + 3 => cases hx
end
def spLaw (K : PySem.W.Frag) : Sp := fun vs H Q _ => ∃ (a : Addr) (ns : List Int), vs = [.ref a] ∧ SqL K H a (ns.map V.int) ∧ ns.length ≤ 63 ∧ ∀ H', Q (.bl true) H'
section
variable {P : Program} {w : World} {K : PySem.W.Frag} {mg : Str → Option Value} {base : Heap} {f : Addr} {fd : FuncData}
theorem ok_law (F : Fun K "law" "law" s_law f fd) (D_long_dance : Dfn P w K mg base "_law_long_dance" 4 ["tape", "k"] spLong) (D_tape : Dfn P w K mg base "_law_tape" 4 ["script", "k"] (spTape K)) (D_law_diagram : Dfn P w K mg base "_law_diagram" 4 ["dance"] spDiag) (D_diagram : Dfn P w K mg base "diagram" 4 ["dance"] spDiag) (D_same4 : Dfn P w K mg base "_law_same" 4 ["told", "due"] (spSame 4)) (y_range : mg "range" = none)  : FnOk P w K mg base CX0 5 f fd ["script"] (spLaw K) := by
  refine F.ok sc_law (fun vs H Q E h => ?_) (fun cdv A outer s H vs Q E hr h => ?_)
  · obtain ⟨sa, ns, rfl, hS, h63, q⟩ := h
    rfl
  obtain ⟨sa, ns, rfl, hS, h63, q⟩ := h
  refine ⟨_, (pss_cons (ps_for PassesOwn.never rfl (pi_range1 rfl y_range (pa_cons pe_int pa_nil)) (pg_name (i := 1) sc_law.nd rfl (.inl rfl))
    (pss_cons (ps_set (i := 2) sc_law.nd rfl (.inl rfl) (pe_do D_long_dance hr (pa_cons (pe_do D_tape hr (pa_cons (pv 0) (pa_cons (pv 1) pa_nil))) (pa_cons (pv 1) pa_nil))))
    (pss_cons (ps_set (i := 3) sc_law.nd rfl (.inl rfl) (pe_do D_law_diagram hr (pa_cons (pv 2) pa_nil)))
    (pss_cons (ps_set (i := 4) sc_law.nd rfl (.inl rfl) (pe_do D_diagram hr (pa_cons (pv 2) pa_nil)))
    (pss_cons (ps_if (pt_not (pt_val (pe_do D_same4 hr (pa_cons (pv 4) (pa_cons (pv 3) pa_nil))))) (pss_one (ps_ret pe_bl)) pss_nil)
    (pss_cons (ps_expr (pe_bm PySem.F.plainAttrs_list PySem.F.slot_list_append PySem.F.type_list_append mt_append (pe_ix ix_tup (pv 4) pe_int (fun _ _ => rfl)) (pa_cons (pe_tup (pa_cons pe_int (pa_cons pe_int (pa_cons pe_int pa_nil)))) pa_nil)))
    (pss_cons (ps_expr (pe_bm0 PySem.F.plainAttrs_list PySem.F.slot_list_reverse PySem.F.type_list_reverse mt_reverse (pe_ix ix_tup (pv 4) pe_int (fun _ _ => rfl))))
    (pss_one (ps_if (pt_not (pt_val (pe_do D_same4 hr (pa_cons (pe_do D_diagram hr (pa_cons (pv 2) pa_nil)) (pa_cons (pv 3) pa_nil))))) (pss_one (ps_ret pe_bl)) pss_nil)))))))))
    (pss_one (ps_ret pe_bl))), ?_⟩
  refine ⟨8, rfl, by decide, by decide, for_range (lo := 0) (n := 8) (fun i σ H' => ∃ (x1 x2 x3 x4 : Option V), σ = [some (.ref sa), x1, x2, x3, x4] ∧ Same H H') ?_ ?_ ?_⟩
  · exact ⟨_, _, _, _, rfl, Same.refl H⟩
  · rintro i σ H0 hi ⟨x1, x2, x3, x4, rfl, sm⟩
    refine ⟨_, rfl, _, rfl, sa, ns, 0 + (i : Int), rfl, sm.seq hS, by omega, fun tp H1 s1 ntp t1 => ?_⟩
    refine ⟨_, rfl, tp, 0 + (i : Int), rfl, t1, fun l H2 hl hz b2 t2 => ?_⟩
    have S2 : Same H0 H2 := ((But.of s1).trans b2).same (Same.refl H0) ntp
    have hz' : l.length ≤ 1000000 := by omega
    have hc : (dg l).cs.length ≤ 1000000 := Nat.le_trans (dg_len l) hz'
    refine ⟨_, rfl, l, rfl, hz', fun t p H3 s3 np d3 => ?_⟩
    refine ⟨_, rfl, l, rfl, hz', fun t' p' H4 s4 np' d4 => ?_⟩
    have d34 := d3.same s4
    refine ⟨_, rfl, _, rfl, _, _, _, rfl, d4.is hc, d34.is hc, _, rfl, iteF ?_⟩
    have hpp : p ≠ p' := by
      obtain ⟨_, _, _, _, e, _⟩ := d3
      exact ne_of_none e np'
    obtain ⟨e, ht, he, rs, hrs, zr, kr⟩ := d4
    have c3 : 3 ≤ sizeLine := fits (by decide)
    refine ⟨_, rfl, t', _, _, _, rfl, rfl, SqT.of ht, rfl, .inl ⟨rfl, _, SqL.of hrs⟩, c3, fun tz nz => ?_⟩
    refine ⟨p', _, _, rfl, rfl, same_new nz _ _ _ hrs, ?_, ?_⟩
    · rw [List.length_map, zr]
      exact Nat.lt_of_lt_of_le (show (dg l).cs.length < 16777216 by omega) sizeLine_big
    have nt : t' ≠ p' := ne_of ht hrs (by intro z; cases z)
    have B5 : But p' H4 (upd (upd H4 tz (.tup [.int 0, .int 0, .int 0])) p' (.lst (rs.map V.ref ++ [.ref tz]))) := (But.of (same_new nz _)).trans But.upd
    refine ⟨_, rfl, t', _, _, _, rfl, rfl, SqT.of (B5 _ _ nt ht), rfl, .inl ⟨rfl, _, SqL.of upd_same⟩, p', _, rfl, rfl, upd_same, ?_⟩
    have B6 := B5.trans (But.upd (a := p') (o := .lst (rs.map V.ref ++ [V.ref tz]).reverse))
    have d6 : Diag _ t p (dg l) := d34.but B6 hpp hrs
    refine ⟨_, rfl, l, rfl, hz', fun t7 p7 H7 s7 np7 d7 => ?_⟩
    refine ⟨_, rfl, _, _, _, rfl, d7.is hc, (d6.same s7).is hc, _, rfl, iteF ?_⟩
    refine ⟨_, _, _, _, rfl, (sm.trans S2).trans (Same.trans (fun b o hb => ?_) s7)⟩
    have h4 := s4 _ _ (s3 _ _ hb)
    exact B6 _ _ (ne_of_none (s3 _ _ hb) np') h4
  · rintro σ H' ⟨x1, x2, x3, x4, rfl, sm⟩
    exact q H'
end
theorem all_mk {l : PySem.W.OpenLaw} {w : World} {K : PySem.W.Frag} {h : Heap} {mg : Str → Option Value} {fa : Addr} (X : K.In h) (G : h.Ns mainGlobals mg) (hfa : mg "law" = some (.ref fa))
    {f0 f1 f2 f3 f4 f5 f6 f7 : Addr} {od0 an0 od1 an1 od2 an2 od3 an3 od4 an4 od5 an5 od6 an6 od7 an7 : Option Addr} {sl0 sl1 sl2 sl3 sl4 sl5 sl6 sl7 : Array (Option Value)}
    {oc0 kV0 dc0 pm0 cd0 ct0 oc1 kV1 dc1 pm1 cd1 ct1 oc2 kV2 dc2 pm2 cd2 ct2 oc3 kV3 dc3 pm3 cd3 ct3 oc4 kV4 dc4 pm4 cd4 ct4 oc5 kV5 dc5 pm5 cd5 ct5 oc6 kV6 dc6 pm6 cd6 ct6 oc7 kV7 dc7 pm7 cd7 ct7 : Value}
    (a0 : PySem.W.nsIn K mainGlobals "diagram" = some (some (.ref f0))) (l0 : K.lookup f0 = some ⟨oc0, od0, .func (PySem.W.fnOf "diagram" "diagram" (defArgs s_diagram) (defBody s_diagram) (defScope s_diagram) .none kV0 dc0 pm0 an0 cd0 ct0), sl0⟩) (c0 : PySem.W.codeIn K cd0 "diagram" = true) (k0 : PySem.W.keepIn K (.ref f0) = true)
    (a1 : PySem.W.nsIn K mainGlobals "_law_tape" = some (some (.ref f1))) (l1 : K.lookup f1 = some ⟨oc1, od1, .func (PySem.W.fnOf "_law_tape" "_law_tape" (defArgs s_law_tape) (defBody s_law_tape) (defScope s_law_tape) .none kV1 dc1 pm1 an1 cd1 ct1), sl1⟩) (c1 : PySem.W.codeIn K cd1 "_law_tape" = true) (k1 : PySem.W.keepIn K (.ref f1) = true)
    (a2 : PySem.W.nsIn K mainGlobals "_law_take" = some (some (.ref f2))) (l2 : K.lookup f2 = some ⟨oc2, od2, .func (PySem.W.fnOf "_law_take" "_law_take" (defArgs s_law_take) (defBody s_law_take) (defScope s_law_take) .none kV2 dc2 pm2 an2 cd2 ct2), sl2⟩) (c2 : PySem.W.codeIn K cd2 "_law_take" = true) (k2 : PySem.W.keepIn K (.ref f2) = true)
    (a3 : PySem.W.nsIn K mainGlobals "_law_dance" = some (some (.ref f3))) (l3 : K.lookup f3 = some ⟨oc3, od3, .func (PySem.W.fnOf "_law_dance" "_law_dance" (defArgs s_law_dance) (defBody s_law_dance) (defScope s_law_dance) .none kV3 dc3 pm3 an3 cd3 ct3), sl3⟩) (c3 : PySem.W.codeIn K cd3 "_law_dance" = true) (k3 : PySem.W.keepIn K (.ref f3) = true)
    (a4 : PySem.W.nsIn K mainGlobals "_law_same" = some (some (.ref f4))) (l4 : K.lookup f4 = some ⟨oc4, od4, .func (PySem.W.fnOf "_law_same" "_law_same" (defArgs s_law_same) (defBody s_law_same) (defScope s_law_same) .none kV4 dc4 pm4 an4 cd4 ct4), sl4⟩) (c4 : PySem.W.codeIn K cd4 "_law_same" = true) (k4 : PySem.W.keepIn K (.ref f4) = true)
    (a5 : PySem.W.nsIn K mainGlobals "_law_diagram" = some (some (.ref f5))) (l5 : K.lookup f5 = some ⟨oc5, od5, .func (PySem.W.fnOf "_law_diagram" "_law_diagram" (defArgs s_law_diagram) (defBody s_law_diagram) (defScope s_law_diagram) .none kV5 dc5 pm5 an5 cd5 ct5), sl5⟩) (c5 : PySem.W.codeIn K cd5 "_law_diagram" = true) (k5 : PySem.W.keepIn K (.ref f5) = true)
    (a6 : PySem.W.nsIn K mainGlobals "_law_long_dance" = some (some (.ref f6))) (l6 : K.lookup f6 = some ⟨oc6, od6, .func (PySem.W.fnOf "_law_long_dance" "_law_long_dance" (defArgs s_law_long_dance) (defBody s_law_long_dance) (defScope s_law_long_dance) .none kV6 dc6 pm6 an6 cd6 ct6), sl6⟩) (c6 : PySem.W.codeIn K cd6 "_law_long_dance" = true) (k6 : PySem.W.keepIn K (.ref f6) = true)
    (a7 : PySem.W.nsIn K mainGlobals "law" = some (some (.ref f7))) (l7 : K.lookup f7 = some ⟨oc7, od7, .func (PySem.W.fnOf "law" "law" (defArgs s_law) (defBody s_law) (defScope s_law) .none kV7 dc7 pm7 an7 cd7 ct7), sl7⟩) (c7 : PySem.W.codeIn K cd7 "law" = true) (k7 : PySem.W.keepIn K (.ref f7) = true)
    (z_len : PySem.W.nsIn K mainGlobals "len" = some none)
    (z_abs : PySem.W.nsIn K mainGlobals "abs" = some none)
    (z_int : PySem.W.nsIn K mainGlobals "int" = some none)
    (z_range : PySem.W.nsIn K mainGlobals "range" = some none)
    (z_isinstance : PySem.W.nsIn K mainGlobals "isinstance" = some none)
    (z_tuple : PySem.W.nsIn K mainGlobals "tuple" = some none)
    (z_list : PySem.W.nsIn K mainGlobals "list" = some none)
    (z_str : PySem.W.nsIn K mainGlobals "str" = some none)
    (z_bool : PySem.W.nsIn K mainGlobals "bool" = some none) :
    ∃ fd : FuncData, (∀ (s : Shared) (v : Value), BindsTo s fd ⟨[v], []⟩ [("script", v)]) ∧ ∀ base : Heap, K.In base → base.Ns mainGlobals mg → FnOk l.prog w K mg base CX0 5 fa fd ["script"] (spLaw K) := by
  have e := hfa.symm.trans (PySem.W.mg_of X G a7)
  cases e
  have F_diagram := fun_mk (st := s_diagram) l0 c0 k0
  have m_diagram := PySem.W.mg_of X G a0
  have b_diagram := F_diagram.binds (ps := ["dance"]) fun _ _ _ _ _ _ us hl => match us, hl with | [_], _ => rfl
  have F__law_tape := fun_mk (st := s_law_tape) l1 c1 k1
  have m__law_tape := PySem.W.mg_of X G a1
  have b__law_tape := F__law_tape.binds (ps := ["script", "k"]) fun _ _ _ _ _ _ us hl => match us, hl with | [_, _], _ => rfl
  have F__law_take := fun_mk (st := s_law_take) l2 c2 k2
  have m__law_take := PySem.W.mg_of X G a2
  have b__law_take := F__law_take.binds (ps := ["tape", "many"]) fun _ _ _ _ _ _ us hl => match us, hl with | [_, _], _ => rfl
  have F__law_dance := fun_mk (st := s_law_dance) l3 c3 k3
  have m__law_dance := PySem.W.mg_of X G a3
  have b__law_dance := F__law_dance.binds (ps := ["tape", "most"]) fun _ _ _ _ _ _ us hl => match us, hl with | [_, _], _ => rfl
  have F__law_same := fun_mk (st := s_law_same) l4 c4 k4
  have m__law_same := PySem.W.mg_of X G a4
  have b__law_same := F__law_same.binds (ps := ["told", "due"]) fun _ _ _ _ _ _ us hl => match us, hl with | [_, _], _ => rfl
  have F__law_diagram := fun_mk (st := s_law_diagram) l5 c5 k5
  have m__law_diagram := PySem.W.mg_of X G a5
  have b__law_diagram := F__law_diagram.binds (ps := ["dance"]) fun _ _ _ _ _ _ us hl => match us, hl with | [_], _ => rfl
  have F__law_long_dance := fun_mk (st := s_law_long_dance) l6 c6 k6
  have m__law_long_dance := PySem.W.mg_of X G a6
  have b__law_long_dance := F__law_long_dance.binds (ps := ["tape", "k"]) fun _ _ _ _ _ _ us hl => match us, hl with | [_, _], _ => rfl
  have F_law := fun_mk (st := s_law) l7 c7 k7
  have m_law := PySem.W.mg_of X G a7
  have b_law := F_law.binds (ps := ["script"]) fun _ _ _ _ _ _ us hl => match us, hl with | [_], _ => rfl
  have y_len := PySem.W.mg_none_of X G z_len
  have y_abs := PySem.W.mg_none_of X G z_abs
  have y_int := PySem.W.mg_none_of X G z_int
  have y_range := PySem.W.mg_none_of X G z_range
  have y_isinstance := PySem.W.mg_none_of X G z_isinstance
  have y_tuple := PySem.W.mg_none_of X G z_tuple
  have y_list := PySem.W.mg_none_of X G z_list
  have y_str := PySem.W.mg_none_of X G z_str
  have y_bool := PySem.W.mg_none_of X G z_bool
  refine ⟨PySem.W.fnOf "law" "law" (defArgs s_law) (defBody s_law) (defScope s_law) .none kV7 dc7 pm7 an7 cd7 ct7, fun s v => .of_eq rfl, fun base _ _ => ?_⟩
  have D_tape : Dfn l.prog w K mg base "_law_tape" 1 _ (spTape K) := ⟨_, _, ok_tape F__law_tape y_len y_abs y_int, m__law_tape, F__law_tape.kp, b__law_tape⟩
  have D_take : Dfn l.prog w K mg base "_law_take" 1 _ spTake := ⟨_, _, ok_take F__law_take y_int, m__law_take, F__law_take.kp, b__law_take⟩
  have D_dance : Dfn l.prog w K mg base "_law_dance" 2 _ spDance := ⟨_, _, ok_dance F__law_dance D_take y_range, m__law_dance, F__law_dance.kp, b__law_dance⟩
  have D_long_dance : Dfn l.prog w K mg base "_law_long_dance" 3 _ spLong := ⟨_, _, ok_long F__law_long_dance D_take D_dance, m__law_long_dance, F__law_long_dance.kp, b__law_long_dance⟩
  have D_same0 : Dfn l.prog w K mg base "_law_same" 0 _ (spSame 0) := ⟨_, _, none_same, m__law_same, F__law_same.kp, b__law_same⟩
  have D_same1 : Dfn l.prog w K mg base "_law_same" 1 _ (spSame 1) := ⟨_, _, ok_same F__law_same D_same0 y_isinstance y_tuple y_list y_len y_range y_str y_int y_bool, m__law_same, F__law_same.kp, b__law_same⟩
  have D_same2 : Dfn l.prog w K mg base "_law_same" 2 _ (spSame 2) := ⟨_, _, ok_same F__law_same D_same1 y_isinstance y_tuple y_list y_len y_range y_str y_int y_bool, m__law_same, F__law_same.kp, b__law_same⟩
  have D_same3 : Dfn l.prog w K mg base "_law_same" 3 _ (spSame 3) := ⟨_, _, ok_same F__law_same D_same2 y_isinstance y_tuple y_list y_len y_range y_str y_int y_bool, m__law_same, F__law_same.kp, b__law_same⟩
  have D_same4 : Dfn l.prog w K mg base "_law_same" 4 _ (spSame 4) := ⟨_, _, ok_same F__law_same D_same3 y_isinstance y_tuple y_list y_len y_range y_str y_int y_bool, m__law_same, F__law_same.kp, b__law_same⟩
  have D_law_diagram : Dfn l.prog w K mg base "_law_diagram" 1 _ spDiag := ⟨_, _, ok_law_diagram F__law_diagram  , m__law_diagram, F__law_diagram.kp, b__law_diagram⟩
  have D_diagram : Dfn l.prog w K mg base "diagram" 1 _ spDiag := ⟨_, _, ok_diagram F_diagram  , m_diagram, F_diagram.kp, b_diagram⟩
  exact ok_law F_law (D_long_dance.mono (by decide)) (D_tape.mono (by decide)) (D_law_diagram.mono (by decide)) (D_diagram.mono (by decide)) D_same4 y_range
theorem walk {l : PySem.W.OpenLaw} {q : Program} {loose : List Str} {XP : (Str → Option Value) → Heap → Prop} {YP : World → Heap → Prop} {d : DefRec} {K : Params → PySem.W.Frag} (hn : l.most = some 63) (hdf : d.params.defaults = [])
    (hY : ∀ (w : World) (h : Heap), YP w h → (K w.params).In h)
    (F : ∀ (w : World) (mg : Str → Option Value) (fa : Addr) (h : Heap), (K w.params).In h → h.Ns mainGlobals mg → mg d.name = some (.ref fa) →
      ∃ fd : FuncData, (∀ (s : Shared) (u : Value), BindsTo s fd ⟨[u], []⟩ [("script", u)]) ∧ ∀ base : Heap, (K w.params).In base → base.Ns mainGlobals mg → FnOk l.prog w (K w.params) mg base CX0 5 fa fd ["script"] (spLaw (K w.params))) :
    PySem.W.WalkO q loose XP YP l.row.toRowW d [] (fun f vs => PySem.call f vs) :=
  L2.walk_of (n := 63) (k := 5) (x := "script") (CX := fun _ => CX0) (sp := fun w => spLaw (K w.params)) hn (by decide) hdf ⟨rfl, by decide, by decide⟩ hY F (fun _ _ a ns hl _ hS => ⟨a, ns, rfl, hS, hl, fun _ => rfl⟩) fun _ _ _ _ _ z => z
end Rope
open PySem PySem.W PyProof.Rows
set_option maxRecDepth 100000 in
set_option maxHeartbeats 0 in
theorem PySem.Challenge.cw_ropedance_k10_diagrams_holds : PySem.Challenge.rw_ropedance_k10_diagrams.Holds := by
  w_on; o_law; k_head; (case hw => w_witness2)
  k_fill
  refine Rope.walk (l := PySem.Challenge.rw_ropedance_k10_diagrams) rfl rfl (fun w h Y => PySem.W.kIn_of Y) ?F
  case F =>
    intro w mg fa h KX G hmg
    refine' Rope.all_mk KX G hmg ?a0 ?l0 ?c0 ?k0 ?a1 ?l1 ?c1 ?k1 ?a2 ?l2 ?c2 ?k2 ?a3 ?l3 ?c3 ?k3 ?a4 ?l4 ?c4 ?k4 ?a5 ?l5 ?c5 ?k5 ?a6 ?l6 ?c6 ?k6 ?a7 ?l7 ?c7 ?k7 ?z_len ?z_abs ?z_int ?z_range ?z_isinstance ?z_tuple ?z_list ?z_str ?z_bool
    (case a0 => k_is)
    (case l0 => k_is)
    (case c0 => k_is)
    (case k0 => k_is)
    (case a1 => k_is)
    (case l1 => k_is)
    (case c1 => k_is)
    (case k1 => k_is)
    (case a2 => k_is)
    (case l2 => k_is)
    (case c2 => k_is)
    (case k2 => k_is)
    (case a3 => k_is)
    (case l3 => k_is)
    (case c3 => k_is)
    (case k3 => k_is)
    (case a4 => k_is)
    (case l4 => k_is)
    (case c4 => k_is)
    (case k4 => k_is)
    (case a5 => k_is)
    (case l5 => k_is)
    (case c5 => k_is)
    (case k5 => k_is)
    (case a6 => k_is)
    (case l6 => k_is)
    (case c6 => k_is)
    (case k6 => k_is)
    (case a7 => k_is)
    (case l7 => k_is)
    (case c7 => k_is)
    (case k7 => k_is)
    (case z_len => k_is)
    (case z_abs => k_is)
    (case z_int => k_is)
    (case z_range => k_is)
    (case z_isinstance => k_is)
    (case z_tuple => k_is)
    (case z_list => k_is)
    (case z_str => k_is)
    (case z_bool => k_is)
