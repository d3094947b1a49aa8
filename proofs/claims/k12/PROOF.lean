import PyProof.Rows.All
import Wide.All
import OpenK.AllK
import Wide.FinOn
import PyProof.NoPylong
import Flt.Len
import HandS.ForExc
import HandS.Wide
import HandS.Gcd
import HandS.IsInst
import HandS.Evl
import HandS.Iter
import HandS.ExcInit
import HandS.ExcField
import HandS.ExcCtx
import HandS.HotCalls
import HandS.ExcInitHot
import HandS.TupLe
import Flt.RightSqrt
import PySem.Challenge.RW_everyfield_k12_primes
set_option Elab.async false
set_option linter.all false
set_option maxRecDepth 100000
set_option maxHeartbeats 4000000
set_option exponentiation.threshold 20000
namespace My
open PySem PySem.Spec PyProof.Rows L2
def top (i : Nat) : Stmt := PySem.Challenge.pw_everyfield_k12_primes.main.body.getD i (.Pass ⟨0, 0, 0, 0⟩)
def Pr (n : Int) : Prop := 2 ≤ n ∧ ∀ m : Int, 2 ≤ m → m < n → ¬ m ∣ n
noncomputable def prB (n : Int) : Bool := @decide (Pr n) (Classical.propDecidable _)
theorem prB_true {n : Int} (h : Pr n) : prB n = true := by unfold prB; exact @decide_eq_true _ (Classical.propDecidable _) h
theorem prB_false {n : Int} (h : ¬ Pr n) : prB n = false := by unfold prB; exact @decide_eq_false _ (Classical.propDecidable _) h
theorem prB_iff {n : Int} : prB n = true ↔ Pr n := by unfold prB; exact @decide_eq_true_iff _ (Classical.propDecidable _)
/-- r is the least divisor of n from 2 on -/
structure Least (n r : Int) : Prop where
  two : 2 ≤ r
  dvd : r ∣ n
  min : ∀ m : Int, 2 ≤ m → m < r → ¬ m ∣ n
theorem Least.le {n r : Int} (h : Least n r) (hn : 2 ≤ n) : r ≤ n := Int.le_of_dvd (by omega) h.dvd
theorem Least.pr {n r : Int} (h : Least n r) : Pr r := ⟨h.two, fun m h1 h2 h3 => h.min m h1 h2 (Int.dvd_trans h3 h.dvd)⟩
theorem Least.uniq {n r r' : Int} (h : Least n r) (h' : Least n r') : r = r' := by
  rcases Int.lt_trichotomy r r' with c | c | c
  · exact absurd h.dvd (h'.min r h.two c)
  · exact c
  · exact absurd h'.dvd (h.min r' h'.two c)
theorem Least.self {n r : Int} (h : Least n r) (hn : 2 ≤ n) : r = n ↔ Pr n := by
  constructor
  · intro e
    rw [e] at h
    exact h.pr
  · intro p
    have := h.le hn
    by_cases c : r = n
    · exact c
    · exact absurd h.dvd (p.2 r h.two (by omega))
/-- a proper divisor: one at most the root -/
theorem small_div {n m s : Int} (hn : 2 ≤ n) (h2 : 2 ≤ m) (hm : m < n) (hd : m ∣ n) (hs0 : 0 ≤ s) (hs : n < (s + 1) * (s + 1)) : ∃ d : Int, 2 ≤ d ∧ d ≤ s ∧ d ≤ m ∧ d ∣ n := by
  obtain ⟨k, e⟩ := hd
  have hk : 2 ≤ k := by
    rcases Int.lt_trichotomy k 1 with c | c | c
    · have : m * k ≤ m * 0 := Int.mul_le_mul_of_nonneg_left (by omega) (by omega)
      omega
    · subst c
      omega
    · omega
  by_cases c : m ≤ s
  · exact ⟨m, h2, c, Int.le_refl _, ⟨k, e⟩⟩
  · refine ⟨k, hk, ?_, ?_, ⟨m, by rw [e, Int.mul_comm]⟩⟩
    · by_cases c2 : k ≤ s
      · exact c2
      · have : (s + 1) * (s + 1) ≤ m * k := Int.mul_le_mul (by omega) (by omega) (by omega) (by omega)
        omega
    · by_cases c2 : k ≤ m
      · exact c2
      · have c3 : k ≤ s := by
          by_cases c4 : k ≤ s
          · exact c4
          · have : (s + 1) * (s + 1) ≤ m * k := Int.mul_le_mul (by omega) (by omega) (by omega) (by omega)
            omega
        omega
/-- the trial over the odd ints: what is left at its end -/
theorem least_of_odd {n s : Int} (hn : 2 ≤ n) (h2 : ¬ (2 : Int) ∣ n) (hs0 : 0 ≤ s) (hs : n < (s + 1) * (s + 1)) (h : ∀ i : Nat, 3 + (i : Int) * 2 ≤ s → ¬ (3 + (i : Int) * 2) ∣ n) : Least n n := by
  refine ⟨hn, Int.dvd_refl n, fun m h1 hm hd => ?_⟩
  obtain ⟨d, d2, ds, _, dn⟩ := small_div hn h1 hm hd hs0 hs
  have odd : d % 2 = 1 := by
    have := Int.emod_two_eq d
    rcases this with e | e
    · exact absurd (Int.dvd_trans (Int.dvd_of_emod_eq_zero e) dn) h2
    · exact e
  have e : d = 3 + ((((d - 3) / 2).toNat : Nat) : Int) * 2 := by omega
  exact h ((d - 3) / 2).toNat (by omega) (e ▸ dn)
theorem least_at {n : Int} {i : Nat} (h2 : ¬ (2 : Int) ∣ n) (hd : (3 + (i : Int) * 2) ∣ n) (h : ∀ j : Nat, j < i → ¬ (3 + (j : Int) * 2) ∣ n) : Least n (3 + (i : Int) * 2) := by
  refine ⟨by omega, hd, fun m h1 hm hdv => ?_⟩
  have odd : m % 2 = 1 := by
    have := Int.emod_two_eq m
    rcases this with e | e
    · exact absurd (Int.dvd_trans (Int.dvd_of_emod_eq_zero e) hdv) h2
    · exact e
  have e : m = 3 + ((((m - 3) / 2).toNat : Nat) : Int) * 2 := by omega
  exact h ((m - 3) / 2).toNat (by omega) (e ▸ hdv)
theorem least_two {n : Int} (h : (2 : Int) ∣ n) : Least n 2 := ⟨by omega, h, fun m h1 h2 => by omega⟩
/-- every int from 2 on has a least divisor -/
theorem least_ex {n : Int} (hn : 2 ≤ n) : ∃ r, Least n r := by
  have key : ∀ (k : Nat) (r : Int), n - r ≤ k → 2 ≤ r → r ≤ n → (∀ m : Int, 2 ≤ m → m < r → ¬ m ∣ n) → ∃ r, Least n r := by
    intro k
    induction k with
    | zero =>
      intro r h1 h2 h3 h4
      have : r = n := by omega
      subst this
      exact ⟨r, h2, Int.dvd_refl r, h4⟩
    | succ k ih =>
      intro r h1 h2 h3 h4
      by_cases c : r ∣ n
      · exact ⟨r, h2, c, h4⟩
      · by_cases e : r = n
        · exact absurd (e ▸ Int.dvd_refl r) c
        · refine ih (r + 1) (by omega) (by omega) (by omega) fun m hm1 hm2 => ?_
          by_cases e2 : m = r
          · rw [e2]
            exact c
          · exact h4 m hm1 (by omega)
  exact key (n - 2).toNat 2 (by omega) (by omega) hn (fun m h1 h2 => by omega)
/-- a check of a prime by trial, for the kernel -/
def trial (n : Nat) : Nat → Nat → Bool
  | 0, _ => false
  | f + 1, k => if n < k * k then true else if n % k = 0 then false else trial n f (k + 1)
theorem trial_ok {n : Nat} (hn : 2 ≤ n) : ∀ (f k : Nat), 2 ≤ k → (∀ m : Nat, 2 ≤ m → m < k → ¬ m ∣ n) → trial n f k = true → Pr (n : Int) := by
  intro f
  induction f with
  | zero => intro k _ _ h; exact absurd h (by simp [trial])
  | succ f ih =>
    intro k hk hm h
    unfold trial at h
    by_cases c : n < k * k
    · refine ⟨by omega, fun m h1 h2 h3 => ?_⟩
      obtain ⟨d, d2, ds, _, dn⟩ := small_div (n := n) (s := (k : Int) - 1) (by omega) h1 h2 h3 (by omega) (by
        rw [Int.sub_add_cancel]
        exact_mod_cast c)
      refine hm d.toNat (by omega) (by omega) ?_
      have : ((d.toNat : Nat) : Int) ∣ (n : Int) := by rw [Int.toNat_of_nonneg (by omega)]; exact dn
      exact Int.natCast_dvd_natCast.mp this
    · rw [if_neg c] at h
      by_cases c2 : n % k = 0
      · rw [if_pos c2] at h
        exact absurd h (by simp)
      · rw [if_neg c2] at h
        refine ih (k + 1) (by omega) (fun m h1 h2 h3 => ?_) h
        by_cases e : m = k
        · subst e
          exact c2 (Nat.mod_eq_zero_of_dvd h3)
        · exact hm m h1 (by omega) h3
theorem pr_of_trial {n : Nat} (f : Nat) (h : (decide (2 ≤ n) && trial n f 2) = true) : Pr (n : Int) := by
  rw [Bool.and_eq_true] at h
  exact trial_ok (of_decide_eq_true h.1) f 2 (by omega) (fun m h1 h2 => by omega) h.2
theorem pr_10007 : Pr 10007 := pr_of_trial (n := 10007) 200 (by decide +kernel)
/-- a prime divides a factor -/
theorem pr_mul {q a b : Int} (hq : Pr q) (h : q ∣ a * b) : q ∣ a ∨ q ∣ b := by
  by_cases c : q ∣ a
  · exact .inl c
  · refine .inr ?_
    have hco : Nat.Coprime q.natAbs a.natAbs := by
      have g1 : Nat.gcd q.natAbs a.natAbs ∣ q.natAbs := Nat.gcd_dvd_left _ _
      have g2 : Nat.gcd q.natAbs a.natAbs ∣ a.natAbs := Nat.gcd_dvd_right _ _
      have hq2 := hq.1
      generalize hg : Nat.gcd q.natAbs a.natAbs = g at *
      have gi : (g : Int) ∣ q := Int.natAbs_dvd_natAbs.mp (by rw [Int.natAbs_natCast]; exact g1)
      have ga : (g : Int) ∣ a := Int.natAbs_dvd_natAbs.mp (by rw [Int.natAbs_natCast]; exact g2)
      have gpos : 0 < g := by
        rcases Nat.eq_zero_or_pos g with z | z
        · rw [z] at gi
          have := Int.zero_dvd.mp gi
          omega
        · exact z
      have gle : (g : Int) ≤ q := Int.le_of_dvd (by omega) gi
      by_cases g1' : g = 1
      · unfold Nat.Coprime
        rw [hg, g1']
      · by_cases g2' : (g : Int) = q
        · rw [g2'] at ga
          exact absurd ga c
        · exact absurd gi (hq.2 g (by omega) (by omega))
    have h2 : q.natAbs ∣ a.natAbs * b.natAbs := by
      rw [← Int.natAbs_mul]
      exact Int.natAbs_dvd_natAbs.mpr h
    exact Int.natAbs_dvd_natAbs.mp (Nat.Coprime.dvd_of_dvd_mul_left hco h2)
theorem pr_dvd_pr {p q : Int} (hp : Pr p) (hq : Pr q) (h : q ∣ p) : q = p := by
  have := Int.le_of_dvd (by have := hp.1; omega) h
  by_cases c : q = p
  · exact c
  · exact absurd h (hp.2 q hq.1 (by omega))
/-- l tells the primes that divide n, ascending -/
def PD (n : Int) (l : List Int) : Prop := l.Pairwise (· < ·) ∧ ∀ q, q ∈ l ↔ Pr q ∧ q ∣ n
theorem sorted_uniq : ∀ {l m : List Int}, l.Pairwise (· < ·) → m.Pairwise (· < ·) → (∀ q, q ∈ l ↔ q ∈ m) → l = m
  | [], [], _, _, _ => rfl
  | [], b :: m, _, _, h => absurd ((h b).mpr List.mem_cons_self) (by simp)
  | a :: l, [], _, _, h => absurd ((h a).mp List.mem_cons_self) (by simp)
  | a :: l, b :: m, hl, hm, h => by
    rw [List.pairwise_cons] at hl hm
    have hab : a = b := by
      rcases List.mem_cons.mp ((h a).mp List.mem_cons_self) with e | e
      · exact e
      · rcases List.mem_cons.mp ((h b).mpr List.mem_cons_self) with e2 | e2
        · exact e2.symm
        · have := hm.1 a e
          have := hl.1 b e2
          omega
    subst hab
    rw [sorted_uniq hl.2 hm.2 fun q => ?_]
    constructor
    · intro hq
      have := hl.1 q hq
      rcases List.mem_cons.mp ((h q).mp (List.mem_cons_of_mem _ hq)) with e | e
      · omega
      · exact e
    · intro hq
      have := hm.1 q hq
      rcases List.mem_cons.mp ((h q).mpr (List.mem_cons_of_mem _ hq)) with e | e
      · omega
      · exact e
theorem PD.uniq {n : Int} {l m : List Int} (h : PD n l) (h' : PD n m) : l = m := sorted_uniq h.1 h'.1 fun q => (h.2 q).trans (h'.2 q).symm
/-- what holds between two turns: fs found, r left of n; every prime of r is at least d, those found are less -/
structure Fac (n : Int) (fs : List Int) (r d : Int) : Prop where
  pos : 1 ≤ r
  dv : r ∣ n
  asc : fs.Pairwise (· < ·)
  low : ∀ f ∈ fs, f < d
  mem : ∀ f ∈ fs, Pr f ∧ f ∣ n
  all : ∀ q, Pr q → q ∣ n → q ∣ r ∨ q ∈ fs
  up : ∀ q, Pr q → q ∣ r → d ≤ q
  len : (2 : Int) ^ fs.length * r ≤ n
theorem fac0 {n : Int} (hn : 1 ≤ n) : Fac n [] n 2 := ⟨hn, Int.dvd_refl n, List.Pairwise.nil, (fun _ h => nomatch h), (fun _ h => nomatch h), (fun q _ h => .inl h), (fun q h _ => h.1), by show (2 : Int) ^ 0 * n ≤ n; omega⟩
/-- within the inner loop: r0 at its start, p taken out -/
structure Tak (r0 p r : Int) : Prop where
  pos : 1 ≤ r
  dv : r ∣ r0
  keep : ∀ q, Pr q → q ∣ r0 → q ∣ r ∨ q = p
  half : r = r0 ∨ 2 * r ≤ r0
theorem tak0 {r0 p : Int} (h : 1 ≤ r0) : Tak r0 p r0 := ⟨h, Int.dvd_refl _, fun q _ h => .inl h, .inl rfl⟩
theorem tak_step {r0 p r : Int} (hp : Pr p) (h : Tak r0 p r) (hd : p ∣ r) : Tak r0 p (r / p) ∧ r / p < r := by
  have hp2 := hp.1
  have hpos := h.pos
  obtain ⟨k, e⟩ := hd
  have ek : r / p = k := by rw [e, Int.mul_ediv_cancel_left _ (by omega)]
  rw [ek]
  have k1 : 1 ≤ k := by
    by_cases c : 1 ≤ k
    · exact c
    · have : p * k ≤ p * 0 := Int.mul_le_mul_of_nonneg_left (by omega) (by omega)
      omega
  have k2 : 2 * k ≤ r := by
    have : 2 * k ≤ p * k := Int.mul_le_mul_of_nonneg_right hp2 (by omega)
    omega
  refine ⟨⟨k1, Int.dvd_trans ⟨p, by rw [e, Int.mul_comm]⟩ h.dv, fun q hq hd => ?_, .inr ?_⟩, by omega⟩
  · rcases h.keep q hq hd with c | c
    · rw [e] at c
      rcases pr_mul hq c with c2 | c2
      · exact .inr (pr_dvd_pr hp hq c2)
      · exact .inl c2
    · exact .inr c
  · rcases h.half with c | c <;> omega
/-- behind the inner loop -/
theorem fac_step {n : Int} {fs : List Int} {r0 d p r : Int} (F : Fac n fs r0 d) (hp : Pr p) (hd : p ∣ r0) (T : Tak r0 p r) (hn : ¬ p ∣ r) (hmin : ∀ q, Pr q → q ∣ r0 → p ≤ q) : Fac n (fs ++ [p]) r (p + 1) ∧ r < r0 := by
  have hr : 2 * r ≤ r0 := T.half.resolve_left fun e => hn (e ▸ hd)
  have hdp : d ≤ p := F.up p hp hd
  refine ⟨⟨T.pos, Int.dvd_trans T.dv F.dv, ?_, ?_, ?_, ?_, ?_, ?_⟩, by have := T.pos; omega⟩
  · rw [List.pairwise_append]
    refine ⟨F.asc, List.pairwise_singleton _ _, fun a ha b hb => ?_⟩
    rw [List.mem_singleton.mp hb]
    have := F.low a ha
    omega
  · intro f hf
    rcases List.mem_append.mp hf with h | h
    · have := F.low f h
      omega
    · rw [List.mem_singleton.mp h]
      omega
  · intro f hf
    rcases List.mem_append.mp hf with h | h
    · exact F.mem f h
    · rw [List.mem_singleton.mp h]
      exact ⟨hp, Int.dvd_trans hd F.dv⟩
  · intro q hq h
    rcases F.all q hq h with c | c
    · rcases T.keep q hq c with c2 | c2
      · exact .inl c2
      · exact .inr (List.mem_append_right _ (by rw [c2]; exact List.mem_singleton.mpr rfl))
    · exact .inr (List.mem_append_left _ c)
  · intro q hq h
    have h1 := hmin q hq (Int.dvd_trans h T.dv)
    by_cases c : q = p
    · exact absurd (c ▸ h) hn
    · omega
  · rw [List.length_append]
    show (2 : Int) ^ (fs.length + 1) * r ≤ n
    rw [Int.pow_succ, Int.mul_assoc]
    have h1 : (2 : Int) ^ fs.length * (2 * r) ≤ 2 ^ fs.length * r0 := Int.mul_le_mul_of_nonneg_left hr (Int.pow_nonneg (by decide))
    have := F.len
    omega
theorem fac_end {n : Int} {fs : List Int} {d : Int} (F : Fac n fs 1 d) : PD n fs := by
  refine ⟨F.asc, fun q => ⟨F.mem q, fun ⟨h1, h2⟩ => (F.all q h1 h2).resolve_left fun c => ?_⟩⟩
  have := Int.le_of_dvd (by decide) c
  have := h1.1
  omega
theorem fac_len {n : Int} {fs : List Int} {r d : Int} (F : Fac n fs r d) (hn : n < 2 ^ 62) : fs.length < 62 := by
  by_cases c : fs.length < 62
  · exact c
  · have h1 : (2 : Int) ^ 62 ≤ 2 ^ fs.length := by
      have : (2 : Nat) ^ 62 ≤ 2 ^ fs.length := Nat.pow_le_pow_right (by decide) (by omega)
      have h2 := Int.ofNat_le.mpr this
      rw [Int.natCast_pow, Int.natCast_pow] at h2
      exact h2
    have h2 : (2 : Int) ^ fs.length * 1 ≤ 2 ^ fs.length * r := Int.mul_le_mul_of_nonneg_left F.pos (Int.pow_nonneg (by decide))
    have := F.len
    omega
theorem fac_up {n : Int} {fs : List Int} {r d : Int} (F : Fac n fs r d) (h : ¬ d ∣ r) : Fac n fs r (d + 1) := by
  refine ⟨F.pos, F.dv, F.asc, fun f hf => by have := F.low f hf; omega, F.mem, F.all, fun q h1 h2 => ?_, F.len⟩
  have := F.up q h1 h2
  by_cases c : q = d
  · exact absurd (c ▸ h2) h
  · omega
/-- d divides what is left: it is a prime -/
theorem fac_pr {n : Int} {fs : List Int} {r d : Int} (F : Fac n fs r d) (h2 : 2 ≤ d) (h : d ∣ r) : Pr d := by
  obtain ⟨q, hq⟩ := least_ex h2
  have h1 := F.up q hq.pr (Int.dvd_trans hq.dvd h)
  have := hq.le h2
  have e : q = d := by omega
  exact e ▸ hq.pr
/-- d * d above what is left: that is a prime -/
theorem fac_jump {n : Int} {fs : List Int} {r d : Int} (F : Fac n fs r d) (h2 : 2 ≤ d) (hr : 1 < r) (h : r < d * d) : Pr r ∧ ∀ q, Pr q → q ∣ r → r ≤ q := by
  have hp : Pr r := by
    refine ⟨by omega, fun m h1 h3 h4 => ?_⟩
    obtain ⟨e, e2, es, _, en⟩ := small_div (n := r) (s := d - 1) (by omega) h1 h3 h4 (by omega) (by rw [Int.sub_add_cancel]; exact h)
    obtain ⟨q, hq⟩ := least_ex e2
    have := F.up q hq.pr (Int.dvd_trans hq.dvd en)
    have := hq.le e2
    omega
  exact ⟨hp, fun q hq hd => by have := pr_dvd_pr hp hq hd; omega⟩

structure Cl (P : Program) (w : World) (K : PySem.W.Frag) (mg : Str → Option Value) (base : Heap) (CX : CXT) (k : Nat) (x : Str) (sp : Sp) : Prop where
  ex : ∃ (f : Addr) (fd : FuncData) (ps : List Str), FnOk P w K mg base CX k f fd ps sp ∧ mg x = some (.ref f) ∧ PySem.W.keepIn K (.ref f) = true ∧ Binds K fd ps []
theorem pe_cl {X : Cx} {k j : Nat} {x : Str} {sp : Sp} {p pos : Pos} {e : Expr} {es : List Expr} {t : TA} (c : Cl X.prog X.w X.K X.mg X.base CX0 k x sp) (hr : Room j X.A) (ha : PA X (e :: es) t) (hk : k ≤ j := by decide) (hg : Gl X x := by rfl)
    (hdb : (x == ("__debug__" : Str)) = false := by decide) (he : starEach (e :: es) X.env = (false, eval e X.env) :: starEach es X.env := by rfl) (hpl : (backTo pos (starEach es X.env)).any (·.1) = false := by rfl) :
    PE X (.Call (.Name x p) (e :: es) [] pos) (tCall sp [] E0 t) := by
  obtain ⟨f, fd, ps, F, hm, kp, b⟩ := c.ex
  exact pe_call F (hr.mono hk) hg hm kp b .nil pass0 ha hdb he hpl
structure Txt (mg : Str → Option Value) : Prop where
  int : mg "int" = none
  len : mg "len" = none
  abs : mg "abs" = none
  isinstance : mg "isinstance" = none
  bool : mg "bool" = none
  tuple : mg "tuple" = none
  list : mg "list" = none
  str : mg "str" = none
  range : mg "range" = none
  max : mg "max" = none
  min : mg "min" = none
theorem if_pos_of {c : Bool} {A B : Prop} (hc : c = true) (h : A) : if c = true then A else B := by
  rw [if_pos hc]
  exact h
theorem if_neg_of {c : Bool} {A B : Prop} (hc : c = false) (h : B) : if c = true then A else B := by
  rw [hc, if_neg Bool.false_ne_true]
  exact h
/-- a call of a def that may raise, where it doesn't -/
theorem pe_cl0 {X : Cx} {k j : Nat} {x : Str} {sp : Sp} {p pos : Pos} {e : Expr} {es : List Expr} {t : TA} (c : Cl X.prog X.w X.K X.mg X.base (L2.CX X.prog X.w) k x sp) (hr : Room j X.A) (ha : PA X (e :: es) t) (hk : k ≤ j := by decide) (hg : Gl X x := by rfl)
    (hdb : (x == ("__debug__" : Str)) = false := by decide) (he : starEach (e :: es) X.env = (false, eval e X.env) :: starEach es X.env := by rfl) (hpl : (backTo pos (starEach es X.env)).any (·.1) = false := by rfl) :
    PE X (.Call (.Name x p) (e :: es) [] pos) (tCall sp [] E0 t) := by
  obtain ⟨f, fd, ps, F, hm, kp, b⟩ := c.ex
  exact pe_call F (hr.mono hk) hg hm kp b .nil passL ha hdb he hpl
/-- a call of a def that may raise, in a def or try that takes it -/
theorem pe_clX {X : Cx} {W : WX} {k j : Nat} {x : Str} {sp : Sp} {p pos : Pos} {e : Expr} {es : List Expr} {t : TA} (c : Cl X.prog X.w X.K X.mg X.base (L2.CX X.prog X.w) k x sp) (hr : Room j X.A) (tk : Takes X W) (ha : PA X (e :: es) t) (hk : k ≤ j := by decide) (hg : Gl X x := by rfl)
    (hdb : (x == ("__debug__" : Str)) = false := by decide) (he : starEach (e :: es) X.env = (false, eval e X.env) :: starEach es X.env := by rfl) (hpl : (backTo pos (starEach es X.env)).any (·.1) = false := by rfl) :
    PE X (.Call (.Name x p) (e :: es) [] pos) (tCallS sp (WE W) t) := by
  obtain ⟨f, fd, ps, F, hm, kp, b⟩ := c.ex
  exact pe_callS F (hr.mono hk) hg hm kp b (fun σ => passAt tk σ) ha hdb he hpl
/-- FieldError, and what its __init__ is -/
structure FErr (K : PySem.W.Frag) (mg : Str → Option Value) (C : Addr) : Prop where
  g : mg "FieldError" = some (.ref C)
  rd : PySem.W.readsIn K C (.type "type") = true
  ga : PySem.W.specialIn K (.ref C) "__getattribute__" = some (some (.builtin "type.__getattribute__"))
  fi : PySem.W.findCls K (.ref C) (.type "type") "__init__" = some (.val (.builtin "ValueError.__init__"))
theorem pe_feinit {X : Cx} {CF : Addr} {e : Expr} {es : List Expr} {ta : TA} {p1 p2 pos : Pos} {pl : Sem Bool} (F : FErr X.K X.mg CF) (ha : PA X (e :: es) ta) (hg : Gl X "FieldError" := by rfl)
    (hc : eval (.Call (.Attribute (.Name "FieldError" p1) "__init__" p2) (e :: es) [] pos) X.env = (do
      let ov ← eval (.Name "FieldError" p1) X.env
      standAt p2.atName
      let (f, first) ← holding [ov] (getMethod ov "__init__" pl)
      callWith pos f first (backTo pos (starEach (e :: es) X.env)) (backToKw pos (keywordEach [] X.env))) := by rfl)
    (he : starEach (e :: es) X.env = (false, eval e X.env) :: starEach es X.env := by rfl) (hpl : (backTo pos (starEach es X.env)).any (·.1) = false := by rfl) :
    PE X (.Call (.Attribute (.Name "FieldError" p1) "__init__" p2) (e :: es) [] pos) (tVeI X.K ta) := by
  refine ⟨fun pins s σ H Q I h => ?_⟩
  refine PySem.W.methodCall_KW (ld_glob I hg F.g ?_ (by decide)) hc
  refine PySem.W.method_cls I.kIn F.ga (PySem.W.cls_value I.kIn F.rd F.fi (by decide +kernel) ?_)
  show wpAny _ _ (callWith pos (Value.builtin "ValueError.__init__") [] (backTo pos (starEach (e :: es) X.env)) []) _ _ _
  refine PyProof.Rows.callWith_method1 (thn (ha.run pos pins _ σ H _ (I.tok _) h) fun us s1 ⟨vs, H1, I1, r1, a, C, ws, ev, hl, T, ea, q⟩ => ?_) he hpl
  subst ev
  cases r1 with
  | @cons _ u0 _ ur ra rw' =>
    obtain rfl : u0 = Value.ref a := ra
    have hlen : ur.length ≤ sizeLine := by
      rw [← Paired.length rw', sizeLine_eq]
      omega
    exact oinit_ok T I1 ea hlen fun s' J => ⟨.non, H1, J, rfl, q⟩
/-- an own error class with one attribute, and its __init__ by its promise -/
def spInit (C : Addr) (fld : Str) : Sp := fun vs H Q _ => ∃ (a : Addr) (v : V), vs = [.ref a, v] ∧ H a = some (exo a C none) ∧
  ∀ d, H d = none → d ≠ a → Q .non (upd (upd H d (exd d [(fld, v)])) a (exo a C (some d)))
structure ErrC (K : PySem.W.Frag) (mg : Str → Option Value) (nm fld : Str) (C fI : Addr) : Prop where
  g : mg nm = some (.ref C)
  oex : OexC K C
  no : PySem.W.findIn K (.ref C) fld = some none
  iC : PySem.W.findIn K (.ref C) "__init__" = some (some (.ref fI))
  tI : PySem.W.typeIn K (.ref fI) = some (.type "function")
  xf : XfC K C
  te : PySem.W.exmOne K (.ref C) (.ref C) = some true
structure Er (P : Program) (w : World) (K : PySem.W.Frag) (mg : Str → Option Value) (base : Heap) (nm fld : Str) (C : Addr) : Prop where
  ex : ∃ (fI : Addr) (fd : FuncData) (ps : List Str), ErrC K mg nm fld C fI ∧ FnOk P w K mg base CX0 1 fI fd ps (spInit C fld) ∧ Binds K fd ps []
theorem Er.c {P : Program} {w : World} {K : PySem.W.Frag} {mg : Str → Option Value} {base : Heap} {nm fld : Str} {C : Addr} (e : Er P w K mg base nm fld C) : ∃ fI, ErrC K mg nm fld C fI := by
  obtain ⟨fI, _, _, T, _⟩ := e.ex
  exact ⟨fI, T⟩
theorem exm_me {K : PySem.W.Frag} {S : Addr} (h1 : PySem.W.subIn K (.ref S) (.type "BaseException") = some true) (h2 : PySem.W.isClsIn K S = true) (h3 : PySem.W.typeIn K (.ref S) = some (.type "type")) (h4 : PySem.W.subIn K (.ref S) (.ref S) = some true) :
    PySem.W.exmOne K (.ref S) (.ref S) = some true := by
  have e1 : (PySem.W.subIn K (.ref S) (.type "BaseException") == some true) = true := by rw [h1] <;> rfl
  have h2' : (PySem.W.clsIn K S).isSome = true := h2
  have e2 : ((PySem.W.clsIn K S).isSome && PySem.W.typeIn K (.ref S) == some (.type "type")) = true := by rw [h2', h3] <;> rfl
  unfold PySem.W.exmOne
  rw [if_pos e1]
  show (if ((PySem.W.clsIn K S).isSome && PySem.W.typeIn K (.ref S) == some (.type "type")) = true then PySem.W.subIn K (.ref S) (.ref S) else none) = some true
  rw [if_pos e2]
  exact h4
/-- raise C(v): the argument, then what C's own __init__ asks (mk1 answers it) -/
theorem ps_raise1 {X : Cx} {W : WX} {x fld : Str} {C : Addr} {j : Nat} {e : Expr} {ta : TA} {p pos pos' : Pos} (c : Er X.prog X.w X.K X.mg X.base x fld C) (hr : Room j X.A) (tk : Takes X W) (ha : PA X [e] ta) (hj : 2 ≤ j := by decide) (hcalm : X.calm = true := by rfl) (hg : Gl X x := by rfl)
    (hdb : (x == ("__debug__" : Str)) = false := by decide) (he : starEach [e] X.env = (false, eval e X.env) :: starEach [] X.env := by rfl) (hpl : (backTo pos (starEach [] X.env)).any (·.1) = false := by rfl) :
    PS X (.Raise (some (.Call (.Name x p) [e] [] pos)) none pos') (fun _ σ H => tMkO C (spInit C fld) [] ta σ H fun cls d H' => W cls d σ H') := by
  obtain ⟨fI, fd, ps, T, F, b⟩ := c.ex
  exact ps_raise hcalm tk (pmk_oex (X := X) (p := p) (pos := pos) T.oex T.iC T.tI F (hr.mono hj) b .nil (fun _ _ _ _ _ _ _ h => h.elim) hg T.g ha hdb he hpl)
theorem mk1 {C : Addr} {fld : Str} {v : V} {H1 : Hp} {Q : XK} (k : ∀ d H2, Same H1 H2 → H1 d = none → H2 d = some (.xd [(fld, v)]) → Q (.ref C) (some d) H2) :
    ([v] : List V).length ≤ 1000 ∧ ∀ a, H1 a = none → spInit C fld (.ref a :: ([v] ++ [])) (upd H1 a (exo a C none))
      (fun u H2 => u = .non ∧ ∃ (d : Addr) (fs : List (Str × V)), H2 a = some (exo a C (some d)) ∧ H2 d = some (exd d fs) ∧ H1 d = none ∧ Q (.ref C) (some d) (upd (del H2 a) d (.xd fs))) (fun _ _ _ => False) := by
  refine ⟨(by show 1 ≤ 1000; decide), fun a ha => ⟨a, v, rfl, upd_same, fun d hd hda => ⟨rfl, d, [(fld, v)], upd_same, ?_, ?_, ?_⟩⟩⟩
  · rw [upd_ne hda, upd_same]
  · rw [upd_ne hda] at hd
    exact hd
  · rw [upd_ne hda] at hd
    refine k d _ (fun b o e => ?_) hd upd_same
    have hba := ne_of_none e ha
    have hbd := ne_of_none e hd
    rw [upd_ne hbd, del_ne hba, upd_ne hba, upd_ne hbd, upd_ne hba]
    exact e
/-! the same for exceptions whose context is None -/
theorem passN {X : Cx} : Passes (L2N.CX X.prog X.w) X E0 := fun _ _ _ _ _ _ _ ⟨_, _, _, _, _, _, _, _, _, _, _, _, z⟩ => z.elim
theorem takes0N {X : Cx} : L2N.Takes X (fun _ _ _ _ => False) := fun _ _ ⟨_, _, _, _, _, _, _, _, _, _, _, _, _, _, _, _, z⟩ => z.elim
theorem okN {P : Program} {w : World} {K : PySem.W.Frag} {mg : Str → Option Value} {base : Heap} {x qual : Str} {st : Stmt} {f : Addr} {fd : FuncData} {N ps : List Str} {k : Nat} {sp : Sp} (F : Fun K x qual st f fd) (S : FnScope N ps (defScope st)) (len : ∀ vs H Q E, sp vs H Q E → vs.length = ps.length)
    (body : ∀ (cdv : Value) (A : Around) (outer : List Env) (s : Shared) (H : Hp) (vs : List V) (Q : VK) (E : XK), Room k (A.deeper (envOfC qual (defScope st) s.heap.objs.size f cdv)) → sp vs H Q E →
      ∃ t, PSs (cxOf (L2N.CX P w) P w K mg base N qual (defScope st) f cdv A outer s H E) (defBody st) t ∧ t { nx := fun _ H' => Q .non H', rt := Q } (start N vs) H) : FnOk P w K mg base (L2N.CX P w) (k + 1) f fd ps sp := by
  obtain ⟨oc, od, kV, doc, pm, an, cdv, ct, osl, rfl, lk, hcd⟩ := F.ex
  exact fn_of lk hcd S len fun A outer s H vs Q E hr h => body cdv A outer s H vs Q E hr h
/-- a call of such a def, where it doesn't raise -/
theorem pe_clN0 {X : Cx} {k j : Nat} {x : Str} {sp : Sp} {p pos : Pos} {e : Expr} {es : List Expr} {t : TA} (c : Cl X.prog X.w X.K X.mg X.base (L2N.CX X.prog X.w) k x sp) (hr : Room j X.A) (ha : PA X (e :: es) t) (hk : k ≤ j := by decide) (hg : Gl X x := by rfl)
    (hdb : (x == ("__debug__" : Str)) = false := by decide) (he : starEach (e :: es) X.env = (false, eval e X.env) :: starEach es X.env := by rfl) (hpl : (backTo pos (starEach es X.env)).any (·.1) = false := by rfl) :
    PE X (.Call (.Name x p) (e :: es) [] pos) (tCall sp [] E0 t) := by
  obtain ⟨f, fd, ps, F, hm, kp, b⟩ := c.ex
  exact pe_call F (hr.mono hk) hg hm kp b .nil passN ha hdb he hpl
theorem pe_clNX {X : Cx} {W : WX} {k j : Nat} {x : Str} {sp : Sp} {p pos : Pos} {e : Expr} {es : List Expr} {t : TA} (c : Cl X.prog X.w X.K X.mg X.base (L2N.CX X.prog X.w) k x sp) (hr : Room j X.A) (tk : L2N.Takes X W) (ha : PA X (e :: es) t) (hk : k ≤ j := by decide) (hg : Gl X x := by rfl)
    (hdb : (x == ("__debug__" : Str)) = false := by decide) (he : starEach (e :: es) X.env = (false, eval e X.env) :: starEach es X.env := by rfl) (hpl : (backTo pos (starEach es X.env)).any (·.1) = false := by rfl) :
    PE X (.Call (.Name x p) (e :: es) [] pos) (tCallS sp (WE W) t) := by
  obtain ⟨f, fd, ps, F, hm, kp, b⟩ := c.ex
  exact pe_callS F (hr.mono hk) hg hm kp b (fun σ => L2N.passAt tk σ) ha hdb he hpl
theorem pmk_oexN {X : Cx} {e : Expr} {es : List Expr} {ta : TA} {p pos : Pos} {x : Str} {C fI : Addr} {k : Nat} {fd : FuncData} {ps : List Str} {sp : Sp} {ds : List Value} {dvs : List V} (T : OexC X.K C) (iC : PySem.W.findIn X.K (.ref C) "__init__" = some (some (.ref fI))) (tI : PySem.W.typeIn X.K (.ref fI) = some (.type "function"))
    (F1 : FnOk X.prog X.w X.K X.mg X.base CX0 k fI fd ps sp) (hr : Room (k + 1) X.A) (hb : Binds X.K fd ps ds) (hd : Vals dvs ds) (hg : Gl X x) (hm : X.mg x = some (.ref C)) (ha : PA X (e :: es) ta)
    (hdb : (x == ("__debug__" : Str)) = false) (he : starEach (e :: es) X.env = (false, eval e X.env) :: starEach es X.env) (hpl : (backTo pos (starEach es X.env)).any (·.1) = false) :
    L2N.PMk X (.Call (.Name x p) (e :: es) [] pos) (tMkO C sp dvs ta) := by
  intro pins s σ H Q I h
  obtain ⟨nm, q, N, bs, bm, sn, sub, ab, col, dd, k0, k1, k2, k3, k5, hC, hbm⟩ := T.cls
  refine wpAny_Call_Name_kw (ld_glob I hg hm ?_ hdb)
  refine PySem.W.callWith_K (h₀ := X.base) I.ok.mod.kin T.kC (thn (ha.run pos pins s σ H _ I h) fun us st got => ?_) he hpl
  obtain ⟨vs, G1, I1, r1, hz, q1⟩ := got
  refine ⟨I1.kIn, ?_⟩
  show wpAny _ _ (call (.ref C) us) _ _ _
  obtain ⟨hp, g, dr, tk, os⟩ := st
  generalize ex : hp.objs.size + 1 = x1 at *
  have le1 : hp.objs.size ≤ x1 := by omega
  have sp1 := q1 x1 (I1.hok.fresh le1)
  have old : ∀ b o, hp.get? b = some o → ((hp.push (PySem.W.kdv_tup us)).push (PySem.HandSPX.excO C hp.objs.size)).get? b = some o := fun b o z =>
    Heap.get?_push_of_some _ (Heap.get?_push_of_some _ z)
  have new1 : ((hp.push (PySem.W.kdv_tup us)).push (PySem.HandSPX.excO C hp.objs.size)).get? x1 = some (PySem.HandSPX.excO C hp.objs.size) := by
    subst ex
    heap_get
  have I2 := I1.laid (t' := tk) (a := x1) (o := exo x1 C none) old le1 (exo_ok new1)
  have rel : Vals (V.ref x1 :: (vs ++ dvs)) (Value.ref x1 :: (us ++ ds)) := .cons rfl (r1.append hd)
  have few : us.length ≤ sizeLine := by
    have := Paired.length r1
    rw [sizeLine_eq]
    omega
  have many : (Value.ref x1 :: us ++ ds).length = ps.length := by
    have z := rel.length
    rw [F1.len _ _ _ _ sp1] at z
    exact z.symm
  have run := F1.run _ X.stack _ _ ⟨Value.ref x1 :: us, []⟩ (Value.ref x1 :: (us ++ ds)) _ _ (fun _ _ _ => False) (hr.make C us []) (I2.env0.make C us []) (hb _ (Value.ref x1 :: us) I2.kIn many) rel sp1
  refine wpAny_call (PySem.HandSPX.call_own F.excBase_ValueError (fun Y => PySem.HandSPX.refsVE_contains Y bm hbm) (I1.kIn _ _ hC) (PySem.W.looks_findIn I1.kIn iC) (fun self => PySem.W.bind_fn I1.kIn self tI) few ?_)
  subst ex
  refine codeAny_mono run fun r s' back => ?_
  cases r with
  | error er => exact False.elim back
  | ok fl =>
    cases fl with
    | ret u =>
      obtain ⟨v, H2, os2, bare2, un2, hok2, rv, ev, d, fs, ea, ed, hd1, q2⟩ := back
      subst ev
      obtain ⟨h2, g2, d2, t2, os'⟩ := s'
      obtain ⟨t0, G, J, kG, ge, hoe, na⟩ := mk_end0 (d2 := d2) (t2 := t2) I1 le1 old un2 hok2 os2 bare2 ea ed hd1
      exact ⟨rv, _, _, _, ⟨G, g2, d2, t2, os'⟩, _, .ref C, some d, rfl, J, kG, ge, hoe, ⟨rfl, rfl, fun vs z => by cases z; rfl⟩, rfl, rfl, na, rfl, bare2, raises_own T.exC T.tyC, q2⟩
    | next => exact False.elim back
    | brk => exact False.elim back
    | cont => exact False.elim back
theorem ps_raise1N {X : Cx} {W : WX} {x fld : Str} {C : Addr} {j : Nat} {e : Expr} {ta : TA} {p pos pos' : Pos} (c : Er X.prog X.w X.K X.mg X.base x fld C) (hr : Room j X.A) (tk : L2N.Takes X W) (ha : PA X [e] ta) (hj : 2 ≤ j := by decide) (hcalm : X.calm = true := by rfl) (hg : Gl X x := by rfl)
    (hdb : (x == ("__debug__" : Str)) = false := by decide) (he : starEach [e] X.env = (false, eval e X.env) :: starEach [] X.env := by rfl) (hpl : (backTo pos (starEach [] X.env)).any (·.1) = false := by rfl) :
    PS X (.Raise (some (.Call (.Name x p) [e] [] pos)) none pos') (fun _ σ H => tMkO C (spInit C fld) [] ta σ H fun cls d H' => W cls d σ H') := by
  obtain ⟨fI, fd, ps, T, F, b⟩ := c.ex
  exact L2N.ps_raise hcalm tk (pmk_oexN (X := X) (p := p) (pos := pos) T.oex T.iC T.tI F (hr.mono hj) b .nil hg T.g ha hdb he hpl)

section
variable {P : Program} {w : World} {K : PySem.W.Frag} {mg : Str → Option Value} {base : Heap}
/-- a pool: three values -/
def PoolAt (H : Hp) (p : Addr) : Prop := ∃ (c n : Int) (b : Bool), H p = some (.lst [.int c, .int n, .bl b])
def spPool : Sp := fun vs H Q _ => ∃ c : Int, vs = [.int c] ∧ ∀ p H', H p = none → Same H H' → PoolAt H' p → Q (.ref p) H'
theorem same_upd {H : Hp} {p : Addr} {o : HO} (h : H p = none) : Same H (upd H p o) := fun b u e => by
  rw [upd_ne (ne_of_none e h)]
  exact e

abbrev s_pool : Stmt := top 9
theorem sc_pool : FnScope ["_law_cell_here"] ["_law_cell_here"] (defScope s_pool) := ⟨rfl, rfl, rfl, by decide +kernel, rfl, by decide +kernel, by decide +kernel⟩
theorem ok_pool {f : Addr} {fd : FuncData} (F : Fun K "_law_pool" "_law_pool" s_pool f fd) : FnOk P w K mg base CX0 1 f fd ["_law_cell_here"] spPool := by
  refine F.ok sc_pool (fun vs H Q E h => ?_) (fun cdv A outer s H vs Q E hr h => ?_)
  · obtain ⟨c, rfl, _⟩ := h
    rfl
  · obtain ⟨c, rfl, k⟩ := h
    refine ⟨_, (pss_one (ps_ret (pe_lst (pa_cons (pv 0) (pa_cons pe_int (pa_cons (pe_cmpR op_ge (pv 0) (pe_op op_pow pe_int pe_int) (nomark _)) pa_nil)))))), ?_⟩
    refine ⟨_, rfl, _, rfl, _, _, rfl, rfl, ⟨by decide, by decide, by decide⟩, _, _, rfl, rfl, (by show 3 ≤ sizeLine; decide), fun p hp => ?_⟩
    exact k p _ hp (same_upd hp) ⟨_, _, _, upd_same⟩

abbrev s_take : Stmt := top 10
theorem sc_take : FnScope ["_law_pool_here", "_law_limit", "_law_drawn", "_law_mixed"] ["_law_pool_here", "_law_limit"] (defScope s_take) := ⟨rfl, rfl, rfl, by decide +kernel, rfl, by decide +kernel, by decide +kernel⟩
def spTake : Sp := fun vs H Q _ => ∃ (p : Addr) (m : Int), vs = [.ref p, .int m] ∧ PoolAt H p ∧ 0 < m ∧ m.natAbs.log2 < 9000 ∧
  ∀ v H', 0 ≤ v → v < m → (∀ q, q ≠ p → H' q = H q) → PoolAt H' p → Q (.int v) H'
theorem mix_small (z : Int) : (z % 2147483647).natAbs < 2 ^ 64 := by
  have h1 := Int.emod_nonneg z (show (2147483647 : Int) ≠ 0 by decide)
  have h2 := Int.emod_lt_of_pos z (show (0 : Int) < 2147483647 by decide)
  have : (2147483647 : Nat) < 2 ^ 64 := by decide
  omega
theorem ok_take {f : Addr} {fd : FuncData} (T : Txt mg) (F : Fun K "_law_take" "_law_take" s_take f fd) : FnOk P w K mg base CX0 1 f fd ["_law_pool_here", "_law_limit"] spTake := by
  refine F.ok sc_take (fun vs H Q E h => ?_) (fun cdv A outer s H vs Q E hr h => ?_)
  · obtain ⟨p, m, rfl, _⟩ := h
    rfl
  · obtain ⟨p, m, rfl, ⟨c, n, b, hp⟩, hm, hb, k⟩ := h
    refine ⟨_, (pss_cons (ps_asg (pe_op op_add (pe_ix ix_list (pv 0) pe_int (fun _ _ => rfl)) pe_int) (pg_sub (pv 0) pe_int set_list))
 (pss_cons (ps_if (pt_val (pe_ix ix_list (pv 0) pe_int (fun _ _ => rfl))) (pss_cons (ps_set (i := 2) sc_take.nd rfl (Or.inl rfl) (pe_op op_mod (pe_callTy call_int1 (by rfl) T.int boot_int (pa_cons (pe_ix ix_list (pv 0) pe_int (fun _ _ => rfl)) pa_nil)) (pv 1)))
 (pss_cons (ps_asg (pe_op op_fdivW (pe_callTy call_int1 (by rfl) T.int boot_int (pa_cons (pe_ix ix_list (pv 0) pe_int (fun _ _ => rfl)) pa_nil)) (pv 1)) (pg_sub (pv 0) pe_int set_list))
 (pss_one (ps_ret (pv 2))))) pss_nil)
 (pss_cons (ps_set (i := 3) sc_take.nd rfl (Or.inl rfl) (pe_op op_mod (pe_callTy call_int1 (by rfl) T.int boot_int (pa_cons (pe_op op_add (pe_op op_add (pe_op op_mul (pe_ix ix_list (pv 0) pe_int (fun _ _ => rfl)) pe_int) (pe_op op_mul (pe_ix ix_list (pv 0) pe_int (fun _ _ => rfl)) pe_int)) pe_int) pa_nil)) pe_int))
 (pss_one (ps_ret (pe_op op_mod (pe_op op_fdivW (pe_callTy call_int1 (by rfl) T.int boot_int (pa_cons (pe_op op_mod (pe_op op_pow (pv 3) pe_int) pe_int) pa_nil)) pe_int) (pv 1))))))), ?_⟩
    refine ⟨_, rfl, p, _, _, _, rfl, rfl, SqL.of hp, rfl, _, _, rfl, rfl, _, rfl, p, _, _, _, rfl, rfl, hp, rfl, ?_⟩
    refine ⟨_, rfl, p, _, _, _, rfl, rfl, SqL.of upd_same, rfl, b, rfl, ?_⟩
    cases b with
    | true =>
      refine iteT ?_
      refine ⟨_, rfl, p, _, _, _, rfl, rfl, SqL.of upd_same, rfl, .inl ⟨_, rfl, _, rfl, _, _, rfl, rfl, hm, ?_⟩⟩
      refine ⟨_, rfl, p, _, _, _, rfl, rfl, SqL.of upd_same, rfl, .inl ⟨_, rfl, _, rfl, _, _, rfl, rfl, ⟨hm, hb⟩, _, rfl, p, _, _, _, rfl, rfl, upd_same, rfl, ?_⟩⟩
      refine ⟨_, rfl, k _ _ (Int.emod_nonneg _ (by omega)) (Int.emod_lt_of_pos _ hm) (fun q hq => ?_) ⟨_, _, _, upd_same⟩⟩
      rw [upd_ne hq, upd_ne hq]
    | false =>
      refine iteF ?_
      refine ⟨_, rfl, p, _, _, _, rfl, rfl, SqL.of upd_same, rfl, _, _, rfl, rfl, (.inr ⟨by decide, by decide⟩), _, rfl, p, _, _, _, rfl, rfl, SqL.of upd_same, rfl, _, _, rfl, rfl, (.inr ⟨by decide, by decide⟩), _, _, rfl, rfl, _, _, rfl, rfl, .inl ⟨_, rfl, _, _, rfl, rfl, (by show (0 : Int) < 2147483647; decide), ?_⟩⟩
      refine ⟨_, rfl, _, _, rfl, rfl, ⟨by decide, by decide, mix_small _⟩, _, _, rfl, rfl, (by show (0 : Int) < 2147483647; decide), .inl ⟨_, rfl, _, _, rfl, rfl, ⟨by decide, by decide⟩, _, rfl, _, _, rfl, rfl, hm, ?_⟩⟩
      refine k _ _ (Int.emod_nonneg _ (by omega)) (Int.emod_lt_of_pos _ hm) (fun q hq => ?_) ⟨_, _, _, upd_same⟩
      rw [upd_ne hq]

abbrev s_cell : Stmt := top 11
theorem sc_cell : FnScope ["_law_script", "_law_k"] ["_law_script", "_law_k"] (defScope s_cell) := ⟨rfl, rfl, rfl, by decide +kernel, rfl, by decide +kernel, by decide +kernel⟩
def spCellL (K : PySem.W.Frag) : Sp := fun vs H Q _ => ∃ (a : Addr) (ns : List Int) (k : Nat), vs = [.ref a, .int (k : Int)] ∧ SqL K H a (ns.map V.int) ∧ ∀ v, Q (.int v) H
theorem ok_cell {f : Addr} {fd : FuncData} (T : Txt mg) (F : Fun K "_law_cell" "_law_cell" s_cell f fd) : FnOk P w K mg base CX0 1 f fd ["_law_script", "_law_k"] (spCellL K) := by
  refine F.ok sc_cell (fun vs H Q E h => ?_) (fun cdv A outer s H vs Q E hr h => ?_)
  · obtain ⟨a, ns, k, rfl, _⟩ := h
    rfl
  · obtain ⟨a, ns, k, rfl, hS, q⟩ := h
    refine ⟨_, (pss_cons (ps_if (pt_cmpR op_lt (pv 1) (pe_callB call_len_seq (by rfl) T.len PySem.boot_len (pa_cons (pv 0) pa_nil)) (nomark _)) (pss_one (ps_ret (pe_ix ix_list (pv 0) (pv 1) (fun _ _ => rfl)))) pss_nil)
 (pss_one (ps_ret pe_int))), ?_⟩
    refine ⟨_, rfl, _, rfl, a, _, rfl, .inl hS, _, _, rfl, rfl, _, rfl, ?_⟩
    rw [List.length_map]
    by_cases c : k < ns.length
    · refine if_pos_of (decide_eq_true (by omega)) ?_
      refine ⟨_, rfl, _, rfl, a, _, _, .int ns[k], rfl, rfl, hS, atI_nat (by rw [List.getElem?_map, List.getElem?_eq_getElem c]; rfl), ?_⟩
      exact q _
    · refine if_neg_of (decide_eq_false (by omega)) ?_
      exact q _
def rIsqrt : List V → Hp → VK → Prop := fun vs H Q => ∃ a : Int, vs = [.int a] ∧ 0 ≤ a ∧ a < 2 ^ 64 ∧ ∀ r : Int, 0 ≤ r → r * r ≤ a → a < (r + 1) * (r + 1) → Q (.int r) H
theorem cr_isqrt {X : Cx} : CallR X (.builtin "math.isqrt") rIsqrt := by
  intro pins s σ H vs us Q I r h
  obtain ⟨a, rfl, h0, h1, q⟩ := h
  cases r with
  | cons r1 r2 =>
    cases r2
    obtain ⟨t, rfl⟩ := r1
    obtain ⟨s1, s2⟩ := Float64.isqrt_spec a.toNat
    refine PySem.W.mg_isqrt h0 h1 ⟨.int _, H, I.tok _, ⟨_, rfl⟩, q _ (Int.natCast_nonneg _) ?_ ?_⟩
    · have : ((Float64.isqrt a.toNat * Float64.isqrt a.toNat : Nat) : Int) ≤ ((a.toNat : Nat) : Int) := Int.ofNat_le.mpr s1
      rw [Int.natCast_mul, Int.toNat_of_nonneg h0] at this
      exact this
    · have : ((a.toNat : Nat) : Int) < (((Float64.isqrt a.toNat + 1) * (Float64.isqrt a.toNat + 1) : Nat) : Int) := Int.ofNat_lt.mpr s2
      rw [Int.natCast_mul, Int.natCast_add, Int.toNat_of_nonneg h0] at this
      exact this
abbrev s_least : Stmt := top 5
theorem sc_least : FnScope ["n", "d"] ["n"] (defScope s_least) := ⟨rfl, rfl, rfl, by decide +kernel, rfl, by decide +kernel, by decide +kernel⟩
def spLeast : Sp := fun vs H Q _ => ∃ n : Int, vs = [.int n] ∧ 2 ≤ n ∧ n < 2 ^ 62 ∧ ∀ r, Least n r → Q (.int r) H
theorem rgc_two {j : Int} (h0 : 0 ≤ j) (h1 : j < 2 ^ 62) : RgC 3 j 2 (if 3 < j then ((j - 3 - 1) / 2 + 1).toNat else 0) := by
  refine ⟨by decide, by decide, ?_, ?_⟩
  · unfold Builtin.Range.small Builtin.Range.rangeSize
    simp only [Builtin.Range.rangeFitsLong, Bool.and_eq_true, Bool.or_eq_true, decide_eq_true_eq, beq_iff_eq, show ((2 : Int) > 0) by decide, if_true]
    split <;> omega
  · unfold Builtin.Range.rangeSize
    rw [if_pos (by decide)]
    split <;> omega
theorem root_lt {r n : Int} (h0 : 0 ≤ r) (h : r * r ≤ n) (hn : n < 2 ^ 62) : r + 1 < 2 ^ 62 := by
  by_cases c : r < 2 ^ 32
  · omega
  · have : (2 ^ 32 : Int) * 2 ^ 32 ≤ r * r := Int.mul_le_mul (by omega) (by omega) (by decide) h0
    omega
theorem ok_least {f : Addr} {fd : FuncData} (T : Txt mg) (hsq : mg "isqrt" = some (.builtin "math.isqrt")) (F : Fun K "_least_divisor" "_least_divisor" s_least f fd) : FnOk P w K mg base CX0 1 f fd ["n"] spLeast := by
  refine F.ok sc_least (fun vs H Q E h => ?_) (fun cdv A outer s H vs Q E hr h => ?_)
  · obtain ⟨n, rfl, _⟩ := h
    rfl
  · obtain ⟨n, rfl, h2, hb, q⟩ := h
    refine ⟨_, (pss_cons (ps_if (pt_cmpR op_eq (pe_op op_mod (pv 0) pe_int) pe_int (nomark _)) (pss_one (ps_ret pe_int)) pss_nil)
 (pss_cons (ps_for PassesOwn.never rfl (pi_range3 rfl T.range (pa_cons pe_int (pa_cons (pe_op op_add (pe_callBfun cr_isqrt (by rfl) hsq (pa_cons (pv 0) pa_nil)) pe_int) (pa_cons pe_int pa_nil)))) (pg_name (i := 1) sc_least.nd rfl (Or.inl rfl)) (pss_one (ps_if (pt_cmpR op_eq (pe_op op_mod (pv 0) (pv 1)) pe_int (nomark _)) (pss_one (ps_ret (pv 1))) pss_nil)))
 (pss_one (ps_ret (pv 0))))), ?_⟩
    refine ⟨_, rfl, _, _, rfl, rfl, (by show (0 : Int) < 2; decide), rfl, _, rfl, ?_⟩
    by_cases c : (2 : Int) ∣ n
    · refine if_pos_of (decide_eq_true (congrArg V.int (Int.emod_eq_zero_of_dvd c))) ?_
      exact q _ (least_two c)
    · refine if_neg_of (decide_eq_false fun e => c (Int.dvd_of_emod_eq_zero (V.int.inj e))) ?_
      refine ⟨_, rfl, n, rfl, by omega, by omega, fun r r0 r1 r2 => ⟨_, _, rfl, rfl, 3, r + 1, 2, _, rfl, rgc_two (by omega) (root_lt r0 r1 hb), ?_⟩⟩
      refine for_rangeC (lo := 3) (c := 2) (fun i σ H' => H' = H ∧ ∃ x, σ = [some (.int n), x] ∧ ∀ j : Nat, j < i → ¬ (3 + (j : Int) * 2) ∣ n) ⟨rfl, _, rfl, fun j hj => absurd hj (Nat.not_lt_zero j)⟩ ?_ ?_
      · rintro i σ _ hi ⟨rfl, x, rfl, hx⟩
        refine ⟨_, rfl, _, rfl, _, _, rfl, rfl, (by show (0 : Int) < 3 + ((i : Nat) : Int) * 2; omega), rfl, _, rfl, ?_⟩
        by_cases c3 : (3 + (i : Int) * 2) ∣ n
        · refine if_pos_of (decide_eq_true (congrArg V.int (Int.emod_eq_zero_of_dvd c3))) ?_
          exact ⟨_, rfl, q _ (least_at c c3 hx)⟩
        · refine if_neg_of (decide_eq_false fun e => c3 (Int.dvd_of_emod_eq_zero (V.int.inj e))) ?_
          refine ⟨rfl, _, rfl, fun j hj => ?_⟩
          by_cases e : j = i
          · rw [e]
            exact c3
          · exact hx j (by omega)
      · rintro σ _ ⟨rfl, x, rfl, hx⟩
        refine ⟨_, rfl, q _ (least_of_odd h2 c r0 r2 fun i hi => hx i ?_)⟩
        split <;> omega
abbrev s_prime : Stmt := top 6
theorem sc_prime : FnScope ["n"] ["n"] (defScope s_prime) := ⟨rfl, rfl, rfl, by decide +kernel, rfl, by decide +kernel, by decide +kernel⟩
def spPrime : Sp := fun vs H Q _ => ∃ n : Int, vs = [.int n] ∧ n < 2 ^ 62 ∧ Q (.bl (prB n)) H
theorem ok_prime {f : Addr} {fd : FuncData} (F : Fun K "is_prime" "is_prime" s_prime f fd) (c_least : Cl P w K mg base CX0 1 "_least_divisor" spLeast) : FnOk P w K mg base CX0 2 f fd ["n"] spPrime := by
  refine F.ok sc_prime (fun vs H Q E h => ?_) (fun cdv A outer s H vs Q E hr h => ?_)
  · obtain ⟨n, rfl, _⟩ := h
    rfl
  · obtain ⟨n, rfl, hb, q⟩ := h
    refine ⟨_, (pss_one (ps_ret (pe_and (pe_cmpR op_gt (pv 0) pe_int (nomark _)) (pe_one (pe_cmpR op_eq (pe_cl c_least hr (pa_cons (pv 0) pa_nil)) (pv 0) (nomark _)))))), ?_⟩
    refine ⟨_, rfl, _, _, rfl, rfl, _, rfl, ?_⟩
    by_cases c : 1 < n
    · refine if_pos_of (decide_eq_true c) ?_
      refine ⟨_, rfl, n, rfl, by omega, hb, fun r hl => ⟨_, rfl, rfl, ?_⟩⟩
      have e : decide (V.int r = V.int n) = prB n := by
        by_cases p : Pr n
        · rw [prB_true p, (hl.self (by omega)).mpr p]
          exact decide_eq_true rfl
        · rw [prB_false p]
          exact decide_eq_false fun e => p ((hl.self (by omega)).mp (V.int.inj e))
      show Q (.bl (decide (V.int r = V.int n))) H
      rw [e]
      exact q
    · refine if_neg_of (decide_eq_false c) ?_
      have e : prB n = false := prB_false fun p => c (by have := p.1; omega)
      rw [e] at q
      exact q
abbrev s_lprime : Stmt := top 12
theorem sc_lprime : FnScope ["_law_n", "_law_k"] ["_law_n"] (defScope s_lprime) := ⟨rfl, rfl, rfl, by decide +kernel, rfl, by decide +kernel, by decide +kernel⟩
theorem pr_of_trials {n k : Int} (hn : 2 ≤ n) (hk : 2 ≤ k) (hs : n < k * k) (hm : ∀ m : Int, 2 ≤ m → m < k → ¬ m ∣ n) : Pr n := by
  refine ⟨hn, fun m h1 h2 h3 => ?_⟩
  obtain ⟨d, d2, ds, _, dn⟩ := small_div (n := n) (s := k - 1) hn h1 h2 h3 (by omega) (by rw [Int.sub_add_cancel]; exact hs)
  exact hm d d2 (by omega) dn
theorem root_le {k n : Int} (hk : 2 ≤ k) (h : k * k ≤ n) : k < n ∧ 2 * k ≤ n := by
  have : 2 * k ≤ k * k := Int.mul_le_mul_of_nonneg_right hk (by omega)
  omega
theorem ok_lprime {f : Addr} {fd : FuncData} (F : Fun K "_law_is_prime" "_law_is_prime" s_lprime f fd) : FnOk P w K mg base CX0 1 f fd ["_law_n"] spPrime := by
  refine F.ok sc_lprime (fun vs H Q E h => ?_) (fun cdv A outer s H vs Q E hr h => ?_)
  · obtain ⟨n, rfl, _⟩ := h
    rfl
  · obtain ⟨n, rfl, hb, q⟩ := h
    refine ⟨_, (pss_cons (ps_if (pt_cmpR op_lt (pv 0) pe_int (nomark _)) (pss_one (ps_ret pe_bl)) pss_nil)
 (pss_cons (ps_set (i := 1) sc_lprime.nd rfl (Or.inl rfl) pe_int)
 (pss_cons (ps_while PassesOwn.never (pt_cmpR op_le (pe_op op_mul (pv 1) (pv 1)) (pv 0) (nomark _)) (pss_cons (ps_if (pt_cmpR op_eq (pe_op op_mod (pv 0) (pv 1)) pe_int (nomark _)) (pss_one (ps_ret pe_bl)) pss_nil)
 (pss_one (ps_set (i := 1) sc_lprime.nd rfl (Or.inl rfl) (pe_op op_add (pv 1) pe_int)))))
 (pss_one (ps_ret pe_bl))))), ?_⟩
    refine ⟨_, rfl, _, _, rfl, rfl, _, rfl, ?_⟩
    by_cases c : n < 2
    · refine if_pos_of (decide_eq_true c) ?_
      rw [prB_false fun p => by have := p.1; omega] at q
      exact q
    · refine if_neg_of (decide_eq_false c) ?_
      refine while_by (fun σ H' => H' = H ∧ ∃ k : Int, σ = [some (.int n), some (.int k)] ∧ 2 ≤ k ∧ k ≤ n + 1 ∧ ∀ m : Int, 2 ≤ m → m < k → ¬ m ∣ n) (fun σ _ => match σ[1]? with | some (some (V.int k)) => (n + 2 - k).toNat | _ => 0)
        ⟨rfl, 2, rfl, by omega, by omega, fun m h1 h2 => by omega⟩ ?_ ?_
      · rintro σ _ ⟨rfl, k, rfl, k2, k3, hm⟩
        refine ⟨_, rfl, _, rfl, _, _, rfl, rfl, .inl ⟨by omega, by omega⟩, _, rfl, _, _, rfl, rfl, _, rfl, ?_⟩
        by_cases c2 : k * k ≤ n
        · refine if_pos_of (decide_eq_true c2) ?_
          have kn := root_le k2 c2
          refine ⟨_, rfl, _, rfl, _, _, rfl, rfl, (by show 0 < k; omega), rfl, _, rfl, ?_⟩
          by_cases c3 : k ∣ n
          · refine if_pos_of (decide_eq_true (congrArg V.int (Int.emod_eq_zero_of_dvd c3))) ?_
            rw [prB_false fun p => p.2 k k2 (by omega) c3] at q
            exact q
          · refine if_neg_of (decide_eq_false fun e => c3 (Int.dvd_of_emod_eq_zero (V.int.inj e))) ?_
            refine ⟨_, rfl, _, _, rfl, rfl, ⟨rfl, k + 1, rfl, by omega, by omega, fun m h1 h2 => ?_⟩, ?_⟩
            · by_cases e : m = k
              · rw [e]
                exact c3
              · exact hm m h1 (by omega)
            · show (n + 2 - (k + 1)).toNat < (n + 2 - k).toNat
              omega
        · refine if_neg_of (decide_eq_false c2) ?_
          rw [prB_true (pr_of_trials (by omega) k2 (by omega) hm)] at q
          exact q
      · rintro σ H1 Q1 Q2 h ⟨v, e1, v2, e2, i, j, e3, e4, hc, v3, e5, i2, j2, e6, e7, k, e8, qq⟩
        exact ⟨v, e1, v2, e2, i, j, e3, e4, hc, v3, e5, i2, j2, e6, e7, k, e8, h _ _ qq⟩
abbrev s_next : Stmt := top 13
theorem sc_next : FnScope ["_law_n", "_law_found"] ["_law_n"] (defScope s_next) := ⟨rfl, rfl, rfl, by decide +kernel, rfl, by decide +kernel, by decide +kernel⟩
def spNext : Sp := fun vs H Q _ => ∃ (n b : Int), vs = [.int n] ∧ Pr b ∧ n ≤ b ∧ b < 2 ^ 61 ∧ ∀ p : Int, Pr p → n ≤ p → p ≤ b → Q (.int p) H
theorem ok_next {f : Addr} {fd : FuncData} (T : Txt mg) (F : Fun K "_law_next_prime" "_law_next_prime" s_next f fd) (c_lprime : Cl P w K mg base CX0 1 "_law_is_prime" spPrime) : FnOk P w K mg base CX0 2 f fd ["_law_n"] spNext := by
  refine F.ok sc_next (fun vs H Q E h => ?_) (fun cdv A outer s H vs Q E hr h => ?_)
  · obtain ⟨n, b, rfl, _⟩ := h
    rfl
  · obtain ⟨n, b, rfl, hp, hn, hb, q⟩ := h
    refine ⟨_, (pss_cons (ps_set (i := 1) sc_next.nd rfl (Or.inl rfl) (pe_callB (call_max2 rfl) (by rfl) T.max boot_max (pa_cons pe_int (pa_cons (pv 0) pa_nil))))
 (pss_cons (ps_while PassesOwn.never (pt_not (pt_val (pe_cl c_lprime hr (pa_cons (pv 1) pa_nil)))) (pss_one (ps_set (i := 1) sc_next.nd rfl (Or.inl rfl) (pe_op op_add (pv 1) pe_int))))
 (pss_one (ps_ret (pv 1))))), ?_⟩
    refine ⟨_, rfl, _, _, rfl, ?_⟩
    refine while_by (fun σ H' => H' = H ∧ ∃ k : Int, σ = [some (.int n), some (.int k)] ∧ n ≤ k ∧ k ≤ b) (fun σ _ => match σ[1]? with | some (some (V.int k)) => (b - k).toNat | _ => 0)
      ⟨rfl, _, rfl, by split <;> omega, by have := hp.1; split <;> omega⟩ ?_ ?_
    · rintro σ _ ⟨rfl, k, rfl, k2, k3⟩
      refine ⟨_, rfl, k, rfl, by omega, _, rfl, ?_⟩
      by_cases c : Pr k
      · refine if_neg_of (by rw [prB_true c]; rfl) ?_
        exact ⟨_, rfl, q k c k2 k3⟩
      · refine if_pos_of (by rw [prB_false c]; rfl) ?_
        have : k ≠ b := fun e => c (e ▸ hp)
        refine ⟨_, rfl, _, _, rfl, rfl, ⟨rfl, k + 1, rfl, by omega, by omega⟩, ?_⟩
        show (b - (k + 1)).toNat < (b - k).toNat
        omega
    · rintro σ H1 Q1 Q2 h ⟨v, e1, n, e2, hl, k, e3, qq⟩
      exact ⟨v, e1, n, e2, hl, k, e3, h _ _ qq⟩
abbrev s_ibn : Stmt := inClass (top 3) 0
theorem sc_ibn : FnScope ["self", "n"] ["self", "n"] (defScope s_ibn) := ⟨rfl, rfl, rfl, by decide +kernel, rfl, by decide +kernel, by decide +kernel⟩
theorem ok_ibn {f C CF : Addr} {fd : FuncData} (TF : FErr K mg CF) (hC : OexC K C) (hno : PySem.W.findIn K (.ref C) "n" = some none) (F : Fun K "__init__" "BadNumber.__init__" s_ibn f fd) : FnOk P w K mg base CX0 1 f fd ["self", "n"] (spInit C "n") := by
  refine F.ok sc_ibn (fun vs H Q E h => ?_) (fun cdv A outer s H vs Q E hr h => ?_)
  · obtain ⟨a, v, rfl, _⟩ := h
    rfl
  · obtain ⟨a, v, rfl, ha, q⟩ := h
    refine ⟨_, (pss_cons (ps_expr (pe_feinit TF (pa_cons (pv 0) (pa_cons pe_str pa_nil))))
 (pss_one (ps_ost (pv 0) (pv 1)))), ?_⟩
    refine ⟨_, rfl, a, C, _, rfl, (by show 1 ≤ 1000; decide), hC, ha, ?_⟩
    exact ⟨_, rfl, _, rfl, a, C, rfl, hC, hno, .inl ⟨ha, fun dx hn hne => q dx hn hne⟩⟩
abbrev s_divs : Stmt := top 7
theorem sc_divs : FnScope ["n", "found", "rest", "p"] ["n"] (defScope s_divs) := ⟨rfl, rfl, rfl, by decide +kernel, rfl, by decide +kernel, by decide +kernel⟩
def absI (n : Int) : Int := if n < 0 then -n else n
def spDivs (C : Addr) : Sp := fun vs H Q E => ∃ n : Int, vs = [.int n] ∧ absI n < 2 ^ 62 ∧ (n = 0 → ∀ d H', Same H H' → H' d = some (.xd [("n", .int n)]) → E (.ref C) (some d) H') ∧
  (n ≠ 0 → ∀ (l : List Int) (a : Addr) (H' : Hp), PD (absI n) l → l.length < 62 → Same H H' → H a = none → H' a = some (.lst (l.map V.int)) → Q (.ref a) H')
theorem ok_divs {f C : Addr} {fd : FuncData} (T : Txt mg) (F : Fun K "prime_divisors" "prime_divisors" s_divs f fd) (c_least : Cl P w K mg base CX0 1 "_least_divisor" spLeast) (x_bn : Er P w K mg base "BadNumber" "n" C) : FnOk P w K mg base (L2N.CX P w) 3 f fd ["n"] (spDivs C) := by
  refine okN F sc_divs (fun vs H Q E h => ?_) (fun cdv A outer s H vs Q E hr h => ?_)
  · obtain ⟨n, rfl, _⟩ := h
    rfl
  · obtain ⟨n, rfl, hb, e0, q⟩ := h
    refine ⟨_, (pss_cons (ps_if (pt_cmpR op_eq (pv 0) pe_int (nomark _)) (pss_one (ps_raise1N x_bn hr (L2N.takes_of rfl rfl rfl rfl) (pa_cons (pv 0) pa_nil))) pss_nil)
 (pss_cons (ps_set (i := 1) sc_divs.nd rfl (Or.inl rfl) (pe_lst pa_nil))
 (pss_cons (ps_set (i := 2) sc_divs.nd rfl (Or.inl rfl) (pe_callB call_abs (by rfl) T.abs boot_abs (pa_cons (pv 0) pa_nil)))
 (pss_cons (ps_while (passes_of rfl) (pt_cmpR op_gt (pv 2) pe_int (nomark _)) (pss_cons (ps_set (i := 3) sc_divs.nd rfl (Or.inl rfl) (pe_cl c_least hr (pa_cons (pv 2) pa_nil)))
 (pss_cons (ps_expr (pe_bm PySem.F.plainAttrs_list PySem.F.slot_list_append PySem.F.type_list_append mt_append (pv 1) (pa_cons (pv 3) pa_nil)))
 (pss_one (ps_while (passes_of rfl) (pt_cmpR op_eq (pe_op op_mod (pv 2) (pv 3)) pe_int (nomark _)) (pss_one (ps_set (i := 2) sc_divs.nd rfl (Or.inl rfl) (pe_op op_fdivW (pv 2) (pv 3)))))))))
 (pss_one (ps_ret (pv 1))))))), ?_⟩
    refine ⟨_, rfl, rfl, _, rfl, ?_⟩
    by_cases c : n = 0
    · refine if_pos_of (by simp [c]) ?_
      refine ⟨_, rfl, ?_⟩
      exact mk1 fun d H2 s _ hd => e0 c d H2 s hd
    · refine if_neg_of (by simp [c]) ?_
      refine ⟨(by show 0 ≤ sizeLine; decide), fun a ha => ⟨_, rfl, _, rfl, ?_⟩⟩
      have hN : 1 ≤ absI n := by unfold absI; split <;> omega
      have q' := q c
      generalize hM : absI n = m at *
      have hM' : (if n < 0 then -n else n) = m := hM
      refine while_by (fun σ H' => ∃ (fs : List Int) (r d : Int) (x : Option V), σ = [some (.int n), some (.ref a), some (.int r), x] ∧ Fac m fs r d ∧ H' a = some (.lst (fs.map V.int)) ∧ Same H H') (fun σ _ => match σ[2]? with | some (some (V.int r)) => r.toNat | _ => 0)
        ⟨[], m, 2, none, by rw [← hM'] <;> rfl, fac0 hN, upd_same, same_upd ha⟩ ?_ ?_
      · rintro σ H1 ⟨fs, r, d, x, rfl, I, ha1, s1⟩
        have hrm : r ≤ m := Int.le_of_dvd (by omega) I.dv
        refine ⟨_, rfl, _, _, rfl, rfl, _, rfl, ?_⟩
        by_cases c1 : 1 < r
        · refine if_pos_of (decide_eq_true c1) ?_
          refine ⟨_, rfl, r, rfl, by omega, by omega, fun p hp => ?_⟩
          have pp := hp.pr
          have p2 := pp.1
          have pr := hp.le (by omega)
          refine ⟨_, rfl, .inl ⟨rfl, _, SqL.of ha1⟩, _, rfl, a, _, _, rfl, rfl, ha1, (by rw [List.length_map]; exact small1000 (by have := fac_len I hb; omega)), ?_⟩
          refine while_by (fun σ H' => H' = upd H1 a (.lst ((fs ++ [p]).map V.int)) ∧ ∃ r' : Int, σ = [some (.int n), some (.ref a), some (.int r'), some (.int p)] ∧ Tak r p r') (fun σ _ => match σ[2]? with | some (some (V.int r)) => r.toNat | _ => 0)
            ⟨by rw [List.map_append] <;> rfl, r, rfl, tak0 (by omega)⟩ ?_ ?_
          · rintro σ _ ⟨rfl, r', rfl, J⟩
            have jp := J.pos
            refine ⟨_, rfl, _, rfl, _, _, rfl, rfl, (by show 0 < p; omega), rfl, _, rfl, ?_⟩
            by_cases c2 : p ∣ r'
            · refine if_pos_of (decide_eq_true (congrArg V.int (Int.emod_eq_zero_of_dvd c2))) ?_
              have st := tak_step pp J c2
              refine ⟨_, rfl, _, rfl, _, _, rfl, rfl, ⟨by omega, PySem.Flt.log2_lt_of (by decide) (show p.natAbs < 2 ^ 9000 from Nat.lt_of_lt_of_le (show p.natAbs < 2 ^ 62 by omega) (Nat.pow_le_pow_right (by decide) (by decide)))⟩, ⟨rfl, r' / p, rfl, st.1⟩, ?_⟩
              have := st.1.pos
              show (r' / p).toNat < r'.toNat
              omega
            · refine if_neg_of (decide_eq_false fun e => c2 (Int.dvd_of_emod_eq_zero (V.int.inj e))) ?_
              have st := fac_step I pp hp.dvd J c2 fun q hq hd => by
                by_cases z : q < p
                · exact absurd hd (hp.min q hq.1 z)
                · omega
              refine ⟨⟨fs ++ [p], r', p + 1, _, rfl, st.1, upd_same, fun b o e => ?_⟩, ?_⟩
              · rw [upd_ne (ne_of_none e ha)]
                exact s1 b o e
              · show r'.toNat < r.toNat
                have := st.2
                omega
          · rintro σ H1 Q1 Q2 h ⟨v, e1, v2, e2, i, j, e3, e4, hc, e5, k, e6, qq⟩
            exact ⟨v, e1, v2, e2, i, j, e3, e4, hc, e5, k, e6, h _ _ qq⟩
        · refine if_neg_of (decide_eq_false c1) ?_
          have hr1 : r = 1 := by have := I.pos; omega
          subst hr1
          exact ⟨_, rfl, q' fs a H1 (fac_end I) (fac_len I hb) s1 ha ha1⟩
      · rintro σ H1 Q1 Q2 h ⟨v, e1, i, j, e3, e4, k, e6, qq⟩
        exact ⟨v, e1, i, j, e3, e4, k, e6, h _ _ qq⟩
/-- within an except suite: of 1 and -1 -/
def spDivs1 : Sp := fun vs H Q _ => ∃ n : Int, vs = [.int n] ∧ (n = 1 ∨ n = -1) ∧ ∀ a H', Same H H' → H a = none → H' a = some (.lst []) → Q (.ref a) H'
theorem hot_divs {f : Addr} {fd : FuncData} (T : Txt mg) (F : Fun K "prime_divisors" "prime_divisors" s_divs f fd) : L2H.FnH P w K mg base CX0 1 f fd ["n"] spDivs1 := by
  obtain ⟨oc, od, kV, doc, pm, an, cdv, ct, osl, rfl, lk, hcd⟩ := F.ex
  refine L2H.fn_ofH lk hcd sc_divs (fun vs H Q E h => ?_) fun A outer s H vs Q E p hot hr h => ?_
  · obtain ⟨n, rfl, _⟩ := h
    rfl
  · obtain ⟨n, rfl, hn, q⟩ := h
    refine ⟨_, (pss_cons (ps_if (pt_cmpR op_eq (pv 0) pe_int (nomark _)) pss_never pss_nil)
      (pss_cons (ps_set (i := 1) sc_divs.nd rfl (Or.inl rfl) (pe_lst pa_nil))
      (pss_cons (ps_set (i := 2) sc_divs.nd rfl (Or.inl rfl) (pe_callB call_abs (by rfl) T.abs boot_abs (pa_cons (pv 0) pa_nil)))
      (pss_cons (ps_while (passes_of rfl) (pt_cmpR op_gt (pv 2) pe_int (nomark _)) pss_never) (pss_one (ps_ret (pv 1))))))), ?_⟩
    refine ⟨_, rfl, rfl, _, rfl, if_neg_of (decide_eq_false fun e => by have := V.int.inj e; omega) ?_⟩
    refine ⟨(by show 0 ≤ sizeLine; decide), fun a ha => ⟨_, rfl, _, rfl, ?_⟩⟩
    have h1 : (if n < 0 then -n else n) = 1 := by split <;> omega
    refine while_by (fun σ H' => σ = [some (.int n), some (.ref a), some (.int 1), none] ∧ H' = upd H a (.lst [])) (fun _ _ => 0) ⟨by rw [← h1] <;> rfl, rfl⟩ ?_ ?_
    · rintro σ _ ⟨rfl, rfl⟩
      refine ⟨_, rfl, _, _, rfl, rfl, _, rfl, if_neg_of rfl ?_⟩
      exact ⟨_, rfl, q a _ (same_upd ha) ha upd_same⟩
    · rintro σ H1 Q1 Q2 h ⟨v, e1, i, j, e3, e4, k, e6, qq⟩
      exact ⟨v, e1, i, j, e3, e4, k, e6, h _ _ qq⟩
theorem eqvAll_ints : ∀ l m : List Int, PyData.eqvAll (l.map PyData.int) (m.map PyData.int) = decide (l = m)
  | [], [] => by rw [List.map_nil, PyData.eqvAll]; rfl
  | [], b :: m => by rw [List.map_nil, List.map_cons, PyData.eqvAll] <;> first | (exact (decide_eq_false (by simp)).symm) | skip
  | a :: l, [] => by rw [List.map_nil, List.map_cons, PyData.eqvAll] <;> first | (exact (decide_eq_false (by simp)).symm) | skip
  | a :: l, b :: m => by
    rw [List.map_cons, List.map_cons, PyData.eqvAll, PyData.eqv, eqvAll_ints l m]
    by_cases c : a = b
    · subst c
      by_cases c2 : l = m
      · subst c2
        simp
      · simp [c2]
    · simp [c]
theorem eqv_ints (l m : List Int) : PyData.eqv (.list (l.map PyData.int)) (.list (m.map PyData.int)) = decide (l = m) := by
  rw [PyData.eqv]
  exact eqvAll_ints l m
theorem eqv_intsT (l m : List Int) : PyData.eqv (.tuple (l.map PyData.int)) (.tuple (m.map PyData.int)) = decide (l = m) := by
  rw [PyData.eqv]
  exact eqvAll_ints l m
theorem canLay_ints : ∀ l : List Int, PyData.canLayAll0 (l.map PyData.int) = true
  | [] => by rw [List.map_nil, PyData.canLayAll0]
  | a :: l => by rw [List.map_cons, PyData.canLayAll0, PyData.canLay0, canLay_ints l]; rfl
theorem depth_ints : ∀ l : List Int, PyData.depthAll (l.map PyData.int) = 0
  | [] => by rw [List.map_nil, PyData.depthAll]
  | a :: l => by rw [List.map_cons, PyData.depthAll, PyData.depth, depth_ints l]; rfl
theorem shaped_ints (l : List Int) : SeqAt.shaped (.list (l.map PyData.int)) = true := by
  unfold SeqAt.shaped
  rw [PyData.canLay0, canLay_ints, PyData.depth, depth_ints]
  rfl
theorem shaped_intsT (l : List Int) : SeqAt.shaped (.tuple (l.map PyData.int)) = true := by
  unfold SeqAt.shaped
  rw [PyData.canLay0, canLay_ints, PyData.depth, depth_ints]
  rfl
theorem dpAll_ints {K : PySem.W.Frag} {H : Hp} : ∀ l : List Int, DpAll K H (l.map V.int) (l.map PyData.int)
  | [] => .nil
  | a :: l => .cons (.int a) (dpAll_ints l)
theorem dp_lst {K : PySem.W.Frag} {H : Hp} {a : Addr} {l : List Int} (h : SqL K H a (l.map V.int)) : Dp K H (.ref a) (.list (l.map PyData.int)) := .lst h (dpAll_ints l)
theorem dp_tup {K : PySem.W.Frag} {H : Hp} {a : Addr} {l : List Int} (h : SqT K H a (l.map V.int)) : Dp K H (.ref a) (.tuple (l.map PyData.int)) := .tup h (dpAll_ints l)
theorem hu64 {k : Nat} {A : Around} (hr : Room k A) : A.units + 64 < cLine := by
  have := hr.un
  omega
theorem allN {R : V → Prop} : ∀ x ∈ ([] : List V), R x := fun _ h => nomatch h
theorem allC {R : V → Prop} {a : V} {l : List V} (h : R a) (t : ∀ x ∈ l, R x) : ∀ x ∈ a :: l, R x := fun x hx => by
  rcases List.mem_cons.mp hx with e | e
  · rw [e]
    exact h
  · exact t x e
/-- an item at an open place in bounds -/
theorem at_some {xs : List V} {v : Int} (h0 : 0 ≤ v) (h1 : v < xs.length) : ∃ x, atI xs v = some x ∧ x ∈ xs := by
  have hv : ((v.toNat : Nat) : Int) = v := Int.toNat_of_nonneg h0
  have hl : v.toNat < xs.length := by omega
  have z : atI xs ((v.toNat : Nat) : Int) = some xs[v.toNat] := atI_nat (List.getElem?_eq_getElem hl)
  rw [hv] at z
  exact ⟨xs[v.toNat], z, List.getElem_mem hl⟩
def SameBut (p : Addr) (H H' : Hp) : Prop := ∀ b o, b ≠ p → H b = some o → H' b = some o
theorem SameBut.of {p : Addr} {H H' : Hp} (e : ∀ q, q ≠ p → H' q = H q) : SameBut p H H' := fun b o hb h => by
  rw [e b hb]
  exact h
theorem SameBut.trans {p : Addr} {H H1 H2 : Hp} (a : SameBut p H H1) (b : SameBut p H1 H2) : SameBut p H H2 := fun c o hc h => b c o hc (a c o hc h)
theorem sbut {p : Addr} {H H' : Hp} (s : Same H H') : SameBut p H H' := fun b o _ h => s b o h
/-- what was tracked ahead of the pool -/
theorem SameBut.same {p : Addr} {H0 H H' : Hp} (s : Same H0 H) (np : H0 p = none) (e : SameBut p H H') : Same H0 H' := fun b o h => e b o (ne_of_none h np) (s b o h)
theorem PoolAt.same {H H' : Hp} {p : Addr} (h : PoolAt H p) (s : Same H H') : PoolAt H' p := by
  obtain ⟨x, y, z, e⟩ := h
  exact ⟨x, y, z, s _ _ e⟩
theorem PoolAt.new {H : Hp} {p a : Addr} (h : PoolAt H p) (n : H a = none) : a ≠ p := fun e => by
  obtain ⟨x, y, z, q⟩ := h
  rw [e, q] at n
  cases n
theorem pr_3011 : Pr 3011 := pr_of_trial (n := 3011) 60 (by decide +kernel)
theorem pr_99901 : Pr 99901 := pr_of_trial (n := 99901) 330 (by decide +kernel)
theorem prod_b {a b c d : Int} (ha : 2 ≤ a) (hb : 1 ≤ b) (ha2 : a ≤ c) (hb2 : b ≤ d) : 2 ≤ a * b ∧ a * b ≤ c * d := by
  have h1 : a * 1 ≤ a * b := Int.mul_le_mul_of_nonneg_left hb (by omega)
  have h2 : a * b ≤ c * d := Int.mul_le_mul ha2 hb2 (by omega) (by omega)
  omega
abbrev s_number : Stmt := top 14
theorem sc_number : FnScope ["_law_pool_here", "_law_which", "_law_pair"] ["_law_pool_here"] (defScope s_number) := ⟨rfl, rfl, rfl, by decide +kernel, rfl, by decide +kernel, by decide +kernel⟩
def spNum12 : Sp := fun vs H Q _ => ∃ p : Addr, vs = [.ref p] ∧ PoolAt H p ∧ ∀ v H', 2 ≤ v → v < 2 ^ 50 → SameBut p H H' → PoolAt H' p → Q (.int v) H'
theorem ok_number {f : Addr} {fd : FuncData} (T : Txt mg) (F : Fun K "_law_number" "_law_number" s_number f fd) (c_take : Cl P w K mg base CX0 1 "_law_take" spTake) (c_next : Cl P w K mg base CX0 2 "_law_next_prime" spNext) : FnOk P w K mg base CX0 3 f fd ["_law_pool_here"] spNum12 := by
  refine F.ok sc_number (fun vs H Q E h => ?_) (fun cdv A outer s H vs Q E hr h => ?_)
  · obtain ⟨p, rfl, _⟩ := h
    rfl
  · obtain ⟨p, rfl, P0, q⟩ := h
    refine ⟨_, (pss_cons (ps_set (i := 1) sc_number.nd rfl (Or.inl rfl) (pe_cl c_take hr (pa_cons (pv 0) (pa_cons pe_int pa_nil))))
 (pss_cons (ps_set (i := 2) sc_number.nd rfl (Or.inl rfl) (pe_lst (pa_cons (pe_cl c_next hr (pa_cons (pe_op op_add pe_int (pe_cl c_take hr (pa_cons (pv 0) (pa_cons pe_int pa_nil)))) pa_nil)) (pa_cons (pe_cl c_next hr (pa_cons (pe_op op_add pe_int (pe_cl c_take hr (pa_cons (pv 0) (pa_cons pe_int pa_nil)))) pa_nil)) pa_nil))))
 (pss_cons (ps_if (pt_cmpR op_eq (pv 1) pe_int (nomark _)) (pss_one (ps_ret (pe_op op_mul (pe_ix ix_list (pv 2) pe_int (fun _ _ => rfl)) (pe_ix ix_list (pv 2) pe_int (fun _ _ => rfl))))) pss_nil)
 (pss_cons (ps_if (pt_cmpR op_eq (pv 1) pe_int (nomark _)) (pss_one (ps_ret (pe_op op_mul (pe_ix ix_list (pv 2) pe_int (fun _ _ => rfl)) (pe_ix ix_list (pv 2) pe_int (fun _ _ => rfl))))) pss_nil)
 (pss_cons (ps_if (pt_cmpR op_eq (pv 1) pe_int (nomark _)) (pss_one (ps_ret (pe_op op_mul (pe_ix ix_list (pv 2) pe_int (fun _ _ => rfl)) (pe_ix ix_list (pe_lst (pa_cons pe_int (pa_cons pe_int (pa_cons pe_int (pa_cons pe_int (pa_cons pe_int (pa_cons pe_int (pa_cons pe_int (pa_cons pe_int pa_nil))))))))) (pe_cl c_take hr (pa_cons (pv 0) (pa_cons pe_int pa_nil))) (fun _ _ => rfl))))) pss_nil)
 (pss_cons (ps_if (pw_and (pt_cmpR op_eq (pv 1) pe_int (nomark _)) (pw_and1 (pt_cmpR op_eq (pe_cl c_take hr (pa_cons (pv 0) (pa_cons pe_int pa_nil))) pe_int (nomark _)))).pt (pss_one (ps_ret (pe_op op_mul (pe_cl c_next hr (pa_cons (pe_op op_add pe_int (pe_cl c_take hr (pa_cons (pv 0) (pa_cons pe_int pa_nil)))) pa_nil)) (pe_ix ix_list (pe_lst (pa_cons pe_int (pa_cons (pe_ix ix_list (pv 2) pe_int (fun _ _ => rfl)) (pa_cons pe_int pa_nil)))) (pe_cl c_take hr (pa_cons (pv 0) (pa_cons pe_int pa_nil))) (fun _ _ => rfl))))) pss_nil)
 (pss_one (ps_ret (pe_op op_add pe_int (pe_cl c_take hr (pa_cons (pv 0) (pa_cons pe_int pa_nil)))))))))))), ?_⟩
    refine ⟨_, rfl, p, 5, rfl, P0, by decide, by decide, fun wh H1 _ _ e1 P1 => ?_⟩
    refine ⟨_, rfl, p, 3000, rfl, P1, by decide, by decide, fun v1 H2 _ _ e2 P2 => ⟨_, _, rfl, rfl, 2 + v1, 3011, rfl, pr_3011, by omega, by decide, fun a h_a _ a3 => ?_⟩⟩
    refine ⟨_, rfl, p, 3000, rfl, P2, by decide, by decide, fun v2 H3 _ _ e3 P3 => ⟨_, _, rfl, rfl, 2 + v2, 3011, rfl, pr_3011, by omega, by decide, fun b h_b _ b3 => ?_⟩⟩
    have a2 := h_a.1
    have b2 := h_b.1
    refine ⟨(by show 2 ≤ sizeLine; decide), fun t ht => ?_⟩
    have s4 : SameBut p H (upd H3 t (.lst [.int a, .int b])) := ((SameBut.of e1).trans (SameBut.of e2)).trans ((SameBut.of e3).trans (sbut (same_upd ht)))
    have P4 : PoolAt (upd H3 t (.lst [.int a, .int b])) p := P3.same (same_upd ht)
    have tp := P3.new ht
    generalize hH4 : upd H3 t (.lst [.int a, .int b]) = H4 at *
    have hl : H4 t = some (.lst [.int a, .int b]) := by rw [← hH4]; exact upd_same
    refine ⟨_, rfl, rfl, _, rfl, ite2 (fun _ => ?_) (fun _ => ?_)⟩
    · refine ⟨_, rfl, t, _, 0, _, rfl, rfl, SqL.of hl, rfl, _, rfl, t, _, 1, _, rfl, rfl, SqL.of hl, rfl, _, _, rfl, rfl, .inl ⟨by omega, by omega⟩, ?_⟩
      have := prod_b a2 (show 1 ≤ b by omega) a3 b3
      exact q _ _ this.1 (by omega) s4 P4
    refine ⟨_, rfl, rfl, _, rfl, ite2 (fun _ => ?_) (fun _ => ?_)⟩
    · refine ⟨_, rfl, t, _, 0, _, rfl, rfl, SqL.of hl, rfl, _, rfl, t, _, 0, _, rfl, rfl, SqL.of hl, rfl, _, _, rfl, rfl, .inl ⟨by omega, by omega⟩, ?_⟩
      have := prod_b a2 (show 1 ≤ a by omega) a3 a3
      exact q _ _ this.1 (by omega) s4 P4
    refine ⟨_, rfl, rfl, _, rfl, ite2 (fun _ => ?_) (fun _ => ?_)⟩
    · refine ⟨_, rfl, t, _, 0, _, rfl, rfl, SqL.of hl, rfl, (by show 8 ≤ sizeLine; decide), fun m hm => ?_⟩
      have s5 := same_upd (o := .lst [.int 1, .int 2, .int 8, .int 81, .int 6, .int 50, .int 1024, .int 3600]) hm
      refine ⟨_, rfl, p, 8, rfl, P4.same s5, by decide, by decide, fun v H6 v0 v8 e6 P6 => ?_⟩
      have hm6 : H6 m = some (.lst [.int 1, .int 2, .int 8, .int 81, .int 6, .int 50, .int 1024, .int 3600]) := by
        rw [e6 m (P4.new hm)]
        exact upd_same
      have menu : ∀ x ∈ ([.int 1, .int 2, .int 8, .int 81, .int 6, .int 50, .int 1024, .int 3600] : List V), ∃ z : Int, x = .int z ∧ 1 ≤ z ∧ z ≤ 3600 :=
        allC ⟨1, rfl, by decide, by decide⟩ (allC ⟨2, rfl, by decide, by decide⟩ (allC ⟨8, rfl, by decide, by decide⟩ (allC ⟨81, rfl, by decide, by decide⟩ (allC ⟨6, rfl, by decide, by decide⟩ (allC ⟨50, rfl, by decide, by decide⟩ (allC ⟨1024, rfl, by decide, by decide⟩ (allC ⟨3600, rfl, by decide, by decide⟩ allN)))))))
      obtain ⟨x, hx, hmem⟩ := at_some (xs := [.int 1, .int 2, .int 8, .int 81, .int 6, .int 50, .int 1024, .int 3600]) v0 v8
      obtain ⟨z, rfl, z1, z2⟩ := menu x hmem
      refine ⟨m, _, v, _, rfl, rfl, SqL.of hm6, hx, _, _, rfl, rfl, .inl ⟨by omega, by omega⟩, ?_⟩
      have := prod_b a2 z1 a3 z2
      exact q _ _ this.1 (by omega) (s4.trans ((sbut s5).trans (SameBut.of e6))) P6
    refine ⟨_, rfl, rfl, _, rfl, ?_⟩
    have last : ∀ (H5 : Hp), SameBut p H H5 → PoolAt H5 p → spTake [.ref p, .int 20000] H5 (fun y H6 => ∃ i j, V.int 2 = .int i ∧ y = .int j ∧ Q (.int (i + j)) H6) E0 := fun H5 s5 P5 =>
      ⟨p, 20000, rfl, P5, by decide, by decide, fun v H6 v0 v1 e6 P6 => ⟨2, v, rfl, rfl, q _ _ (by omega) (by omega) (s5.trans (SameBut.of e6)) P6⟩⟩
    by_cases c : wh = 3
    · refine if_pos_of (by simp [c]) ?_
      refine ⟨_, rfl, p, 3, rfl, P4, by decide, by decide, fun v5 H5 _ _ e5 P5 => ⟨rfl, _, rfl, ite2 (fun _ => ?_) (fun _ => ?_)⟩⟩
      · have hl5 : H5 t = some (.lst [.int a, .int b]) := by rw [e5 t tp]; exact hl
        refine ⟨_, rfl, p, 9900, rfl, P5, by decide, by decide, fun v6 H6 _ _ e6 P6 => ⟨_, _, rfl, rfl, 90000 + v6, 99901, rfl, pr_99901, by omega, by decide, fun g h_g _ g3 => ?_⟩⟩
        have g2 := h_g.1
        have hl6 : H6 t = some (.lst [.int a, .int b]) := by rw [e6 t tp]; exact hl5
        refine ⟨_, rfl, t, _, 0, _, rfl, rfl, SqL.of hl6, rfl, (by show 3 ≤ sizeLine; decide), fun m hm => ?_⟩
        have s7 := same_upd (o := .lst [.int 1, .int a, .int 99991]) hm
        refine ⟨_, rfl, p, 3, rfl, P6.same s7, by decide, by decide, fun v H8 v0 v8 e8 P8 => ?_⟩
        have hm8 : H8 m = some (.lst [.int 1, .int a, .int 99991]) := by
          rw [e8 m (P6.new hm)]
          exact upd_same
        have menu : ∀ x ∈ ([.int 1, .int a, .int 99991] : List V), ∃ z : Int, x = .int z ∧ 1 ≤ z ∧ z ≤ 99991 := allC ⟨1, rfl, by decide, by decide⟩ (allC ⟨a, rfl, by omega, by omega⟩ (allC ⟨99991, rfl, by decide, by decide⟩ allN))
        obtain ⟨x, hx, hmem⟩ := at_some (xs := [.int 1, .int a, .int 99991]) v0 v8
        obtain ⟨z, rfl, z1, z2⟩ := menu x hmem
        refine ⟨m, _, v, _, rfl, rfl, SqL.of hm8, hx, _, _, rfl, rfl, .inl ⟨by omega, by omega⟩, ?_⟩
        have := prod_b g2 z1 g3 z2
        exact q _ _ this.1 (by omega) (s4.trans ((SameBut.of e5).trans ((SameBut.of e6).trans ((sbut s7).trans (SameBut.of e8))))) P8
      · exact ⟨_, rfl, last H5 (s4.trans (SameBut.of e5)) P5⟩
    · refine if_neg_of (by simp [c]) ?_
      refine if_neg_of rfl ?_
      exact ⟨_, rfl, last H4 s4 P4⟩
/-- an isinstance of an int -/
theorem isi_int {K : PySem.W.Frag} {i : Int} {T : String} {b : Bool} {H : Hp} {Q : VK} (h : kitB "int" T = some b) (q : Q (.bl b) H) : rIsi K [.int i, .ty T] H Q :=
  ⟨_, _, _, _, b, rfl, .ty T, .base (.int i), kit_ty h, q⟩
theorem isi_tup {K : PySem.W.Frag} {a : Addr} {xs : List V} {T : String} {b : Bool} {H : Hp} {Q : VK} (ha : H a = some (.tup xs)) (h : kitB "tuple" T = some b) (q : Q (.bl b) H) : rIsi K [.ref a, .ty T] H Q :=
  ⟨_, _, _, _, b, rfl, .ty T, .base (.tup ha), kit_ty h, q⟩
theorem isi_bl {K : PySem.W.Frag} {x : Bool} {T : String} {b : Bool} {H : Hp} {Q : VK} (h : kitB "bool" T = some b) (q : Q (.bl b) H) : rIsi K [.bl x, .ty T] H Q :=
  ⟨_, _, _, _, b, rfl, .ty T, .base (.bl x), kit_ty h, q⟩
theorem isi_lst {K : PySem.W.Frag} {a : Addr} {xs : List V} {T : String} {b : Bool} {H : Hp} {Q : VK} (ha : H a = some (.lst xs)) (h : kitB "list" T = some b) (q : Q (.bl b) H) : rIsi K [.ref a, .ty T] H Q :=
  ⟨_, _, _, _, b, rfl, .ty T, .base (.lst ha), kit_ty h, q⟩
/-- the law's own promise -/
def spLaw (K : PySem.W.Frag) : Sp := fun vs H Q _ => ∃ (a : Addr) (ns : List Int), vs = [.ref a] ∧ SqL K H a (ns.map V.int) ∧ ns.length ≤ 63 ∧ ∀ H', Q (.bl true) H'
/-- a def called within an except suite, by its promise -/
structure Ch (P : Program) (w : World) (K : PySem.W.Frag) (mg : Str → Option Value) (base : Heap) (k : Nat) (x : Str) (sp : Sp) : Prop where
  ex : ∃ (f : Addr) (fd : FuncData) (ps : List Str), L2H.FnH P w K mg base CX0 k f fd ps sp ∧ mg x = some (.ref f) ∧ PySem.W.keepIn K (.ref f) = true ∧ Binds K fd ps []
theorem pe_ch {X : Cx} {k j : Nat} {x : Str} {sp : Sp} {p pos : Pos} {e : Expr} {es : List Expr} {t : TA} (c : Ch X.prog X.w X.K X.mg X.base k x sp) (hr : L2H.RoomH j X.A) (hot : L2H.HotC X) (ha : PA X (e :: es) t) (hk : k ≤ j := by decide) (hg : Gl X x := by rfl)
    (hdb : (x == ("__debug__" : Str)) = false := by decide) (he : starEach (e :: es) X.env = (false, eval e X.env) :: starEach es X.env := by rfl) (hpl : (backTo pos (starEach es X.env)).any (·.1) = false := by rfl) :
    PE X (.Call (.Name x p) (e :: es) [] pos) (tCallS sp (fun _ => E0) t) := by
  obtain ⟨f, fd, ps, F, hm, kp, b⟩ := c.ex
  exact L2H.pe_callH F (hr.mono hk) hot hg hm kp b (fun _ _ _ _ _ _ _ h => h.elim) ha hdb he hpl
theorem fac_to {n : Int} {fs : List Int} {r d d' : Int} (F : Fac n fs r d) (h : d ≤ d') (u : ∀ q, Pr q → q ∣ r → d' ≤ q) : Fac n fs r d' :=
  ⟨F.pos, F.dv, F.asc, fun f hf => by have := F.low f hf; omega, F.mem, F.all, u, F.len⟩
theorem pd_self {n : Int} {l : List Int} (h : PD n l) (hn : 2 ≤ n) : decide (l = [n]) = prB n := by
  by_cases c : Pr n
  · have e : l = [n] := h.uniq ⟨List.pairwise_singleton _ _, fun q => ⟨fun hq => by rw [List.mem_singleton.mp hq]; exact ⟨c, Int.dvd_refl n⟩, fun ⟨h1, h2⟩ => List.mem_singleton.mpr (pr_dvd_pr c h1 h2)⟩⟩
    rw [prB_true c, e]
    exact decide_eq_true rfl
  · rw [prB_false c]
    refine decide_eq_false fun e => c ?_
    have : n ∈ l := by rw [e]; exact List.mem_singleton.mpr rfl
    exact ((h.2 n).mp this).1
theorem npr_le' {p : Int} (h : p < 2) : ¬ Pr p := fun q => by have := q.1; omega
theorem nlm {a b N d d' : Nat} (h : a < b) (hd : d ≤ N) : a * (N + 2) + d < b * (N + 2) + d' := by
  have : (a + 1) * (N + 2) ≤ b * (N + 2) := Nat.mul_le_mul_right _ h
  rw [Nat.add_mul] at this
  omega
abbrev s_law : Stmt := top 15
theorem sc_law : FnScope ["_law_script", "_law_k", "_law_pool_here", "_law_n", "_law_due", "_law_left", "_law_d", "_law_sign", "_law_told", "_law_below", "e"] ["_law_script"] (defScope s_law) := ⟨rfl, rfl, rfl, by decide +kernel, rfl, by decide +kernel, by decide +kernel⟩
theorem ok_law {f C fI : Addr} {fd : FuncData} (T : Txt mg) (F : Fun K "law" "law" s_law f fd) (TB : ErrC K mg "BadNumber" "n" C fI) (c_pool : Cl P w K mg base CX0 1 "_law_pool" spPool) (c_take : Cl P w K mg base CX0 1 "_law_take" spTake) (c_cell : Cl P w K mg base CX0 1 "_law_cell" (spCellL K)) (c_number : Cl P w K mg base CX0 3 "_law_number" spNum12)
    (c_prime : Cl P w K mg base CX0 2 "is_prime" spPrime) (c_divs : Cl P w K mg base (L2N.CX P w) 3 "prime_divisors" (spDivs C)) (h_divs : Ch P w K mg base 1 "prime_divisors" spDivs1) : FnOk P w K mg base CX0 4 f fd ["_law_script"] (spLaw K) := by
  refine F.ok sc_law (fun vs H Q E h => ?_) (fun cdv A outer s H vs Q E hr h => ?_)
  · obtain ⟨a, ns, rfl, _⟩ := h
    rfl
  · obtain ⟨l, ns, rfl, hS, hlen, q⟩ := h
    refine ⟨_, (Evl.pss_cut (ps_for PassesOwn.never rfl (pi_range1 rfl T.range (pa_cons (pe_callB (call_max2 rfl) (by rfl) T.max boot_max (pa_cons pe_int (pa_cons (pe_callB (call_min2 rfl) (by rfl) T.min boot_min (pa_cons (pe_callB call_len_seq (by rfl) T.len PySem.boot_len (pa_cons (pv 0) pa_nil)) (pa_cons pe_int pa_nil))) pa_nil))) pa_nil)) (pg_name (i := 1) sc_law.nd rfl (Or.inl rfl)) (pss_cons (ps_set (i := 2) sc_law.nd rfl (Or.inl rfl) (pe_cl c_pool hr (pa_cons (pe_cl c_cell hr (pa_cons (pv 0) (pa_cons (pv 1) pa_nil))) pa_nil)))
 (pss_cons (ps_set (i := 3) sc_law.nd rfl (Or.inl rfl) (pe_cl c_number hr (pa_cons (pv 2) pa_nil)))
 (pss_cons (ps_set (i := 4) sc_law.nd rfl (Or.inl rfl) (pe_lst pa_nil))
 (pss_cons (ps_set (i := 5) sc_law.nd rfl (Or.inl rfl) (pv 3))
 (pss_cons (ps_set (i := 6) sc_law.nd rfl (Or.inl rfl) pe_int)
 (Evl.pss_cut (ps_while PassesOwn.never (pt_cmpR op_gt (pv 5) pe_int (nomark _)) (Evl.pss_cut (ps_if (pt_cmpR op_gt (pe_op op_mul (pv 6) (pv 6)) (pv 5) (nomark _)) (pss_one (ps_set (i := 6) sc_law.nd rfl (Or.inl rfl) (pv 5))) pss_nil)
 (Evl.pss_cut (ps_if (pt_cmpR op_eq (pe_op op_mod (pv 5) (pv 6)) pe_int (nomark _)) (pss_cons (ps_expr (pe_bm PySem.F.plainAttrs_list PySem.F.slot_list_append PySem.F.type_list_append mt_append (pv 4) (pa_cons (pv 6) pa_nil)))
 (pss_one (ps_while PassesOwn.never (pt_cmpR op_eq (pe_op op_mod (pv 5) (pv 6)) pe_int (nomark _)) (pss_one (ps_set (i := 5) sc_law.nd rfl (Or.inl rfl) (pe_op op_fdivW (pv 5) (pv 6))))))) pss_nil)
 (pss_one (ps_set (i := 6) sc_law.nd rfl (Or.inl rfl) (pe_op op_add (pv 6) pe_int))))))
 (Evl.pss_cut (ps_if (pw_or (pw_and (pt_cmpR op_isnot_bl (pe_cl c_prime hr (pa_cons (pv 3) pa_nil)) pe_bl (nomark _)) (pw_and1 (pt_cmpR op_isnot_bl (pe_cl c_prime hr (pa_cons (pv 3) pa_nil)) pe_bl (nomark _)))).pt (pw_or1 (pt_cmpR op_ne (pe_cl c_prime hr (pa_cons (pv 3) pa_nil)) (pe_cmpR (op_eqD (hu64 hr)) (pv 4) (pe_lst (pa_cons (pv 3) pa_nil)) (nomark _)) (nomark _)))).pt (pss_one (ps_ret pe_bl)) pss_nil)
 (Evl.pss_cut (ps_for PassesOwn.never rfl (pi_list (pe_lst (pa_cons pe_int (pa_cons (pe_un un_neg pe_int) (pa_cons pe_int pa_nil))))) (pg_name (i := 7) sc_law.nd rfl (Or.inl rfl)) (pss_cons (ps_set (i := 8) sc_law.nd rfl (Or.inl rfl) (pe_clN0 c_divs hr (pa_cons (pe_op op_mul (pv 7) (pv 3)) pa_nil)))
 (pss_cons (ps_if (pw_or (pt_not (pt_val (pe_callB call_isi (by rfl) T.isinstance boot_isinstance (pa_cons (pv 8) (pa_cons (pe_bltn (v := .ty "list") (by rfl) T.list boot_list rfl) pa_nil))))) (pw_or1 (pt_cmpR (op_neD (hu64 hr)) (pv 8) (pv 4) (nomark _)))).pt (pss_one (ps_ret pe_bl)) pss_nil)
 (pss_one (ps_expr (pe_bm PySem.F.plainAttrs_list PySem.F.slot_list_append PySem.F.type_list_append mt_append (pv 8) (pa_cons pe_int pa_nil)))))))
 (pss_cons (ps_set (i := 9) sc_law.nd rfl (Or.inl rfl) (pe_op op_sub pe_int (pe_op op_mod (pe_callTy call_int1 (by rfl) T.int boot_int (pa_cons (pe_callB call_abs (by rfl) T.abs boot_abs (pa_cons (pe_cl c_cell hr (pa_cons (pv 0) (pa_cons (pv 1) pa_nil))) pa_nil)) pa_nil)) (pe_ix ix_list (pe_lst (pa_cons pe_int (pa_cons (pe_op op_pow pe_int pe_int) pa_nil))) (pe_cl c_take hr (pa_cons (pv 2) (pa_cons pe_int pa_nil))) (fun _ _ => rfl)))))
 (pss_one (ps_if (pt_cmpR op_isnot_bl (pe_cl c_prime hr (pa_cons (pv 9) pa_nil)) pe_bl (nomark _)) (pss_one (ps_ret pe_bl)) pss_nil))))))))))))
 (pss_cons (L2N.ps_try_as (i := 10) rfl rfl sc_law.nd rfl rfl ⟨rfl, by decide, Or.inl TB.g⟩ takes0N
  (fun W pn xe tk _ => (pss_one (ps_expr (pe_clNX c_divs hr tk (pa_cons pe_int pa_nil)))))
  (fun a oe cls d pn hz hf => (pss_one (ps_ret (pe_and (pe_cmpR op_eq (pe_xf TB.xf TB.no hz.zc hf (pv 10)) pe_int (nomark _)) (pe_and (pe_cmpR (r := rEqD K) (op_eqD (by have z := hu64 hr; exact z)) (pe_ch h_divs (L2H.roomH_mark hr _) ⟨_, ⟨rfl, _, hf.choose_spec, hz.2.2 _ hf.choose_spec⟩, List.mem_cons_self⟩ (pa_cons pe_int pa_nil)) (pe_lst pa_nil) (nomark _)) (pe_one (pe_cmpR (r := rEqD K) (op_eqD (by have z := hu64 hr; exact z)) (pe_ch h_divs (L2H.roomH_mark hr _) ⟨_, ⟨rfl, _, hf.choose_spec, hz.2.2 _ hf.choose_spec⟩, List.mem_cons_self⟩ (pa_cons (pe_un un_neg pe_int) pa_nil)) (pe_lst pa_nil) (nomark _)))))))))
 (pss_one (ps_ret pe_bl)))), ?_⟩
    refine ⟨fun σ H' => Same H H' ∧ ∃ x1 x2 x3 x4 x5 x6 x7 x8 x9, σ = [some (.ref l), x1, x2, x3, x4, x5, x6, x7, x8, x9, none], ?_, ?_⟩
    · refine ⟨_, rfl, l, _, rfl, .inl hS, _, _, rfl, _, _, rfl, _, rfl, ?_, ?_, ?_⟩
      · rw [List.length_map]
        split <;> split <;> omega
      · rw [List.length_map]
        split <;> split <;> omega
      refine for_range (fun _ σ H' => Same H H' ∧ ∃ x1 x2 x3 x4 x5 x6 x7 x8 x9, σ = [some (.ref l), x1, x2, x3, x4, x5, x6, x7, x8, x9, none]) ⟨Same.refl _, _, _, _, _, _, _, _, _, _, rfl⟩ ?_ ?_
      · rintro i σ H0 _ ⟨s0, x1, x2, x3, x4, x5, x6, x7, x8, x9, rfl⟩
        refine ⟨_, rfl, _, rfl, l, ns, i, (by rw [Int.zero_add] <;> rfl), s0.seq hS, fun c => ⟨c, rfl, fun p H1 np s1 P1 => ?_⟩⟩
        refine ⟨_, rfl, p, rfl, P1, fun n H2 n2 nb sb P2 => ?_⟩
        have s2 : Same H0 H2 := SameBut.same s1 np sb
        refine ⟨(by show 0 ≤ sizeLine; decide), fun du hdu => ⟨_, rfl, ?_⟩⟩
        have hdp := P2.new hdu
        have n62 : n < 2 ^ 62 := by omega
        refine ⟨fun σ H' => ∃ (fs : List Int) (x6 : Option V), σ = [some (.ref l), some (.int (0 + (i : Int))), some (.ref p), some (.int n), some (.ref du), some (.int 1), x6, x7, x8, x9, none] ∧ PD n fs ∧ H' du = some (.lst (fs.map V.int)) ∧ PoolAt H' p ∧ Same H0 H', ?_, ?_⟩
        · refine while_by (fun σ H' => ∃ (fs : List Int) (r d : Int), σ = [some (.ref l), some (.int (0 + (i : Int))), some (.ref p), some (.int n), some (.ref du), some (.int r), some (.int d), x7, x8, x9, none] ∧ Fac n fs r d ∧ 2 ≤ d ∧ d ≤ n + 1 ∧ H' du = some (.lst (fs.map V.int)) ∧ PoolAt H' p ∧ Same H0 H')
            (fun σ _ => match σ[5]?, σ[6]? with | some (some (V.int r)), some (some (V.int d)) => r.toNat * ((n + 1).toNat + 2) + (n + 1 - d).toNat | _, _ => 0)
            ⟨[], n, 2, rfl, fac0 (by omega), by omega, by omega, upd_same, P2.same (same_upd hdu), s2.trans (same_upd hdu)⟩ ?_ ?_
          · rintro σ H3 ⟨fs, r, d, rfl, I, d2, dn, hd3, P3, s3⟩
            have hrn : r ≤ n := Int.le_of_dvd (by omega) I.dv
            have rp := I.pos
            refine ⟨_, rfl, _, _, rfl, rfl, _, rfl, ?_⟩
            by_cases c1 : 1 < r
            · refine if_pos_of (decide_eq_true c1) ?_
              refine ⟨fun σ H' => H' = H3 ∧ ∃ e : Int, σ = [some (.ref l), some (.int (0 + (i : Int))), some (.ref p), some (.int n), some (.ref du), some (.int r), some (.int e), x7, x8, x9, none] ∧ Fac n fs r e ∧ 2 ≤ e ∧ e ≤ r ∧ ((e ∣ r ∧ ∀ q, Pr q → q ∣ r → e ≤ q) ∨ e = d), ?_, ?_⟩
              · refine ⟨_, rfl, _, rfl, _, _, rfl, rfl, .inl ⟨by omega, by omega⟩, _, rfl, _, _, rfl, rfl, _, rfl, ?_⟩
                by_cases c2 : r < d * d
                · refine if_pos_of (decide_eq_true c2) ?_
                  have J := fac_jump I d2 c1 c2
                  have hdr := I.up r J.1 (Int.dvd_refl r)
                  exact ⟨_, rfl, rfl, r, rfl, fac_to I hdr J.2, by omega, by omega, .inl ⟨Int.dvd_refl r, J.2⟩⟩
                · refine if_neg_of (decide_eq_false c2) ?_
                  have := root_le d2 (show d * d ≤ r by omega)
                  exact ⟨rfl, d, rfl, I, d2, by omega, .inr rfl⟩
              · rintro σ _ ⟨rfl, e, rfl, Ie, e2, er, he⟩
                refine ⟨fun σ H' => ∃ (fs' : List Int) (r' : Int), σ = [some (.ref l), some (.int (0 + (i : Int))), some (.ref p), some (.int n), some (.ref du), some (.int r'), some (.int e), x7, x8, x9, none] ∧ Fac n fs' r' (e + 1) ∧ (r' < r ∨ (r' = r ∧ e = d)) ∧ H' du = some (.lst (fs'.map V.int)) ∧ PoolAt H' p ∧ Same H0 H', ?_, ?_⟩
                · refine ⟨_, rfl, _, rfl, _, _, rfl, rfl, (by show 0 < e; omega), rfl, _, rfl, ?_⟩
                  by_cases c3 : e ∣ r
                  · refine if_pos_of (decide_eq_true (congrArg V.int (Int.emod_eq_zero_of_dvd c3))) ?_
                    have pe := fac_pr Ie e2 c3
                    have hmin : ∀ q, Pr q → q ∣ r → e ≤ q := Ie.up
                    refine ⟨_, rfl, .inl ⟨rfl, _, SqL.of hd3⟩, _, rfl, du, _, _, rfl, rfl, hd3, (by rw [List.length_map]; exact small1000 (by have := fac_len I n62; omega)), ?_⟩
                    refine while_by (fun σ H' => H' = upd H' du (.lst ((fs ++ [e]).map V.int)) ∧ H' du = some (.lst ((fs ++ [e]).map V.int)) ∧ PoolAt H' p ∧ Same H0 H' ∧ ∃ r' : Int, σ = [some (.ref l), some (.int (0 + (i : Int))), some (.ref p), some (.int n), some (.ref du), some (.int r'), some (.int e), x7, x8, x9, none] ∧ Tak r e r') (fun σ _ => match σ[5]? with | some (some (V.int r)) => r.toNat | _ => 0)
                      ⟨by rw [List.map_append]; exact upd_upd.symm, by rw [List.map_append]; exact upd_same, ?_, ?_, r, rfl, tak0 rp⟩ ?_ ?_
                    · obtain ⟨a1, a2, a3, a4⟩ := P3
                      exact ⟨a1, a2, a3, by rw [upd_ne (Ne.symm hdp)]; exact a4⟩
                    · intro b o eb
                      rw [upd_ne (ne_of_none (s2 b o eb) hdu)]
                      exact s3 b o eb
                    · rintro σ H4 ⟨u4, hd4, P4, s4, r', rfl, J⟩
                      have jp := J.pos
                      refine ⟨_, rfl, _, rfl, _, _, rfl, rfl, (by show 0 < e; omega), rfl, _, rfl, ?_⟩
                      by_cases c4 : e ∣ r'
                      · refine if_pos_of (decide_eq_true (congrArg V.int (Int.emod_eq_zero_of_dvd c4))) ?_
                        have st := tak_step pe J c4
                        refine ⟨_, rfl, _, rfl, _, _, rfl, rfl, ⟨by omega, PySem.Flt.log2_lt_of (by decide) (show e.natAbs < 2 ^ 9000 from Nat.lt_of_lt_of_le (show e.natAbs < 2 ^ 62 by omega) (Nat.pow_le_pow_right (by decide) (by decide)))⟩, ⟨u4, hd4, P4, s4, r' / e, rfl, st.1⟩, ?_⟩
                        have := st.1.pos
                        show (r' / e).toNat < r'.toNat
                        omega
                      · refine if_neg_of (decide_eq_false fun z => c4 (Int.dvd_of_emod_eq_zero (V.int.inj z))) ?_
                        have st := fac_step Ie pe c3 J c4 hmin
                        exact ⟨fs ++ [e], r', rfl, st.1, .inl st.2, hd4, P4, s4⟩
                    · rintro σ H1 Q1 Q2 h ⟨v, e1, v2, e2, i, j, e3, e4, hc, e5, k, e6, qq⟩
                      exact ⟨v, e1, v2, e2, i, j, e3, e4, hc, e5, k, e6, h _ _ qq⟩
                  · refine if_neg_of (decide_eq_false fun z => c3 (Int.dvd_of_emod_eq_zero (V.int.inj z))) ?_
                    exact ⟨fs, r, rfl, fac_up Ie c3, .inr ⟨rfl, he.resolve_left fun z => c3 z.1⟩, hd3, P3, s3⟩
                · rintro σ H4 ⟨fs', r', rfl, I', hlt, hd4, P4, s4⟩
                  have rp' := I'.pos
                  refine ⟨_, rfl, _, _, rfl, rfl, ⟨fs', r', e + 1, rfl, I', by omega, by omega, hd4, P4, s4⟩, ?_⟩
                  show r'.toNat * ((n + 1).toNat + 2) + (n + 1 - (e + 1)).toNat < r.toNat * ((n + 1).toNat + 2) + (n + 1 - d).toNat
                  rcases hlt with z | ⟨z1, z2⟩
                  · exact nlm (by omega) (by omega)
                  · rw [z1, z2]
                    omega
            · refine if_neg_of (decide_eq_false c1) ?_
              have e1 : r = 1 := by omega
              subst e1
              exact ⟨fs, _, rfl, fac_end I, hd3, P3, s3⟩
          · rintro σ H1 Q1 Q2 h ⟨v, e1, i, j, e3, e4, k, e6, qq⟩
            exact ⟨v, e1, i, j, e3, e4, k, e6, h _ _ qq⟩
        · rintro σ H3 ⟨fs, x6, rfl, hpd, hd3, P3, s3⟩
          have e1 : PyData.eqv (.list (fs.map PyData.int)) (.list (([n] : List Int).map PyData.int)) = prB n := by rw [eqv_ints]; exact pd_self hpd n2
          refine ⟨fun σ H' => Same H3 H' ∧ σ = [some (.ref l), some (.int (0 + (i : Int))), some (.ref p), some (.int n), some (.ref du), some (.int 1), x6, x7, x8, x9, none], ?_, ?_⟩
          · refine ⟨_, rfl, n, rfl, n62, _, _, rfl, rfl, _, rfl, ?_⟩
            cases hpb : prB n with
            | true =>
              rw [hpb] at e1
              refine if_neg_of rfl (if_neg_of rfl ?_)
              refine ⟨_, rfl, n, rfl, n62, _, rfl, _, rfl, (by show 1 ≤ sizeLine; decide), fun q5 n5 => ?_⟩
              refine ⟨_, _, dp_lst (SqL.of (same_upd n5 _ _ hd3)), dp_lst (l := [n]) (SqL.of upd_same), shaped_ints fs, shaped_ints [n], rfl, _, rfl, iteNS (by rw [hpb, e1]) ?_⟩
              exact ⟨same_upd n5, rfl⟩
            | false =>
              rw [hpb] at e1
              refine if_pos_of rfl ?_
              refine ⟨_, rfl, n, rfl, n62, _, _, rfl, rfl, _, rfl, if_neg_of (by rw [hpb]; rfl) ?_⟩
              refine ⟨_, rfl, n, rfl, n62, _, rfl, _, rfl, (by show 1 ≤ sizeLine; decide), fun q5 n5 => ?_⟩
              refine ⟨_, _, dp_lst (SqL.of (same_upd n5 _ _ hd3)), dp_lst (l := [n]) (SqL.of upd_same), shaped_ints fs, shaped_ints [n], rfl, _, rfl, iteNS (by rw [hpb, e1]) ?_⟩
              exact ⟨same_upd n5, rfl⟩
          rintro σ H4 ⟨s4, rfl⟩
          have hd4 := s4 _ _ hd3
          have P4 := P3.same s4
          refine ⟨fun σ H' => Same H4 H' ∧ ∃ x7 x8, σ = [some (.ref l), some (.int (0 + (i : Int))), some (.ref p), some (.int n), some (.ref du), some (.int 1), x6, x7, x8, x9, none], ?_, ?_⟩
          · refine ⟨_, rfl, (by show 3 ≤ sizeLine; decide), fun q6 n6 => ?_⟩
            have s5 := same_upd (o := .lst [.int 1, .int (-1), .int 1]) n6
            have all : ∀ x ∈ ([.int 1, .int (-1), .int 1] : List V), ∃ z : Int, x = .int z ∧ (z = 1 ∨ z = -1) := allC ⟨_, rfl, .inl rfl⟩ (allC ⟨_, rfl, .inr rfl⟩ (allC ⟨_, rfl, .inl rfl⟩ allN))
            refine ⟨q6, rfl, ⟨_, SqL.of upd_same⟩, for_list (K := K) (a := q6) (xs := [.int 1, .int (-1), .int 1]) (fun _ σ H' => Same _ H' ∧ ∃ x7 x8, σ = [some (.ref l), some (.int (0 + (i : Int))), some (.ref p), some (.int n), some (.ref du), some (.int 1), x6, x7, x8, x9, none])
              ⟨Same.refl _, _, _, rfl⟩ (fun i σ H' _ h => h.1.seq (SqL.of upd_same)) ?_ ?_⟩
            · rintro j y σ H6 hj ⟨s6, x7, x8, rfl⟩
              obtain ⟨z, rfl, hz⟩ := all y (List.mem_of_getElem? hj)
              have hab : absI (z * n) = n := by
                unfold absI
                rcases hz with rfl | rfl
                · rw [Int.one_mul, if_neg (by omega)]
                · rw [Int.neg_one_mul, if_pos (by omega)]
                  omega
              have hne : z * n ≠ 0 := fun e => by
                rw [e] at hab
                unfold absI at hab
                simp at hab
                omega
              refine ⟨_, rfl, _, rfl, _, _, rfl, rfl, .inl ⟨by omega, by omega⟩, z * n, rfl, by rw [hab]; exact n62, fun h0 => absurd h0 hne, fun _ fs' a H7 hpd' hl' s7 na ha => ?_⟩
              rw [hab] at hpd'
              have hfs := hpd'.uniq hpd
              subst hfs
              have hdu7 := s7 _ _ (s6 _ _ (s5 _ _ hd4))
              refine ⟨_, rfl, _, _, _, _, true, rfl, .ty _, .base (.lst ha), kit_ty (by decide +kernel), _, rfl, if_neg_of rfl ?_⟩
              refine ⟨_, rfl, _, rfl, _, _, dp_lst (SqL.of ha), dp_lst (SqL.of hdu7), shaped_ints _, shaped_ints _, _, rfl, if_neg_of (by rw [eqv_ints]; simp) ?_⟩
              refine ⟨_, rfl, .inl ⟨rfl, _, SqL.of ha⟩, a, _, _, rfl, rfl, ha, (by rw [List.length_map]; exact small1000 (by omega)), ?_⟩
              refine ⟨fun b o eb => ?_, _, _, rfl⟩
              rw [upd_ne (ne_of_none (s6 b o eb) na)]
              exact s7 b o (s6 b o eb)
            · rintro σ H6 ⟨s6, x7, x8, rfl⟩
              exact ⟨s5.trans s6, _, _, rfl⟩
          rintro σ H5 ⟨s5, x7, x8, rfl⟩
          have P5 := P4.same s5
          have s05 := (s3.trans s4).trans s5
          refine ⟨_, rfl, _, rfl, l, ns, i, (by rw [Int.zero_add] <;> rfl), (s0.trans s05).seq hS, fun cc => ⟨_, rfl, .inl ⟨_, rfl, _, _, rfl, rfl, ⟨by decide, by decide, by decide⟩, (by show 2 ≤ sizeLine; decide), fun q7 n7 => ?_⟩⟩⟩
          have s6 := same_upd (o := .lst [.int 10, .int ((10 : Int) ^ (40 : Int).toNat)]) n7
          refine ⟨_, rfl, p, 2, rfl, P5.same s6, by decide, by decide, fun v H7 v0 v2 e7 P7 => ?_⟩
          have hq7 : H7 q7 = some (.lst [.int 10, .int ((10 : Int) ^ (40 : Int).toNat)]) := by
            rw [e7 q7 (P5.new n7)]
            exact upd_same
          have menu : ∀ x ∈ ([.int 10, .int ((10 : Int) ^ (40 : Int).toNat)] : List V), ∃ z : Int, x = .int z ∧ 1 ≤ z := allC ⟨_, rfl, by decide⟩ (allC ⟨_, rfl, by decide⟩ allN)
          obtain ⟨x, hx, hmem⟩ := at_some (xs := [.int 10, .int ((10 : Int) ^ (40 : Int).toNat)]) v0 v2
          obtain ⟨z, rfl, z1⟩ := menu x hmem
          refine ⟨q7, _, v, _, rfl, rfl, SqL.of hq7, hx, _, _, rfl, rfl, (by show 0 < z; omega), _, _, rfl, rfl, ?_⟩
          have hmod := Int.emod_nonneg (if cc < 0 then -cc else cc) (show z ≠ 0 by omega)
          have s7 : Same H0 H7 := fun b o eb => by
            rw [e7 b (ne_of_none eb np)]
            exact s6 b o (s05 b o eb)
          refine ⟨_, rfl, _, rfl, by show 1 - _ % z < 2 ^ 62; omega, _, _, rfl, rfl, _, rfl, if_neg_of (by rw [prB_false (npr_le' (by show 1 - _ % z < 2; omega))]; rfl) ?_⟩
          exact ⟨s0.trans s7, _, _, _, _, _, _, _, _, _, rfl⟩
      · rintro σ H0 ⟨s0, x1, x2, x3, x4, x5, x6, x7, x8, x9, rfl⟩
        exact ⟨s0, _, _, _, _, _, _, _, _, _, rfl⟩
    · rintro σ H0 ⟨s0, x1, x2, x3, x4, x5, x6, x7, x8, x9, rfl⟩
      refine ⟨0, rfl, by decide, fun _ d H' s1 hd => ?_, fun h => absurd rfl h⟩
      refine ⟨true, TB.te, fun _ a _ => ?_, fun q => Bool.noConfusion q⟩
      refine ⟨_, rfl, rfl, rfl, d, _, _, rfl, hd, rfl, rfl, _, rfl, if_pos_of rfl ?_⟩
      refine ⟨1, rfl, .inl rfl, fun a1 H1 s2 n1 h1 => ⟨(by show 0 ≤ sizeLine; decide), fun a2 n2 => ?_⟩⟩
      refine ⟨_, _, dp_lst (l := []) (SqL.of (same_upd n2 _ _ h1)), dp_lst (l := []) (SqL.of upd_same), shaped_ints [], shaped_ints [], _, rfl, if_pos_of (by rw [eqv_ints]; rfl) ?_⟩
      refine ⟨_, rfl, -1, rfl, .inr rfl, fun a3 H3 s3 n3 h3 => ⟨(by show 0 ≤ sizeLine; decide), fun a4 n4 => ?_⟩⟩
      refine ⟨_, _, dp_lst (l := []) (SqL.of (same_upd n4 _ _ h3)), dp_lst (l := []) (SqL.of upd_same), shaped_ints [], shaped_ints [], ?_⟩
      rw [eqv_ints]
      exact q _
end
theorem all_mk {P : Program} {w : World} {K : PySem.W.Frag} {h : Heap} {mg : Str → Option Value} {fa : Addr} (X : K.In h) (G : h.Ns mainGlobals mg) (hfa : mg "law" = some (.ref fa))
    {f_least : Addr} {od_least an_least : Option Addr} {sl_least : Array (Option Value)} {oc_least kV_least dc_least pm_least cd_least ct_least : Value}
    {f_prime : Addr} {od_prime an_prime : Option Addr} {sl_prime : Array (Option Value)} {oc_prime kV_prime dc_prime pm_prime cd_prime ct_prime : Value}
    {f_divs : Addr} {od_divs an_divs : Option Addr} {sl_divs : Array (Option Value)} {oc_divs kV_divs dc_divs pm_divs cd_divs ct_divs : Value}
    {f_pool : Addr} {od_pool an_pool : Option Addr} {sl_pool : Array (Option Value)} {oc_pool kV_pool dc_pool pm_pool cd_pool ct_pool : Value}
    {f_take : Addr} {od_take an_take : Option Addr} {sl_take : Array (Option Value)} {oc_take kV_take dc_take pm_take cd_take ct_take : Value}
    {f_cell : Addr} {od_cell an_cell : Option Addr} {sl_cell : Array (Option Value)} {oc_cell kV_cell dc_cell pm_cell cd_cell ct_cell : Value}
    {f_lprime : Addr} {od_lprime an_lprime : Option Addr} {sl_lprime : Array (Option Value)} {oc_lprime kV_lprime dc_lprime pm_lprime cd_lprime ct_lprime : Value}
    {f_next : Addr} {od_next an_next : Option Addr} {sl_next : Array (Option Value)} {oc_next kV_next dc_next pm_next cd_next ct_next : Value}
    {f_number : Addr} {od_number an_number : Option Addr} {sl_number : Array (Option Value)} {oc_number kV_number dc_number pm_number cd_number ct_number : Value}
    {f_law : Addr} {od_law an_law : Option Addr} {sl_law : Array (Option Value)} {oc_law kV_law dc_law pm_law cd_law ct_law : Value}
    {CF : Addr}
    {C_ibn f_ibn : Addr} {nm_ibn q_ibn : Str} {N_ibn : Addr} {bs_ibn sb_ibn : List Value} {sn_ibn : List Str} {ab_ibn : Bool} {co_ibn : Option Bool} {dd_ibn : Option Addr} {x0_ibn x1_ibn x2_ibn x3_ibn x5_ibn : Option Value} {od_ibn an_ibn : Option Addr} {sl_ibn : Array (Option Value)} {oc_ibn kV_ibn dc_ibn pm_ibn cd_ibn ct_ibn : Value}
    (a_least : PySem.W.nsIn K mainGlobals "_least_divisor" = some (some (.ref f_least))) (l_least : K.lookup f_least = some ⟨oc_least, od_least, .func (PySem.W.fnOf "_least_divisor" "_least_divisor" (defArgs s_least) (defBody s_least) (defScope s_least) .none kV_least dc_least pm_least an_least cd_least ct_least), sl_least⟩) (c_least : PySem.W.codeIn K cd_least "_least_divisor" = true) (k_least : PySem.W.keepIn K (.ref f_least) = true)
    (a_prime : PySem.W.nsIn K mainGlobals "is_prime" = some (some (.ref f_prime))) (l_prime : K.lookup f_prime = some ⟨oc_prime, od_prime, .func (PySem.W.fnOf "is_prime" "is_prime" (defArgs s_prime) (defBody s_prime) (defScope s_prime) .none kV_prime dc_prime pm_prime an_prime cd_prime ct_prime), sl_prime⟩) (c_prime : PySem.W.codeIn K cd_prime "is_prime" = true) (k_prime : PySem.W.keepIn K (.ref f_prime) = true)
    (a_divs : PySem.W.nsIn K mainGlobals "prime_divisors" = some (some (.ref f_divs))) (l_divs : K.lookup f_divs = some ⟨oc_divs, od_divs, .func (PySem.W.fnOf "prime_divisors" "prime_divisors" (defArgs s_divs) (defBody s_divs) (defScope s_divs) .none kV_divs dc_divs pm_divs an_divs cd_divs ct_divs), sl_divs⟩) (c_divs : PySem.W.codeIn K cd_divs "prime_divisors" = true) (k_divs : PySem.W.keepIn K (.ref f_divs) = true)
    (a_pool : PySem.W.nsIn K mainGlobals "_law_pool" = some (some (.ref f_pool))) (l_pool : K.lookup f_pool = some ⟨oc_pool, od_pool, .func (PySem.W.fnOf "_law_pool" "_law_pool" (defArgs s_pool) (defBody s_pool) (defScope s_pool) .none kV_pool dc_pool pm_pool an_pool cd_pool ct_pool), sl_pool⟩) (c_pool : PySem.W.codeIn K cd_pool "_law_pool" = true) (k_pool : PySem.W.keepIn K (.ref f_pool) = true)
    (a_take : PySem.W.nsIn K mainGlobals "_law_take" = some (some (.ref f_take))) (l_take : K.lookup f_take = some ⟨oc_take, od_take, .func (PySem.W.fnOf "_law_take" "_law_take" (defArgs s_take) (defBody s_take) (defScope s_take) .none kV_take dc_take pm_take an_take cd_take ct_take), sl_take⟩) (c_take : PySem.W.codeIn K cd_take "_law_take" = true) (k_take : PySem.W.keepIn K (.ref f_take) = true)
    (a_cell : PySem.W.nsIn K mainGlobals "_law_cell" = some (some (.ref f_cell))) (l_cell : K.lookup f_cell = some ⟨oc_cell, od_cell, .func (PySem.W.fnOf "_law_cell" "_law_cell" (defArgs s_cell) (defBody s_cell) (defScope s_cell) .none kV_cell dc_cell pm_cell an_cell cd_cell ct_cell), sl_cell⟩) (c_cell : PySem.W.codeIn K cd_cell "_law_cell" = true) (k_cell : PySem.W.keepIn K (.ref f_cell) = true)
    (a_lprime : PySem.W.nsIn K mainGlobals "_law_is_prime" = some (some (.ref f_lprime))) (l_lprime : K.lookup f_lprime = some ⟨oc_lprime, od_lprime, .func (PySem.W.fnOf "_law_is_prime" "_law_is_prime" (defArgs s_lprime) (defBody s_lprime) (defScope s_lprime) .none kV_lprime dc_lprime pm_lprime an_lprime cd_lprime ct_lprime), sl_lprime⟩) (c_lprime : PySem.W.codeIn K cd_lprime "_law_is_prime" = true) (k_lprime : PySem.W.keepIn K (.ref f_lprime) = true)
    (a_next : PySem.W.nsIn K mainGlobals "_law_next_prime" = some (some (.ref f_next))) (l_next : K.lookup f_next = some ⟨oc_next, od_next, .func (PySem.W.fnOf "_law_next_prime" "_law_next_prime" (defArgs s_next) (defBody s_next) (defScope s_next) .none kV_next dc_next pm_next an_next cd_next ct_next), sl_next⟩) (c_next : PySem.W.codeIn K cd_next "_law_next_prime" = true) (k_next : PySem.W.keepIn K (.ref f_next) = true)
    (a_number : PySem.W.nsIn K mainGlobals "_law_number" = some (some (.ref f_number))) (l_number : K.lookup f_number = some ⟨oc_number, od_number, .func (PySem.W.fnOf "_law_number" "_law_number" (defArgs s_number) (defBody s_number) (defScope s_number) .none kV_number dc_number pm_number an_number cd_number ct_number), sl_number⟩) (c_number : PySem.W.codeIn K cd_number "_law_number" = true) (k_number : PySem.W.keepIn K (.ref f_number) = true)
    (a_law : PySem.W.nsIn K mainGlobals "law" = some (some (.ref f_law))) (l_law : K.lookup f_law = some ⟨oc_law, od_law, .func (PySem.W.fnOf "law" "law" (defArgs s_law) (defBody s_law) (defScope s_law) .none kV_law dc_law pm_law an_law cd_law ct_law), sl_law⟩) (c_law : PySem.W.codeIn K cd_law "law" = true) (k_law : PySem.W.keepIn K (.ref f_law) = true)
    (aF : PySem.W.nsIn K mainGlobals "FieldError" = some (some (.ref CF))) (rF : PySem.W.readsIn K CF (.type "type") = true) (gF : PySem.W.specialIn K (.ref CF) "__getattribute__" = some (some (.builtin "type.__getattribute__"))) (iF : PySem.W.findCls K (.ref CF) (.type "type") "__init__" = some (.val (.builtin "ValueError.__init__")))
    (aC_ibn : PySem.W.nsIn K mainGlobals "BadNumber" = some (some (.ref C_ibn))) (xC_ibn : K.lookup C_ibn = some (excClassObj nm_ibn q_ibn C_ibn N_ibn bs_ibn [.ref CF, .type "ValueError", .type "Exception", .type "BaseException", .type "object"] true sn_ibn sb_ibn ab_ibn co_ibn dd_ibn x0_ibn x1_ibn x2_ibn x3_ibn x5_ibn "ValueError.__new__")) (sa_ibn : PySem.W.findIn K (.ref C_ibn) "__setattr__" = some (some (.builtin "object.__setattr__"))) (ga_ibn : PySem.W.findIn K (.ref C_ibn) "__getattribute__" = some (some (.builtin "BaseException.__getattribute__"))) (gg_ibn : PySem.W.findIn K (.ref C_ibn) "__getattr__" = some none) (no_ibn : PySem.W.findIn K (.ref C_ibn) "n" = some none) (ic_ibn : PySem.W.findIn K (.ref C_ibn) "__init__" = some (some (.ref f_ibn))) (ti_ibn : PySem.W.typeIn K (.ref f_ibn) = some (.type "function")) (kc_ibn : PySem.W.keepIn K (.ref C_ibn) = true) (ec_ibn : PySem.W.subIn K (.ref C_ibn) (.type "BaseException") = some true) (tc_ibn : PySem.W.typeIn K (.ref C_ibn) = some (.type "type")) (hd_ibn : PySem.W.hasDictIn K C_ibn = true) (is_ibn : PySem.W.isClsIn K C_ibn = true) (sc_ibn : PySem.W.subIn K (.ref C_ibn) (.ref C_ibn) = some true) (l_ibn : K.lookup f_ibn = some ⟨oc_ibn, od_ibn, .func (PySem.W.fnOf "__init__" "BadNumber.__init__" (defArgs s_ibn) (defBody s_ibn) (defScope s_ibn) .none kV_ibn dc_ibn pm_ibn an_ibn cd_ibn ct_ibn), sl_ibn⟩) (c_ibn : PySem.W.codeIn K cd_ibn "BadNumber.__init__" = true) (k_ibn : PySem.W.keepIn K (.ref f_ibn) = true)
    (z_int : PySem.W.nsIn K mainGlobals "int" = some none)
    (z_len : PySem.W.nsIn K mainGlobals "len" = some none)
    (z_abs : PySem.W.nsIn K mainGlobals "abs" = some none)
    (z_isinstance : PySem.W.nsIn K mainGlobals "isinstance" = some none)
    (z_bool : PySem.W.nsIn K mainGlobals "bool" = some none)
    (z_tuple : PySem.W.nsIn K mainGlobals "tuple" = some none)
    (z_list : PySem.W.nsIn K mainGlobals "list" = some none)
    (z_str : PySem.W.nsIn K mainGlobals "str" = some none)
    (z_range : PySem.W.nsIn K mainGlobals "range" = some none)
    (z_max : PySem.W.nsIn K mainGlobals "max" = some none)
    (z_min : PySem.W.nsIn K mainGlobals "min" = some none)
    (g_isqrt : PySem.W.nsIn K mainGlobals "isqrt" = some (some (.builtin "math.isqrt"))) :
    ∃ fd : FuncData, (∀ (s : Shared) (v : Value), BindsTo s fd ⟨[v], []⟩ [("_law_script", v)]) ∧ ∀ base : Heap, K.In base → base.Ns mainGlobals mg → FnOk P w K mg base CX0 4 fa fd ["_law_script"] (spLaw K) := by
  have e := hfa.symm.trans (PySem.W.mg_of X G a_law)
  cases e
  have T : Txt mg := ⟨PySem.W.mg_none_of X G z_int, PySem.W.mg_none_of X G z_len, PySem.W.mg_none_of X G z_abs, PySem.W.mg_none_of X G z_isinstance, PySem.W.mg_none_of X G z_bool, PySem.W.mg_none_of X G z_tuple, PySem.W.mg_none_of X G z_list, PySem.W.mg_none_of X G z_str, PySem.W.mg_none_of X G z_range, PySem.W.mg_none_of X G z_max, PySem.W.mg_none_of X G z_min⟩
  have TF : FErr K mg CF := ⟨PySem.W.mg_of X G aF, rF, gF, iF⟩
  have F_ibn := fun_mk (st := s_ibn) l_ibn c_ibn k_ibn
  have b_ibn := F_ibn.binds (ps := ["self", "n"]) fun _ _ _ _ _ _ us hl => match us, hl with | [_, _], _ => rfl
  have E_ibn : ErrC K mg "BadNumber" "n" C_ibn f_ibn := ⟨PySem.W.mg_of X G aC_ibn, ⟨⟨_, _, _, _, _, _, _, _, _, _, _, _, _, _, _, xC_ibn, rfl⟩, sa_ibn, ec_ibn, tc_ibn, kc_ibn⟩, no_ibn, ic_ibn, ti_ibn, ⟨ga_ibn, gg_ibn, ec_ibn, hd_ibn⟩, exm_me ec_ibn is_ibn tc_ibn sc_ibn⟩
  have F_least := fun_mk (st := s_least) l_least c_least k_least
  have b_least := F_least.binds (ps := ["n"]) fun _ _ _ _ _ _ us hl => match us, hl with | [_], _ => rfl
  have F_prime := fun_mk (st := s_prime) l_prime c_prime k_prime
  have b_prime := F_prime.binds (ps := ["n"]) fun _ _ _ _ _ _ us hl => match us, hl with | [_], _ => rfl
  have F_divs := fun_mk (st := s_divs) l_divs c_divs k_divs
  have b_divs := F_divs.binds (ps := ["n"]) fun _ _ _ _ _ _ us hl => match us, hl with | [_], _ => rfl
  have F_pool := fun_mk (st := s_pool) l_pool c_pool k_pool
  have b_pool := F_pool.binds (ps := ["_law_cell_here"]) fun _ _ _ _ _ _ us hl => match us, hl with | [_], _ => rfl
  have F_take := fun_mk (st := s_take) l_take c_take k_take
  have b_take := F_take.binds (ps := ["_law_pool_here", "_law_limit"]) fun _ _ _ _ _ _ us hl => match us, hl with | [_, _], _ => rfl
  have F_cell := fun_mk (st := s_cell) l_cell c_cell k_cell
  have b_cell := F_cell.binds (ps := ["_law_script", "_law_k"]) fun _ _ _ _ _ _ us hl => match us, hl with | [_, _], _ => rfl
  have F_lprime := fun_mk (st := s_lprime) l_lprime c_lprime k_lprime
  have b_lprime := F_lprime.binds (ps := ["_law_n"]) fun _ _ _ _ _ _ us hl => match us, hl with | [_], _ => rfl
  have F_next := fun_mk (st := s_next) l_next c_next k_next
  have b_next := F_next.binds (ps := ["_law_n"]) fun _ _ _ _ _ _ us hl => match us, hl with | [_], _ => rfl
  have F_number := fun_mk (st := s_number) l_number c_number k_number
  have b_number := F_number.binds (ps := ["_law_pool_here"]) fun _ _ _ _ _ _ us hl => match us, hl with | [_], _ => rfl
  have F_law := fun_mk (st := s_law) l_law c_law k_law
  have m_isqrt := PySem.W.mg_of X G g_isqrt
  refine ⟨PySem.W.fnOf "law" "law" (defArgs s_law) (defBody s_law) (defScope s_law) .none kV_law dc_law pm_law an_law cd_law ct_law, fun s v => .of_eq rfl, fun base _ _ => ?_⟩
  have x_ibn : Er P w K mg base "BadNumber" "n" C_ibn := ⟨_, _, _, E_ibn, ok_ibn TF E_ibn.oex E_ibn.no F_ibn, b_ibn⟩
  have d_least : Cl P w K mg base CX0 1 "_least_divisor" spLeast := ⟨_, _, _, ok_least T m_isqrt F_least, PySem.W.mg_of X G a_least, k_least, b_least⟩
  have d_prime : Cl P w K mg base CX0 2 "is_prime" spPrime := ⟨_, _, _, ok_prime F_prime d_least, PySem.W.mg_of X G a_prime, k_prime, b_prime⟩
  have d_divs : Cl P w K mg base (L2N.CX P w) 3 "prime_divisors" (spDivs C_ibn) := ⟨_, _, _, ok_divs T F_divs d_least x_ibn, PySem.W.mg_of X G a_divs, k_divs, b_divs⟩
  have d_pool : Cl P w K mg base CX0 1 "_law_pool" spPool := ⟨_, _, _, ok_pool F_pool, PySem.W.mg_of X G a_pool, k_pool, b_pool⟩
  have d_take : Cl P w K mg base CX0 1 "_law_take" spTake := ⟨_, _, _, ok_take T F_take, PySem.W.mg_of X G a_take, k_take, b_take⟩
  have d_cell : Cl P w K mg base CX0 1 "_law_cell" (spCellL K) := ⟨_, _, _, ok_cell T F_cell, PySem.W.mg_of X G a_cell, k_cell, b_cell⟩
  have d_lprime : Cl P w K mg base CX0 1 "_law_is_prime" spPrime := ⟨_, _, _, ok_lprime F_lprime, PySem.W.mg_of X G a_lprime, k_lprime, b_lprime⟩
  have d_next : Cl P w K mg base CX0 2 "_law_next_prime" spNext := ⟨_, _, _, ok_next T F_next d_lprime, PySem.W.mg_of X G a_next, k_next, b_next⟩
  have d_number : Cl P w K mg base CX0 3 "_law_number" spNum12 := ⟨_, _, _, ok_number T F_number d_take d_next, PySem.W.mg_of X G a_number, k_number, b_number⟩
  have h_divs : Ch P w K mg base 1 "prime_divisors" spDivs1 := ⟨_, _, _, hot_divs T F_divs, PySem.W.mg_of X G a_divs, k_divs, b_divs⟩
  exact ok_law T F_law E_ibn d_pool d_take d_cell d_number d_prime d_divs h_divs
theorem walk {l : PySem.W.OpenLaw} {q : Program} {loose : List Str} {XP : (Str → Option Value) → Heap → Prop} {YP : World → Heap → Prop} {d : DefRec} {K : Params → PySem.W.Frag} (hn : l.most = some 63) (hdf : d.params.defaults = [])
    (hY : ∀ (w : World) (h : Heap), YP w h → (K w.params).In h)
    (F : ∀ (w : World) (mg : Str → Option Value) (fa : Addr) (h : Heap), (K w.params).In h → h.Ns mainGlobals mg → mg d.name = some (.ref fa) →
      ∃ fd : FuncData, (∀ (s : Shared) (u : Value), BindsTo s fd ⟨[u], []⟩ [("_law_script", u)]) ∧ ∀ base : Heap, (K w.params).In base → base.Ns mainGlobals mg → FnOk l.prog w (K w.params) mg base CX0 4 fa fd ["_law_script"] (spLaw (K w.params))) :
    PySem.W.WalkO q loose XP YP l.row.toRowW d [] (fun f vs => PySem.call f vs) :=
  L2.walk_of (n := 63) (k := 4) (x := "_law_script") (CX := fun _ => CX0) (sp := fun w => spLaw (K w.params)) hn (by decide) hdf ⟨rfl, by decide, by decide⟩ hY F (fun _ _ a ns hl _ hS => ⟨a, ns, rfl, hS, hl, fun _ => rfl⟩) fun _ _ _ _ _ z => z
end My
open PySem PySem.W PyProof.Rows
set_option maxRecDepth 100000 in
set_option maxHeartbeats 0 in
theorem PySem.Challenge.cw_everyfield_k12_primes_holds : PySem.Challenge.rw_everyfield_k12_primes.Holds := by
  w_on; o_law; k_head; (case hw => w_witness2)
  k_fill
  refine My.walk (l := PySem.Challenge.rw_everyfield_k12_primes) rfl rfl (fun w h Y => PySem.W.kIn_of Y) ?F
  case F =>
    intro w mg fa h KX G hmg
    refine' My.all_mk KX G hmg ?a_least ?l_least ?c_least ?k_least ?a_prime ?l_prime ?c_prime ?k_prime ?a_divs ?l_divs ?c_divs ?k_divs ?a_pool ?l_pool ?c_pool ?k_pool ?a_take ?l_take ?c_take ?k_take ?a_cell ?l_cell ?c_cell ?k_cell ?a_lprime ?l_lprime ?c_lprime ?k_lprime ?a_next ?l_next ?c_next ?k_next ?a_number ?l_number ?c_number ?k_number ?a_law ?l_law ?c_law ?k_law ?aF ?rF ?gF ?iF ?aC_ibn ?xC_ibn ?sa_ibn ?ga_ibn ?gg_ibn ?no_ibn ?ic_ibn ?ti_ibn ?kc_ibn ?ec_ibn ?tc_ibn ?hd_ibn ?is_ibn ?sc_ibn ?l_ibn ?c_ibn ?k_ibn ?z_int ?z_len ?z_abs ?z_isinstance ?z_bool ?z_tuple ?z_list ?z_str ?z_range ?z_max ?z_min ?g_isqrt
    (case a_least => k_is)
    (case l_least => k_is)
    (case c_least => k_is)
    (case k_least => k_is)
    (case a_prime => k_is)
    (case l_prime => k_is)
    (case c_prime => k_is)
    (case k_prime => k_is)
    (case a_divs => k_is)
    (case l_divs => k_is)
    (case c_divs => k_is)
    (case k_divs => k_is)
    (case a_pool => k_is)
    (case l_pool => k_is)
    (case c_pool => k_is)
    (case k_pool => k_is)
    (case a_take => k_is)
    (case l_take => k_is)
    (case c_take => k_is)
    (case k_take => k_is)
    (case a_cell => k_is)
    (case l_cell => k_is)
    (case c_cell => k_is)
    (case k_cell => k_is)
    (case a_lprime => k_is)
    (case l_lprime => k_is)
    (case c_lprime => k_is)
    (case k_lprime => k_is)
    (case a_next => k_is)
    (case l_next => k_is)
    (case c_next => k_is)
    (case k_next => k_is)
    (case a_number => k_is)
    (case l_number => k_is)
    (case c_number => k_is)
    (case k_number => k_is)
    (case a_law => k_is)
    (case l_law => k_is)
    (case c_law => k_is)
    (case k_law => k_is)
    (case aF => k_is)
    (case rF => k_is)
    (case gF => k_is)
    (case iF => k_is)
    (case aC_ibn => k_is)
    (case xC_ibn => k_is)
    (case sa_ibn => k_is)
    (case ga_ibn => k_is)
    (case gg_ibn => k_is)
    (case no_ibn => k_is)
    (case ic_ibn => k_is)
    (case ti_ibn => k_is)
    (case kc_ibn => k_is)
    (case ec_ibn => k_is)
    (case tc_ibn => k_is)
    (case hd_ibn => k_is)
    (case is_ibn => k_is)
    (case sc_ibn => k_is)
    (case l_ibn => k_is)
    (case c_ibn => k_is)
    (case k_ibn => k_is)
    (case z_int => k_is)
    (case z_len => k_is)
    (case z_abs => k_is)
    (case z_isinstance => k_is)
    (case z_bool => k_is)
    (case z_tuple => k_is)
    (case z_list => k_is)
    (case z_str => k_is)
    (case z_range => k_is)
    (case z_max => k_is)
    (case z_min => k_is)
    (case g_isqrt => k_is)
