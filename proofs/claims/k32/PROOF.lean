import PyProof.Rows.All
import Wide.All
import OpenK.AllK
import Wide.FinOn
import PyProof.NoPylong
import Flt.Len
import HandS.ForMost
import HandS.ForExc
import HandS.Wide
import HandS.Gcd
import HandS.IsInst
import HandS.Evl
import HandS.Flow
import HandS.Iter
import HandS.ExcInit
import HandS.ExcField
import HandS.ExcCtx
import HandS.HotCalls
import HandS.ExcInitHot
import HandS.TupLe
import HandS.TupAny
import HandS.Conv
import HandS.Strs
import HandS.SetFor
import HandS.Zip
import HandS.Star
import HandS.ClsMeth
import HandS.Codes
import HandS.SlotsOwn
import HandS.Walk
import HandS.StrMore
import HandS.FStr
import HandS.Style
import HandS.TryMany
import HandS.ExcIs
import HandS.Rev
import HandS.ListEq
import HandS.Small
import KE.GoesMore
import KE.GoesEnum
import PyProof.Draws
import Flt.RightSqrt
import PySem.Challenge.RW_everyfield_k32_contents_and_derivatives
set_option Elab.async false
set_option linter.all false
set_option maxRecDepth 100000
set_option maxHeartbeats 4000000
set_option exponentiation.threshold 20000
namespace My
open PySem PySem.Spec PyProof.Rows L2
def top (i : Nat) : Stmt := PySem.Challenge.pw_everyfield_k32_contents_and_derivatives.main.body.getD i (.Pass ⟨0, 0, 0, 0⟩)
-- part prime_math
def Pr (n : Int) : Prop := 2 ≤ n ∧ ∀ m : Int, 2 ≤ m → m < n → ¬ m ∣ n
noncomputable def prB (n : Int) : Bool := @decide (Pr n) (Classical.propDecidable _)
theorem prB_true {n : Int} (h : Pr n) : prB n = true := by unfold prB; exact @decide_eq_true _ (Classical.propDecidable _) h
theorem prB_false {n : Int} (h : ¬ Pr n) : prB n = false := by unfold prB; exact @decide_eq_false _ (Classical.propDecidable _) h
theorem prB_iff {n : Int} : prB n = true ↔ Pr n := by unfold prB; exact @decide_eq_true_iff _ (Classical.propDecidable _)
/-- r is the least divisor of n from 2 on -/
structure Least (n r : Int) : Prop where
  two : 2 ≤ r
  dvd : r ∣ n
  min : ∀ m : Int, 2 ≤ m → m < r → ¬ m ∣ n
theorem Least.le {n r : Int} (h : Least n r) (hn : 2 ≤ n) : r ≤ n := Int.le_of_dvd (by omega) h.dvd
theorem Least.pr {n r : Int} (h : Least n r) : Pr r := ⟨h.two, fun m h1 h2 h3 => h.min m h1 h2 (Int.dvd_trans h3 h.dvd)⟩
theorem Least.uniq {n r r' : Int} (h : Least n r) (h' : Least n r') : r = r' := by
  rcases Int.lt_trichotomy r r' with c | c | c
  · exact absurd h.dvd (h'.min r h.two c)
  · exact c
  · exact absurd h'.dvd (h.min r' h'.two c)
theorem Least.self {n r : Int} (h : Least n r) (hn : 2 ≤ n) : r = n ↔ Pr n := by
  constructor
  · intro e
    rw [e] at h
    exact h.pr
  · intro p
    have := h.le hn
    by_cases c : r = n
    · exact c
    · exact absurd h.dvd (p.2 r h.two (by omega))
/-- a proper divisor: one at most the root -/
theorem small_div {n m s : Int} (hn : 2 ≤ n) (h2 : 2 ≤ m) (hm : m < n) (hd : m ∣ n) (hs0 : 0 ≤ s) (hs : n < (s + 1) * (s + 1)) : ∃ d : Int, 2 ≤ d ∧ d ≤ s ∧ d ≤ m ∧ d ∣ n := by
  obtain ⟨k, e⟩ := hd
  have hk : 2 ≤ k := by
    rcases Int.lt_trichotomy k 1 with c | c | c
    · have : m * k ≤ m * 0 := Int.mul_le_mul_of_nonneg_left (by omega) (by omega)
      omega
    · subst c
      omega
    · omega
  by_cases c : m ≤ s
  · exact ⟨m, h2, c, Int.le_refl _, ⟨k, e⟩⟩
  · refine ⟨k, hk, ?_, ?_, ⟨m, by rw [e, Int.mul_comm]⟩⟩
    · by_cases c2 : k ≤ s
      · exact c2
      · have : (s + 1) * (s + 1) ≤ m * k := Int.mul_le_mul (by omega) (by omega) (by omega) (by omega)
        omega
    · by_cases c2 : k ≤ m
      · exact c2
      · have c3 : k ≤ s := by
          by_cases c4 : k ≤ s
          · exact c4
          · have : (s + 1) * (s + 1) ≤ m * k := Int.mul_le_mul (by omega) (by omega) (by omega) (by omega)
            omega
        omega
/-- the trial over the odd ints: what is left at its end -/
theorem least_of_odd {n s : Int} (hn : 2 ≤ n) (h2 : ¬ (2 : Int) ∣ n) (hs0 : 0 ≤ s) (hs : n < (s + 1) * (s + 1)) (h : ∀ i : Nat, 3 + (i : Int) * 2 ≤ s → ¬ (3 + (i : Int) * 2) ∣ n) : Least n n := by
  refine ⟨hn, Int.dvd_refl n, fun m h1 hm hd => ?_⟩
  obtain ⟨d, d2, ds, _, dn⟩ := small_div hn h1 hm hd hs0 hs
  have odd : d % 2 = 1 := by
    have := Int.emod_two_eq d
    rcases this with e | e
    · exact absurd (Int.dvd_trans (Int.dvd_of_emod_eq_zero e) dn) h2
    · exact e
  have e : d = 3 + ((((d - 3) / 2).toNat : Nat) : Int) * 2 := by omega
  exact h ((d - 3) / 2).toNat (by omega) (e ▸ dn)
theorem least_at {n : Int} {i : Nat} (h2 : ¬ (2 : Int) ∣ n) (hd : (3 + (i : Int) * 2) ∣ n) (h : ∀ j : Nat, j < i → ¬ (3 + (j : Int) * 2) ∣ n) : Least n (3 + (i : Int) * 2) := by
  refine ⟨by omega, hd, fun m h1 hm hdv => ?_⟩
  have odd : m % 2 = 1 := by
    have := Int.emod_two_eq m
    rcases this with e | e
    · exact absurd (Int.dvd_trans (Int.dvd_of_emod_eq_zero e) hdv) h2
    · exact e
  have e : m = 3 + ((((m - 3) / 2).toNat : Nat) : Int) * 2 := by omega
  exact h ((m - 3) / 2).toNat (by omega) (e ▸ hdv)
theorem least_two {n : Int} (h : (2 : Int) ∣ n) : Least n 2 := ⟨by omega, h, fun m h1 h2 => by omega⟩
/-- every int from 2 on has a least divisor -/
theorem least_ex {n : Int} (hn : 2 ≤ n) : ∃ r, Least n r := by
  have key : ∀ (k : Nat) (r : Int), n - r ≤ k → 2 ≤ r → r ≤ n → (∀ m : Int, 2 ≤ m → m < r → ¬ m ∣ n) → ∃ r, Least n r := by
    intro k
    induction k with
    | zero =>
      intro r h1 h2 h3 h4
      have : r = n := by omega
      subst this
      exact ⟨r, h2, Int.dvd_refl r, h4⟩
    | succ k ih =>
      intro r h1 h2 h3 h4
      by_cases c : r ∣ n
      · exact ⟨r, h2, c, h4⟩
      · by_cases e : r = n
        · exact absurd (e ▸ Int.dvd_refl r) c
        · refine ih (r + 1) (by omega) (by omega) (by omega) fun m hm1 hm2 => ?_
          by_cases e2 : m = r
          · rw [e2]
            exact c
          · exact h4 m hm1 (by omega)
  exact key (n - 2).toNat 2 (by omega) (by omega) hn (fun m h1 h2 => by omega)
/-- a check of a prime by trial, for the kernel -/
def trial (n : Nat) : Nat → Nat → Bool
  | 0, _ => false
  | f + 1, k => if n < k * k then true else if n % k = 0 then false else trial n f (k + 1)
theorem trial_ok {n : Nat} (hn : 2 ≤ n) : ∀ (f k : Nat), 2 ≤ k → (∀ m : Nat, 2 ≤ m → m < k → ¬ m ∣ n) → trial n f k = true → Pr (n : Int) := by
  intro f
  induction f with
  | zero => intro k _ _ h; exact absurd h (by simp [trial])
  | succ f ih =>
    intro k hk hm h
    unfold trial at h
    by_cases c : n < k * k
    · refine ⟨by omega, fun m h1 h2 h3 => ?_⟩
      obtain ⟨d, d2, ds, _, dn⟩ := small_div (n := n) (s := (k : Int) - 1) (by omega) h1 h2 h3 (by omega) (by
        rw [Int.sub_add_cancel]
        exact_mod_cast c)
      refine hm d.toNat (by omega) (by omega) ?_
      have : ((d.toNat : Nat) : Int) ∣ (n : Int) := by rw [Int.toNat_of_nonneg (by omega)]; exact dn
      exact Int.natCast_dvd_natCast.mp this
    · rw [if_neg c] at h
      by_cases c2 : n % k = 0
      · rw [if_pos c2] at h
        exact absurd h (by simp)
      · rw [if_neg c2] at h
        refine ih (k + 1) (by omega) (fun m h1 h2 h3 => ?_) h
        by_cases e : m = k
        · subst e
          exact c2 (Nat.mod_eq_zero_of_dvd h3)
        · exact hm m h1 (by omega) h3
theorem pr_of_trial {n : Nat} (f : Nat) (h : (decide (2 ≤ n) && trial n f 2) = true) : Pr (n : Int) := by
  rw [Bool.and_eq_true] at h
  exact trial_ok (of_decide_eq_true h.1) f 2 (by omega) (fun m h1 h2 => by omega) h.2
theorem pr_10007 : Pr 10007 := pr_of_trial (n := 10007) 200 (by decide +kernel)
-- part fact_math
/-- a prime divides a factor -/
theorem pr_mul {q a b : Int} (hq : Pr q) (h : q ∣ a * b) : q ∣ a ∨ q ∣ b := by
  by_cases c : q ∣ a
  · exact .inl c
  · refine .inr ?_
    have hco : Nat.Coprime q.natAbs a.natAbs := by
      have g1 : Nat.gcd q.natAbs a.natAbs ∣ q.natAbs := Nat.gcd_dvd_left _ _
      have g2 : Nat.gcd q.natAbs a.natAbs ∣ a.natAbs := Nat.gcd_dvd_right _ _
      have hq2 := hq.1
      generalize hg : Nat.gcd q.natAbs a.natAbs = g at *
      have gi : (g : Int) ∣ q := Int.natAbs_dvd_natAbs.mp (by rw [Int.natAbs_natCast]; exact g1)
      have ga : (g : Int) ∣ a := Int.natAbs_dvd_natAbs.mp (by rw [Int.natAbs_natCast]; exact g2)
      have gpos : 0 < g := by
        rcases Nat.eq_zero_or_pos g with z | z
        · rw [z] at gi
          have := Int.zero_dvd.mp gi
          omega
        · exact z
      have gle : (g : Int) ≤ q := Int.le_of_dvd (by omega) gi
      by_cases g1' : g = 1
      · unfold Nat.Coprime
        rw [hg, g1']
      · by_cases g2' : (g : Int) = q
        · rw [g2'] at ga
          exact absurd ga c
        · exact absurd gi (hq.2 g (by omega) (by omega))
    have h2 : q.natAbs ∣ a.natAbs * b.natAbs := by
      rw [← Int.natAbs_mul]
      exact Int.natAbs_dvd_natAbs.mpr h
    exact Int.natAbs_dvd_natAbs.mp (Nat.Coprime.dvd_of_dvd_mul_left hco h2)
theorem pr_dvd_pr {p q : Int} (hp : Pr p) (hq : Pr q) (h : q ∣ p) : q = p := by
  have := Int.le_of_dvd (by have := hp.1; omega) h
  by_cases c : q = p
  · exact c
  · exact absurd h (hp.2 q hq.1 (by omega))
/-- l tells the primes that divide n, ascending -/
def PD (n : Int) (l : List Int) : Prop := l.Pairwise (· < ·) ∧ ∀ q, q ∈ l ↔ Pr q ∧ q ∣ n
theorem sorted_uniq : ∀ {l m : List Int}, l.Pairwise (· < ·) → m.Pairwise (· < ·) → (∀ q, q ∈ l ↔ q ∈ m) → l = m
  | [], [], _, _, _ => rfl
  | [], b :: m, _, _, h => absurd ((h b).mpr List.mem_cons_self) (by simp)
  | a :: l, [], _, _, h => absurd ((h a).mp List.mem_cons_self) (by simp)
  | a :: l, b :: m, hl, hm, h => by
    rw [List.pairwise_cons] at hl hm
    have hab : a = b := by
      rcases List.mem_cons.mp ((h a).mp List.mem_cons_self) with e | e
      · exact e
      · rcases List.mem_cons.mp ((h b).mpr List.mem_cons_self) with e2 | e2
        · exact e2.symm
        · have := hm.1 a e
          have := hl.1 b e2
          omega
    subst hab
    rw [sorted_uniq hl.2 hm.2 fun q => ?_]
    constructor
    · intro hq
      have := hl.1 q hq
      rcases List.mem_cons.mp ((h q).mp (List.mem_cons_of_mem _ hq)) with e | e
      · omega
      · exact e
    · intro hq
      have := hm.1 q hq
      rcases List.mem_cons.mp ((h q).mpr (List.mem_cons_of_mem _ hq)) with e | e
      · omega
      · exact e
theorem PD.uniq {n : Int} {l m : List Int} (h : PD n l) (h' : PD n m) : l = m := sorted_uniq h.1 h'.1 fun q => (h.2 q).trans (h'.2 q).symm
/-- what holds between two turns: fs found, r left of n; every prime of r is at least d, those found are less -/
structure Fac (n : Int) (fs : List Int) (r d : Int) : Prop where
  pos : 1 ≤ r
  dv : r ∣ n
  asc : fs.Pairwise (· < ·)
  low : ∀ f ∈ fs, f < d
  mem : ∀ f ∈ fs, Pr f ∧ f ∣ n
  all : ∀ q, Pr q → q ∣ n → q ∣ r ∨ q ∈ fs
  up : ∀ q, Pr q → q ∣ r → d ≤ q
  len : (2 : Int) ^ fs.length * r ≤ n
theorem fac0 {n : Int} (hn : 1 ≤ n) : Fac n [] n 2 := ⟨hn, Int.dvd_refl n, List.Pairwise.nil, (fun _ h => nomatch h), (fun _ h => nomatch h), (fun q _ h => .inl h), (fun q h _ => h.1), by show (2 : Int) ^ 0 * n ≤ n; omega⟩
/-- within the inner loop: r0 at its start, p taken out -/
structure Tak (r0 p r : Int) : Prop where
  pos : 1 ≤ r
  dv : r ∣ r0
  keep : ∀ q, Pr q → q ∣ r0 → q ∣ r ∨ q = p
  half : r = r0 ∨ 2 * r ≤ r0
theorem tak0 {r0 p : Int} (h : 1 ≤ r0) : Tak r0 p r0 := ⟨h, Int.dvd_refl _, fun q _ h => .inl h, .inl rfl⟩
theorem tak_step {r0 p r : Int} (hp : Pr p) (h : Tak r0 p r) (hd : p ∣ r) : Tak r0 p (r / p) ∧ r / p < r := by
  have hp2 := hp.1
  have hpos := h.pos
  obtain ⟨k, e⟩ := hd
  have ek : r / p = k := by rw [e, Int.mul_ediv_cancel_left _ (by omega)]
  rw [ek]
  have k1 : 1 ≤ k := by
    by_cases c : 1 ≤ k
    · exact c
    · have : p * k ≤ p * 0 := Int.mul_le_mul_of_nonneg_left (by omega) (by omega)
      omega
  have k2 : 2 * k ≤ r := by
    have : 2 * k ≤ p * k := Int.mul_le_mul_of_nonneg_right hp2 (by omega)
    omega
  refine ⟨⟨k1, Int.dvd_trans ⟨p, by rw [e, Int.mul_comm]⟩ h.dv, fun q hq hd => ?_, .inr ?_⟩, by omega⟩
  · rcases h.keep q hq hd with c | c
    · rw [e] at c
      rcases pr_mul hq c with c2 | c2
      · exact .inr (pr_dvd_pr hp hq c2)
      · exact .inl c2
    · exact .inr c
  · rcases h.half with c | c <;> omega
/-- behind the inner loop -/
theorem fac_step {n : Int} {fs : List Int} {r0 d p r : Int} (F : Fac n fs r0 d) (hp : Pr p) (hd : p ∣ r0) (T : Tak r0 p r) (hn : ¬ p ∣ r) (hmin : ∀ q, Pr q → q ∣ r0 → p ≤ q) : Fac n (fs ++ [p]) r (p + 1) ∧ r < r0 := by
  have hr : 2 * r ≤ r0 := T.half.resolve_left fun e => hn (e ▸ hd)
  have hdp : d ≤ p := F.up p hp hd
  refine ⟨⟨T.pos, Int.dvd_trans T.dv F.dv, ?_, ?_, ?_, ?_, ?_, ?_⟩, by have := T.pos; omega⟩
  · rw [List.pairwise_append]
    refine ⟨F.asc, List.pairwise_singleton _ _, fun a ha b hb => ?_⟩
    rw [List.mem_singleton.mp hb]
    have := F.low a ha
    omega
  · intro f hf
    rcases List.mem_append.mp hf with h | h
    · have := F.low f h
      omega
    · rw [List.mem_singleton.mp h]
      omega
  · intro f hf
    rcases List.mem_append.mp hf with h | h
    · exact F.mem f h
    · rw [List.mem_singleton.mp h]
      exact ⟨hp, Int.dvd_trans hd F.dv⟩
  · intro q hq h
    rcases F.all q hq h with c | c
    · rcases T.keep q hq c with c2 | c2
      · exact .inl c2
      · exact .inr (List.mem_append_right _ (by rw [c2]; exact List.mem_singleton.mpr rfl))
    · exact .inr (List.mem_append_left _ c)
  · intro q hq h
    have h1 := hmin q hq (Int.dvd_trans h T.dv)
    by_cases c : q = p
    · exact absurd (c ▸ h) hn
    · omega
  · rw [List.length_append]
    show (2 : Int) ^ (fs.length + 1) * r ≤ n
    rw [Int.pow_succ, Int.mul_assoc]
    have h1 : (2 : Int) ^ fs.length * (2 * r) ≤ 2 ^ fs.length * r0 := Int.mul_le_mul_of_nonneg_left hr (Int.pow_nonneg (by decide))
    have := F.len
    omega
theorem fac_end {n : Int} {fs : List Int} {d : Int} (F : Fac n fs 1 d) : PD n fs := by
  refine ⟨F.asc, fun q => ⟨F.mem q, fun ⟨h1, h2⟩ => (F.all q h1 h2).resolve_left fun c => ?_⟩⟩
  have := Int.le_of_dvd (by decide) c
  have := h1.1
  omega
theorem fac_len {n : Int} {fs : List Int} {r d : Int} (F : Fac n fs r d) (hn : n < 2 ^ 62) : fs.length < 62 := by
  by_cases c : fs.length < 62
  · exact c
  · have h1 : (2 : Int) ^ 62 ≤ 2 ^ fs.length := by
      have : (2 : Nat) ^ 62 ≤ 2 ^ fs.length := Nat.pow_le_pow_right (by decide) (by omega)
      have h2 := Int.ofNat_le.mpr this
      rw [Int.natCast_pow, Int.natCast_pow] at h2
      exact h2
    have h2 : (2 : Int) ^ fs.length * 1 ≤ 2 ^ fs.length * r := Int.mul_le_mul_of_nonneg_left F.pos (Int.pow_nonneg (by decide))
    have := F.len
    omega
theorem fac_up {n : Int} {fs : List Int} {r d : Int} (F : Fac n fs r d) (h : ¬ d ∣ r) : Fac n fs r (d + 1) := by
  refine ⟨F.pos, F.dv, F.asc, fun f hf => by have := F.low f hf; omega, F.mem, F.all, fun q h1 h2 => ?_, F.len⟩
  have := F.up q h1 h2
  by_cases c : q = d
  · exact absurd (c ▸ h2) h
  · omega
/-- d divides what is left: it is a prime -/
theorem fac_pr {n : Int} {fs : List Int} {r d : Int} (F : Fac n fs r d) (h2 : 2 ≤ d) (h : d ∣ r) : Pr d := by
  obtain ⟨q, hq⟩ := least_ex h2
  have h1 := F.up q hq.pr (Int.dvd_trans hq.dvd h)
  have := hq.le h2
  have e : q = d := by omega
  exact e ▸ hq.pr
/-- d * d above what is left: that is a prime -/
theorem fac_jump {n : Int} {fs : List Int} {r d : Int} (F : Fac n fs r d) (h2 : 2 ≤ d) (hr : 1 < r) (h : r < d * d) : Pr r ∧ ∀ q, Pr q → q ∣ r → r ≤ q := by
  have hp : Pr r := by
    refine ⟨by omega, fun m h1 h3 h4 => ?_⟩
    obtain ⟨e, e2, es, _, en⟩ := small_div (n := r) (s := d - 1) (by omega) h1 h3 h4 (by omega) (by rw [Int.sub_add_cancel]; exact h)
    obtain ⟨q, hq⟩ := least_ex e2
    have := F.up q hq.pr (Int.dvd_trans hq.dvd en)
    have := hq.le e2
    omega
  exact ⟨hp, fun q hq hd => by have := pr_dvd_pr hp hq hd; omega⟩
-- part trim
/-! rows without zeros at the end -/
def tsz (l : List Int) : Nat → Nat
  | 0 => 0
  | k + 1 => if l.getD k 0 = 0 then tsz l k else k + 1
def trim (l : List Int) : List Int := l.take (tsz l l.length)
/-- the last one is not 0 -/
def Trim (l : List Int) : Prop := ∀ k, l.length = k + 1 → l.getD k 0 ≠ 0
theorem tsz_le (l : List Int) : ∀ k, tsz l k ≤ k
  | 0 => Nat.le_refl _
  | k + 1 => by
    unfold tsz
    split
    · exact Nat.le_succ_of_le (tsz_le l k)
    · exact Nat.le_refl _
theorem tsz_zero (l : List Int) : ∀ k i, tsz l k ≤ i → i < k → l.getD i 0 = 0
  | 0, i, _, h => absurd h (Nat.not_lt_zero i)
  | k + 1, i, h1, h2 => by
    unfold tsz at h1
    split at h1
    · rename_i c
      by_cases e : i = k
      · rw [e]
        exact c
      · exact tsz_zero l k i h1 (by omega)
    · omega
theorem tsz_last (l : List Int) : ∀ k n, tsz l k = n + 1 → l.getD n 0 ≠ 0
  | 0, n, h => by cases h
  | k + 1, n, h => by
    unfold tsz at h
    split at h
    · exact tsz_last l k n h
    · rename_i c
      cases h
      exact c
theorem getD_of {l : List Int} {i : Nat} {z : Int} (h : l[i]? = some z) : l.getD i 0 = z := by
  rw [List.getD_eq_getElem?_getD, h] <;> rfl
theorem getD_ge {l : List Int} {i : Nat} (h : l.length ≤ i) : l.getD i 0 = 0 := by
  rw [List.getD_eq_getElem?_getD, List.getElem?_eq_none h] <;> rfl
theorem getD_at {l : List Int} {i : Nat} (h : i < l.length) : l[i]? = some (l.getD i 0) := by
  rw [List.getD_eq_getElem?_getD, List.getElem?_eq_getElem h] <;> rfl
theorem getD_take (l : List Int) (n i : Nat) : (l.take n).getD i 0 = if i < n then l.getD i 0 else 0 := by
  rw [List.getD_eq_getElem?_getD, List.getElem?_take]
  split
  · rw [List.getD_eq_getElem?_getD]
  · rfl
theorem getD_map {f : Int → Int} (h0 : f 0 = 0) (l : List Int) (i : Nat) : (l.map f).getD i 0 = f (l.getD i 0) := by
  rw [List.getD_eq_getElem?_getD, List.getD_eq_getElem?_getD, List.getElem?_map]
  cases l[i]? with
  | none => exact h0.symm
  | some z => rfl
theorem getD_app0 (l : List Int) (k i : Nat) : (l ++ List.replicate k 0).getD i 0 = l.getD i 0 := by
  rw [List.getD_eq_getElem?_getD, List.getD_eq_getElem?_getD]
  by_cases c : i < l.length
  · rw [List.getElem?_append_left c]
  · rw [List.getElem?_append_right (by omega), List.getElem?_eq_none (show l.length ≤ i by omega), List.getElem?_replicate]
    split <;> rfl
theorem trim_len (l : List Int) : (trim l).length = tsz l l.length := by
  unfold trim
  rw [List.length_take]
  have := tsz_le l l.length
  omega
theorem trim_few (l : List Int) : (trim l).length ≤ l.length := by
  rw [trim_len]
  exact tsz_le l l.length
theorem trim_mem {l : List Int} {z : Int} (h : z ∈ trim l) : z ∈ l := List.mem_of_mem_take h
theorem trim_get (l : List Int) (i : Nat) : (trim l).getD i 0 = l.getD i 0 := by
  unfold trim
  rw [getD_take]
  split
  · rfl
  · rename_i c
    by_cases d : i < l.length
    · exact (tsz_zero l l.length i (by omega) d).symm
    · exact (getD_ge (by omega)).symm
theorem trim_trim (l : List Int) : Trim (trim l) := fun k h => by
  rw [trim_len] at h
  rw [trim_get]
  exact tsz_last l l.length k h
theorem Trim.ext {a b : List Int} (ha : Trim a) (hb : Trim b) (h : ∀ i, a.getD i 0 = b.getD i 0) : a = b := by
  have hl : a.length = b.length := by
    rcases Nat.lt_trichotomy a.length b.length with c | c | c
    · obtain ⟨k, hk⟩ : ∃ k, b.length = k + 1 := ⟨b.length - 1, by omega⟩
      have := hb k hk
      rw [← h k, getD_ge (by omega)] at this
      exact absurd rfl this
    · exact c
    · obtain ⟨k, hk⟩ : ∃ k, a.length = k + 1 := ⟨a.length - 1, by omega⟩
      have := ha k hk
      rw [h k, getD_ge (by omega)] at this
      exact absurd rfl this
  refine List.ext_getElem? fun i => ?_
  by_cases c : i < a.length
  · rw [getD_at c, getD_at (by omega), h i]
  · rw [List.getElem?_eq_none (by omega), List.getElem?_eq_none (by omega)]
theorem trim_ext {a b : List Int} (h : ∀ i, a.getD i 0 = b.getD i 0) : trim a = trim b :=
  (trim_trim a).ext (trim_trim b) fun i => by rw [trim_get, trim_get, h i]
theorem trim_of {l : List Int} (h : Trim l) : trim l = l := (trim_trim l).ext h fun i => trim_get l i
theorem trim_nil : trim [] = [] := rfl
theorem Trim.nil : Trim [] := fun k h => by cases h
theorem Trim.map {l : List Int} {f : Int → Int} (h : Trim l) (h0 : f 0 = 0) (hf : ∀ z, f z = 0 → z = 0) : Trim (l.map f) := fun k hk => by
  rw [List.length_map] at hk
  rw [getD_map h0]
  exact fun e => h k hk (hf _ e)
/-- sums and differences by places -/
theorem getD_zip {f : Int → Int → Int} (a b : List Int) (hl : a.length = b.length) (h0 : f 0 0 = 0) (i : Nat) : (List.zipWith f a b).getD i 0 = f (a.getD i 0) (b.getD i 0) := by
  rw [List.getD_eq_getElem?_getD, List.getElem?_zipWith]
  by_cases c : i < a.length
  · rw [getD_at c, getD_at (show i < b.length by omega)] <;> rfl
  · rw [List.getElem?_eq_none (by omega), List.getElem?_eq_none (show b.length ≤ i by omega), getD_ge (by omega), getD_ge (show b.length ≤ i by omega), h0] <;> rfl
def rngN (n : Nat) (f : Nat → Int) : List Int := (List.range n).map f
theorem rngN_len (n : Nat) (f : Nat → Int) : (rngN n f).length = n := by
  unfold rngN
  rw [List.length_map, List.length_range]
theorem rngN_at {n : Nat} {f : Nat → Int} {i : Nat} (h : i < n) : (rngN n f)[i]? = some (f i) := by
  unfold rngN
  rw [List.getElem?_map, List.getElem?_range h] <;> rfl
theorem rngN_get (n : Nat) (f : Nat → Int) (i : Nat) : (rngN n f).getD i 0 = if i < n then f i else 0 := by
  split
  · rename_i c
    exact getD_of (rngN_at c)
  · rename_i c
    exact getD_ge (by rw [rngN_len]; omega)
/-- the polynomial's rows: sum (sign s), product -/
def pplus (s : Int) (a b : List Int) : List Int := trim (rngN (max a.length b.length) fun i => a.getD i 0 + s * b.getD i 0)
theorem pplus_get (s : Int) (a b : List Int) (i : Nat) : (pplus s a b).getD i 0 = a.getD i 0 + s * b.getD i 0 := by
  unfold pplus
  rw [trim_get, rngN_get]
  split
  · rfl
  · rw [getD_ge (show a.length ≤ i by omega), getD_ge (show b.length ≤ i by omega)]
    simp
/-- the sum of f below n -/
def sumN (f : Nat → Int) : Nat → Int
  | 0 => 0
  | n + 1 => sumN f n + f n
theorem sumN_congr {f g : Nat → Int} : ∀ n, (∀ i, i < n → f i = g i) → sumN f n = sumN g n
  | 0, _ => rfl
  | n + 1, h => by
    unfold sumN
    rw [sumN_congr n fun i hi => h i (by omega), h n (by omega)]
theorem sumN_zero (n : Nat) : sumN (fun _ => 0) n = 0 := by
  induction n with
  | zero => rfl
  | succ n ih => unfold sumN; rw [ih]; rfl
theorem sumN_more {f : Nat → Int} {n : Nat} : ∀ m, (∀ i, n ≤ i → f i = 0) → n ≤ m → sumN f m = sumN f n
  | 0, _, h => by rw [show n = 0 by omega]
  | m + 1, h0, h => by
    by_cases e : n = m + 1
    · rw [e]
    · show sumN f m + f m = sumN f n
      rw [sumN_more m h0 (by omega), h0 m (by omega), Int.add_zero]
/-- the coefficient at k of the product -/
def cnv (a b : List Int) (k : Nat) : Int := sumN (fun i => a.getD i 0 * (if i ≤ k then b.getD (k - i) 0 else 0)) a.length
def pmul (a b : List Int) : List Int := trim (rngN (a.length + b.length) (cnv a b))
theorem cnv_far {a b : List Int} {k : Nat} (h : a.length + b.length ≤ k + 1) : cnv a b k = 0 := by
  unfold cnv
  rw [sumN_congr (g := fun _ => 0) _ fun i hi => ?_, sumN_zero]
  split
  · rw [getD_ge (show b.length ≤ k - i by omega), Int.mul_zero]
  · rw [Int.mul_zero]
theorem pmul_get (a b : List Int) (k : Nat) : (pmul a b).getD k 0 = cnv a b k := by
  unfold pmul
  rw [trim_get, rngN_get]
  split
  · rfl
  · exact (cnv_far (by omega)).symm
/-- the value at x -/
def pev : List Int → Int → Int
  | [], _ => 0
  | c :: l, x => c + x * pev l x
theorem pev_trim (l : List Int) (x : Int) : pev (trim l) x = pev l x := by
  unfold trim
  have key : ∀ (l : List Int) (n : Nat), (∀ i, n ≤ i → l.getD i 0 = 0) → pev (l.take n) x = pev l x := fun l => by
    induction l with
    | nil => intro n _; rw [List.take_nil]
    | cons c l ih =>
      intro n h
      cases n with
      | zero =>
        have hc : c = 0 := h 0 (Nat.le_refl _)
        have hl := ih 0 fun i _ => h (i + 1) (Nat.zero_le _)
        rw [List.take_zero] at hl ⊢
        show 0 = c + x * pev l x
        rw [← hl, hc]
        show (0 : Int) = 0 + x * 0
        rw [Int.mul_zero] <;> rfl
      | succ n =>
        rw [List.take_succ_cons]
        show c + x * pev (l.take n) x = c + x * pev l x
        rw [ih n fun i hi => h (i + 1) (by omega)]
  refine key l _ fun i hi => ?_
  by_cases c : i < l.length
  · exact tsz_zero l _ i hi c
  · exact getD_ge (by omega)
theorem pev_drop {l : List Int} {i : Nat} {c : Int} (h : l[i]? = some c) (x : Int) : pev (l.drop i) x = c + x * pev (l.drop (i + 1)) x := by
  have hi := (List.getElem?_eq_some_iff.mp h).1
  rw [List.drop_eq_getElem_cons hi]
  rw [List.getElem?_eq_getElem hi] at h
  cases h
  rfl
/-- the value, term by term -/
theorem pev_take {l : List Int} {i : Nat} {c : Int} (h : l[i]? = some c) (x : Int) : pev (l.take (i + 1)) x = pev (l.take i) x + c * x ^ i := by
  induction l generalizing i with
  | nil => cases h
  | cons d l ih =>
    cases i with
    | zero =>
      cases h
      rw [List.take_succ_cons, List.take_zero, List.take_zero]
      show c + x * 0 = 0 + c * x ^ 0
      simp
    | succ i =>
      have := ih (i := i) h
      rw [List.take_succ_cons, List.take_succ_cons]
      show d + x * pev (l.take (i + 1)) x = d + x * pev (l.take i) x + c * x ^ (i + 1)
      rw [this, Int.mul_add, Int.pow_succ]
      have e : x * (c * x ^ i) = c * (x ^ i * x) := by rw [Int.mul_left_comm, Int.mul_comm x]
      rw [e]
      omega
-- part gauss
/-! contents: the lemma of Gauss; derivatives -/
/-- the greatest common divisor of a row -/
def cont (l : List Int) : Nat := l.foldl (fun (g : Nat) (z : Int) => Int.gcd (g : Int) z) 0
theorem cont_go (l : List Int) : ∀ g : Nat, (∀ z ∈ l, ((l.foldl (fun (g : Nat) (z : Int) => Int.gcd (g : Int) z) g : Nat) : Int) ∣ z) ∧ ((l.foldl (fun (g : Nat) (z : Int) => Int.gcd (g : Int) z) g : Nat) : Int) ∣ (g : Int) ∧
    ∀ d : Int, d ∣ (g : Int) → (∀ z ∈ l, d ∣ z) → d ∣ ((l.foldl (fun (g : Nat) (z : Int) => Int.gcd (g : Int) z) g : Nat) : Int) := by
  induction l with
  | nil => exact fun g => ⟨fun z h => (nomatch h), Int.dvd_refl _, fun d h _ => h⟩
  | cons c l ih =>
    intro g
    obtain ⟨h1, h2, h3⟩ := ih (Int.gcd (g : Int) c)
    rw [List.foldl_cons]
    refine ⟨fun z hz => ?_, Int.dvd_trans h2 (Int.gcd_dvd_left _ _), fun d hg hd => h3 d (Int.dvd_coe_gcd hg (hd c List.mem_cons_self)) fun z hz => hd z (List.mem_cons_of_mem _ hz)⟩
    rcases List.mem_cons.mp hz with rfl | h
    · exact Int.dvd_trans h2 (Int.gcd_dvd_right _ _)
    · exact h1 z h
theorem cont_dvd {l : List Int} {z : Int} (h : z ∈ l) : ((cont l : Nat) : Int) ∣ z := (cont_go l 0).1 z h
theorem dvd_cont {l : List Int} {d : Int} (h : ∀ z ∈ l, d ∣ z) : d ∣ ((cont l : Nat) : Int) := (cont_go l 0).2.2 d (Int.dvd_zero d) h
theorem cont_get {l : List Int} (i : Nat) : ((cont l : Nat) : Int) ∣ l.getD i 0 := by
  by_cases c : i < l.length
  · exact cont_dvd (List.mem_of_getElem? (getD_at c))
  · rw [getD_ge (by omega)]
    exact Int.dvd_zero _
theorem dvd_cont_get {l : List Int} {d : Int} (h : ∀ i, d ∣ l.getD i 0) : d ∣ ((cont l : Nat) : Int) := dvd_cont fun z hz => by
  obtain ⟨i, hi⟩ := List.mem_iff_getElem?.mp hz
  have := h i
  rw [getD_of hi] at this
  exact this
theorem nat_antisymm {a b : Nat} (h1 : (a : Int) ∣ (b : Int)) (h2 : (b : Int) ∣ (a : Int)) : a = b := Nat.dvd_antisymm (Int.ofNat_dvd.mp h1) (Int.ofNat_dvd.mp h2)
/-- rows with the same places have the same content -/
theorem cont_ext {l m : List Int} (h : ∀ i, l.getD i 0 = m.getD i 0) : cont l = cont m :=
  nat_antisymm (dvd_cont_get fun i => by rw [← h i]; exact cont_get i) (dvd_cont_get fun i => by rw [h i]; exact cont_get i)
theorem cont_trim (l : List Int) : cont (trim l) = cont l := cont_ext fun i => trim_get l i
theorem cont_zero {l : List Int} (h : cont l = 0) (i : Nat) : l.getD i 0 = 0 := by
  have := cont_get (l := l) i
  rw [h] at this
  exact Int.zero_dvd.mp this
theorem cont_nil {l : List Int} (ht : Trim l) (h : cont l = 0) : l = [] := ht.ext Trim.nil fun i => by rw [cont_zero h i, getD_ge (Nat.zero_le _)]
/-- the row with its content taken out -/
def pprim (l : List Int) : List Int := l.map fun z => z / ((cont l : Nat) : Int)
theorem pprim_get (l : List Int) (i : Nat) : (pprim l).getD i 0 = l.getD i 0 / ((cont l : Nat) : Int) := getD_map (f := fun z => z / ((cont l : Nat) : Int)) (Int.zero_ediv _) l i
theorem pprim_mul (l : List Int) (i : Nat) : (pprim l).getD i 0 * ((cont l : Nat) : Int) = l.getD i 0 := by
  rw [pprim_get]
  exact Int.ediv_mul_cancel (cont_get i)
theorem cont_scale {l m : List Int} {c : Nat} (h : ∀ i, m.getD i 0 = l.getD i 0 * (c : Int)) : cont m = cont l * c := by
  refine nat_antisymm ?_ ?_
  · by_cases c0 : c = 0
    · subst c0
      rw [Nat.mul_zero]
      exact Int.dvd_zero _
    · -- m's content is a multiple of c
      have h1 : (c : Int) ∣ ((cont m : Nat) : Int) := dvd_cont_get fun i => by rw [h i]; exact Int.dvd_mul_left _ _
      obtain ⟨k, hk⟩ := h1
      rw [hk, Int.natCast_mul, Int.mul_comm]
      refine Int.mul_dvd_mul_right (c : Int) (dvd_cont_get fun i => ?_)
      have := cont_get (l := m) i
      rw [hk, h i, Int.mul_comm (l.getD i 0)] at this
      exact Int.dvd_of_mul_dvd_mul_left (by omega) this
  · refine dvd_cont_get fun i => ?_
    rw [h i, Int.natCast_mul]
    exact Int.mul_dvd_mul_right _ (cont_get i)
theorem cont_pprim {l : List Int} (h : cont l ≠ 0) : cont (pprim l) = 1 := by
  have := cont_scale (l := pprim l) (m := l) (c := cont l) fun i => (pprim_mul l i).symm
  have h2 : cont (pprim l) * cont l = 1 * cont l := by rw [Nat.one_mul]; exact this.symm
  exact Nat.eq_of_mul_eq_mul_right (Nat.pos_of_ne_zero h) h2
theorem pprim_trim {l : List Int} (h : Trim l) : Trim (pprim l) := fun k hk => by
  have hk' : l.length = k + 1 := by
    unfold pprim at hk
    rw [List.length_map] at hk
    exact hk
  have h1 := h k hk'
  intro e
  have := pprim_mul l k
  rw [e, Int.zero_mul] at this
  exact h1 this.symm
/-! sums -/
theorem sumN_add (f g : Nat → Int) : ∀ n, sumN (fun i => f i + g i) n = sumN f n + sumN g n
  | 0 => rfl
  | n + 1 => by
    show sumN (fun i => f i + g i) n + (f n + g n) = sumN f n + f n + (sumN g n + g n)
    rw [sumN_add f g n]
    omega
theorem sumN_mul (c : Int) (f : Nat → Int) : ∀ n, sumN (fun i => c * f i) n = c * sumN f n
  | 0 => by show 0 = c * 0; rw [Int.mul_zero]
  | n + 1 => by
    show sumN (fun i => c * f i) n + c * f n = c * (sumN f n + f n)
    rw [sumN_mul c f n, Int.mul_add]
theorem sumN_head (f : Nat → Int) : ∀ n, sumN f (n + 1) = f 0 + sumN (fun i => f (i + 1)) n
  | 0 => by show 0 + f 0 = f 0 + 0; omega
  | n + 1 => by
    have := sumN_head f n
    show sumN f (n + 1) + f (n + 1) = f 0 + (sumN (fun i => f (i + 1)) n + f (n + 1))
    rw [this]
    omega
/-- the coefficient, in full -/
theorem cnv_eq (a b : List Int) (k : Nat) : cnv a b k = sumN (fun i => a.getD i 0 * b.getD (k - i) 0) (k + 1) := by
  have e : ∀ n, a.length ≤ n → sumN (fun i => a.getD i 0 * (if i ≤ k then b.getD (k - i) 0 else 0)) n = cnv a b k := fun n hn =>
    sumN_more n (fun i hi => by rw [getD_ge hi, Int.zero_mul]) hn
  have e2 : ∀ n, k + 1 ≤ n → sumN (fun i => a.getD i 0 * (if i ≤ k then b.getD (k - i) 0 else 0)) n = sumN (fun i => a.getD i 0 * (if i ≤ k then b.getD (k - i) 0 else 0)) (k + 1) := fun n hn =>
    sumN_more n (fun i hi => by rw [if_neg (by omega), Int.mul_zero]) hn
  rw [← e (a.length + k + 1) (by omega), e2 (a.length + k + 1) (by omega)]
  exact sumN_congr _ fun i hi => by rw [if_pos (by omega)]
theorem sumN_dvd {p : Int} {f : Nat → Int} : ∀ n, (∀ i, i < n → p ∣ f i) → p ∣ sumN f n
  | 0, _ => Int.dvd_zero p
  | n + 1, h => Int.dvd_add (sumN_dvd n fun i hi => h i (by omega)) (h n (by omega))
theorem sumN_but {p : Int} {f : Nat → Int} {j : Nat} : ∀ n, j < n → (∀ i, i < n → i ≠ j → p ∣ f i) → p ∣ sumN f n → p ∣ f j
  | 0, h, _, _ => absurd h (Nat.not_lt_zero j)
  | n + 1, hj, h, hd => by
    have hd' : p ∣ sumN f n + f n := hd
    by_cases e : j = n
    · subst e
      exact (Int.dvd_iff_dvd_of_dvd_add hd').mp (sumN_dvd j fun i hi => h i (by omega) (by omega))
    · refine sumN_but n (by omega) (fun i hi => h i (by omega)) ?_
      exact (Int.dvd_iff_dvd_of_dvd_add hd').mpr (h n (by omega) (by omega))
/-- the first place that a prime does not divide -/
theorem first_not {p : Int} {f : Nat → Int} : ∀ n, ¬ p ∣ f n → ∃ i, ¬ p ∣ f i ∧ ∀ j, j < i → p ∣ f j := by
  intro n
  induction n using Nat.strongRecOn with
  | ind n ih =>
    intro h
    by_cases c : ∃ m, m < n ∧ ¬ p ∣ f m
    · obtain ⟨m, hm, hd⟩ := c
      exact ih m hm hd
    · exact ⟨n, h, fun j hj => Classical.byContradiction fun hd => c ⟨j, hj, hd⟩⟩
theorem gauss_one {a b : List Int} {p : Int} (hp : Pr p) (ha : ∃ i, ¬ p ∣ a.getD i 0) (hb : ∃ i, ¬ p ∣ b.getD i 0) : ∃ k, ¬ p ∣ cnv a b k := by
  obtain ⟨i0, h0⟩ := ha
  obtain ⟨j0, g0⟩ := hb
  obtain ⟨i, hi, mi⟩ := first_not (f := fun i => a.getD i 0) i0 h0
  obtain ⟨j, hj, mj⟩ := first_not (f := fun i => b.getD i 0) j0 g0
  refine ⟨i + j, fun hd => ?_⟩
  rw [cnv_eq] at hd
  have := sumN_but (j := i) (i + j + 1) (by omega) (fun s hs hne => ?_) hd
  · have e : i + j - i = j := by omega
    rw [e] at this
    rcases pr_mul hp this with h | h
    · exact hi h
    · exact hj h
  · by_cases c : s < i
    · exact Int.dvd_mul_of_dvd_left (mi s c)
    · exact Int.dvd_mul_of_dvd_right (mj (i + j - s) (by omega))
theorem prime_of {n : Nat} (h : n ≠ 1) : ∃ p : Int, Pr p ∧ p ∣ (n : Int) := by
  by_cases c : n = 0
  · subst c
    exact ⟨2, ⟨by decide, fun m h1 h2 => by omega⟩, Int.dvd_zero _⟩
  · obtain ⟨r, hr⟩ := least_ex (n := (n : Int)) (by omega)
    exact ⟨r, hr.pr, hr.dvd⟩
theorem cont_one_prime {l : List Int} (h : cont l = 1) {p : Int} (hp : Pr p) : ∃ i, ¬ p ∣ l.getD i 0 := Classical.byContradiction fun hn => by
  have hall : ∀ i, p ∣ l.getD i 0 := fun i => Classical.byContradiction fun hd => hn ⟨i, hd⟩
  have := dvd_cont_get hall
  rw [h] at this
  have := Int.le_of_dvd (by decide) this
  have := hp.1
  omega
theorem gauss_prim {a b : List Int} (ha : cont a = 1) (hb : cont b = 1) : cont (pmul a b) = 1 := Classical.byContradiction fun hn => by
  obtain ⟨p, hp, hd⟩ := prime_of hn
  obtain ⟨k, hk⟩ := gauss_one hp (cont_one_prime ha hp) (cont_one_prime hb hp)
  exact hk (by rw [← pmul_get]; exact Int.dvd_trans hd (cont_get k))
theorem cnv_scale (a b : List Int) (k : Nat) : cnv a b k = cnv (pprim a) (pprim b) k * ((cont a * cont b : Nat) : Int) := by
  rw [cnv_eq, cnv_eq, Int.mul_comm, ← sumN_mul]
  refine sumN_congr _ fun i _ => ?_
  rw [← pprim_mul a i, ← pprim_mul b (k - i), Int.natCast_mul]
  generalize (pprim a).getD i 0 = x
  generalize (pprim b).getD (k - i) 0 = y
  rw [Int.mul_assoc, Int.mul_left_comm _ y, ← Int.mul_assoc x y, Int.mul_comm (x * y)]
theorem gauss (a b : List Int) : cont (pmul a b) = cont a * cont b := by
  by_cases ha : cont a = 0
  · rw [ha, Nat.zero_mul]
    refine nat_antisymm (Int.dvd_zero _) (dvd_cont_get fun k => ?_)
    rw [pmul_get, cnv_eq]
    exact sumN_dvd _ fun i _ => by rw [cont_zero ha, Int.zero_mul]; exact Int.dvd_zero _
  · by_cases hb : cont b = 0
    · rw [hb, Nat.mul_zero]
      refine nat_antisymm (Int.dvd_zero _) (dvd_cont_get fun k => ?_)
      rw [pmul_get, cnv_eq]
      exact sumN_dvd _ fun i _ => by rw [cont_zero hb, Int.mul_zero]; exact Int.dvd_zero _
    · have := cont_scale (l := pmul (pprim a) (pprim b)) (m := pmul a b) (c := cont a * cont b) fun i => by rw [pmul_get, pmul_get]; exact cnv_scale a b i
      rw [gauss_prim (cont_pprim ha) (cont_pprim hb), Nat.one_mul] at this
      exact this
/-- the derivative -/
def pdrv (l : List Int) : List Int := trim (rngN (l.length - 1) fun k => ((k : Int) + 1) * l.getD (k + 1) 0)
theorem pdrv_get (l : List Int) (k : Nat) : (pdrv l).getD k 0 = ((k : Int) + 1) * l.getD (k + 1) 0 := by
  unfold pdrv
  rw [trim_get, rngN_get]
  split
  · rfl
  · rw [getD_ge (show l.length ≤ k + 1 by omega), Int.mul_zero]
theorem pdrv_mul (a b : List Int) : pdrv (pmul a b) = pplus 1 (pmul (pdrv a) b) (pmul a (pdrv b)) := by
  have t1 : Trim (pdrv (pmul a b)) := trim_trim _
  have t2 : Trim (pplus 1 (pmul (pdrv a) b) (pmul a (pdrv b))) := trim_trim _
  refine t1.ext t2 fun k => ?_
  rw [pdrv_get, pplus_get, pmul_get, pmul_get, pmul_get, cnv_eq, cnv_eq, cnv_eq, Int.one_mul, ← sumN_mul]
  have e1 : sumN (fun i => ((k : Int) + 1) * (a.getD i 0 * b.getD (k + 1 - i) 0)) (k + 1 + 1) =
      sumN (fun i => (i : Int) * (a.getD i 0 * b.getD (k + 1 - i) 0)) (k + 1 + 1) + sumN (fun i => ((k + 1 - i : Nat) : Int) * (a.getD i 0 * b.getD (k + 1 - i) 0)) (k + 1 + 1) := by
    rw [← sumN_add]
    refine sumN_congr _ fun i hi => ?_
    rw [← Int.add_mul]
    congr 1
    omega
  have e2 : sumN (fun i => (i : Int) * (a.getD i 0 * b.getD (k + 1 - i) 0)) (k + 1 + 1) = sumN (fun i => (pdrv a).getD i 0 * b.getD (k - i) 0) (k + 1) := by
    rw [sumN_head]
    show ((0 : Nat) : Int) * _ + _ = _
    rw [show ((0 : Nat) : Int) = 0 from rfl, Int.zero_mul, Int.zero_add]
    refine sumN_congr _ fun i hi => ?_
    rw [pdrv_get, show k + 1 - (i + 1) = k - i by omega, Int.mul_assoc, Int.natCast_add] <;> rfl
  have e3 : sumN (fun i => ((k + 1 - i : Nat) : Int) * (a.getD i 0 * b.getD (k + 1 - i) 0)) (k + 1 + 1) = sumN (fun i => a.getD i 0 * (pdrv b).getD (k - i) 0) (k + 1) := by
    show sumN (fun i => ((k + 1 - i : Nat) : Int) * (a.getD i 0 * b.getD (k + 1 - i) 0)) (k + 1) + ((k + 1 - (k + 1) : Nat) : Int) * _ = _
    rw [Nat.sub_self, show ((0 : Nat) : Int) = 0 from rfl, Int.zero_mul, Int.add_zero]
    refine sumN_congr _ fun i hi => ?_
    rw [pdrv_get, show k - i + 1 = k + 1 - i by omega, Int.mul_left_comm]
    congr 2
    omega
  rw [e1, e2, e3]
theorem pmul_const {l : List Int} {c : Int} : pmul l (trim [c]) = trim (l.map (· * c)) := by
  have t1 : Trim (pmul l (trim [c])) := trim_trim _
  refine t1.ext (trim_trim _) fun k => ?_
  rw [pmul_get, trim_get, getD_map (f := (· * c)) (Int.zero_mul c), cnv_eq]
  show sumN _ k + l.getD k 0 * (trim [c]).getD (k - k) 0 = _
  rw [sumN_congr (g := fun _ => 0) k fun i hi => ?_, sumN_zero, Int.zero_add, trim_get, Nat.sub_self]
  · rfl
  · rw [trim_get, getD_ge (l := [c]) (by show 1 ≤ k - i; omega), Int.mul_zero]
theorem pprim_whole {l : List Int} (h : Trim l) : pmul (pprim l) (trim [((cont l : Nat) : Int)]) = l := by
  have t1 : Trim (pmul (pprim l) (trim [((cont l : Nat) : Int)])) := trim_trim _
  refine t1.ext h fun k => ?_
  rw [pmul_const, trim_get, getD_map (f := (· * ((cont l : Nat) : Int))) (Int.zero_mul _)]
  exact pprim_mul l k
theorem pdrv_trim (l : List Int) : pdrv (trim l) = pdrv l := by
  have t1 : Trim (pdrv (trim l)) := trim_trim _
  have t2 : Trim (pdrv l) := trim_trim _
  exact t1.ext t2 fun k => by rw [pdrv_get, pdrv_get, trim_get]
theorem pprim_zero {l : List Int} (ht : Trim l) (h : cont l = 0) : l = [] ∧ pprim l = [] := by
  have := cont_nil ht h
  subst this
  exact ⟨rfl, rfl⟩

structure Cl (P : Program) (w : World) (K : PySem.W.Frag) (mg : Str → Option Value) (base : Heap) (CX : CXT) (k : Nat) (x : Str) (sp : Sp) : Prop where
  ex : ∃ (f : Addr) (fd : FuncData) (ps : List Str), FnOk P w K mg base CX k f fd ps sp ∧ mg x = some (.ref f) ∧ PySem.W.keepIn K (.ref f) = true ∧ Binds K fd ps []
theorem pe_cl {X : Cx} {k j : Nat} {x : Str} {sp : Sp} {p pos : Pos} {e : Expr} {es : List Expr} {t : TA} (c : Cl X.prog X.w X.K X.mg X.base CX0 k x sp) (hr : Room j X.A) (ha : PA X (e :: es) t) (hk : k ≤ j := by decide) (hg : Gl X x := by rfl)
    (hdb : (x == ("__debug__" : Str)) = false := by decide) (he : starEach (e :: es) X.env = (false, eval e X.env) :: starEach es X.env := by rfl) (hpl : (backTo pos (starEach es X.env)).any (·.1) = false := by rfl) :
    PE X (.Call (.Name x p) (e :: es) [] pos) (tCall sp [] E0 t) := by
  obtain ⟨f, fd, ps, F, hm, kp, b⟩ := c.ex
  exact pe_call F (hr.mono hk) hg hm kp b .nil pass0 ha hdb he hpl
structure Txt (mg : Str → Option Value) : Prop where
  int : mg "int" = none
  len : mg "len" = none
  abs : mg "abs" = none
  isinstance : mg "isinstance" = none
  bool : mg "bool" = none
  tuple : mg "tuple" = none
  list : mg "list" = none
  str : mg "str" = none
  range : mg "range" = none
  max : mg "max" = none
  min : mg "min" = none
  sorted : mg "sorted" = none
  set : mg "set" = none
theorem if_pos_of {c : Bool} {A B : Prop} (hc : c = true) (h : A) : if c = true then A else B := by
  rw [if_pos hc]
  exact h
theorem if_neg_of {c : Bool} {A B : Prop} (hc : c = false) (h : B) : if c = true then A else B := by
  rw [hc, if_neg Bool.false_ne_true]
  exact h
theorem same_upd {H : Hp} {p : Addr} {o : HO} (h : H p = none) : Same H (upd H p o) := fun b u e => by
  rw [upd_ne (ne_of_none e h)]
  exact e
/-- a call of a def that may raise, where it doesn't -/
theorem pe_cl0 {X : Cx} {k j : Nat} {x : Str} {sp : Sp} {p pos : Pos} {e : Expr} {es : List Expr} {t : TA} (c : Cl X.prog X.w X.K X.mg X.base (L2.CX X.prog X.w) k x sp) (hr : Room j X.A) (ha : PA X (e :: es) t) (hk : k ≤ j := by decide) (hg : Gl X x := by rfl)
    (hdb : (x == ("__debug__" : Str)) = false := by decide) (he : starEach (e :: es) X.env = (false, eval e X.env) :: starEach es X.env := by rfl) (hpl : (backTo pos (starEach es X.env)).any (·.1) = false := by rfl) :
    PE X (.Call (.Name x p) (e :: es) [] pos) (tCall sp [] E0 t) := by
  obtain ⟨f, fd, ps, F, hm, kp, b⟩ := c.ex
  exact pe_call F (hr.mono hk) hg hm kp b .nil passL ha hdb he hpl
/-- a call of a def that may raise, in a def or try that takes it -/
theorem pe_clX {X : Cx} {W : WX} {k j : Nat} {x : Str} {sp : Sp} {p pos : Pos} {e : Expr} {es : List Expr} {t : TA} (c : Cl X.prog X.w X.K X.mg X.base (L2.CX X.prog X.w) k x sp) (hr : Room j X.A) (tk : Takes X W) (ha : PA X (e :: es) t) (hk : k ≤ j := by decide) (hg : Gl X x := by rfl)
    (hdb : (x == ("__debug__" : Str)) = false := by decide) (he : starEach (e :: es) X.env = (false, eval e X.env) :: starEach es X.env := by rfl) (hpl : (backTo pos (starEach es X.env)).any (·.1) = false := by rfl) :
    PE X (.Call (.Name x p) (e :: es) [] pos) (tCallS sp (WE W) t) := by
  obtain ⟨f, fd, ps, F, hm, kp, b⟩ := c.ex
  exact pe_callS F (hr.mono hk) hg hm kp b (fun σ => passAt tk σ) ha hdb he hpl
/-- FieldError, and what its __init__ is -/
structure FErr (K : PySem.W.Frag) (mg : Str → Option Value) (C : Addr) : Prop where
  g : mg "FieldError" = some (.ref C)
  rd : PySem.W.readsIn K C (.type "type") = true
  ga : PySem.W.specialIn K (.ref C) "__getattribute__" = some (some (.builtin "type.__getattribute__"))
  fi : PySem.W.findCls K (.ref C) (.type "type") "__init__" = some (.val (.builtin "ValueError.__init__"))
theorem pe_feinit {X : Cx} {CF : Addr} {e : Expr} {es : List Expr} {ta : TA} {p1 p2 pos : Pos} {pl : Sem Bool} (F : FErr X.K X.mg CF) (ha : PA X (e :: es) ta) (hg : Gl X "FieldError" := by rfl)
    (hc : eval (.Call (.Attribute (.Name "FieldError" p1) "__init__" p2) (e :: es) [] pos) X.env = (do
      let ov ← eval (.Name "FieldError" p1) X.env
      standAt p2.atName
      let (f, first) ← holding [ov] (getMethod ov "__init__" pl)
      callWith pos f first (backTo pos (starEach (e :: es) X.env)) (backToKw pos (keywordEach [] X.env))) := by rfl)
    (he : starEach (e :: es) X.env = (false, eval e X.env) :: starEach es X.env := by rfl) (hpl : (backTo pos (starEach es X.env)).any (·.1) = false := by rfl) :
    PE X (.Call (.Attribute (.Name "FieldError" p1) "__init__" p2) (e :: es) [] pos) (tVeI X.K ta) := by
  refine ⟨fun pins s σ H Q I h => ?_⟩
  refine PySem.W.methodCall_KW (ld_glob I hg F.g ?_ (by decide)) hc
  refine PySem.W.method_cls I.kIn F.ga (PySem.W.cls_value I.kIn F.rd F.fi (by decide +kernel) ?_)
  show wpAny _ _ (callWith pos (Value.builtin "ValueError.__init__") [] (backTo pos (starEach (e :: es) X.env)) []) _ _ _
  refine PyProof.Rows.callWith_method1 (thn (ha.run pos pins _ σ H _ (I.tok _) h) fun us s1 ⟨vs, H1, I1, r1, a, C, ws, ev, hl, T, ea, q⟩ => ?_) he hpl
  subst ev
  cases r1 with
  | @cons _ u0 _ ur ra rw' =>
    obtain rfl : u0 = Value.ref a := ra
    have hlen : ur.length ≤ sizeLine := by
      rw [← Paired.length rw', sizeLine_eq]
      omega
    exact oinit_ok T I1 ea hlen fun s' J => ⟨.non, H1, J, rfl, q⟩
/-- an own error class with one attribute, and its __init__ by its promise -/
def spInit (C : Addr) (fld : Str) : Sp := fun vs H Q _ => ∃ (a : Addr) (v : V), vs = [.ref a, v] ∧ H a = some (exo a C none) ∧
  ∀ d, H d = none → d ≠ a → Q .non (upd (upd H d (exd d [(fld, v)])) a (exo a C (some d)))
structure ErrC (K : PySem.W.Frag) (mg : Str → Option Value) (nm fld : Str) (C fI : Addr) : Prop where
  g : mg nm = some (.ref C)
  oex : OexC K C
  no : PySem.W.findIn K (.ref C) fld = some none
  iC : PySem.W.findIn K (.ref C) "__init__" = some (some (.ref fI))
  tI : PySem.W.typeIn K (.ref fI) = some (.type "function")
  xf : XfC K C
  te : PySem.W.exmOne K (.ref C) (.ref C) = some true
structure Er (P : Program) (w : World) (K : PySem.W.Frag) (mg : Str → Option Value) (base : Heap) (nm fld : Str) (C : Addr) : Prop where
  ex : ∃ (fI : Addr) (fd : FuncData) (ps : List Str), ErrC K mg nm fld C fI ∧ FnOk P w K mg base CX0 1 fI fd ps (spInit C fld) ∧ Binds K fd ps []
theorem Er.c {P : Program} {w : World} {K : PySem.W.Frag} {mg : Str → Option Value} {base : Heap} {nm fld : Str} {C : Addr} (e : Er P w K mg base nm fld C) : ∃ fI, ErrC K mg nm fld C fI := by
  obtain ⟨fI, _, _, T, _⟩ := e.ex
  exact ⟨fI, T⟩
theorem exm_me {K : PySem.W.Frag} {S : Addr} (h1 : PySem.W.subIn K (.ref S) (.type "BaseException") = some true) (h2 : PySem.W.isClsIn K S = true) (h3 : PySem.W.typeIn K (.ref S) = some (.type "type")) (h4 : PySem.W.subIn K (.ref S) (.ref S) = some true) :
    PySem.W.exmOne K (.ref S) (.ref S) = some true := by
  have e1 : (PySem.W.subIn K (.ref S) (.type "BaseException") == some true) = true := by rw [h1] <;> rfl
  have h2' : (PySem.W.clsIn K S).isSome = true := h2
  have e2 : ((PySem.W.clsIn K S).isSome && PySem.W.typeIn K (.ref S) == some (.type "type")) = true := by rw [h2', h3] <;> rfl
  unfold PySem.W.exmOne
  rw [if_pos e1]
  show (if ((PySem.W.clsIn K S).isSome && PySem.W.typeIn K (.ref S) == some (.type "type")) = true then PySem.W.subIn K (.ref S) (.ref S) else none) = some true
  rw [if_pos e2]
  exact h4
/-- raise C(v): the argument, then what C's own __init__ asks (mk1 answers it) -/
theorem ps_raise1 {X : Cx} {W : WX} {x fld : Str} {C : Addr} {j : Nat} {e : Expr} {ta : TA} {p pos pos' : Pos} (c : Er X.prog X.w X.K X.mg X.base x fld C) (hr : Room j X.A) (tk : Takes X W) (ha : PA X [e] ta) (hj : 2 ≤ j := by decide) (hcalm : X.calm = true := by rfl) (hg : Gl X x := by rfl)
    (hdb : (x == ("__debug__" : Str)) = false := by decide) (he : starEach [e] X.env = (false, eval e X.env) :: starEach [] X.env := by rfl) (hpl : (backTo pos (starEach [] X.env)).any (·.1) = false := by rfl) :
    PS X (.Raise (some (.Call (.Name x p) [e] [] pos)) none pos') (fun _ σ H => tMkO C (spInit C fld) [] ta σ H fun cls d H' => W cls d σ H') := by
  obtain ⟨fI, fd, ps, T, F, b⟩ := c.ex
  exact ps_raise hcalm tk (pmk_oex (X := X) (p := p) (pos := pos) T.oex T.iC T.tI F (hr.mono hj) b .nil (fun _ _ _ _ _ _ _ h => h.elim) hg T.g ha hdb he hpl)
theorem mk1 {C : Addr} {fld : Str} {v : V} {H1 : Hp} {Q : XK} (k : ∀ d H2, Same H1 H2 → H1 d = none → H2 d = some (.xd [(fld, v)]) → Q (.ref C) (some d) H2) :
    ([v] : List V).length ≤ 1000 ∧ ∀ a, H1 a = none → spInit C fld (.ref a :: ([v] ++ [])) (upd H1 a (exo a C none))
      (fun u H2 => u = .non ∧ ∃ (d : Addr) (fs : List (Str × V)), H2 a = some (exo a C (some d)) ∧ H2 d = some (exd d fs) ∧ H1 d = none ∧ Q (.ref C) (some d) (upd (del H2 a) d (.xd fs))) (fun _ _ _ => False) := by
  refine ⟨(by show 1 ≤ 1000; decide), fun a ha => ⟨a, v, rfl, upd_same, fun d hd hda => ⟨rfl, d, [(fld, v)], upd_same, ?_, ?_, ?_⟩⟩⟩
  · rw [upd_ne hda, upd_same]
  · rw [upd_ne hda] at hd
    exact hd
  · rw [upd_ne hda] at hd
    refine k d _ (fun b o e => ?_) hd upd_same
    have hba := ne_of_none e ha
    have hbd := ne_of_none e hd
    rw [upd_ne hbd, del_ne hba, upd_ne hba, upd_ne hbd, upd_ne hba]
    exact e
/-! the same for exceptions whose context is None -/
theorem passN {X : Cx} : Passes (L2N.CX X.prog X.w) X E0 := fun _ _ _ _ _ _ _ ⟨_, _, _, _, _, _, _, _, _, _, _, _, z⟩ => z.elim
theorem takes0N {X : Cx} : L2N.Takes X (fun _ _ _ _ => False) := fun _ _ ⟨_, _, _, _, _, _, _, _, _, _, _, _, _, _, _, _, z⟩ => z.elim
theorem okN {P : Program} {w : World} {K : PySem.W.Frag} {mg : Str → Option Value} {base : Heap} {x qual : Str} {st : Stmt} {f : Addr} {fd : FuncData} {N ps : List Str} {k : Nat} {sp : Sp} (F : Fun K x qual st f fd) (S : FnScope N ps (defScope st)) (len : ∀ vs H Q E, sp vs H Q E → vs.length = ps.length)
    (body : ∀ (cdv : Value) (A : Around) (outer : List Env) (s : Shared) (H : Hp) (vs : List V) (Q : VK) (E : XK), Room k (A.deeper (envOfC qual (defScope st) s.heap.objs.size f cdv)) → sp vs H Q E →
      ∃ t, PSs (cxOf (L2N.CX P w) P w K mg base N qual (defScope st) f cdv A outer s H E) (defBody st) t ∧ t { nx := fun _ H' => Q .non H', rt := Q } (start N vs) H) : FnOk P w K mg base (L2N.CX P w) (k + 1) f fd ps sp := by
  obtain ⟨oc, od, kV, doc, pm, an, cdv, ct, osl, rfl, lk, hcd⟩ := F.ex
  exact fn_of lk hcd S len fun A outer s H vs Q E hr h => body cdv A outer s H vs Q E hr h
/-- a call of such a def, where it doesn't raise -/
theorem pe_clN0 {X : Cx} {k j : Nat} {x : Str} {sp : Sp} {p pos : Pos} {e : Expr} {es : List Expr} {t : TA} (c : Cl X.prog X.w X.K X.mg X.base (L2N.CX X.prog X.w) k x sp) (hr : Room j X.A) (ha : PA X (e :: es) t) (hk : k ≤ j := by decide) (hg : Gl X x := by rfl)
    (hdb : (x == ("__debug__" : Str)) = false := by decide) (he : starEach (e :: es) X.env = (false, eval e X.env) :: starEach es X.env := by rfl) (hpl : (backTo pos (starEach es X.env)).any (·.1) = false := by rfl) :
    PE X (.Call (.Name x p) (e :: es) [] pos) (tCall sp [] E0 t) := by
  obtain ⟨f, fd, ps, F, hm, kp, b⟩ := c.ex
  exact pe_call F (hr.mono hk) hg hm kp b .nil passN ha hdb he hpl
theorem pe_clNX {X : Cx} {W : WX} {k j : Nat} {x : Str} {sp : Sp} {p pos : Pos} {e : Expr} {es : List Expr} {t : TA} (c : Cl X.prog X.w X.K X.mg X.base (L2N.CX X.prog X.w) k x sp) (hr : Room j X.A) (tk : L2N.Takes X W) (ha : PA X (e :: es) t) (hk : k ≤ j := by decide) (hg : Gl X x := by rfl)
    (hdb : (x == ("__debug__" : Str)) = false := by decide) (he : starEach (e :: es) X.env = (false, eval e X.env) :: starEach es X.env := by rfl) (hpl : (backTo pos (starEach es X.env)).any (·.1) = false := by rfl) :
    PE X (.Call (.Name x p) (e :: es) [] pos) (tCallS sp (WE W) t) := by
  obtain ⟨f, fd, ps, F, hm, kp, b⟩ := c.ex
  exact pe_callS F (hr.mono hk) hg hm kp b (fun σ => L2N.passAt tk σ) ha hdb he hpl
theorem pmk_oexN {X : Cx} {e : Expr} {es : List Expr} {ta : TA} {p pos : Pos} {x : Str} {C fI : Addr} {k : Nat} {fd : FuncData} {ps : List Str} {sp : Sp} {ds : List Value} {dvs : List V} (T : OexC X.K C) (iC : PySem.W.findIn X.K (.ref C) "__init__" = some (some (.ref fI))) (tI : PySem.W.typeIn X.K (.ref fI) = some (.type "function"))
    (F1 : FnOk X.prog X.w X.K X.mg X.base CX0 k fI fd ps sp) (hr : Room (k + 1) X.A) (hb : Binds X.K fd ps ds) (hd : Vals dvs ds) (hg : Gl X x) (hm : X.mg x = some (.ref C)) (ha : PA X (e :: es) ta)
    (hdb : (x == ("__debug__" : Str)) = false) (he : starEach (e :: es) X.env = (false, eval e X.env) :: starEach es X.env) (hpl : (backTo pos (starEach es X.env)).any (·.1) = false) :
    L2N.PMk X (.Call (.Name x p) (e :: es) [] pos) (tMkO C sp dvs ta) := by
  intro pins s σ H Q I h
  obtain ⟨nm, q, N, bs, bm, sn, sub, ab, col, dd, k0, k1, k2, k3, k5, hC, hbm⟩ := T.cls
  refine wpAny_Call_Name_kw (ld_glob I hg hm ?_ hdb)
  refine PySem.W.callWith_K (h₀ := X.base) I.ok.mod.kin T.kC (thn (ha.run pos pins s σ H _ I h) fun us st got => ?_) he hpl
  obtain ⟨vs, G1, I1, r1, hz, q1⟩ := got
  refine ⟨I1.kIn, ?_⟩
  show wpAny _ _ (call (.ref C) us) _ _ _
  obtain ⟨hp, g, dr, tk, os⟩ := st
  generalize ex : hp.objs.size + 1 = x1 at *
  have le1 : hp.objs.size ≤ x1 := by omega
  have sp1 := q1 x1 (I1.hok.fresh le1)
  have old : ∀ b o, hp.get? b = some o → ((hp.push (PySem.W.kdv_tup us)).push (PySem.HandSPX.excO C hp.objs.size)).get? b = some o := fun b o z =>
    Heap.get?_push_of_some _ (Heap.get?_push_of_some _ z)
  have new1 : ((hp.push (PySem.W.kdv_tup us)).push (PySem.HandSPX.excO C hp.objs.size)).get? x1 = some (PySem.HandSPX.excO C hp.objs.size) := by
    subst ex
    heap_get
  have I2 := I1.laid (t' := tk) (a := x1) (o := exo x1 C none) old le1 (exo_ok new1)
  have rel : Vals (V.ref x1 :: (vs ++ dvs)) (Value.ref x1 :: (us ++ ds)) := .cons rfl (r1.append hd)
  have few : us.length ≤ sizeLine := by
    have := Paired.length r1
    rw [sizeLine_eq]
    omega
  have many : (Value.ref x1 :: us ++ ds).length = ps.length := by
    have z := rel.length
    rw [F1.len _ _ _ _ sp1] at z
    exact z.symm
  have run := F1.run _ X.stack _ _ ⟨Value.ref x1 :: us, []⟩ (Value.ref x1 :: (us ++ ds)) _ _ (fun _ _ _ => False) (hr.make C us []) (I2.env0.make C us []) (hb _ (Value.ref x1 :: us) I2.kIn many) rel sp1
  refine wpAny_call (PySem.HandSPX.call_own F.excBase_ValueError (fun Y => PySem.HandSPX.refsVE_contains Y bm hbm) (I1.kIn _ _ hC) (PySem.W.looks_findIn I1.kIn iC) (fun self => PySem.W.bind_fn I1.kIn self tI) few ?_)
  subst ex
  refine codeAny_mono run fun r s' back => ?_
  cases r with
  | error er => exact False.elim back
  | ok fl =>
    cases fl with
    | ret u =>
      obtain ⟨v, H2, os2, bare2, un2, hok2, rv, ev, d, fs, ea, ed, hd1, q2⟩ := back
      subst ev
      obtain ⟨h2, g2, d2, t2, os'⟩ := s'
      obtain ⟨t0, G, J, kG, ge, hoe, na⟩ := mk_end0 (d2 := d2) (t2 := t2) I1 le1 old un2 hok2 os2 bare2 ea ed hd1
      exact ⟨rv, _, _, _, ⟨G, g2, d2, t2, os'⟩, _, .ref C, some d, rfl, J, kG, ge, hoe, ⟨rfl, rfl, fun vs z => by cases z; rfl⟩, rfl, rfl, na, rfl, bare2, raises_own T.exC T.tyC, q2⟩
    | next => exact False.elim back
    | brk => exact False.elim back
    | cont => exact False.elim back
theorem ps_raise1N {X : Cx} {W : WX} {x fld : Str} {C : Addr} {j : Nat} {e : Expr} {ta : TA} {p pos pos' : Pos} (c : Er X.prog X.w X.K X.mg X.base x fld C) (hr : Room j X.A) (tk : L2N.Takes X W) (ha : PA X [e] ta) (hj : 2 ≤ j := by decide) (hcalm : X.calm = true := by rfl) (hg : Gl X x := by rfl)
    (hdb : (x == ("__debug__" : Str)) = false := by decide) (he : starEach [e] X.env = (false, eval e X.env) :: starEach [] X.env := by rfl) (hpl : (backTo pos (starEach [] X.env)).any (·.1) = false := by rfl) :
    PS X (.Raise (some (.Call (.Name x p) [e] [] pos)) none pos') (fun _ σ H => tMkO C (spInit C fld) [] ta σ H fun cls d H' => W cls d σ H') := by
  obtain ⟨fI, fd, ps, T, F, b⟩ := c.ex
  exact L2N.ps_raise hcalm tk (pmk_oexN (X := X) (p := p) (pos := pos) T.oex T.iC T.tI F (hr.mono hj) b .nil hg T.g ha hdb he hpl)
section
variable {P : Program} {w : World} {K : PySem.W.Frag} {mg : Str → Option Value} {base : Heap}
-- part gen2
/-- an isinstance of an int -/
theorem isi_int {K : PySem.W.Frag} {i : Int} {T : String} {b : Bool} {H : Hp} {Q : VK} (h : kitB "int" T = some b) (q : Q (.bl b) H) : rIsi K [.int i, .ty T] H Q :=
  ⟨_, _, _, _, b, rfl, .ty T, .base (.int i), kit_ty h, q⟩
theorem isi_tup {K : PySem.W.Frag} {a : Addr} {xs : List V} {T : String} {b : Bool} {H : Hp} {Q : VK} (ha : H a = some (.tup xs)) (h : kitB "tuple" T = some b) (q : Q (.bl b) H) : rIsi K [.ref a, .ty T] H Q :=
  ⟨_, _, _, _, b, rfl, .ty T, .base (.tup ha), kit_ty h, q⟩
theorem isi_bl {K : PySem.W.Frag} {x : Bool} {T : String} {b : Bool} {H : Hp} {Q : VK} (h : kitB "bool" T = some b) (q : Q (.bl b) H) : rIsi K [.bl x, .ty T] H Q :=
  ⟨_, _, _, _, b, rfl, .ty T, .base (.bl x), kit_ty h, q⟩
theorem isi_lst {K : PySem.W.Frag} {a : Addr} {xs : List V} {T : String} {b : Bool} {H : Hp} {Q : VK} (ha : H a = some (.lst xs)) (h : kitB "list" T = some b) (q : Q (.bl b) H) : rIsi K [.ref a, .ty T] H Q :=
  ⟨_, _, _, _, b, rfl, .ty T, .base (.lst ha), kit_ty h, q⟩
/-- the law's own promise -/
def spLaw (K : PySem.W.Frag) : Sp := fun vs H Q _ => ∃ (a : Addr) (ns : List Int), vs = [.ref a] ∧ SqL K H a (ns.map V.int) ∧ ns.length ≤ 63 ∧ ∀ H', Q (.bl true) H'
/-- a test by an own truth -/
theorem pt_own {X : Cx} {a : Expr} {ta : TE} {r : V → Hp → (Bool → Hp → Prop) → Prop} (ha : PE X a ta) (hr : TruR X r) (he : ∀ whole, isTrue a X.env whole = (do let v ← whole; standAt a.pos; holding [v] (truthy v)) := by intro _; rfl) :
    PT X a (fun σ H Q => ta σ H fun x H' => r x H' Q) :=
  ⟨fun pins s σ H Q I h => isTrue_plain (thn (ha.run pins s σ H _ I h) fun v s1 ⟨x, H1, I1, r1, q1⟩ => hr pins s1 σ H1 x v Q I1 r1 q1) (he _)⟩
-- part cell

abbrev s_cell : Stmt := top 16
theorem sc_cell : FnScope ["_law_script", "_law_k"] ["_law_script", "_law_k"] (defScope s_cell) := ⟨rfl, rfl, rfl, by decide +kernel, rfl, by decide +kernel, by decide +kernel⟩
def spCellL (K : PySem.W.Frag) : Sp := fun vs H Q _ => ∃ (a : Addr) (ns : List Int) (k : Nat), vs = [.ref a, .int (k : Int)] ∧ SqL K H a (ns.map V.int) ∧ ∀ v, Q (.int v) H
theorem ok_cell {f : Addr} {fd : FuncData} (T : Txt mg) (F : Fun K "_law_cell" "_law_cell" s_cell f fd) : FnOk P w K mg base CX0 1 f fd ["_law_script", "_law_k"] (spCellL K) := by
  refine F.ok sc_cell (fun vs H Q E h => ?_) (fun cdv A outer s H vs Q E hr h => ?_)
  · obtain ⟨a, ns, k, rfl, _⟩ := h
    rfl
  · obtain ⟨a, ns, k, rfl, hS, q⟩ := h
    refine ⟨_, (pss_cons (ps_if (pt_cmpR op_lt (pv 1) (pe_callB call_len_seq (by rfl) T.len PySem.boot_len (pa_cons (pv 0) pa_nil)) (nomark _)) (pss_one (ps_ret (pe_ix ix_list (pv 0) (pv 1) (fun _ _ => rfl)))) pss_nil)
 (pss_one (ps_ret pe_int))), ?_⟩
    refine ⟨_, rfl, _, rfl, a, _, rfl, .inl hS, _, _, rfl, rfl, _, rfl, ?_⟩
    rw [List.length_map]
    by_cases c : k < ns.length
    · refine if_pos_of (decide_eq_true (by omega)) ?_
      refine ⟨_, rfl, _, rfl, a, _, _, .int ns[k], rfl, rfl, hS, atI_nat (by rw [List.getElem?_map, List.getElem?_eq_getElem c]; rfl), ?_⟩
      exact q _
    · refine if_neg_of (decide_eq_false (by omega)) ?_
      exact q _
-- part maps
/-! comprehensions and loops whose turns leave what stood before as it was -/
/-- the list that a comprehension makes: f i behind i turns -/
def PvM (H1 : Hp) (D : Addr) (f : Nat → List V) (i : Nat) (H : Hp) : Prop := Same H1 H ∧ H D = some (.lst (f i))
theorem PvM.zero {H1 : Hp} {D : Addr} {f : Nat → List V} (hD : H1 D = none) (h0 : f 0 = []) : PvM H1 D f 0 (upd H1 D (.lst [])) := ⟨same_upd hD, by rw [h0]; exact upd_same⟩
theorem PvM.push {H1 H4 : Hp} {D : Addr} {f : Nat → List V} {i : Nat} {y : V} (hD : H1 D = none) (s : Same H1 H4) (hd : H4 D = some (.lst (f i))) (few : (f i).length < 1000) (hf : f (i + 1) = f i ++ [y]) :
    ∃ acc, H4 D = some (.lst acc) ∧ acc.length < sizeLine ∧ PvM H1 D f (i + 1) (upd H4 D (.lst (acc ++ [y]))) :=
  ⟨f i, hd, small1000 (by omega), fun b o eb => by
    rw [upd_ne (ne_of_none eb hD)]
    exact s b o eb, by rw [hf]; exact upd_same⟩
theorem PvM.skip {H1 H4 : Hp} {D : Addr} {f : Nat → List V} {i : Nat} (s : Same H1 H4) (hd : H4 D = some (.lst (f i))) (hf : f (i + 1) = f i) : PvM H1 D f (i + 1) H4 := ⟨s, by rw [hf]; exact hd⟩
section
variable {J : It} {n : Nat} {G : Hp → Prop} {Y : Nat → Hp → V → Hp → Prop}
theorem lcW (w : Walk J n G Y) {g : TG} {tt : TT} {te : TE} {vs : List Nat} {σ : L2.St} {H1 : Hp} {D : Addr} {Qd : Hp → Prop} (f : Nat → List V) (hD : H1 D = none) (h0 : f 0 = []) (hG : ∀ H, Same H1 H → G H)
    (hs : ∀ i x H H', i < n → Same H1 H → H D = some (.lst (f i)) → Y i H x H' → g x (wipe σ vs) H' fun σ2 H2 => wipe σ2 vs = wipe σ vs ∧ tt σ2 H2 fun b H3 =>
      if b = true then te σ2 H3 fun y H4 => ∃ acc, H4 D = some (.lst acc) ∧ acc.length < sizeLine ∧ PvM H1 D f (i + 1) (upd H4 D (.lst (acc ++ [y]))) else PvM H1 D f (i + 1) H3) (hd : ∀ H, Same H1 H → H D = some (.lst (f n)) → Qd H) :
    ∃ W : Nat → Nat → Hp → Prop, (∃ m, W 0 m (upd H1 D (.lst []))) ∧ ∀ i m H, W i m H →
      (J.stop i H ∧ Qd H) ∨ (J.go i H ∧ ∃ Nx : Hp → Prop, (∀ H', Nx H' → ∃ m', m' < m ∧ W (i + 1) m' H') ∧ ∀ x H', J.yld i H x H' → g x (wipe σ vs) H' fun σ2 H2 => wipe σ2 vs = wipe σ vs ∧ tt σ2 H2 fun b H3 =>
        if b = true then te σ2 H3 fun y H4 => ∃ acc, H4 D = some (.lst acc) ∧ acc.length < sizeLine ∧ Nx (upd H4 D (.lst (acc ++ [y]))) else Nx H3) :=
  lc_it w (PvM H1 D f) (PvM.zero hD h0) (fun _ H _ h => hG H h.1) (fun i x H H' hi h y => hs i x H H' hi h.1 h.2 y) fun H h => hd H h.1 h.2
end
/-- the first i of a row -/
abbrev tkV (l : List V) (i : Nat) : List V := l.take i
theorem tkV_succ {l : List V} {i : Nat} {y : V} (h : l[i]? = some y) : tkV l (i + 1) = tkV l i ++ [y] := by
  show l.take (i + 1) = l.take i ++ [y]
  rw [List.take_add_one, h]
  rfl
theorem tkV_len (l : List V) (i : Nat) : (tkV l i).length ≤ l.length := by
  show (l.take i).length ≤ l.length
  rw [List.length_take]
  omega
theorem tkV_all (l : List V) : tkV l l.length = l := List.take_length
/-- the turn of a map ends -/
theorem mapEnd {H1 H4 : Hp} {D : Addr} {ys : List V} {i : Nat} {y : V} (hD : H1 D = none) (few : ys.length < 1000) (s : Same H1 H4) (hd : H4 D = some (.lst (tkV ys i))) (hy : ys[i]? = some y) :
    ∃ acc, H4 D = some (.lst acc) ∧ acc.length < sizeLine ∧ PvM H1 D (tkV ys) (i + 1) (upd H4 D (.lst (acc ++ [y]))) :=
  PvM.push hD s hd (Nat.lt_of_le_of_lt (tkV_len ys i) few) (tkV_succ hy)
theorem map_at {α : Type} {f : α → V} {l : List α} {i : Nat} {z : α} (h : l[i]? = some z) : (l.map f)[i]? = some (f z) := by
  rw [List.getElem?_map, h]
  rfl
theorem pow_small {z : Int} {n m : Nat} (h : z.natAbs < 2 ^ n) (hnm : n ≤ m) : z.natAbs < 2 ^ m := Nat.lt_of_lt_of_le h (Nat.pow_le_pow_right (by decide) hnm)
theorem flat_rep {α : Type} (x : α) : ∀ m : Nat, (List.replicate m [x]).flatten = List.replicate m x
  | 0 => rfl
  | m + 1 => by rw [List.replicate_succ, List.flatten_cons, flat_rep x m, List.replicate_succ, List.singleton_append]
/-- len of a list or tuple, the frame named -/
def rLenS (K : PySem.W.Frag) : List V → Hp → VK → Prop := fun xs H Q => ∃ p ys, xs = [V.ref p] ∧ (SqL K H p ys ∨ SqT K H p ys) ∧ Q (V.int (ys.length : Int)) H
theorem call_len_seqK {X : Cx} {K : PySem.W.Frag} (hK : X.K = K) : CallR X (.builtin "len") (rLenS K) := by
  subst hK
  exact call_len_seq
/-- o.f, the frame named -/
theorem pe_fldK {X : Cx} {K : PySem.W.Frag} {e : Expr} {f : Str} {pos : Pos} {ta : TE} (hK : X.K = K) (he : PE X e ta) (hb : attributeBase e f X.env (eval e X.env) = eval e X.env) : PE X (.Attribute e f pos) (tFld K ta f) := by
  subst hK
  exact pe_fld he hb
/-- range(n): 0, 1, .. -/
theorem walk_range0 {n : Nat} : Walk (Itr 0 n) n (fun _ => True) (YFn fun i => .int (i : Int)) :=
  walk_range.mono (fun _ _ => trivial) fun i H x H' _ _ y => ⟨y.1, y.2.trans (congrArg V.int (Int.zero_add _))⟩
section
variable {J : It} {n : Nat} {G : Hp → Prop} {Y : Nat → Hp → V → Hp → Prop}
/-- a comprehension that makes the row ys -/
theorem lcMap (w : Walk J n G Y) {g : TG} {tt : TT} {te : TE} {vs : List Nat} {σ : L2.St} {H1 : Hp} {D : Addr} {Qd : Hp → Prop} (ys : List V) (hl : ys.length = n) (hD : H1 D = none) (hG : ∀ H, Same H1 H → G H)
    (hs : ∀ i x H H', i < n → Same H1 H → H D = some (.lst (tkV ys i)) → Y i H x H' → g x (wipe σ vs) H' fun σ2 H2 => wipe σ2 vs = wipe σ vs ∧ tt σ2 H2 fun b H3 =>
      if b = true then te σ2 H3 fun y H4 => ∃ acc, H4 D = some (.lst acc) ∧ acc.length < sizeLine ∧ PvM H1 D (tkV ys) (i + 1) (upd H4 D (.lst (acc ++ [y]))) else PvM H1 D (tkV ys) (i + 1) H3) (hd : ∀ H, Same H1 H → H D = some (.lst ys) → Qd H) :
    ∃ W : Nat → Nat → Hp → Prop, (∃ m, W 0 m (upd H1 D (.lst []))) ∧ ∀ i m H, W i m H →
      (J.stop i H ∧ Qd H) ∨ (J.go i H ∧ ∃ Nx : Hp → Prop, (∀ H', Nx H' → ∃ m', m' < m ∧ W (i + 1) m' H') ∧ ∀ x H', J.yld i H x H' → g x (wipe σ vs) H' fun σ2 H2 => wipe σ2 vs = wipe σ vs ∧ tt σ2 H2 fun b H3 =>
        if b = true then te σ2 H3 fun y H4 => ∃ acc, H4 D = some (.lst acc) ∧ acc.length < sizeLine ∧ Nx (upd H4 D (.lst (acc ++ [y]))) else Nx H3) :=
  lcW w (tkV ys) hD rfl hG hs fun H s h => hd H s (by rw [h, ← hl, tkV_all])
end
-- part eqints
theorem eqvAll_ints : ∀ l m : List Int, PyData.eqvAll (l.map PyData.int) (m.map PyData.int) = decide (l = m)
  | [], [] => by rw [List.map_nil, PyData.eqvAll]; rfl
  | [], b :: m => by rw [List.map_nil, List.map_cons, PyData.eqvAll] <;> first | (exact (decide_eq_false (by simp)).symm) | skip
  | a :: l, [] => by rw [List.map_nil, List.map_cons, PyData.eqvAll] <;> first | (exact (decide_eq_false (by simp)).symm) | skip
  | a :: l, b :: m => by
    rw [List.map_cons, List.map_cons, PyData.eqvAll, PyData.eqv, eqvAll_ints l m]
    by_cases c : a = b
    · subst c
      by_cases c2 : l = m
      · subst c2
        simp
      · simp [c2]
    · simp [c]
theorem eqv_ints (l m : List Int) : PyData.eqv (.list (l.map PyData.int)) (.list (m.map PyData.int)) = decide (l = m) := by
  rw [PyData.eqv]
  exact eqvAll_ints l m
theorem eqv_intsT (l m : List Int) : PyData.eqv (.tuple (l.map PyData.int)) (.tuple (m.map PyData.int)) = decide (l = m) := by
  rw [PyData.eqv]
  exact eqvAll_ints l m
theorem canLay_ints : ∀ l : List Int, PyData.canLayAll0 (l.map PyData.int) = true
  | [] => by rw [List.map_nil, PyData.canLayAll0]
  | a :: l => by rw [List.map_cons, PyData.canLayAll0, PyData.canLay0, canLay_ints l]; rfl
theorem depth_ints : ∀ l : List Int, PyData.depthAll (l.map PyData.int) = 0
  | [] => by rw [List.map_nil, PyData.depthAll]
  | a :: l => by rw [List.map_cons, PyData.depthAll, PyData.depth, depth_ints l]; rfl
theorem shaped_ints (l : List Int) : SeqAt.shaped (.list (l.map PyData.int)) = true := by
  unfold SeqAt.shaped
  rw [PyData.canLay0, canLay_ints, PyData.depth, depth_ints]
  rfl
theorem shaped_intsT (l : List Int) : SeqAt.shaped (.tuple (l.map PyData.int)) = true := by
  unfold SeqAt.shaped
  rw [PyData.canLay0, canLay_ints, PyData.depth, depth_ints]
  rfl
theorem dpAll_ints {K : PySem.W.Frag} {H : Hp} : ∀ l : List Int, DpAll K H (l.map V.int) (l.map PyData.int)
  | [] => .nil
  | a :: l => .cons (.int a) (dpAll_ints l)
theorem dp_lst {K : PySem.W.Frag} {H : Hp} {a : Addr} {l : List Int} (h : SqL K H a (l.map V.int)) : Dp K H (.ref a) (.list (l.map PyData.int)) := .lst h (dpAll_ints l)
theorem dp_tup {K : PySem.W.Frag} {H : Hp} {a : Addr} {l : List Int} (h : SqT K H a (l.map V.int)) : Dp K H (.ref a) (.tuple (l.map PyData.int)) := .tup h (dpAll_ints l)
theorem hu64 {k : Nat} {A : Around} (hr : Room k A) : A.units + 64 < cLine := by
  have := hr.un
  omega
theorem item_int {l : List Int} {i : Nat} {y : V} (h : (l.map V.int)[i]? = some y) : ∃ z : Int, y = .int z ∧ l[i]? = some z := by
  rw [List.getElem?_map] at h
  cases e : l[i]? with
  | none =>
    rw [e] at h
    cases h
  | some z =>
    rw [e] at h
    exact ⟨z, (Option.some.inj h).symm, rfl⟩
-- part draws
abbrev s_draws : Stmt := top 17
theorem sc_draws : FnScope ["_law_cell_here", "_law_sizes", "_law_drawn", "_law_left", "_law_at", "_law_mixed"] ["_law_cell_here", "_law_sizes"] (defScope s_draws) := ⟨rfl, rfl, rfl, by decide +kernel, rfl, by decide +kernel, by decide +kernel⟩
/-- numbers drawn below their sizes -/
def Drawn (zs ds : List Int) : Prop := ds.length = zs.length ∧ ∀ (i : Nat) (d z : Int), ds[i]? = some d → zs[i]? = some z → 0 ≤ d ∧ d < z
def spDraws (K : PySem.W.Frag) : Sp := fun vs H Q _ => ∃ (c : Int) (s : Addr) (zs : List Int), vs = [.int c, .ref s] ∧ SqL K H s (zs.map V.int) ∧ zs.length < 100 ∧ (∀ z ∈ zs, 0 < z ∧ z.natAbs < 2 ^ 300) ∧
  ∀ p ds H', H p = none → Drawn zs ds → Same H H' → H' p = some (.lst (ds.map V.int)) → Q (.ref p) H'
theorem mix_small2 (z : Int) : -(2 ^ 64) < z % 2147483647 ∧ z % 2147483647 < 2 ^ 64 := by
  have h1 := Int.emod_nonneg z (show (2147483647 : Int) ≠ 0 by decide)
  have h2 := Int.emod_lt_of_pos z (show (0 : Int) < 2147483647 by decide)
  omega
theorem ok_draws {f : Addr} {fd : FuncData} (T : Txt mg) (F : Fun K "_law_draws" "_law_draws" s_draws f fd) : FnOk P w K mg base CX0 1 f fd ["_law_cell_here", "_law_sizes"] (spDraws K) := by
  refine F.ok sc_draws (fun vs H Q E h => ?_) (fun cdv A outer s H vs Q E hr h => ?_)
  · obtain ⟨c, s, zs, rfl, _⟩ := h
    rfl
  · obtain ⟨c, s, zs, rfl, hS, few, hz, q⟩ := h
    refine ⟨_, (pss_cons (ps_set (i := 2) sc_draws.nd rfl (Or.inl rfl) (pe_lst pa_nil))
 (pss_cons (ps_set (i := 3) sc_draws.nd rfl (Or.inl rfl) (pe_callB call_abs (by rfl) T.abs boot_abs (pa_cons (pv 0) pa_nil)))
 (pss_cons (ps_for PassesOwn.never rfl (pi_range1 rfl T.range (pa_cons (pe_callB call_len_seq (by rfl) T.len PySem.boot_len (pa_cons (pv 1) pa_nil)) pa_nil)) (pg_name (i := 4) sc_draws.nd rfl (Or.inl rfl)) (pss_one (ps_if (pt_cmpR op_ge (pe_callB call_abs (by rfl) T.abs boot_abs (pa_cons (pv 0) pa_nil)) (pe_op op_pow pe_int pe_int) (nomark _)) (pss_cons (ps_expr (pe_bm PySem.F.plainAttrs_list PySem.F.slot_list_append PySem.F.type_list_append mt_append (pv 2) (pa_cons (pe_op op_mod (pe_callTy call_int1 (by rfl) T.int boot_int (pa_cons (pv 3) pa_nil)) (pe_ix ix_list (pv 1) (pv 4) (fun _ _ => rfl))) pa_nil)))
 (pss_one (ps_set (i := 3) sc_draws.nd rfl (Or.inl rfl) (pe_op op_fdivW (pv 3) (pe_ix ix_list (pv 1) (pv 4) (fun _ _ => rfl)))))) (pss_cons (ps_set (i := 5) sc_draws.nd rfl (Or.inl rfl) (pe_op op_mod (pe_callTy call_int1 (by rfl) T.int boot_int (pa_cons (pe_op op_mul (pe_op op_add (pe_op op_add (pv 3) (pe_op op_mul pe_int (pv 4))) pe_int) pe_int) pa_nil)) pe_int))
 (pss_cons (ps_set (i := 5) sc_draws.nd rfl (Or.inl rfl) (pe_op op_mod (pe_callTy call_int1 (by rfl) T.int boot_int (pa_cons (pe_op op_add (pe_op op_add (pe_op op_mul (pe_op op_mul (pv 5) (pv 5)) pe_int) (pe_op op_mul pe_int (pv 4))) (pv 5)) pa_nil)) pe_int))
 (pss_one (ps_expr (pe_bm PySem.F.plainAttrs_list PySem.F.slot_list_append PySem.F.type_list_append mt_append (pv 2) (pa_cons (pe_op op_mod (pe_op op_fdivW (pv 5) pe_int) (pe_ix ix_list (pv 1) (pv 4) (fun _ _ => rfl))) pa_nil)))))))))
 (pss_one (ps_ret (pv 2)))))), ?_⟩
    refine ⟨(by show 0 ≤ sizeLine; decide), fun D nD => ⟨_, rfl, _, rfl, ?_⟩⟩
    have g1 := same_upd (o := .lst []) nD
    refine ⟨_, rfl, s, _, rfl, .inl (g1.seq hS), _, rfl, (by rw [List.length_map]; omega), (by rw [List.length_map]; omega), ?_⟩
    refine for_range (lo := 0) (n := _) (fun i σ H' => ∃ (ds : List Int) (left : Int) (x4 x5 : Option V), σ = [some (.int c), some (.ref s), some (.ref D), some (.int left), x4, x5] ∧ Same H H' ∧ H' D = some (.lst (ds.map V.int)) ∧ ds.length = i ∧
        ∀ (j : Nat) (d z : Int), ds[j]? = some d → zs[j]? = some z → 0 ≤ d ∧ d < z) ⟨[], _, none, none, rfl, g1, upd_same, rfl, fun j d z h => by cases h⟩ ?_ ?_
    · rintro i σ H' hi ⟨ds, left, x4, x5, rfl, s1, hD, hl, hds⟩
      have hi : i < zs.length := by
        have hi' : i < (zs.map V.int).length := by simpa using hi
        rwa [List.length_map] at hi'
      have hzi : zs[i]? = some zs[i] := List.getElem?_eq_getElem hi
      obtain ⟨zp, zb⟩ := hz _ (List.mem_of_getElem? hzi)
      generalize ez : zs[i] = z at hzi zp zb
      have at_z : atI (zs.map V.int) (0 + (i : Int)) = some (V.int z) := by
        rw [Int.zero_add]
        exact atI_nat (map_at hzi)
      have more : ∀ d : Int, 0 ≤ d → d < z → ∀ (j : Nat) (d' z' : Int), (ds ++ [d])[j]? = some d' → zs[j]? = some z' → 0 ≤ d' ∧ d' < z' := fun d h0 h1 j d' z' hd' hz' => by
        by_cases c : j < ds.length
        · rw [List.getElem?_append_left c] at hd'
          exact hds j d' z' hd' hz'
        · rw [List.getElem?_append_right (by omega)] at hd'
          have e : j = i := by
            by_cases e : j - ds.length = 0
            · omega
            · rw [List.getElem?_eq_none (by show 1 ≤ j - ds.length; omega)] at hd'
              cases hd'
          subst e
          rw [hl, Nat.sub_self] at hd'
          cases hd'
          rw [hzi] at hz'
          cases hz'
          exact ⟨h0, h1⟩
      have fin : ∀ (d left : Int) (x4 x5 : Option V), 0 ≤ d → d < z → ∃ (ds' : List Int) (left' : Int) (y4 y5 : Option V), [some (.int c), some (.ref s), some (.ref D), some (.int left), x4, x5] = [some (.int c), some (.ref s), some (.ref D), some (.int left'), y4, y5] ∧
          Same H (upd H' D (.lst (ds.map V.int ++ [.int d]))) ∧ (upd H' D (.lst (ds.map V.int ++ [.int d]))) D = some (.lst (ds'.map V.int)) ∧ ds'.length = i + 1 ∧ ∀ (j : Nat) (d z : Int), ds'[j]? = some d → zs[j]? = some z → 0 ≤ d ∧ d < z := fun d left x4 x5 h0 h1 =>
        ⟨ds ++ [d], left, x4, x5, rfl, fun b o eb => by
          rw [upd_ne (ne_of_none eb nD)]
          exact s1 b o eb, by rw [List.map_append]; exact upd_same, by rw [List.length_append, hl]; rfl, more d h0 h1⟩
      have few2 : (ds.map V.int).length < sizeLine := by rw [List.length_map]; exact small1000 (by omega)
      refine ⟨_, rfl, _, rfl, _, _, rfl, rfl, ⟨by decide, by decide, by decide⟩, _, _, rfl, rfl, _, rfl, ?_⟩
      by_cases c1 : (10 : Int) ^ 18 ≤ if c < 0 then -c else c
      · refine if_pos_of (decide_eq_true c1) ?_
        refine ⟨_, rfl, .inl ⟨rfl, _, SqL.of hD⟩, _, rfl, .inl ⟨_, rfl, _, rfl, _, rfl, s, _, _, _, rfl, rfl, s1.seq hS, at_z, _, _, rfl, rfl, zp, D, _, _, rfl, rfl, hD, few2, ?_⟩⟩
        have s2 : Same H (upd H' D (.lst (ds.map V.int ++ [.int (left % z)]))) := fun b o eb => by
          rw [upd_ne (ne_of_none eb nD)]
          exact s1 b o eb
        refine ⟨_, rfl, _, rfl, _, rfl, s, _, _, _, rfl, rfl, s2.seq hS, at_z, _, _, rfl, rfl, ⟨zp, PySem.Flt.log2_lt_of (by decide) (pow_small zb (by decide))⟩, ?_⟩
        exact fin _ _ _ _ (Int.emod_nonneg _ (by omega)) (Int.emod_lt_of_pos _ zp)
      · refine if_neg_of (decide_eq_false c1) ?_
        refine ⟨_, rfl, _, rfl, _, _, rfl, rfl, .inl ⟨by decide, by decide⟩, _, _, rfl, rfl, _, _, rfl, rfl, _, _, rfl, rfl, .inr ⟨by decide, by decide⟩, .inl ⟨_, rfl, _, _, rfl, rfl, (by show (0 : Int) < 2147483647; decide), ?_⟩⟩
        refine ⟨_, rfl, _, rfl, _, _, rfl, rfl, .inl (mix_small2 _), _, _, rfl, rfl, .inr ⟨by decide, by decide⟩, _, rfl, _, _, rfl, rfl, .inl ⟨by decide, by decide⟩, _, _, rfl, rfl, _, rfl, _, _, rfl, rfl, .inl ⟨_, rfl, _, _, rfl, rfl, (by show (0 : Int) < 2147483629; decide), ?_⟩⟩
        refine ⟨_, rfl, .inl ⟨rfl, _, SqL.of hD⟩, _, rfl, _, _, rfl, rfl, ⟨by decide, by decide⟩, _, rfl, _, rfl, s, _, _, _, rfl, rfl, s1.seq hS, at_z, _, _, rfl, rfl, zp, D, _, _, rfl, rfl, hD, few2, ?_⟩
        exact fin _ _ _ _ (Int.emod_nonneg _ (by omega)) (Int.emod_lt_of_pos _ zp)
    · rintro σ H' ⟨ds, left, x4, x5, rfl, s1, hD, hl, hds⟩
      have hl' : ds.length = zs.length := by simpa using hl
      exact ⟨_, rfl, q D ds H' nD ⟨hl', hds⟩ s1 hD⟩
abbrev s_lrow : Stmt := top 20
theorem sc_lrow : FnScope ["_law_cell_here", "_law_many", "_law_reach", "_law_drawn", "_law_k"] ["_law_cell_here", "_law_many", "_law_reach"] (defScope s_lrow) := ⟨rfl, rfl, rfl, by decide +kernel, rfl, by decide +kernel, by decide +kernel⟩
/-- a row of m numbers from -r to r -/
def spRow : Sp := fun vs H Q _ => ∃ (c : Int) (m : Nat) (r : Int), vs = [.int c, .int (m : Int), .int r] ∧ m < 100 ∧ 0 ≤ r ∧ r.natAbs < 2 ^ 200 ∧
  ∀ (p : Addr) (ns : List Int) (H' : Hp), H p = none → ns.length = m → (∀ z ∈ ns, -r ≤ z ∧ z ≤ r) → Same H H' → H' p = some (.lst (ns.map V.int)) → Q (.ref p) H'
theorem ok_lrow {f : Addr} {fd : FuncData} (F : Fun K "_law_row" "_law_row" s_lrow f fd) (c_draws : Cl P w K mg base CX0 1 "_law_draws" (spDraws K)) : FnOk P w K mg base CX0 2 f fd ["_law_cell_here", "_law_many", "_law_reach"] spRow := by
  refine F.ok sc_lrow (fun vs H Q E h => ?_) (fun cdv A outer s H vs Q E hr h => ?_)
  · obtain ⟨c, m, r, rfl, _⟩ := h
    rfl
  · obtain ⟨c, m, r, rfl, hm, hr0, hrb, q⟩ := h
    refine ⟨_, (pss_cons (ps_set (i := 3) sc_lrow.nd rfl (Or.inl rfl) (pe_cl c_draws hr (pa_cons (pv 0) (pa_cons (pe_op op_rep (pe_lst (pa_cons (pe_op op_add (pe_op op_mul pe_int (pv 2)) pe_int) pa_nil)) (pv 1)) pa_nil))))
 (pss_one (ps_ret (pe_lc (own := [("_law_k", 4)]) (g := (gName 4)) (tt := tYes) rfl sc_lrow.nd (pi_list (pv 3)) (blkOk_by (N := ["_law_cell_here", "_law_many", "_law_reach", "_law_drawn", "_law_k"]) (sc := defScope s_lrow) (by decide +kernel)) (fun _ _ _ _ _ => (pg_name (i := 4) sc_lrow.nd rfl (Or.inl rfl))) (fun _ _ _ _ _ => pts_nil) (fun _ _ _ _ _ => (pe_op op_sub (pv 4) (pv 2))))))), ?_⟩
    refine ⟨_, rfl, _, rfl, _, _, rfl, rfl, .inl ⟨by decide, by decide⟩, _, _, rfl, rfl, (by show 1 ≤ sizeLine; decide), fun a na => ?_⟩
    have g1 := same_upd (o := .lst [.int (2 * r + 1)]) na
    refine ⟨_, rfl, a, _, _, rfl, rfl, upd_same, (by omega), (by omega), (by show 1 * ((m : Int)).toNat ≤ sizeLine; rw [Nat.one_mul, Int.toNat_natCast]; exact Nat.le_of_lt (small1000 (by omega))), fun b nb => ?_⟩
    refine ⟨_, _, List.replicate m (2 * r + 1), rfl, ?_, by rw [List.length_replicate]; exact hm, fun z hz => ?_, fun D ds H' nD dr s1 hD => ?_⟩
    · refine .inl (.inl ?_)
      rw [upd_same, Int.toNat_natCast, List.map_replicate, flat_rep]
    · rw [(List.mem_replicate.mp hz).2]
      have : (2 : Nat) ^ 200 * 4 ≤ 2 ^ 300 := by decide
      omega
    · have hl : ds.length = m := by rw [dr.1, List.length_replicate]
      have s2 := (g1.trans (same_upd nb)).trans s1
      refine ⟨_, rfl, D, rfl, ⟨_, SqL.of hD⟩, fun L nL => lcW walk_list (tkV ((ds.map (· - r)).map V.int)) nL rfl (fun H s => s.seq (SqL.of hD)) ?_ ?_⟩
      · rintro i x H2 _ hi s3 hL ⟨rfl, hx⟩
        obtain ⟨z, rfl, hz⟩ := item_int hx
        refine ⟨rfl, _, rfl, _, rfl, _, _, rfl, rfl, ?_⟩
        exact mapEnd nL (by rw [List.length_map, List.length_map]; omega) s3 hL (map_at (f := V.int) (by rw [List.getElem?_map, hz] <;> rfl))
      · intro H2 s3 hL
        have e : tkV ((ds.map (· - r)).map V.int) (ds.map V.int).length = (ds.map (· - r)).map V.int := by
          have := tkV_all ((ds.map (· - r)).map V.int)
          rw [List.length_map, List.length_map] at this
          rw [List.length_map]
          exact this
        rw [e] at hL
        refine q L (ds.map (· - r)) H2 (by
          cases h : H L with
          | none => rfl
          | some o => rw [s2 _ _ h] at nL; cases nL) (by rw [List.length_map]; exact hl) (fun z hz => ?_) (s2.trans s3) hL
        obtain ⟨d, hd, rfl⟩ := List.mem_map.mp hz
        obtain ⟨i, hi⟩ := List.mem_iff_getElem?.mp hd
        have hi' : i < m := by
          rw [← hl]
          exact (List.getElem?_eq_some_iff.mp hi).1
        have := dr.2 i d (2 * r + 1) hi (by rw [List.getElem?_replicate, if_pos hi'])
        omega
-- part lawbits
abbrev s_lisint : Stmt := top 18
theorem sc_lisint : FnScope ["_law_actual"] ["_law_actual"] (defScope s_lisint) := ⟨rfl, rfl, rfl, by decide +kernel, rfl, by decide +kernel, by decide +kernel⟩
/-- of an int it is True -/
def spIsInt : Sp := fun vs H Q _ => ∃ n : Int, vs = [.int n] ∧ Q (.bl true) H
theorem ok_lisint {f : Addr} {fd : FuncData} (T : Txt mg) (F : Fun K "_law_is_integer" "_law_is_integer" s_lisint f fd) : FnOk P w K mg base CX0 1 f fd ["_law_actual"] spIsInt := by
  refine F.ok sc_lisint (fun vs H Q E h => ?_) (fun cdv A outer s H vs Q E hr h => ?_)
  · obtain ⟨n, rfl, _⟩ := h
    rfl
  · obtain ⟨n, rfl, q⟩ := h
    refine ⟨_, (pss_one (ps_ret (pe_and (pe_callB call_isi (by rfl) T.isinstance boot_isinstance (pa_cons (pv 0) (pa_cons (pe_bltn (v := .ty "int") (by rfl) T.int boot_int rfl) pa_nil))) (pe_one (pe_not (pe_callB call_isi (by rfl) T.isinstance boot_isinstance (pa_cons (pv 0) (pa_cons (pe_bltn (v := .ty "bool") (by rfl) T.bool boot_bool rfl) pa_nil)))))))), ?_⟩
    refine ⟨_, rfl, _, _, _, _, true, rfl, .ty _, .base (.int _), kit_ty (by decide +kernel), _, rfl, if_pos_of rfl ?_⟩
    exact ⟨_, rfl, _, _, _, _, false, rfl, .ty _, .base (.int _), kit_ty (by decide +kernel), _, rfl, q⟩
-- part common

abbrev s_common : Stmt := top 5
theorem sc_common : FnScope ["a", "b"] ["a", "b"] (defScope s_common) := ⟨rfl, rfl, rfl, by decide +kernel, rfl, by decide +kernel, by decide +kernel⟩
def spCommon : Sp := fun vs H Q _ => ∃ (a b : Int), vs = [.int a, .int b] ∧ Q (.int ((a.gcd b : Nat) : Int)) H
theorem ok_common {f : Addr} {fd : FuncData} (hg : mg "gcd" = some (.builtin "math.gcd")) (F : Fun K "common" "common" s_common f fd) : FnOk P w K mg base CX0 1 f fd ["a", "b"] spCommon := by
  refine F.ok sc_common (fun vs H Q E h => ?_) (fun cdv A outer s H vs Q E hr h => ?_)
  · obtain ⟨a, b, rfl, _⟩ := h
    rfl
  · obtain ⟨a, b, rfl, q⟩ := h
    exact ⟨_, (pss_one (ps_ret (pe_callBfun cr_gcd (by rfl) hg (pa_cons (pv 0) (pa_cons (pv 1) pa_nil))))), _, rfl, _, rfl, _, _, rfl, q⟩
-- part enumt
/-! enumerate(tuple) -/
set_option maxHeartbeats 1000000 in
theorem meets_enumerate_newB0 {v : Value} {o : Obj} {H : Heap → Prop} (B : Begins v o H) :
    Meets (Builtin.«enumerate.__new__» ⟨[.type "enumerate", v], []⟩) (fun _ R s => H s.heap ∧
      R (.ok (.ret (.ref (s.heap.push o).objs.size))) { s with heap := (s.heap.push o).push { cls := .type "enumerate", data := .fields #[.none, .bool false, .ref s.heap.objs.size, rawInt 0, .none, .none] } }) :=
  .of_wp fun prog w A R s h => by
    obtain ⟨hp, g, d, tk, os⟩ := s; obtain ⟨h1, h⟩ := h
    have hsub := sub_enumerate
    have q1 : ∀ {A' : Around} {E : Value → Shared → Prop} {Q : Value → Shared → Prop}, Q (.ref hp.objs.size) ⟨hp.push o, g, d, tk, os⟩ → wpAny (model prog w) A' (pyIter v) Q E ⟨hp, g, d, tk, os⟩ :=
      fun q => B.iter prog w _ _ ⟨hp, g, d, tk, os⟩ _ h1 q
    wp_walk using q1
    refine wpAny_stack_any fun st => wpAny_pure ?_
    split
    · rename_i c _ _ _ _ _
      cases (c == Value.type "enumerate")
      · wp_walk using q1
        exact ⟨_, rfl, h⟩
      · wp_walk using q1
        exact ⟨_, rfl, h⟩
    · wp_walk using q1
      exact ⟨_, rfl, h⟩
theorem call_enumerateT {prog : Program} {w : World} {A : Around} {E : Value → Shared → Prop} {s : Shared} {l : Addr} {items : Array Value} {Q : Value → Shared → Prop} (hL : s.heap.IsTuple l items)
    (h : ∀ h', IsEnum h' (s.heap.objs.size + 1) s.heap.objs.size 0 .none → h'.IsTupleIter s.heap.objs.size l 0 → h'.objs.size = s.heap.objs.size + 2 →
      (∀ b o, s.heap.get? b = some o → h'.get? b = some o) → Q (.ref (s.heap.objs.size + 1)) { s with heap := h' }) :
    wpAny (model prog w) A (call (.type "enumerate") [.ref l]) Q E s := by
  have B := begins_tuple l items
  refine callType_new F.called_enumerate (by decide) (F.typeCall_enumerate_1 _) (F.newCall_enumerate_1 _) (fun obj => F.args_object_init_2 obj _) F.entry_enumerate_new
    (meets_enumerate_newB0 B) ⟨hL, ?_⟩
  have hz : (s.heap.push { cls := .type "tuple_iterator", data := .fields #[.ref l, .int 0 0] }).objs.size = s.heap.objs.size + 1 := Heap.size_push ..
  show _ ∧ _
  rw [hz]
  have he : IsEnum ((s.heap.push { cls := .type "tuple_iterator", data := .fields #[.ref l, .int 0 0] }).push
      { cls := .type "enumerate", data := .fields #[.none, .bool false, .ref s.heap.objs.size, rawInt 0, .none, .none] }) (s.heap.objs.size + 1) s.heap.objs.size 0 .none := by
    have := Heap.get?_push_size (s.heap.push { cls := .type "tuple_iterator", data := .fields #[.ref l, .int 0 0] })
      (o := { cls := .type "enumerate", data := .fields #[.none, .bool false, .ref s.heap.objs.size, rawInt 0, .none, .none] }) rfl
    rw [hz] at this; exact this
  refine ⟨⟨_, he, rfl⟩, h _ he ⟨_, Heap.get?_push_of_some _ (Heap.get?_push_size _ rfl), rfl, rfl⟩ (by rw [Heap.size_push, hz]) fun b o x => Heap.get?_push_of_some _ (Heap.get?_push_of_some _ x)⟩
/-- the tuple at a, each item in a new pair -/
def IteT (K : PySem.W.Frag) (a : Addr) : It :=
  ⟨fun i H => ∃ (xs : List V) (x : V), SqT K H a xs ∧ xs[i]? = some x, fun i H v H' => ∃ T x, v = .ref T ∧ H T = none ∧ H' = upd H T (.tup [.int (i : Nat), x]) ∧ ∀ xs, SqT K H a xs → xs[i]? = some x, fun i H => ∃ xs : List V, SqT K H a xs ∧ xs.length = i⟩
theorem turn_enumT {P : Program} {w : World} {K : PySem.W.Frag} {elts : List Expr} {kk : Nat} {tpos : Pos} (a e it : Addr) :
    Turn P w K (.Tuple elts kk tpos) (IteT K a) [e, it] e (fun i h => (∃ old, IsEnum h e it ((i : Nat) : Int) old) ∧ h.IsTupleIter it a i ∧ e ≠ it ∧ a ≠ it ∧ a ≠ e) where
  mem := by simp
  obj := fun i h st b hb => by
    obtain ⟨⟨old, he⟩, ⟨o, ho, hc, hd⟩, _⟩ := st
    have e' : b = e ∨ b = it := by simpa using hb
    rcases e' with z | z
    · rw [z]; exact ⟨_, he, fun v q => nomatch q⟩
    · rw [z]; exact ⟨o, ho, fun v q => by rw [hd] at q; cases q⟩
  keep := fun i h h' st k => let ⟨⟨old, he⟩, hi, hne⟩ := st; ⟨⟨old, k e (by simp) _ he⟩, hi.at fun o q => k it (by simp) o q, hne⟩
  item := by
    intro X hP hw hK hc i pins s σ H E I hf st hg
    subst hP hw hK
    obtain ⟨⟨old, he⟩, hit, hne, hai, hae⟩ := st
    obtain ⟨xs, x, hq, hx⟩ := hg
    obtain ⟨its, rv, p, hz⟩ := I.tuple hq
    obtain ⟨u, hu, ru⟩ := rv.get hx
    have hel : e < s.heap.objs.size := Heap.lt_size he
    have hil : it < s.heap.objs.size := by obtain ⟨_, q, _⟩ := hit; exact Heap.lt_size q
    have hi : i < its.toArray.size := by simpa using (List.getElem?_eq_some_iff.mp hu).1
    refine wpAny_pyNext_enum_itemD (Draws.tuple (A := X.A.in1) (I.ok.hd hc) it a hai its.toArray) he ⟨hit, p⟩ hi hne (by simp [hne, Ne.symm hae]) fun x' h' tk hx' ho hst hT hsz hk => ?_
    have ex : x' = u := by
      have z : its.toArray[i]? = some x' := hx'
      rw [List.getElem?_toArray, hu] at z
      exact (Option.some.inj z).symm
    subst ex
    refine ⟨_, rfl, wpAny_letOwnedTupleGo_enum (s := { s with heap := h', toks := tk + 1 }) ho fun h'' he' sb => ?_⟩
    have hT2 : h''.get? s.heap.objs.size = some { cls := .type "tuple", data := .seq #[.int i tk, x'] } := (sb.2 _ (Nat.ne_of_gt hel)).trans hT
    have new : ObjOk X.prog X.w (upd H s.heap.objs.size (.tup [.int (i : Nat), x])) h'' s.heap.objs.size (.tup [.int (i : Nat), x]) :=
      ⟨by show 2 ≤ sizeLine; decide, [.int i tk, x'], .cons ⟨_, rfl⟩ (.cons ru .nil), ⟨_, hT2, rfl, _, rfl⟩⟩
    have I1 : Inv X pins σ (upd H s.heap.objs.size (.tup [.int (i : Nat), x])) { s with heap := h'', toks := tk + 1 } :=
      I.turnedNew (ch := [e, it]) (fun b ob hb q => (sb.2 b (fun z => hb (by simp [z]))).trans (hk b ob (fun z => hb (by simp [z])) (fun z => hb (by simp [z])) q)) hf (Nat.le_refl _) new
    refine ⟨.ref s.heap.objs.size, _, I1, rfl, ⟨_, x, rfl, I.hok.fresh (Nat.le_refl _), rfl, fun ys hy => by rw [I.tuple_inj hy hq]; exact hx⟩, ⟨⟨x', ?_⟩, hst.1.at fun o q => (sb.2 it (Ne.symm hne)).trans q, hne, hai, hae⟩, fun b hb => ?_⟩
    · have e1 : ((i + 1 : Nat) : Int) = (i : Int) + 1 := by omega
      rw [e1]; exact he'
    · have hb' : b < s.heap.objs.size := by
        have e' : b = e ∨ b = it := by simpa using hb
        rcases e' with z | z
        · rw [z]; exact hel
        · rw [z]; exact hil
      rw [upd_ne (Nat.ne_of_lt hb')]
      exact (hf b hb).1
  done := by
    intro X hP hw hK hc i pins s σ H E I hf st hg
    subst hP hw hK
    obtain ⟨⟨old, he⟩, hit, hne, hai, hae⟩ := st
    obtain ⟨xs, hq, hx⟩ := hg
    obtain ⟨its, rv, p, hz⟩ := I.tuple hq
    obtain ⟨f0, f1, f2, f3, f4, f5⟩ := hf it (by simp)
    have hl := rv.length
    have e2 : i = its.toArray.size := by simp; omega
    subst e2
    exact wpAny_pyNext_enum_endD (Draws.tuple (A := X.A.in1) (I.ok.hd hc) it a hai its.toArray) he ⟨hit, p⟩ fun h' eb => ⟨rfl, I.turned (t' := s.toks) (fun b o hb q => eb b o hb q) f0 f1 f3 f4 f5⟩
  self := fun A i s Q E st h => let ⟨⟨_, he⟩, _⟩ := st; wpAny_pyIter_enum he h
def iEnumT (K : PySem.W.Frag) (ta : TA) : TI := fun σ H R => ta σ H fun vs H1 => ∃ a xs, vs = [.ref a] ∧ SqT K H1 a xs ∧ R (IteT K a) H1
theorem pi_enumT {X : Cx} {e : Expr} {ta : TA} {p pos tpos : Pos} {elts : List Expr} {kk : Nat} (hg : Gl X "enumerate") (hm : X.mg "enumerate" = none) (ha : PA X [e] ta) (hs : starEach [e] X.env = [(false, eval e X.env)] := by rfl) :
    PI X (.Tuple elts kk tpos) (.Call (.Name "enumerate" p) [e] [] pos) (iEnumT X.K ta) := by
  refine ⟨fun pins s σ H R I h => ?_⟩
  refine Call_ (ld_blt I hg hm boot_enumerate (PyProof.Rows.callWith_type1 (thn (ha.run pos pins s σ H _ I h) fun us s1 ⟨vs, H1, I1, r1, q1⟩ => ?_) hs rfl))
  obtain ⟨a, xs, ex, hq, q⟩ := q1
  subst ex
  cases r1 with
  | cons r rr =>
    cases rr
    cases r
    obtain ⟨its, rv, p', hz⟩ := I1.tuple hq
    have al : a < s1.heap.objs.size := by obtain ⟨_, q, _⟩ := p'; exact Heap.lt_size q
    refine call_enumerateT p' fun h' he hit hsz hk => wpAny_pyIter_enum he ?_
    have I2 : Inv X pins σ H1 { s1 with heap := h' } := I1.kept (t' := s1.toks) hk
    refine ⟨s1.heap.objs.size + 1, [s1.heap.objs.size + 1, s1.heap.objs.size], _, _, H1, rfl, I2, turn_enumT a (s1.heap.objs.size + 1) s1.heap.objs.size, ⟨⟨.none, he⟩, hit, Nat.succ_ne_self _, Nat.ne_of_lt al, Nat.ne_of_lt (Nat.lt_succ_of_lt al)⟩, fun b hb => ?_, q⟩
    have e' : b = s1.heap.objs.size + 1 ∨ b = s1.heap.objs.size := by simpa using hb
    have hle : s1.heap.objs.size ≤ b := by
      rcases e' with z | z
      · rw [z]; exact Nat.le_add_right _ _
      · rw [z]; exact Nat.le_refl _
    exact I1.fpOk hle (I1.hok.fresh hle)
theorem walk_enumT {K : PySem.W.Frag} {a : Addr} {xs : List V} : Walk (IteT K a) xs.length (fun H => SqT K H a xs) (YPair (fun i => some (.int (i : Nat))) (fun i => xs[i]?)) := by
  refine ⟨fun i _ hi q => ⟨xs, xs[i], q, by simp [hi]⟩, fun _ q => ⟨xs, q, rfl⟩, fun i H v H' _ q y => ?_⟩
  obtain ⟨T, x, h1, h2, h3, h4⟩ := y
  exact ⟨T, .int (i : Nat), x, h1, h2, h3, rfl, h4 xs q⟩
-- part ownops
/-! operators of an own class -/
/-- a method of the class at C, by its promise -/
structure Me (P : Program) (w : World) (K : PySem.W.Frag) (mg : Str → Option Value) (base : Heap) (k : Nat) (C : Addr) (m : Str) (sp : Sp) : Prop where
  ex : ∃ (f : Addr) (fd : FuncData) (ps : List Str), Meth K C m f ∧ FnOk P w K mg base CX0 k f fd ps sp ∧ Binds K fd ps []
section
variable {X : Cx} {C : Addr} {m : Str} {sp : Sp} {k j : Nat}
theorem inst_of {pins : List (Addr × Obj)} {σ : L2.St} {H : Hp} {s : Shared} {a dx : Addr} {fs : List (Str × V)} (I : Inv X pins σ H s) (e : H a = some (.ins C dx fs)) : ∃ ox od, PySem.W.InstAt s.heap a ox C od := by
  obtain ⟨mA, O, _⟩ := ins_get I.hok e
  obtain ⟨od, J, _⟩ := O.look
  exact ⟨_, _, J⟩
/-- x op y of two instances -/
def rOwn2 (C : Addr) (sp : Sp) : R2 := fun x y H Q => ∃ a b dx dy fs gs, x = .ref a ∧ y = .ref b ∧ H a = some (.ins C dx fs) ∧ H b = some (.ins C dy gs) ∧ sp [x, y] H Q E0
theorem op_own2 {op : Operator} (c : Me X.prog X.w X.K X.mg X.base k C m sp) (hr : Room j X.A) (sf : PySem.W.selfFirst X.K C = true) (hm : PySem.dunder op.info.2 = m := by decide +kernel) (hk : k ≤ j := by decide) : OpR X (binaryOp op) (rOwn2 C sp) := by
  obtain ⟨f, fd, ps, M, F, b⟩ := c.ex
  intro pins s σ H x y v u Q I rx ry h
  obtain ⟨a, b', dx, dy, fs, gs, rfl, rfl, ha, hb, q⟩ := h
  cases (show v = Value.ref a from rx)
  cases (show u = Value.ref b' from ry)
  obtain ⟨ox, od, J⟩ := inst_of I ha
  obtain ⟨oy, od', J'⟩ := inst_of I hb
  obtain ⟨mm, hF⟩ := I.fr
  refine PySem.W.binop_K hF I.ok.mod.kin J J'.type sf (by rw [hm]; exact M.at_) M.fn ?_
  refine wpAny_mono (run_fn (us := [.ref a, .ref b']) (vs := [.ref a, .ref b']) F (hr.mono hk) b .nil pass0 I (.cons rfl (.cons rfl .nil)) q) (fun u' s' z => ?_) fun _ _ x => x
  obtain ⟨z', H', I', rz, qz⟩ := z
  exact SlX.cmpback rz ⟨z', H', I', rz, qz⟩
/-- op x of an instance -/
def rOwn1 (C : Addr) (sp : Sp) : V → Hp → VK → Prop := fun x H Q => ∃ a dx fs, x = .ref a ∧ H a = some (.ins C dx fs) ∧ sp [x] H Q E0
theorem un_inv1 (c : Me X.prog X.w X.K X.mg X.base k C "__invert__" sp) (hr : Room j X.A) (hk : k ≤ j := by decide) : UnR X (unaryOp .Invert) (rOwn1 C sp) := by
  obtain ⟨f, fd, ps, M, F, b⟩ := c.ex
  intro pins s σ H x v Q I rx h
  obtain ⟨a, dx, fs, rfl, ha, q⟩ := h
  cases (show v = Value.ref a from rx)
  obtain ⟨ox, od, J⟩ := inst_of I ha
  obtain ⟨mm, hF⟩ := I.fr
  exact PySem.W.ksp_inv hF I.ok.mod.kin J M.at_ M.fn (run_fn (us := [.ref a]) (vs := [.ref a]) F (hr.mono hk) b .nil pass0 I (.cons rfl .nil) q)
theorem un_neg1 (c : Me X.prog X.w X.K X.mg X.base k C "__neg__" sp) (hr : Room j X.A) (hk : k ≤ j := by decide) : UnR X (unaryOp .USub) (rOwn1 C sp) := by
  obtain ⟨f, fd, ps, M, F, b⟩ := c.ex
  intro pins s σ H x v Q I rx h
  obtain ⟨a, dx, fs, rfl, ha, q⟩ := h
  cases (show v = Value.ref a from rx)
  obtain ⟨ox, od, J⟩ := inst_of I ha
  obtain ⟨mm, hF⟩ := I.fr
  exact PySem.W.ksp_neg hF I.ok.mod.kin J M.at_ M.fn (run_fn (us := [.ref a]) (vs := [.ref a]) F (hr.mono hk) b .nil pass0 I (.cons rfl .nil) q)
/-- x in y, y an instance: the answer a bool -/
def rOwnIn (neg : Bool) (C : Addr) (sp : Sp) : R2 := fun x y H Q => ∃ b dx fs, y = .ref b ∧ H b = some (.ins C dx fs) ∧ sp [y, x] H (fun v H' => ∃ c : Bool, v = .bl c ∧ Q (.bl (if neg then !c else c)) H') E0
theorem op_in_own (c : Me X.prog X.w X.K X.mg X.base k C "__contains__" sp) (hr : Room j X.A) (hk : k ≤ j := by decide) : OpR X (compareOp .In) (rOwnIn false C sp) := by
  obtain ⟨f, fd, ps, M, F, b⟩ := c.ex
  intro pins s σ H x y v u Q I rx ry h
  obtain ⟨a, dx, fs, rfl, ha, q⟩ := h
  cases (show u = Value.ref a from ry)
  obtain ⟨ox, od, J⟩ := inst_of I ha
  obtain ⟨mm, hF⟩ := I.fr
  refine PySem.W.in_K hF I.ok.mod.kin J M.at_ M.fn (wpAny_mono (run_fn (us := [.ref a, v]) (vs := [.ref a, x]) F (hr.mono hk) b .nil pass0 I (.cons rfl (.cons rx .nil)) q) (fun u' s' z => ?_) fun _ _ x => x)
  obtain ⟨z', H', I', rz, d, ez, qz⟩ := z
  subst ez
  cases (show u' = Value.bool d from rz)
  exact wpAny_truthy_bool ⟨.bl d, H', I', rfl, qz⟩
theorem op_notIn_own (c : Me X.prog X.w X.K X.mg X.base k C "__contains__" sp) (hr : Room j X.A) (hk : k ≤ j := by decide) : OpR X (compareOp .NotIn) (rOwnIn true C sp) := by
  obtain ⟨f, fd, ps, M, F, b⟩ := c.ex
  intro pins s σ H x y v u Q I rx ry h
  obtain ⟨a, dx, fs, rfl, ha, q⟩ := h
  cases (show u = Value.ref a from ry)
  obtain ⟨ox, od, J⟩ := inst_of I ha
  obtain ⟨mm, hF⟩ := I.fr
  refine PySem.W.notIn_K hF I.ok.mod.kin J M.at_ M.fn (wpAny_mono (run_fn (us := [.ref a, v]) (vs := [.ref a, x]) F (hr.mono hk) b .nil pass0 I (.cons rfl (.cons rx .nil)) q) (fun u' s' z => ?_) fun _ _ x => x)
  obtain ⟨z', H', I', rz, d, ez, qz⟩ := z
  subst ez
  cases (show u' = Value.bool d from rz)
  exact wpAny_truthy_bool ⟨.bl (!d), H', I', rfl, qz⟩
/-- x == y of two instances -/
theorem op_eq_own (c : Me X.prog X.w X.K X.mg X.base k C "__eq__" sp) (hr : Room j X.A) (hk : k ≤ j := by decide) : OpR X (compareOp .Eq) (rOwn2 C sp) := by
  obtain ⟨f, fd, ps, M, F, b⟩ := c.ex
  intro pins s σ H x y v u Q I rx ry h
  obtain ⟨a, b', dx, dy, fs, gs, rfl, rfl, ha, hb, q⟩ := h
  cases (show v = Value.ref a from rx)
  cases (show u = Value.ref b' from ry)
  obtain ⟨ox, od, J⟩ := inst_of I ha
  obtain ⟨oy, od', J'⟩ := inst_of I hb
  obtain ⟨mm, hF⟩ := I.fr
  show wpAny _ _ (richCompare .Eq (.ref a) (.ref b')) _ _ _
  refine PySem.W.cmp_K (op := .Eq) (tb := .ref C) hr.units0 hF I.ok.mod.kin J J'.type (by unfold PySem.W.notFirst; simp) M.at_ M.fn ?_
  refine wpAny_mono (run_fn (us := [.ref a, .ref b']) (vs := [.ref a, .ref b']) F (hr.mono hk) b .nil pass0 I (.cons rfl (.cons rfl .nil)) q) (fun u' s' z => ?_) fun _ _ x => x
  obtain ⟨z', H', I', rz, qz⟩ := z
  exact SlX.cmpback rz ⟨z', H', I', rz, qz⟩
/-- the truth of an instance, by its __bool__ -/
def rTruOwn (C : Addr) (sp : Sp) : V → Hp → (Bool → Hp → Prop) → Prop := fun x H Q => ∃ a dx fs, x = .ref a ∧ H a = some (.ins C dx fs) ∧ sp [x] H (fun v H' => ∃ c : Bool, v = .bl c ∧ Q c H') E0
theorem tru_own (c : Me X.prog X.w X.K X.mg X.base k C "__bool__" sp) (hr : Room j X.A) (hk : k ≤ j := by decide) : TruR X (rTruOwn C sp) := by
  obtain ⟨f, fd, ps, M, F, b⟩ := c.ex
  intro pins s σ H x v Q I rx h
  obtain ⟨a, dx, fs, rfl, ha, q⟩ := h
  cases (show v = Value.ref a from rx)
  obtain ⟨ox, od, J⟩ := inst_of I ha
  obtain ⟨mm, hF⟩ := I.fr
  refine PySem.W.truthy_K hF I.ok.mod.kin J M.at_ M.fn (wpAny_mono (run_fn (us := [.ref a]) (vs := [.ref a]) F (hr.mono hk) b .nil pass0 I (.cons rfl .nil) q) (fun u' s' z => ?_) fun _ _ x => x)
  obtain ⟨z', H', I', rz, d, ez, qz⟩ := z
  subst ez
  cases (show u' = Value.bool d from rz)
  exact ⟨H', I', qz⟩
end
/-- a class that makes instances, its __init__ by its promise (it may raise, and here doesn't) -/
structure Ma (P : Program) (w : World) (K : PySem.W.Frag) (mg : Str → Option Value) (base : Heap) (k : Nat) (C : Addr) (sp : Sp) : Prop where
  ex : ∃ (f : Addr) (fd : FuncData) (ps : List Str), Mk K C f ∧ FnOk P w K mg base (L2N.CX P w) k f fd ps sp ∧ Binds K fd ps []
section
variable {X : Cx} {C : Addr} {x : Str} {sp : Sp} {k j i : Nat} {p pos : Pos} {e : Expr} {es : List Expr} {t : TA}
theorem pe_ma (c : Ma X.prog X.w X.K X.mg X.base k C sp) (hr : Room j X.A) (hm : X.mg x = some (.ref C)) (ha : PA X (e :: es) t) (hk : k + 1 ≤ j := by decide) (hg : Gl X x := by rfl)
    (hdb : (x == ("__debug__" : Str)) = false := by decide) (he : starEach (e :: es) X.env = (false, eval e X.env) :: starEach es X.env := by rfl) (hpl : (backTo pos (starEach es X.env)).any (·.1) = false := by rfl) :
    PE X (.Call (.Name x p) (e :: es) [] pos) (tMake C sp [] E0 t) := by
  obtain ⟨f, fd, ps, M, F, b⟩ := c.ex
  exact pe_make M F (hr.mono hk) hg hm b .nil passN ha hdb he hpl
/-- cls(..), cls a parameter that holds the class -/
def tMakeL (i : Nat) (C : Addr) (sp : Sp) (t : TA) : TE := fun σ H Q => σ[i]? = some (some (.ref C)) ∧ tMake C sp [] E0 t σ H Q
theorem pe_maL (c : Ma X.prog X.w X.K X.mg X.base k C sp) (hr : Room j X.A) (hN : X.N[i]? = some x) (ha : PA X (e :: es) t) (hk : k + 1 ≤ j := by decide)
    (hv : Vis X.env.scope x := by first | exact Or.inl rfl | exact Or.inr (Or.inl rfl) | exact Or.inr (Or.inr rfl))
    (hdb : (x == ("__debug__" : Str)) = false := by decide) (hcd : (x == ("__classdict__" : Str)) = false := by decide)
    (he : starEach (e :: es) X.env = (false, eval e X.env) :: starEach es X.env := by rfl) (hpl : (backTo pos (starEach es X.env)).any (·.1) = false := by rfl) :
    PE X (.Call (.Name x p) (e :: es) [] pos) (tMakeL i C sp t) := by
  obtain ⟨f, fd, ps, M, F, b⟩ := c.ex
  refine ⟨fun pins s σ H Q I h => ?_⟩
  obtain ⟨at_i, rest⟩ := h
  refine wpAny_Call_Name_kw (thn ((pe_var (pos := p) hN hv hdb hcd).run pins s σ H (fun v G => v = .ref C ∧ G = H) I ⟨.ref C, at_i, rfl, rfl⟩) fun u s1 ⟨v, G, I1, r1, e1, e2⟩ => ?_)
  subst e1
  subst e2
  cases r1
  refine PySem.W.callWith_K (h₀ := X.base) I.ok.mod.kin M.kp (thn (ha.run pos pins s1 σ _ _ I1 rest) fun us s2 ⟨vs, G2, I2, r, q⟩ => ⟨I2.kIn, ?_⟩) he hpl
  exact run_make M F (hr.mono hk) b .nil passN I2 r q
end
-- part ownops2
/-! bool(x) and x == y, where y is no instance; classmethods by FnR; C(..) in a try -/
section
variable {X : Cx} {C : Addr} {m : Str} {sp : Sp} {k j : Nat}
/-- bool(x) of an instance -/
def rBoolOwn (C : Addr) (sp : Sp) : List V → Hp → VK → Prop := fun xs H Q => ∃ a dx fs, xs = [.ref a] ∧ H a = some (.ins C dx fs) ∧ sp [.ref a] H (fun v H' => ∃ c : Bool, v = .bl c ∧ Q (.bl c) H') E0
theorem new_bool_any {prog : Program} {w : World} (x : Value) : MeetsIn prog w (Builtin.«bool.__new__» ⟨[.type "bool", x], []⟩)
    (fun A R s => wpAny (model prog w) A.in1 (truthy x) (fun b s1 => R (.ok (.ret (.bool b))) s1) (fun e s1 => R (.error e) s1) s) :=
  .of_wp fun A R s h => by
    have no_bool := F.conv_sub_bool
    unfold Builtin.«bool.__new__»
    generalize same : truthy = TX
    wp_walk
    subst same
    refine wpAny_mono h (fun b s1 hR => ?_) fun _ _ z => z
    exact wpAny_pure ⟨_, rfl, hR⟩
theorem cr_boolOwn (c : Me X.prog X.w X.K X.mg X.base k C "__bool__" sp) (hr : Room j X.A) (hk : k + 2 ≤ j := by decide) : CallR X (.type "bool") (rBoolOwn C sp) := by
  obtain ⟨f, fd, ps, M, F, b⟩ := c.ex
  intro pins s σ H xs us Q I r h
  obtain ⟨a, dx, fs, rfl, ha, q⟩ := h
  obtain rfl := Vals.ref1 r
  obtain ⟨ox, od, J⟩ := inst_of I ha
  obtain ⟨mm, hF⟩ := I.fr
  have many : ([Value.ref a] : List Value).length = ps.length := F.len [.ref a] _ _ _ q
  have bound := b s [.ref a] I.kIn (by rw [List.append_nil]; exact many)
  rw [List.append_nil] at bound
  refine callType_newIn PySem.F.called_bool PySem.F.newNe_bool (PySem.F.typeCall_bool_1 _) (PySem.F.newCall_bool_1 _) (fun obj => PySem.F.args_object_init_2 obj _) PySem.F.entry_bool_new (new_bool_any _) ?_
  refine PySem.W.truthy_K hF I.ok.mod.kin J M.at_ M.fn (wpAny_call (codeAny_mono (F.run _ X.stack s H ⟨[.ref a], []⟩ [.ref a] [.ref a] _ E0 ((hr.mono hk).in1.in1) (I.env0.in1.in1) bound (.cons rfl .nil) q) fun r s' hq => ?_))
  cases r with
  | error e => exact False.elim hq
  | ok fl =>
    cases fl with
    | ret u =>
      obtain ⟨z', H', I', rz, d, ez, qz⟩ := I.after hq
      subst ez
      cases (show u = Value.bool d from rz)
      exact ⟨rfl, .bl d, H', I', rfl, qz⟩
    | next => exact False.elim hq
    | brk => exact False.elim hq
    | cont => exact False.elim hq
/-- x == y, y a tuple -/
def rOwnT (C : Addr) (sp : Sp) : R2 := fun x y H Q => ∃ a b dx fs zs, x = .ref a ∧ y = .ref b ∧ H a = some (.ins C dx fs) ∧ H b = some (.tup zs) ∧ sp [x, y] H Q E0
theorem op_eq_ownT (c : Me X.prog X.w X.K X.mg X.base k C "__eq__" sp) (hr : Room j X.A) (nf : PySem.W.subIn X.K (.type "tuple") (.ref C) = some false) (hk : k ≤ j := by decide) : OpR X (compareOp .Eq) (rOwnT C sp) := by
  obtain ⟨f, fd, ps, M, F, b⟩ := c.ex
  intro pins s σ H x y v u Q I rx ry h
  obtain ⟨a, b', dx, fs, zs, rfl, rfl, ha, hb, q⟩ := h
  cases (show v = Value.ref a from rx)
  cases (show u = Value.ref b' from ry)
  obtain ⟨ox, od, J⟩ := inst_of I ha
  obtain ⟨_, _, _, o, h1, h2, _⟩ := (show ObjOk X.prog X.w H s.heap b' (.tup zs) from I.hok b' _ hb)
  obtain ⟨mm, hF⟩ := I.fr
  show wpAny _ _ (richCompare .Eq (.ref a) (.ref b')) _ _ _
  refine PySem.W.cmp_K (op := .Eq) (tb := .type "tuple") hr.units0 hF I.ok.mod.kin J (fun A Q E s k q => wpAny_typeOf_ref (k _ _ h1) (by rw [h2]; exact q)) (by unfold PySem.W.notFirst; rw [nf]; simp) M.at_ M.fn ?_
  refine wpAny_mono (run_fn (us := [.ref a, .ref b']) (vs := [.ref a, .ref b']) F (hr.mono hk) b .nil pass0 I (.cons rfl (.cons rfl .nil)) q) (fun u' s' z => ?_) fun _ _ x => x
  obtain ⟨z', H', I', rz, qz⟩ := z
  exact SlX.cmpback rz ⟨z', H', I', rz, qz⟩
end
/-- a classmethod by what its call does -/
structure CmR (P : Program) (w : World) (K : PySem.W.Frag) (mg : Str → Option Value) (base : Heap) (k : Nat) (C : Addr) (m : Str) (sp : Sp) : Prop where
  ex : ∃ (mc : Value) (p g : Addr), ClX.CRead K C mc ∧ ClX.CMet K C mc m p g ∧ FnR P w K mg base CX0 k g sp
theorem pe_cmR {X : Cx} {C : Addr} {m : Str} {sp : Sp} {k j : Nat} {o e : Expr} {es : List Expr} {ta : TE} {t : TA} {apos pos : Pos} {pl : Sem Bool} (c : CmR X.prog X.w X.K X.mg X.base k C m sp) (hr : Room j X.A) (he : PE X o ta) (ha : PA X (e :: es) t) (hk : k ≤ j := by decide)
    (hst : starEach (e :: es) X.env = (false, eval e X.env) :: starEach es X.env := by rfl) (hpl : (backTo pos (starEach es X.env)).any (·.1) = false := by rfl)
    (ht : eval (.Call (.Attribute o m apos) (e :: es) [] pos) X.env = (do
      let got ← eval o X.env
      standAt apos.atName
      let (fn, fst) ← holding [got] (getMethod got m pl)
      callWith pos fn fst (backTo pos (starEach (e :: es) X.env)) (backToKw pos (keywordEach [] X.env))) := by rfl) :
    PE X (.Call (.Attribute o m apos) (e :: es) [] pos) (ClX.tCMeth C sp E0 ta t) := by
  obtain ⟨mc, p, g, r, c, F⟩ := c.ex
  exact ClX.pe_cmeth he r c F (hr.mono hk) pass0 ha hst hpl ht
theorem pe_cmR0 {X : Cx} {C : Addr} {m : Str} {sp : Sp} {k j : Nat} {o : Expr} {ta : TE} {apos pos : Pos} {pl : Sem Bool} (c : CmR X.prog X.w X.K X.mg X.base k C m sp) (hr : Room j X.A) (he : PE X o ta) (hk : k ≤ j := by decide)
    (ht : eval (.Call (.Attribute o m apos) [] [] pos) X.env = (do
      let got ← eval o X.env
      standAt apos.atName
      let (fn, fst) ← holding [got] (getMethod got m pl)
      callWith pos fn fst (backTo pos (starEach [] X.env)) (backToKw pos (keywordEach [] X.env))) := by rfl) :
    PE X (.Call (.Attribute o m apos) [] [] pos) (ClX.tCMeth C sp E0 ta tNil) := by
  obtain ⟨mc, p, g, r, c, F⟩ := c.ex
  refine ⟨fun pins s σ H Q I h => ?_⟩
  refine PySem.W.methodCall_KW (pl := pl) (thn (he.run pins s σ H _ I h) fun u s1 ⟨x, H1, I1, rx, ex, q⟩ => ?_) ht
  subst ex
  obtain rfl : u = Value.ref C := rx
  refine ClX.getmethcm_ok I1 r c fun s2 I2 => ?_
  have hq := ClX.pin_at I2
  show wpAny _ _ (callWith pos (Value.ref s1.heap.objs.size) [] (backTo pos (starEach [] X.env)) []) _ _ _
  refine PySem.W.callWith_M0 (K := X.K) (g := g) (self := .ref C) ?_ c.fi ?_
  · exact ⟨hq, I2.kIn⟩
  · exact ClX.run_cm (us := []) (vs := []) F (hr.mono hk) pass0 I2 .nil q
/-- C(..) whose __init__ may raise, in a try that takes it -/
def tMakeS (C : Addr) (sp : Sp) (E : L2.St → XK) (t : TA) : TE := fun σ H Q => tMake C sp [] (E σ) t σ H Q
theorem pe_maX {X : Cx} {W : WX} {C : Addr} {x : Str} {sp : Sp} {k j : Nat} {p pos : Pos} {e : Expr} {es : List Expr} {t : TA} (c : Ma X.prog X.w X.K X.mg X.base k C sp) (hr : Room j X.A) (tk : L2N.Takes X W) (hm : X.mg x = some (.ref C)) (ha : PA X (e :: es) t) (hk : k + 1 ≤ j := by decide) (hg : Gl X x := by rfl)
    (hdb : (x == ("__debug__" : Str)) = false := by decide) (he : starEach (e :: es) X.env = (false, eval e X.env) :: starEach es X.env := by rfl) (hpl : (backTo pos (starEach es X.env)).any (·.1) = false := by rfl) :
    PE X (.Call (.Name x p) (e :: es) [] pos) (tMakeS C sp (WE W) t) := by
  obtain ⟨f, fd, ps, M, F, b⟩ := c.ex
  refine ⟨fun pins s σ H Q I h => ?_⟩
  refine wpAny_Call_Name_kw (ld_glob I hg hm ?_ hdb)
  refine PySem.W.callWith_K (h₀ := X.base) I.ok.mod.kin M.kp (thn (ha.run pos pins s σ H _ I h) fun us s1 ⟨vs, H1, I1, r, q⟩ => ⟨I1.kIn, ?_⟩) he hpl
  generalize ez : s1.heap.objs.size = z
  have le0 : s1.heap.objs.size ≤ z := by rw [ez]; exact Nat.le_refl z
  have asks := q (z + 1) z (I1.hok.fresh (Nat.le_succ_of_le le0)) (I1.hok.fresh le0) (Nat.ne_of_lt (Nat.lt_succ_self z))
  have laid := Inv.made (C := C) I1
  rw [ez] at laid
  have rel : Vals (V.ref (z + 1) :: vs) (Value.ref (z + 1) :: us) := .cons rfl r
  rw [List.append_nil] at asks
  have many : (Value.ref (z + 1) :: us).length = ps.length := by
    rw [← rel.length]
    exact F.len _ _ _ _ asks
  have bound := b _ (Value.ref (z + 1) :: us) laid.kIn (by rw [List.append_nil]; exact many)
  rw [List.append_nil] at bound
  have runs := F.run _ X.stack _ _ ⟨Value.ref (z + 1) :: us, []⟩ (Value.ref (z + 1) :: us) _ _ (WE W σ) ((hr.mono hk).make C us []) (laid.env0.make C us []) bound rel asks
  subst ez
  refine wpAny_call (make_map (f := f) I1.kIn M.makes M.init (beq_iff_eq.mp M.fn) (codeAny_mono runs fun r' s' back => ?_))
  cases r' with
  | error er => exact L2N.passAt tk σ pins _ _ er s' laid back
  | ok fl =>
    cases fl with
    | ret u =>
      obtain ⟨v, H', I3, rv, ev, q3⟩ := laid.after back
      subst ev
      cases (show u = Value.none from rv)
      exact ⟨rfl, .ref _, H', I3, rfl, q3⟩
    | next => exact False.elim back
    | brk => exact False.elim back
    | cont => exact False.elim back
theorem kit_ownF {C : Addr} {U : String} (h2 : PySem.W.isClsIn K C = true) (h3 : PySem.W.typeIn K (.ref C) = some (.type "type")) (h : PySem.W.subIn K (.type U) (.ref C) = some false) : PySem.W.kitOne K (.type U) (.ref C) = some false := by
  have h2' : (PySem.W.clsIn K C).isSome = true := h2
  have e2 : ((PySem.W.clsIn K C).isSome && PySem.W.typeIn K (.ref C) == some (.type "type")) = true := by rw [h2', h3] <;> rfl
  unfold PySem.W.kitOne
  rw [if_neg (by simp)]
  show (if ((PySem.W.clsIn K C).isSome && PySem.W.typeIn K (.ref C) == some (.type "type")) = true then PySem.W.subIn K (.type U) (.ref C) else none) = some false
  rw [if_pos e2]
  exact h
-- part clsm
/-- a call of a classmethod without arguments -/
structure Cm (P : Program) (w : World) (K : PySem.W.Frag) (mg : Str → Option Value) (base : Heap) (k : Nat) (C : Addr) (m : Str) (sp : Sp) : Prop where
  ex : ∃ (mc : Value) (p g : Addr) (fd : FuncData) (ps : List Str), ClX.CRead K C mc ∧ ClX.CMet K C mc m p g ∧ FnOk P w K mg base CX0 k g fd ps sp ∧ Binds K fd ps []
theorem fnR_of {P : Program} {w : World} {K : PySem.W.Frag} {mg : Str → Option Value} {base : Heap} {CX : CXT} {k : Nat} {f : Addr} {fd : FuncData} {ps : List Str} {sp : Sp} (F : FnOk P w K mg base CX k f fd ps sp) (b : Binds K fd ps []) : FnR P w K mg base CX k f sp :=
  fun A outer s H us vs Q E hr e0 r h => by
    have hl : us.length = ps.length := by
      rw [← r.length]
      exact F.len _ _ _ _ h
    have z := b s us (e0.mod.kin.keeps fun b o e => (e0.bs b o e).1) (by rw [List.append_nil]; exact hl)
    rw [List.append_nil] at z
    exact F.run A outer s H ⟨us, []⟩ us vs Q E hr e0 z r h
theorem pe_cm {X : Cx} {C : Addr} {m : Str} {sp : Sp} {k j : Nat} {o e : Expr} {es : List Expr} {ta : TE} {t : TA} {apos pos : Pos} {pl : Sem Bool} (c : Cm X.prog X.w X.K X.mg X.base k C m sp) (hr : Room j X.A) (he : PE X o ta) (ha : PA X (e :: es) t) (hk : k ≤ j := by decide)
    (hst : starEach (e :: es) X.env = (false, eval e X.env) :: starEach es X.env := by rfl) (hpl : (backTo pos (starEach es X.env)).any (·.1) = false := by rfl)
    (ht : eval (.Call (.Attribute o m apos) (e :: es) [] pos) X.env = (do
      let got ← eval o X.env
      standAt apos.atName
      let (fn, fst) ← holding [got] (getMethod got m pl)
      callWith pos fn fst (backTo pos (starEach (e :: es) X.env)) (backToKw pos (keywordEach [] X.env))) := by rfl) :
    PE X (.Call (.Attribute o m apos) (e :: es) [] pos) (ClX.tCMeth C sp E0 ta t) := by
  obtain ⟨mc, p, g, fd, ps, r, c, F, b⟩ := c.ex
  exact ClX.pe_cmeth he r c (fnR_of F b) (hr.mono hk) pass0 ha hst hpl ht
theorem pe_cm0 {X : Cx} {C : Addr} {m : Str} {sp : Sp} {k j : Nat} {o : Expr} {ta : TE} {apos pos : Pos} {pl : Sem Bool} (c : Cm X.prog X.w X.K X.mg X.base k C m sp) (hr : Room j X.A) (he : PE X o ta) (hk : k ≤ j := by decide)
    (ht : eval (.Call (.Attribute o m apos) [] [] pos) X.env = (do
      let got ← eval o X.env
      standAt apos.atName
      let (fn, fst) ← holding [got] (getMethod got m pl)
      callWith pos fn fst (backTo pos (starEach [] X.env)) (backToKw pos (keywordEach [] X.env))) := by rfl) :
    PE X (.Call (.Attribute o m apos) [] [] pos) (ClX.tCMeth C sp E0 ta tNil) := by
  obtain ⟨mc, p, g, fd, ps, r, c, F, b⟩ := c.ex
  refine ⟨fun pins s σ H Q I h => ?_⟩
  refine PySem.W.methodCall_KW (pl := pl) (thn (he.run pins s σ H _ I h) fun u s1 ⟨x, H1, I1, rx, ex, q⟩ => ?_) ht
  subst ex
  obtain rfl : u = Value.ref C := rx
  have notin : X.base.get? s1.heap.objs.size = none := by
    cases z : X.base.get? s1.heap.objs.size with
    | none => rfl
    | some o => exact absurd (Heap.lt_size (I1.bk _ o z)) (Nat.lt_irrefl _)
  refine ClX.getmethcm_ok I1 r c fun s2 I2 => ?_
  have hq := ClX.pin_at I2
  have hL : s1.heap.objs.size ≠ X.env.locals := (I2.pin (s1.heap.objs.size, PySem.W.methodObj (.ref g) (.ref C)) (List.mem_append_right _ List.mem_cons_self)).2.2.1
  show wpAny _ _ (callWith pos (Value.ref s1.heap.objs.size) [] (backTo pos (starEach [] X.env)) []) _ _ _
  refine PySem.W.callWith_M0 (K := X.K) (g := g) (self := .ref C) ?_ c.fi ?_
  · exact ⟨hq, I2.kIn⟩
  · have z := ClX.run_cm (us := []) (vs := []) (fnR_of F b) (hr.mono hk) pass0 I2 .nil q
    exact z
-- part meths
/-! o.m(..) of an own class, by its promise -/
section
variable {X : Cx} {C : Addr} {m : Str} {sp : Sp} {k j : Nat} {o e : Expr} {es : List Expr} {ta : TE} {t : TA} {apos pos : Pos} {pl : Sem Bool}
theorem pe_me0 (c : Me X.prog X.w X.K X.mg X.base k C m sp) (cl : Cls X.K C) (hr : Room j X.A) (he : PE X o ta) (hk : k ≤ j := by decide)
    (ht : eval (.Call (.Attribute o m apos) [] [] pos) X.env = (do
      let ov ← eval o X.env
      standAt apos.atName
      let (f, first) ← holding [ov] (getMethod ov m pl)
      callWith pos f first (backTo pos (starEach [] X.env)) (backToKw pos (keywordEach [] X.env))) := by rfl) :
    PE X (.Call (.Attribute o m apos) [] [] pos) (tMeth C m sp [] E0 ta tNil) := by
  obtain ⟨f, fd, ps, M, F, b⟩ := c.ex
  exact pe_meth0 he cl M F (hr.mono hk) b .nil pass0 ht
theorem pe_me (c : Me X.prog X.w X.K X.mg X.base k C m sp) (cl : Cls X.K C) (hr : Room j X.A) (he : PE X o ta) (ha : PA X (e :: es) t) (hk : k ≤ j := by decide)
    (hst : starEach (e :: es) X.env = (false, eval e X.env) :: starEach es X.env := by rfl) (hpl : (backTo pos (starEach es X.env)).any (·.1) = false := by rfl)
    (ht : eval (.Call (.Attribute o m apos) (e :: es) [] pos) X.env = (do
      let ov ← eval o X.env
      standAt apos.atName
      let (f, first) ← holding [ov] (getMethod ov m pl)
      callWith pos f first (backTo pos (starEach (e :: es) X.env)) (backToKw pos (keywordEach [] X.env))) := by rfl) :
    PE X (.Call (.Attribute o m apos) (e :: es) [] pos) (tMeth C m sp [] E0 ta t) := by
  obtain ⟨f, fd, ps, M, F, b⟩ := c.ex
  exact pe_meth he cl M F (hr.mono hk) b .nil pass0 ha hst hpl ht
end
/-- a class whose instances are called, by the promise of its __call__ -/
structure Co (P : Program) (w : World) (K : PySem.W.Frag) (mg : Str → Option Value) (base : Heap) (k : Nat) (C : Addr) (sp : Sp) : Prop where
  ex : ∃ g, StX.CallO K C g ∧ FnR P w K mg base CX0 k g sp
def tCallI (C : Addr) (sp : Sp) (tf : TE) (t : TA) : TE := fun σ H Q => tf σ H fun y H1 => ∃ a, y = V.ref a ∧ t σ H1 fun vs H2 => ((∃ dx vs, SlX.Slt H2 a C dx vs) ∨ ∃ dx fs, H2 a = some (.ins C dx fs)) ∧ sp (V.ref a :: vs) H2 Q E0
theorem pe_inst {X : Cx} {C : Addr} {sp : Sp} {k j : Nat} {fe e : Expr} {es : List Expr} {tf : TE} {t : TA} {pos : Pos} (c : Co X.prog X.w X.K X.mg X.base k C sp) (hr : Room j X.A) (hf : PE X fe tf) (ha : PA X (e :: es) t) (hk : k ≤ j := by decide)
    (ht : eval (.Call fe (e :: es) [] pos) X.env = (do callWith pos (← eval fe X.env) [] (backTo pos (starEach (e :: es) X.env)) (backToKw pos (keywordEach [] X.env))) := by rfl)
    (he : starEach (e :: es) X.env = (false, eval e X.env) :: starEach es X.env := by rfl) (hpl : (backTo pos (starEach es X.env)).any (·.1) = false := by rfl) :
    PE X (.Call fe (e :: es) [] pos) (tCallI C sp tf t) := by
  obtain ⟨g, c, F⟩ := c.ex
  exact StX.pe_callO hf c F (hr.mono hk) pass0 ha ht he hpl
-- part polyb
/-! the class Poly -/
def pyF (t : Addr) : List (Str × V) := putF "coefficients" (.ref t) []
theorem pyF_c (t : Addr) : (pyF t).lookup ("coefficients" : Str) = some (.ref t) := by
  unfold pyF
  rw [lookup_putF, if_pos rfl]
theorem pyF_no (t : Addr) {m : Str} (h : ¬ m = "coefficients") : (pyF t).lookup m = none := by
  unfold pyF
  rw [lookup_putF, if_neg h] <;> rfl
/-- a polynomial stands at a -/
structure PolyAt (K : PySem.W.Frag) (C : Addr) (H : Hp) (a : Addr) (l : List Int) : Prop where
  ob : ∃ dx t, H a = some (.ins C dx (pyF t)) ∧ SqT K H t (l.map V.int)
  trm : Trim l
  few : l.length ≤ 200
theorem PolyAt.same {C : Addr} {H H' : Hp} {a : Addr} {l : List Int} (h : PolyAt K C H a l) (s : Same H H') : PolyAt K C H' a l := by
  obtain ⟨dx, t, h1, h2⟩ := h.ob
  exact ⟨⟨dx, t, s _ _ h1, Evl.ex_t s h2⟩, h.trm, h.few⟩
/-- what is told of the class -/
structure PoT (K : PySem.W.Frag) (mg : Str → Option Value) (C : Addr) : Prop where
  g : mg "Poly" = some (.ref C)
  cl : Cls K C
  nC : NoAttr K C "coefficients"
  sf : PySem.W.selfFirst K C = true
  isC : C8.InsC K C
abbrev s_pinit : Stmt := inClass (top 14) 0
theorem sc_pinit : FnScope ["self", "coefficients", "size"] ["self", "coefficients"] (defScope s_pinit) := ⟨rfl, rfl, rfl, by decide +kernel, rfl, by decide +kernel, by decide +kernel⟩
def spPI (C : Addr) (tup : Bool) (K : PySem.W.Frag) : Sp := fun vs H Q _ => ∃ (x dx a : Addr) (ns : List Int), vs = [.ref x, .ref a] ∧ H x = some (.ins C dx []) ∧ (if tup = true then SqT K H a (ns.map V.int) else SqL K H a (ns.map V.int)) ∧ ns.length ≤ 200 ∧
  ∀ H', PolyAt K C H' x (trim ns) → (∀ b o, H b = some o → b ≠ x → H' b = some o) → Q .non H'
/-- one turn of the while tells how far it is -/
theorem tsz_turn {l : List Int} {k : Nat} (h : tsz l k = tsz l l.length) (hz : l.getD (k - 1) 0 = 0) (hk : 0 < k) : tsz l (k - 1) = tsz l l.length := by
  obtain ⟨n, rfl⟩ : ∃ n, k = n + 1 := ⟨k - 1, by omega⟩
  rw [Nat.add_sub_cancel] at hz ⊢
  rw [← h]
  show _ = if l.getD n 0 = 0 then tsz l n else n + 1
  rw [if_pos hz]
theorem tsz_stop {l : List Int} {k : Nat} (h : tsz l k = tsz l l.length) (hz : 0 < k → l.getD (k - 1) 0 ≠ 0) : l.take k = trim l := by
  unfold trim
  rw [← h]
  cases k with
  | zero => rfl
  | succ n =>
    have := hz (Nat.succ_pos n)
    rw [Nat.add_sub_cancel] at this
    show _ = l.take (if l.getD n 0 = 0 then tsz l n else n + 1)
    rw [if_neg this]
theorem ne_of_none' {H : Hp} {t x : Addr} {o : HO} (nt : H t = none) (hx : H x = some o) : t ≠ x := fun e => by
  rw [e, hx] at nt
  cases nt
/-- a tuple stands behind a store in an instance -/
theorem sqT_ins {K : PySem.W.Frag} {H : Hp} {x a C dx : Addr} {fs : List (Str × V)} {o : HO} {xs : List V} (hx : H x = some (.ins C dx fs)) (h : SqT K H a xs) : SqT K (upd H x o) a xs := by
  rcases h with (h | ⟨o', h⟩) | h
  · exact .inl (.inl (by rw [upd_ne (fun e => by rw [e, hx] at h; cases h)]; exact h))
  · exact .inl (.inr ⟨o', by rw [upd_ne (fun e => by rw [e, hx] at h; cases h)]; exact h⟩)
  · exact .inr h
theorem cut_take {l : List Int} {k : Nat} (h : k ≤ l.length) : cutV (l.map V.int) none (some (k : Int)) = (l.map V.int).take k := by
  show ((l.map V.int).drop 0).take (HT.sIx (l.map V.int).length (l.map V.int).length (some (k : Int)) - 0) = _
  rw [HT.sIx_nat, List.length_map, Nat.min_eq_left h, List.drop_zero, Nat.sub_zero]
theorem ok_pinit {f C : Addr} {fd : FuncData} (tup : Bool) (TT : Txt mg) (T : PoT K mg C) (F : Fun K "__init__" "Poly.__init__" s_pinit f fd) : FnOk P w K mg base (L2N.CX P w) 2 f fd ["self", "coefficients"] (spPI C tup K) := by
  refine okN F sc_pinit (fun vs H Q E h => ?_) (fun cdv A outer s H vs Q E hr h => ?_)
  · obtain ⟨x, dx, a, ns, rfl, _⟩ := h
    rfl
  · obtain ⟨x, dx, a, ns, rfl, hx, hS, few, q⟩ := h
    have at_k : ∀ k : Nat, 0 < k → k ≤ ns.length → atI (ns.map V.int) ((k : Int) - 1) = some (V.int (ns.getD (k - 1) 0)) := fun k h0 h1 => by
      rw [show (k : Int) - 1 = ((k - 1 : Nat) : Int) by omega]
      exact atI_nat (map_at (getD_at (by omega)))
    cases tup with
    | false =>
      have hS' : SqL K H a (ns.map V.int) := hS
      refine ⟨_, (pss_cons (ps_set (i := 2) sc_pinit.nd rfl (Or.inl rfl) (pe_callB call_len_seq (by rfl) TT.len PySem.boot_len (pa_cons (pv 1) pa_nil)))
 (pss_cons (ps_while (passes_of rfl) (pw_and (pt_cmpR op_gt (pv 2) pe_int (nomark _)) (pw_and1 (pt_cmpR op_eq (pe_ix ix_list (pv 1) (pe_op op_sub (pv 2) pe_int) (fun _ _ => rfl)) pe_int (nomark _)))).pt (pss_one (ps_aug (i := 2) sc_pinit.nd rfl (Or.inl rfl) pe_int ip_sub)))
 (pss_one (ps_fld (pv 0) (pe_tupleOf (by rfl) TT.tuple (pe_slice sl_list (pv 1) po_none (po_some (pv 2)))) rfl)))), ?_⟩
      refine ⟨_, rfl, a, _, rfl, .inl hS', ?_⟩
      refine while_by (fun σ H' => H' = H ∧ ∃ k : Nat, σ = [some (.ref x), some (.ref a), some (.int (k : Int))] ∧ k ≤ ns.length ∧ tsz ns k = tsz ns ns.length) (fun σ _ => match σ[2]? with | some (some (V.int k)) => k.toNat | _ => 0)
        ⟨rfl, ns.length, by rw [List.length_map] <;> rfl, Nat.le_refl _, rfl⟩ ?_ ?_
      · rintro σ _ ⟨rfl, k, rfl, hk, ht⟩
        have fin : trim ns = ns.take k → sFld K (tVar 0) (tThen (tSl (rSlL K) (tVar 1) tNoPart (tPart (tVar 2))) (kTup K)) "coefficients" { nx := fun _ H' => Q .non H', rt := Q } [some (.ref x), some (.ref a), some (.int (k : Int))] _ := fun e => by
          refine ⟨_, rfl, _, rfl, _, rfl, a, _, rfl, hS', fun p np => ?_⟩
          refine .inl ⟨p, _, rfl, SqL.of upd_same, fun t nt => ?_⟩
          have g1 := same_upd (o := .lst (cutV (ns.map V.int) none (some (k : Int)))) np
          have hx2 := same_upd (o := .tup (cutV (ns.map V.int) none (some (k : Int)))) nt _ _ (g1 _ _ hx)
          refine ⟨_, rfl, x, C, dx, [], rfl, hx2, T.cl, T.nC, (by show 0 < 1000; decide), ?_⟩
          have ntx : t ≠ x := ne_of_none' nt (g1 _ _ hx)
          refine q _ ⟨⟨dx, t, upd_same, .inl (.inl ?_)⟩, trim_trim _, by have := trim_few ns; omega⟩ fun b o hb hbx => ?_
          · rw [upd_ne ntx, upd_same, cut_take hk, e, List.map_take]
          · rw [upd_ne hbx]
            exact same_upd nt _ _ (g1 _ _ hb)
        refine ⟨_, rfl, _, _, rfl, rfl, _, rfl, ?_⟩
        by_cases c0 : 0 < k
        · refine if_pos_of (decide_eq_true (by omega)) ?_
          refine ⟨_, rfl, _, rfl, _, _, rfl, rfl, a, _, _, _, rfl, rfl, hS', at_k k c0 hk, rfl, _, rfl, ?_⟩
          by_cases c1 : ns.getD (k - 1) 0 = 0
          · refine if_pos_of (decide_eq_true (by rw [c1])) ?_
            refine ⟨_, rfl, _, _, rfl, rfl, ⟨rfl, k - 1, ?_, by omega, tsz_turn ht c1 c0⟩, ?_⟩
            · rw [show ((k - 1 : Nat) : Int) = (k : Int) - 1 by omega] <;> rfl
            · show ((k : Int) - 1).toNat < ((k : Int)).toNat
              omega
          · refine if_neg_of (decide_eq_false fun e => c1 (V.int.inj e)) ?_
            exact fin (tsz_stop ht fun _ => c1).symm
        · refine if_neg_of (decide_eq_false (by omega)) ?_
          exact fin (tsz_stop ht fun h => absurd h c0).symm
      · rintro σ H1 Q1 Q2 h z
        obtain ⟨v, e1, i, j, e2, e3, k, e4, z⟩ := z
        refine ⟨v, e1, i, j, e2, e3, k, e4, ?_⟩
        cases k with
        | false => exact h _ _ z
        | true =>
          obtain ⟨v1, f1, v2, f2, i1, j1, f3, f4, p1, xs1, i2, y1, f5, f6, f7, f8, f9, k2, f10, z⟩ := z
          exact ⟨v1, f1, v2, f2, i1, j1, f3, f4, p1, xs1, i2, y1, f5, f6, f7, f8, f9, k2, f10, h _ _ z⟩
    | true =>
      have hS' : SqT K H a (ns.map V.int) := hS
      refine ⟨_, (pss_cons (ps_set (i := 2) sc_pinit.nd rfl (Or.inl rfl) (pe_callB call_len_seq (by rfl) TT.len PySem.boot_len (pa_cons (pv 1) pa_nil)))
 (pss_cons (ps_while (passes_of rfl) (pw_and (pt_cmpR op_gt (pv 2) pe_int (nomark _)) (pw_and1 (pt_cmpR op_eq (pe_ix ix_tup (pv 1) (pe_op op_sub (pv 2) pe_int) (fun _ _ => rfl)) pe_int (nomark _)))).pt (pss_one (ps_aug (i := 2) sc_pinit.nd rfl (Or.inl rfl) pe_int ip_sub)))
 (pss_one (ps_fld (pv 0) (pe_tupleOf (by rfl) TT.tuple (pe_slice sl_tupA (pv 1) po_none (po_some (pv 2)))) rfl)))), ?_⟩
      refine ⟨_, rfl, a, _, rfl, .inr hS', ?_⟩
      refine while_by (fun σ H' => H' = H ∧ ∃ k : Nat, σ = [some (.ref x), some (.ref a), some (.int (k : Int))] ∧ k ≤ ns.length ∧ tsz ns k = tsz ns ns.length) (fun σ _ => match σ[2]? with | some (some (V.int k)) => k.toNat | _ => 0)
        ⟨rfl, ns.length, by rw [List.length_map] <;> rfl, Nat.le_refl _, rfl⟩ ?_ ?_
      · rintro σ _ ⟨rfl, k, rfl, hk, ht⟩
        have fin : trim ns = ns.take k → sFld K (tVar 0) (tThen (tSl (rSlA K) (tVar 1) tNoPart (tPart (tVar 2))) (kTup K)) "coefficients" { nx := fun _ H' => Q .non H', rt := Q } [some (.ref x), some (.ref a), some (.int (k : Int))] _ := fun e => by
          refine ⟨_, rfl, _, rfl, _, rfl, a, _, rfl, hS', fun full => ?_, fun _ t nt => ?_⟩
          · refine .inr ⟨a, _, rfl, hS', ?_⟩
            refine ⟨_, rfl, x, C, dx, [], rfl, hx, T.cl, T.nC, (by show 0 < 1000; decide), ?_⟩
            have hk2 : ns.take k = ns := by
              have h2 : HT.sIx (ns.map V.int).length (ns.map V.int).length (some (k : Int)) = (ns.map V.int).length := full.2
              rw [HT.sIx_nat, List.length_map, Nat.min_eq_left hk] at h2
              rw [h2, List.take_length]
            refine q _ ⟨⟨dx, a, upd_same, ?_⟩, trim_trim _, by have := trim_few ns; omega⟩ fun b o hb hbx => by
              rw [upd_ne hbx]
              exact hb
            rw [e, hk2]
            exact sqT_ins hx hS'
          · refine .inr ⟨t, _, rfl, SqT.of upd_same, ?_⟩
            have hx2 := same_upd (o := .tup (cutV (ns.map V.int) none (some (k : Int)))) nt _ _ hx
            refine ⟨_, rfl, x, C, dx, [], rfl, hx2, T.cl, T.nC, (by show 0 < 1000; decide), ?_⟩
            have ntx : t ≠ x := ne_of_none' nt hx
            refine q _ ⟨⟨dx, t, upd_same, .inl (.inl ?_)⟩, trim_trim _, by have := trim_few ns; omega⟩ fun b o hb hbx => ?_
            · rw [upd_ne ntx, upd_same, cut_take hk, e, List.map_take]
            · rw [upd_ne hbx]
              exact same_upd nt _ _ hb
        refine ⟨_, rfl, _, _, rfl, rfl, _, rfl, ?_⟩
        by_cases c0 : 0 < k
        · refine if_pos_of (decide_eq_true (by omega)) ?_
          refine ⟨_, rfl, _, rfl, _, _, rfl, rfl, a, _, _, _, rfl, rfl, hS', at_k k c0 hk, rfl, _, rfl, ?_⟩
          by_cases c1 : ns.getD (k - 1) 0 = 0
          · refine if_pos_of (decide_eq_true (by rw [c1])) ?_
            refine ⟨_, rfl, _, _, rfl, rfl, ⟨rfl, k - 1, ?_, by omega, tsz_turn ht c1 c0⟩, ?_⟩
            · rw [show ((k - 1 : Nat) : Int) = (k : Int) - 1 by omega] <;> rfl
            · show ((k : Int) - 1).toNat < ((k : Int)).toNat
              omega
          · refine if_neg_of (decide_eq_false fun e => c1 (V.int.inj e)) ?_
            exact fin (tsz_stop ht fun _ => c1).symm
        · refine if_neg_of (decide_eq_false (by omega)) ?_
          exact fin (tsz_stop ht fun h => absurd h c0).symm
      · rintro σ H1 Q1 Q2 h z
        obtain ⟨v, e1, i, j, e2, e3, k, e4, z⟩ := z
        refine ⟨v, e1, i, j, e2, e3, k, e4, ?_⟩
        cases k with
        | false => exact h _ _ z
        | true =>
          obtain ⟨v1, f1, v2, f2, i1, j1, f3, f4, p1, xs1, i2, y1, f5, f6, f7, f8, f9, k2, f10, z⟩ := z
          exact ⟨v1, f1, v2, f2, i1, j1, f3, f4, p1, xs1, i2, y1, f5, f6, f7, f8, f9, k2, f10, h _ _ z⟩
-- part polym
/-- a polynomial is made by Poly(..) -/
theorem make_po {C : Addr} {tup : Bool} {H1 : Hp} {a : Addr} {ns : List Int} {Q : VK} (hS : if tup = true then SqT K H1 a (ns.map V.int) else SqL K H1 a (ns.map V.int)) (few : ns.length ≤ 200)
    (k : ∀ (r : Addr) (H2 : Hp), PolyAt K C H2 r (trim ns) → Same H1 H2 → Q (.ref r) H2) :
    ∀ x dx, H1 x = none → H1 dx = none → dx ≠ x → spPI C tup K (.ref x :: ([.ref a] ++ [])) (upd (upd H1 dx (.own x)) x (.ins C dx [])) (fun v H2 => v = .non ∧ Q (.ref x) H2) E0 := by
  intro x dx hx hdx hne
  have s1 : Same H1 (upd (upd H1 dx (.own x)) x (.ins C dx [])) := fun b o eb => by
    rw [upd_ne (ne_of_none eb hx), upd_ne (ne_of_none eb hdx)]
    exact eb
  refine ⟨x, dx, a, ns, rfl, upd_same, ?_, few, fun H' po keep => ⟨rfl, k x H' po fun b o eb => keep b o (s1 b o eb) (ne_of_none eb hx)⟩⟩
  cases tup with
  | true =>
    have h : SqT K H1 a (ns.map V.int) := hS
    exact Evl.ex_t s1 h
  | false =>
    have h : SqL K H1 a (ns.map V.int) := hS
    exact s1.seq h
/-- a polynomial is made at x, what follows is any word -/
theorem make_poA {C x dx : Addr} {tup : Bool} {H1 : Hp} {a : Addr} {ns : List Int} {R : VK} (hx : H1 x = none) (hdx : H1 dx = none) (hS : if tup = true then SqT K H1 a (ns.map V.int) else SqL K H1 a (ns.map V.int)) (few : ns.length ≤ 200)
    (k : ∀ (H2 : Hp), PolyAt K C H2 x (trim ns) → Same H1 H2 → R .non H2) : spPI C tup K (.ref x :: ([.ref a] ++ [])) (upd (upd H1 dx (.own x)) x (.ins C dx [])) R E0 := by
  have s1 : Same H1 (upd (upd H1 dx (.own x)) x (.ins C dx [])) := fun b o eb => by
    rw [upd_ne (ne_of_none eb hx), upd_ne (ne_of_none eb hdx)]
    exact eb
  refine ⟨x, dx, a, ns, rfl, upd_same, ?_, few, fun H' po keep => k H' po fun b o eb => keep b o (s1 b o eb) (ne_of_none eb hx)⟩
  cases tup with
  | true =>
    have h : SqT K H1 a (ns.map V.int) := hS
    exact Evl.ex_t s1 h
  | false =>
    have h : SqL K H1 a (ns.map V.int) := hS
    exact s1.seq h
abbrev s_pdeg : Stmt := inClass (top 14) 11
theorem sc_pdeg : FnScope ["self"] ["self"] (defScope s_pdeg) := ⟨rfl, rfl, rfl, by decide +kernel, rfl, by decide +kernel, by decide +kernel⟩
def spPdeg (C : Addr) (K : PySem.W.Frag) : Sp := fun vs H Q _ => ∃ (a : Addr) (l : List Int), vs = [.ref a] ∧ PolyAt K C H a l ∧ Q (.int ((l.length : Int) - 1)) H
theorem ok_pdeg {f C : Addr} {fd : FuncData} (TT : Txt mg) (T : PoT K mg C) (F : Fun K "degree" "Poly.degree" s_pdeg f fd) : FnOk P w K mg base CX0 1 f fd ["self"] (spPdeg C K) := by
  refine F.ok sc_pdeg (fun vs H Q E h => ?_) (fun cdv A outer s H vs Q E hr h => ?_)
  · obtain ⟨a, l, rfl, _⟩ := h
    rfl
  · obtain ⟨a, l, rfl, po, q⟩ := h
    obtain ⟨dx, t, h1, h2⟩ := po.ob
    refine ⟨_, (pss_one (ps_ret (pe_op op_sub (pe_callB call_len_seq (by rfl) TT.len PySem.boot_len (pa_cons (pe_fld (pv 0) rfl) pa_nil)) pe_int))), ?_⟩
    refine ⟨_, rfl, a, C, dx, _, _, rfl, h1, T.cl, T.nC, pyF_c _, t, _, rfl, .inr h2, _, _, rfl, rfl, ?_⟩
    rw [List.length_map]
    exact q
abbrev s_peq : Stmt := inClass (top 14) 8
theorem sc_peq : FnScope ["self", "other"] ["self", "other"] (defScope s_peq) := ⟨rfl, rfl, rfl, by decide +kernel, rfl, by decide +kernel, by decide +kernel⟩
def spPeq (C : Addr) (K : PySem.W.Frag) : Sp := fun vs H Q _ => ∃ (a b : Addr) (l m : List Int), vs = [.ref a, .ref b] ∧ PolyAt K C H a l ∧ PolyAt K C H b m ∧ Q (.bl (decide (l = m))) H
theorem ok_peq {f C : Addr} {fd : FuncData} (TT : Txt mg) (T : PoT K mg C) (F : Fun K "__eq__" "Poly.__eq__" s_peq f fd) : FnOk P w K mg base CX0 1 f fd ["self", "other"] (spPeq C K) := by
  refine F.ok sc_peq (fun vs H Q E h => ?_) (fun cdv A outer s H vs Q E hr h => ?_)
  · obtain ⟨a, b, _, _, rfl, _⟩ := h
    rfl
  · obtain ⟨a, b, l, m, rfl, po, po', q⟩ := h
    obtain ⟨dx, t, h1, h2⟩ := po.ob
    obtain ⟨dy, u, g1, g2⟩ := po'.ob
    refine ⟨_, (pss_one (ps_ret (pe_and (pe_callB (C8.call_isC T.isC) (by rfl) TT.isinstance boot_isinstance (pa_cons (pv 1) (pa_cons (pe_glob (v := .ref C) (by rfl) T.g rfl) pa_nil))) (pe_one (pe_cmpR (op_eqD (hu64 hr)) (pe_fld (pv 0) rfl) (pe_fld (pv 1) rfl) (nomark _)))))), ?_⟩
    refine ⟨_, rfl, b, dy, _, rfl, g1, _, rfl, if_pos_of rfl ?_⟩
    refine ⟨_, rfl, a, C, dx, _, _, rfl, h1, T.cl, T.nC, pyF_c _, _, rfl, b, C, dy, _, _, rfl, g1, T.cl, T.nC, pyF_c _, _, _, dp_tup h2, dp_tup g2, shaped_intsT _, shaped_intsT _, ?_⟩
    rw [eqv_intsT]
    exact q
/-- == with a value that is no instance -/
inductive OthT (H : Hp) : V → String → Prop
  | int (i : Int) : OthT H (.int i) "int"
  | str (z : Str) : OthT H (.str z) "str"
  | lst {b : Addr} {zs : List V} (h : H b = some (.lst zs)) : OthT H (.ref b) "list"
  | tup {b : Addr} {zs : List V} (h : H b = some (.tup zs)) : OthT H (.ref b) "tuple"
def spPeqX (C : Addr) (K : PySem.W.Frag) : Sp := fun vs H Q _ => ∃ (a : Addr) (y : V) (t : String), vs = [.ref a, y] ∧ OthT H y t ∧ PySem.W.kitOne K (.type t) (.ref C) = some false ∧ Q (.bl false) H
theorem ok_peqX {f C : Addr} {fd : FuncData} (TT : Txt mg) (T : PoT K mg C) (F : Fun K "__eq__" "Poly.__eq__" s_peq f fd) : FnOk P w K mg base CX0 1 f fd ["self", "other"] (spPeqX C K) := by
  refine F.ok sc_peq (fun vs H Q E h => ?_) (fun cdv A outer s H vs Q E hr h => ?_)
  · obtain ⟨a, _, _, rfl, _⟩ := h
    rfl
  · obtain ⟨a, y, t, rfl, ho, kt, q⟩ := h
    refine ⟨_, (pss_one (ps_ret (pe_and (pe_callB call_isi (by rfl) TT.isinstance boot_isinstance (pa_cons (pv 1) (pa_cons (pe_glob (v := .ref C) (by rfl) T.g rfl) pa_nil))) (pe_one (pe_cmpR (op_eqD (hu64 hr)) (pe_fld (pv 0) rfl) (pe_fld (pv 1) rfl) (nomark _)))))), ?_⟩
    cases ho with
    | int i => exact ⟨_, rfl, _, _, _, _, false, rfl, .own C, .base (.int _), kt, _, rfl, if_neg_of rfl q⟩
    | str z => exact ⟨_, rfl, _, _, _, _, false, rfl, .own C, .base (.str _), kt, _, rfl, if_neg_of rfl q⟩
    | lst hb => exact ⟨_, rfl, _, _, _, _, false, rfl, .own C, .base (.lst hb), kt, _, rfl, if_neg_of rfl q⟩
    | tup hb => exact ⟨_, rfl, _, _, _, _, false, rfl, .own C, .base (.tup hb), kt, _, rfl, if_neg_of rfl q⟩
section
variable {X : Cx} {C : Addr} {sp : Sp} {k j : Nat}
/-- x == y, y no instance -/
def rOwnX (K : PySem.W.Frag) (C : Addr) (sp : Sp) : R2 := fun x y H Q => ∃ a dx fs t, x = .ref a ∧ H a = some (.ins C dx fs) ∧ OthT H y t ∧ PySem.W.subIn K (.type t) (.ref C) = some false ∧ sp [x, y] H Q E0
theorem op_eq_ownX (c : Me X.prog X.w X.K X.mg X.base k C "__eq__" sp) (hr : Room j X.A) (hk : k ≤ j := by decide) : OpR X (compareOp .Eq) (rOwnX X.K C sp) := by
  obtain ⟨f, fd, ps, M, F, b⟩ := c.ex
  intro pins s σ H x y v u Q I rx ry h
  obtain ⟨a, dx, fs, t, rfl, ha, ho, nf, q⟩ := h
  cases (show v = Value.ref a from rx)
  obtain ⟨ox, od, J⟩ := inst_of I ha
  obtain ⟨mm, hF⟩ := I.fr
  have run := run_fn (us := [.ref a, u]) (vs := [.ref a, y]) F (hr.mono hk) b .nil pass0 I (.cons rfl (.cons ry .nil)) q
  have looks : PySem.W.Looks (model X.prog X.w) s.heap (typeOf u) (.type t) := by
    cases ho with
    | int i =>
      obtain ⟨t, rfl⟩ := ry
      exact fun A Q E s k q => wpAny_pure q
    | str z =>
      obtain ⟨t, rfl⟩ := ry
      exact fun A Q E s k q => wpAny_pure q
    | @lst b' zs h =>
      cases (show u = Value.ref b' from ry)
      obtain ⟨_, its, n, _, e⟩ := (show ObjOk X.prog X.w H s.heap b' (.lst zs) from I.hok b' _ h)
      exact fun A Q E s k q => wpAny_typeOf_ref (k _ _ e) q
    | @tup b' zs h =>
      cases (show u = Value.ref b' from ry)
      obtain ⟨_, _, _, o, h1, h2, _⟩ := (show ObjOk X.prog X.w H s.heap b' (.tup zs) from I.hok b' _ h)
      exact fun A Q E s k q => wpAny_typeOf_ref (k _ _ h1) (by rw [h2]; exact q)
  show wpAny _ _ (richCompare .Eq (.ref a) u) _ _ _
  refine PySem.W.cmp_K (op := .Eq) (tb := .type t) hr.units0 hF I.ok.mod.kin J looks (by unfold PySem.W.notFirst; rw [nf]; simp) M.at_ M.fn ?_
  refine wpAny_mono run (fun u' s' z => ?_) fun _ _ x => x
  obtain ⟨z', H', I', rz, qz⟩ := z
  exact SlX.cmpback rz ⟨z', H', I', rz, qz⟩
end
abbrev s_punk : Stmt := inClass (top 14) 1
theorem sc_punk : FnScope ["cls"] ["cls"] (defScope s_punk) := ⟨rfl, rfl, rfl, by decide +kernel, rfl, by decide +kernel, by decide +kernel⟩
def spPunk (C : Addr) (K : PySem.W.Frag) : Sp := fun vs H Q _ => vs = [.ref C] ∧ ∀ r H', PolyAt K C H' r [0, 1] → Same H H' → Q (.ref r) H'
theorem ok_punk {f C : Addr} {fd : FuncData} (T : PoT K mg C) (F : Fun K "unknown" "Poly.unknown" s_punk f fd) (c_pil : Ma P w K mg base 2 C (spPI C false K)) : FnOk P w K mg base CX0 4 f fd ["cls"] (spPunk C K) := by
  refine F.ok sc_punk (fun vs H Q E h => ?_) (fun cdv A outer s H vs Q E hr h => ?_)
  · obtain ⟨rfl, _⟩ := h
    rfl
  · obtain ⟨rfl, q⟩ := h
    refine ⟨_, (pss_one (ps_ret (pe_maL (i := 0) c_pil hr rfl (pa_cons (pe_lst (pa_cons pe_int (pa_cons pe_int pa_nil))) pa_nil)))), ?_⟩
    refine ⟨rfl, (by show 2 ≤ sizeLine; decide), fun t nt => ?_⟩
    exact make_po (tup := false) (ns := [0, 1]) (SqL.of upd_same) (by decide) fun r H' po s' => q r H' po ((same_upd nt).trans s')
abbrev s_pwhole : Stmt := inClass (top 14) 2
theorem sc_pwhole : FnScope ["cls", "n"] ["cls", "n"] (defScope s_pwhole) := ⟨rfl, rfl, rfl, by decide +kernel, rfl, by decide +kernel, by decide +kernel⟩
def spPwhole (C : Addr) (K : PySem.W.Frag) : Sp := fun vs H Q _ => ∃ n : Int, vs = [.ref C, .int n] ∧ ∀ r H', PolyAt K C H' r (trim [n]) → Same H H' → Q (.ref r) H'
theorem ok_pwhole {f C : Addr} {fd : FuncData} (T : PoT K mg C) (F : Fun K "whole" "Poly.whole" s_pwhole f fd) (c_pil : Ma P w K mg base 2 C (spPI C false K)) : FnOk P w K mg base CX0 4 f fd ["cls", "n"] (spPwhole C K) := by
  refine F.ok sc_pwhole (fun vs H Q E h => ?_) (fun cdv A outer s H vs Q E hr h => ?_)
  · obtain ⟨n, rfl, _⟩ := h
    rfl
  · obtain ⟨n, rfl, q⟩ := h
    refine ⟨_, (pss_one (ps_ret (pe_maL (i := 0) c_pil hr rfl (pa_cons (pe_lst (pa_cons (pv 1) pa_nil)) pa_nil)))), ?_⟩
    refine ⟨rfl, _, rfl, (by show 1 ≤ sizeLine; decide), fun t nt => ?_⟩
    exact make_po (tup := false) (ns := [n]) (SqL.of upd_same) (by show 1 ≤ 200; decide) fun r H' po s' => q r H' po ((same_upd nt).trans s')
abbrev s_pneg : Stmt := inClass (top 14) 6
theorem sc_pneg : FnScope ["self", "n"] ["self"] (defScope s_pneg) := ⟨rfl, rfl, rfl, by decide +kernel, rfl, by decide +kernel, by decide +kernel⟩
def pneg (l : List Int) : List Int := l.map fun z => -z
theorem pneg_trim {l : List Int} (h : Trim l) : Trim (pneg l) := h.map rfl fun z e => by omega
theorem pneg_get (l : List Int) (i : Nat) : (pneg l).getD i 0 = -l.getD i 0 := getD_map rfl l i
def spPneg (C : Addr) (K : PySem.W.Frag) : Sp := fun vs H Q _ => ∃ (a : Addr) (l : List Int), vs = [.ref a] ∧ PolyAt K C H a l ∧ ∀ r H', PolyAt K C H' r (pneg l) → Same H H' → Q (.ref r) H'
theorem ok_pneg {f C : Addr} {fd : FuncData} (T : PoT K mg C) (F : Fun K "__neg__" "Poly.__neg__" s_pneg f fd) (c_pil : Ma P w K mg base 2 C (spPI C false K)) : FnOk P w K mg base CX0 4 f fd ["self"] (spPneg C K) := by
  refine F.ok sc_pneg (fun vs H Q E h => ?_) (fun cdv A outer s H vs Q E hr h => ?_)
  · obtain ⟨a, l, rfl, _⟩ := h
    rfl
  · obtain ⟨a, l, rfl, po, q⟩ := h
    obtain ⟨dx, t, h1, h2⟩ := po.ob
    refine ⟨_, (pss_one (ps_ret (pe_ma c_pil hr T.g (pa_cons (pe_lc (own := [("n", 1)]) (g := (gName 1)) (tt := tYes) rfl sc_pneg.nd (pi_tup (pe_fld (pv 0) rfl)) (blkOk_by (N := ["self", "n"]) (sc := defScope s_pneg) (by decide +kernel)) (fun _ _ _ _ _ => (pg_name (i := 1) sc_pneg.nd rfl (Or.inl rfl))) (fun _ _ _ _ _ => pts_nil) (fun _ _ _ _ _ => (pe_un un_neg (pv 1)))) pa_nil)))), ?_⟩
    refine ⟨_, rfl, a, C, dx, _, _, rfl, h1, T.cl, T.nC, pyF_c _, t, rfl, ⟨_, h2⟩, fun D nD => lcW walk_tup (tkV ((pneg l).map V.int)) nD rfl (fun H s => Evl.ex_t s h2) ?_ ?_⟩
    · rintro i x H2 _ hi s3 hL ⟨rfl, hx⟩
      obtain ⟨z, rfl, hz⟩ := item_int hx
      refine ⟨rfl, _, rfl, _, rfl, ?_⟩
      exact mapEnd nD (by unfold pneg; rw [List.length_map, List.length_map]; have := po.few; omega) s3 hL (map_at (f := V.int) (by unfold pneg; rw [List.getElem?_map, hz] <;> rfl))
    · intro H2 s3 hL
      have e : tkV ((pneg l).map V.int) (l.map V.int).length = (pneg l).map V.int := by
        have := tkV_all ((pneg l).map V.int)
        unfold pneg at this ⊢
        rw [List.length_map, List.length_map] at this
        rw [List.length_map]
        exact this
      rw [e] at hL
      refine make_po (tup := false) (ns := pneg l) (SqL.of hL) (by unfold pneg; rw [List.length_map]; exact po.few) fun r H' po' s' => q r H' ?_ (s3.trans s')
      rw [trim_of (pneg_trim po.trm)] at po'
      exact po'
-- part polyops
abbrev s_padded : Stmt := top 7
theorem sc_padded : FnScope ["numbers", "size"] ["numbers", "size"] (defScope s_padded) := ⟨rfl, rfl, rfl, by decide +kernel, rfl, by decide +kernel, by decide +kernel⟩
def padL (l : List Int) (n : Nat) : List Int := l ++ List.replicate (n - l.length) 0
theorem padL_get (l : List Int) (n i : Nat) : (padL l n).getD i 0 = l.getD i 0 := getD_app0 l _ i
theorem padL_len {l : List Int} {n : Nat} (h : l.length ≤ n) : (padL l n).length = n := by
  unfold padL
  rw [List.length_append, List.length_replicate]
  omega
def spPadded (K : PySem.W.Frag) : Sp := fun vs H Q _ => ∃ (a : Addr) (l : List Int) (n : Nat), vs = [.ref a, .int (n : Int)] ∧ (SqL K H a (l.map V.int) ∨ SqT K H a (l.map V.int)) ∧ l.length ≤ n ∧ n ≤ 1000 ∧
  ∀ p H', H p = none → Same H H' → H' p = some (.lst ((padL l n).map V.int)) → Q (.ref p) H'
theorem ok_padded {f : Addr} {fd : FuncData} (T : Txt mg) (F : Fun K "padded" "padded" s_padded f fd) : FnOk P w K mg base CX0 1 f fd ["numbers", "size"] (spPadded K) := by
  refine F.ok sc_padded (fun vs H Q E h => ?_) (fun cdv A outer s H vs Q E hr h => ?_)
  · obtain ⟨a, l, n, rfl, _⟩ := h
    rfl
  · obtain ⟨a, l, n, rfl, hS, hl, hn, q⟩ := h
    have z1000 : 1000 ≤ sizeLine := by rw [sizeLine_eq]; decide
    refine ⟨_, (pss_one (ps_ret (pe_op op_cat (pe_callTy call_list_of (by rfl) T.list boot_list (pa_cons (pv 0) pa_nil)) (pe_op op_rep (pe_lst (pa_cons pe_int pa_nil)) (pe_op op_sub (pv 1) (pe_callB call_len_seq (by rfl) T.len PySem.boot_len (pa_cons (pv 0) pa_nil))))))), ?_⟩
    refine ⟨_, rfl, a, _, rfl, hS, fun p np => ?_⟩
    have g1 := same_upd (o := .lst (l.map V.int)) np
    refine ⟨(by show 1 ≤ sizeLine; decide), fun b nb => ?_⟩
    have g2 := same_upd (o := .lst [.int 0]) nb
    have hS2 : SqL K (upd (upd H p (.lst (l.map V.int))) b (.lst [.int 0])) a (l.map V.int) ∨ SqT K (upd (upd H p (.lst (l.map V.int))) b (.lst [.int 0])) a (l.map V.int) := by
      rcases hS with h | h
      · exact .inl ((g1.trans g2).seq h)
      · exact .inr (Evl.ex_t (g1.trans g2) h)
    refine ⟨_, rfl, _, rfl, a, _, rfl, hS2, _, _, rfl, rfl, b, _, _, rfl, rfl, upd_same, (by rw [List.length_map]; omega), (by rw [List.length_map]; omega), (by rw [List.length_map]; show 1 * ((n : Int) - (l.length : Int)).toNat ≤ sizeLine; omega), fun c nc => ?_⟩
    have g3 := same_upd (o := .lst (List.replicate ((n : Int) - ((l.map V.int).length : Int)).toNat [V.int 0]).flatten) nc
    refine ⟨p, c, _, _, rfl, rfl, g3 _ _ (g2 _ _ upd_same), upd_same, ?_, fun d nd => ?_⟩
    · rw [flat_rep, List.length_replicate, List.length_map]
      omega
    · have e : l.map V.int ++ (List.replicate ((n : Int) - ((l.map V.int).length : Int)).toNat [V.int 0]).flatten = (padL l n).map V.int := by
        unfold padL
        rw [flat_rep, List.map_append, List.map_replicate, List.length_map]
        congr 2
        omega
      refine q d _ ?_ (((g1.trans g2).trans g3).trans (same_upd nd)) (by rw [upd_same, e])
      cases h : H d with
      | none => rfl
      | some o => rw [g3 _ _ (g2 _ _ (g1 _ _ h))] at nd; cases nd
abbrev s_padd : Stmt := inClass (top 14) 4
theorem sc_padd : FnScope ["self", "other", "size", "mine", "others", "m", "n"] ["self", "other"] (defScope s_padd) := ⟨rfl, rfl, rfl, by decide +kernel, rfl, by decide +kernel, by decide +kernel⟩
theorem zip_plus (a b : List Int) : trim (List.zipWith (· + ·) (padL a (max a.length b.length)) (padL b (max a.length b.length))) = pplus 1 a b := by
  refine (trim_trim _).ext (trim_trim _) fun i => ?_
  have := pplus_get 1 a b i
  rw [trim_get, getD_zip _ _ (by rw [padL_len (by omega), padL_len (by omega)]) rfl, padL_get, padL_get]
  rw [this]
  omega
def spPadd (C : Addr) (K : PySem.W.Frag) (s : Int) : Sp := fun vs H Q _ => ∃ (a b : Addr) (l m : List Int), vs = [.ref a, .ref b] ∧ PolyAt K C H a l ∧ PolyAt K C H b m ∧ ∀ r H', PolyAt K C H' r (pplus s l m) → Same H H' → Q (.ref r) H'
theorem max_if (a b : Nat) : (if (b : Int) > (a : Int) then (b : Int) else (a : Int)) = ((max a b : Nat) : Int) := by
  split <;> omega
theorem ok_padd {f C : Addr} {fd : FuncData} (TT : Txt mg) (hz : mg "zip" = none) (T : PoT K mg C) (F : Fun K "__add__" "Poly.__add__" s_padd f fd) (c_pil : Ma P w K mg base 2 C (spPI C false K)) (c_padded : Cl P w K mg base CX0 1 "padded" (spPadded K)) : FnOk P w K mg base CX0 4 f fd ["self", "other"] (spPadd C K 1) := by
  refine F.ok sc_padd (fun vs H Q E h => ?_) (fun cdv A outer s H vs Q E hr h => ?_)
  · obtain ⟨a, b, _, _, rfl, _⟩ := h
    rfl
  · obtain ⟨a, b, l, m, rfl, po, po', q⟩ := h
    obtain ⟨dx, t, h1, h2⟩ := po.ob
    obtain ⟨dy, u, g1, g2⟩ := po'.ob
    have f1 := po.few
    have f2 := po'.few
    refine ⟨_, (pss_cons (ps_set (i := 2) sc_padd.nd rfl (Or.inl rfl) (pe_callB (call_max2 rfl) (by rfl) TT.max boot_max (pa_cons (pe_callB call_len_seq (by rfl) TT.len PySem.boot_len (pa_cons (pe_fld (pv 0) rfl) pa_nil)) (pa_cons (pe_callB call_len_seq (by rfl) TT.len PySem.boot_len (pa_cons (pe_fld (pv 1) rfl) pa_nil)) pa_nil))))
 (pss_cons (ps_par (i := 3) (j := 4) rfl sc_padd.nd rfl rfl (by decide) rfl rfl (pa_cons (pe_cl c_padded hr (pa_cons (pe_fld (pv 0) rfl) (pa_cons (pv 2) pa_nil))) (pa_cons (pe_cl c_padded hr (pa_cons (pe_fld (pv 1) rfl) (pa_cons (pv 2) pa_nil))) pa_nil)) rfl)
 (pss_one (ps_ret (pe_ma c_pil hr T.g (pa_cons (pe_lc (own := [("m", 5), ("n", 6)]) (g := (gTup K 2 (gCons (gName 5) (gCons (gName 6) gNil)))) (tt := tYes) rfl sc_padd.nd (pi_zip rfl hz (pa_cons (pv 3) (pa_cons (pv 4) pa_nil))) (blkOk_by (N := ["self", "other", "size", "mine", "others", "m", "n"]) (sc := defScope s_padd) (by decide +kernel)) (fun _ _ _ _ _ => (pg_tup rfl (pgs_cons (pg_name (i := 5) sc_padd.nd rfl (Or.inl rfl)) (pgs_cons (pg_name (i := 6) sc_padd.nd rfl (Or.inl rfl)) pgs_nil)))) (fun _ _ _ _ _ => pts_nil) (fun _ _ _ _ _ => (pe_op op_add (pv 5) (pv 6)))) pa_nil)))))), ?_⟩
    refine ⟨_, rfl, a, C, dx, _, _, rfl, h1, T.cl, T.nC, pyF_c _, t, _, rfl, .inr h2, _, rfl, b, C, dy, _, _, rfl, g1, T.cl, T.nC, pyF_c _, u, _, rfl, .inr g2, _, _, rfl, ?_⟩
    rw [List.length_map, List.length_map, max_if]
    generalize hM : max l.length m.length = M
    refine ⟨_, rfl, a, C, dx, _, _, rfl, h1, T.cl, T.nC, pyF_c _, _, rfl, t, l, M, rfl, .inr h2, by omega, by omega, fun p H2 np s2 hp => ?_⟩
    refine ⟨_, rfl, b, C, dy, _, _, rfl, s2 _ _ g1, T.cl, T.nC, pyF_c _, _, rfl, u, m, M, rfl, .inr (Evl.ex_t s2 g2), by omega, by omega, fun p' H3 np' s3 hp' => ?_⟩
    have hp3 := s3 _ _ hp
    refine ⟨_, _, rfl, ?_⟩
    refine ⟨_, rfl, _, rfl, p, p', _, _, rfl, SqL.of hp3, SqL.of hp', fun D nD => lcW (walk_zip (n := M) (by rw [List.length_map, List.length_map, padL_len (by omega), padL_len (by omega), Nat.min_self])) (tkV ((List.zipWith (· + ·) (padL l M) (padL m M)).map V.int)) nD rfl (fun H s => ⟨s.seq (SqL.of hp3), s.seq (SqL.of hp')⟩) ?_ ?_⟩
    · rintro i x H4 H5 hi s4 hL ⟨Tp, x1, y1, rfl, nT, rfl, hx1, hy1⟩
      obtain ⟨z1, rfl, hz1⟩ := item_int hx1
      obtain ⟨z2, rfl, hz2⟩ := item_int hy1
      refine ⟨Tp, _, rfl, SqT.of upd_same, rfl, _, _, rfl, _, _, rfl, rfl, rfl, _, rfl, _, rfl, _, _, rfl, rfl, ?_⟩
      have s5 := same_upd (o := .tup [.int z1, .int z2]) nT
      refine mapEnd nD ?_ (s4.trans s5) (s5 _ _ hL) (map_at (f := V.int) (by rw [List.getElem?_zipWith, hz1, hz2] <;> rfl))
      rw [List.length_map, List.length_zipWith, padL_len (by omega), padL_len (by omega), Nat.min_self]
      omega
    · intro H4 s4 hL
      have len : ((List.zipWith (· + ·) (padL l M) (padL m M)).map V.int).length = M := by
        rw [List.length_map, List.length_zipWith, padL_len (by omega), padL_len (by omega), Nat.min_self]
      have e : tkV ((List.zipWith (· + ·) (padL l M) (padL m M)).map V.int) M = (List.zipWith (· + ·) (padL l M) (padL m M)).map V.int := by
        have := tkV_all ((List.zipWith (· + ·) (padL l M) (padL m M)).map V.int)
        rw [len] at this
        exact this
      rw [e] at hL
      refine make_po (tup := false) (ns := List.zipWith (· + ·) (padL l M) (padL m M)) (SqL.of hL) (by rw [List.length_map] at len; omega) fun r H' po3 s' => q r H' ?_ (((s2.trans s3).trans s4).trans s')
      rw [← hM, zip_plus] at po3
      exact po3
abbrev s_psub : Stmt := inClass (top 14) 5
theorem sc_psub : FnScope ["self", "other"] ["self", "other"] (defScope s_psub) := ⟨rfl, rfl, rfl, by decide +kernel, rfl, by decide +kernel, by decide +kernel⟩
theorem pplus_trim (s : Int) (l m : List Int) : Trim (pplus s l m) := trim_trim _
theorem plus_neg (l m : List Int) : pplus 1 l (pneg m) = pplus (-1) l m := (pplus_trim 1 l (pneg m)).ext (pplus_trim (-1) l m) fun i => by
  have e1 := pplus_get 1 l (pneg m) i
  have e2 := pplus_get (-1) l m i
  rw [e1, e2, pneg_get]
  omega
theorem ok_psub {f C : Addr} {fd : FuncData} (T : PoT K mg C) (F : Fun K "__sub__" "Poly.__sub__" s_psub f fd) (c_add : Me P w K mg base 4 C "__add__" (spPadd C K 1)) (c_neg : Me P w K mg base 4 C "__neg__" (spPneg C K)) : FnOk P w K mg base CX0 5 f fd ["self", "other"] (spPadd C K (-1)) := by
  refine F.ok sc_psub (fun vs H Q E h => ?_) (fun cdv A outer s H vs Q E hr h => ?_)
  · obtain ⟨a, b, _, _, rfl, _⟩ := h
    rfl
  · obtain ⟨a, b, l, m, rfl, po, po', q⟩ := h
    obtain ⟨dx, t, h1, h2⟩ := po.ob
    obtain ⟨dy, u, g1, g2⟩ := po'.ob
    refine ⟨_, (pss_one (ps_ret (pe_op (op_own2 c_add hr T.sf) (pv 0) (pe_un (un_neg1 c_neg hr) (pv 1))))), ?_⟩
    refine ⟨_, rfl, _, rfl, b, dy, _, rfl, g1, b, m, rfl, po', fun r H' po3 s3 => ?_⟩
    obtain ⟨dz, v, y1, y2⟩ := po3.ob
    refine ⟨a, r, _, _, _, _, rfl, rfl, s3 _ _ h1, y1, a, r, l, pneg m, rfl, po.same s3, po3, fun r' H2 po4 s4 => q r' H2 ?_ (s3.trans s4)⟩
    rw [plus_neg] at po4
    exact po4
abbrev s_pitem : Stmt := top 13
theorem sc_pitem : FnScope ["first", "second", "k", "i"] ["first", "second", "k"] (defScope s_pitem) := ⟨rfl, rfl, rfl, by decide +kernel, rfl, by decide +kernel, by decide +kernel⟩
/-- the products that a coefficient adds, in order -/
def cnvL (l m : List Int) (k : Nat) : Nat → List Int
  | 0 => []
  | i + 1 => cnvL l m k i ++ (if i ≤ k ∧ k - i < m.length then [l.getD i 0 * m.getD (k - i) 0] else [])
theorem cnvL_len (l m : List Int) (k : Nat) : ∀ i, (cnvL l m k i).length ≤ i
  | 0 => Nat.le_refl _
  | i + 1 => by
    have := cnvL_len l m k i
    show (cnvL l m k i ++ _).length ≤ i + 1
    rw [List.length_append]
    split
    · show _ + 1 ≤ _
      omega
    · show _ + 0 ≤ _
      omega
theorem cnvL_sum (l m : List Int) (k : Nat) : (cnvL l m k l.length).sum = cnv l m k := by
  unfold cnv
  generalize l.length = n
  induction n with
  | zero => rfl
  | succ n ih =>
    show (cnvL l m k n ++ _).sum = sumN _ n + _
    rw [List.sum_append, ih]
    congr 1
    by_cases c1 : n ≤ k
    · by_cases c2 : k - n < m.length
      · rw [if_pos ⟨c1, c2⟩]
        simp [c1]
      · have := getD_ge (show m.length ≤ k - n by omega)
        rw [if_neg fun h => c2 h.2]
        show ([] : List Int).sum = l.getD n 0 * (if n ≤ k then m.getD (k - n) 0 else 0)
        rw [if_pos c1, this, Int.mul_zero]
        rfl
    · rw [if_neg fun h => c1 h.1]
      simp [c1]
def spPitem (K : PySem.W.Frag) : Sp := fun vs H Q _ => ∃ (a b : Addr) (l m : List Int) (k : Nat), vs = [.ref a, .ref b, .int (k : Int)] ∧ SqT K H a (l.map V.int) ∧ SqT K H b (m.map V.int) ∧ l.length ≤ 200 ∧ (∀ x ∈ l, ∀ y ∈ m, CMulW x y) ∧ ∀ H', Same H H' → Q (.int (cnv l m k)) H'
theorem ok_pitem {f : Addr} {fd : FuncData} (T : Txt mg) (hsum : mg "sum" = none) (F : Fun K "_product_item" "_product_item" s_pitem f fd) : FnOk P w K mg base CX0 1 f fd ["first", "second", "k"] (spPitem K) := by
  refine F.ok sc_pitem (fun vs H Q E h => ?_) (fun cdv A outer s H vs Q E hr h => ?_)
  · obtain ⟨a, b, l, m, k, rfl, _⟩ := h
    rfl
  · obtain ⟨a, b, l, m, k, rfl, ha, hb, few, hw, q⟩ := h
    refine ⟨_, (pss_one (ps_ret (pe_callB (cr_sum rfl) (by rfl) hsum (by decide +kernel) (pa_cons (pe_lc (own := [("i", 3)]) (g := (gName 3)) rfl sc_pitem.nd (pi_range1 rfl T.range (pa_cons (pe_callB call_len_seq (by rfl) T.len PySem.boot_len (pa_cons (pv 0) pa_nil)) pa_nil)) (blkOk_by (N := ["first", "second", "k", "i"]) (sc := defScope s_pitem) (by decide +kernel)) (fun _ _ _ _ _ => (pg_name (i := 3) sc_pitem.nd rfl (Or.inl rfl))) (fun _ _ _ _ _ => (pts_one (pt_chain op_le op_lt pe_int (pe_op op_sub (pv 2) (pv 3)) (pe_callB (call_len_seqK (K := K) rfl) (by rfl) T.len PySem.boot_len (pa_cons (pv 1) pa_nil))))) (fun _ _ _ _ _ => (pe_op op_mulW (pe_ix (r := rIxT K) (by exact ix_tup) (pv 0) (pv 3) (fun _ _ => rfl)) (pe_ix (r := rIxT K) (by exact ix_tup) (pv 1) (pe_op op_sub (pv 2) (pv 3)) (fun _ _ => rfl))))) pa_nil)))), ?_⟩
    refine ⟨_, rfl, a, _, rfl, .inr ha, l.length, (by rw [List.length_map] <;> rfl), (by omega), (by omega), fun D nD => lcW (walk_range (lo := 0) (n := l.length)) (fun i => (cnvL l m k i).map V.int) nD rfl (fun _ _ => trivial) ?_ ?_⟩
    · rintro i x H2 H2' hi s3 hL ⟨rfl, rfl⟩
      have s4 : Same H H2' := s3
      have lt : (cnvL l m k i).length < 1000 := by
        have := cnvL_len l m k i
        omega
      refine ⟨rfl, _, rfl, _, rfl, _, _, rfl, rfl, _, _, rfl, rfl, _, rfl, ?_⟩
      have e0 : (0 : Int) + (i : Int) = (i : Int) := Int.zero_add _
      by_cases c1 : i ≤ k
      · refine if_pos_of (decide_eq_true (by omega)) ?_
        refine ⟨_, rfl, b, _, rfl, .inr (Evl.ex_t s3 hb), _, _, rfl, rfl, _, rfl, ?_⟩
        rw [List.length_map]
        by_cases c2 : k - i < m.length
        · refine if_pos_of (decide_eq_true (by omega)) ?_
          have hl : l[i]? = some (l.getD i 0) := getD_at hi
          have hm : m[k - i]? = some (m.getD (k - i) 0) := getD_at c2
          refine ⟨_, rfl, _, rfl, a, _, _, _, rfl, rfl, Evl.ex_t s3 ha, by rw [e0]; exact atI_nat (map_at hl), _, rfl, _, rfl, _, rfl, _, _, rfl, rfl, b, _, _, _, rfl, rfl, Evl.ex_t s3 hb, by rw [e0, show (k : Int) - (i : Int) = ((k - i : Nat) : Int) by omega]; exact atI_nat (map_at hm), _, _, rfl, rfl, hw _ (List.mem_of_getElem? hl) _ (List.mem_of_getElem? hm), ?_⟩
          refine PvM.push (f := fun i => (cnvL l m k i).map V.int) nD s3 hL (by rw [List.length_map]; exact lt) ?_
          show (cnvL l m k i ++ (if i ≤ k ∧ k - i < m.length then [l.getD i 0 * m.getD (k - i) 0] else [])).map V.int = _
          rw [if_pos ⟨c1, c2⟩, List.map_append]
          rfl
        · refine if_neg_of (decide_eq_false (by omega)) ?_
          refine PvM.skip (f := fun i => (cnvL l m k i).map V.int) s3 hL ?_
          show (cnvL l m k i ++ (if i ≤ k ∧ k - i < m.length then [l.getD i 0 * m.getD (k - i) 0] else [])).map V.int = _
          rw [if_neg fun h => c2 h.2, List.append_nil]
      · refine if_neg_of (decide_eq_false (by omega)) ?_
        refine ⟨_, rfl, if_neg_of rfl ?_⟩
        refine PvM.skip (f := fun i => (cnvL l m k i).map V.int) s3 hL ?_
        show (cnvL l m k i ++ (if i ≤ k ∧ k - i < m.length then [l.getD i 0 * m.getD (k - i) 0] else [])).map V.int = _
        rw [if_neg fun h => c1 h.1, List.append_nil]
    · intro H2 s3 hL
      refine ⟨D, _, rfl, SqL.of hL, ?_⟩
      rw [cnvL_sum]
      exact q H2 s3
abbrev s_pmulm : Stmt := inClass (top 14) 7
theorem sc_pmulm : FnScope ["self", "other", "size", "k"] ["self", "other"] (defScope s_pmulm) := ⟨rfl, rfl, rfl, by decide +kernel, rfl, by decide +kernel, by decide +kernel⟩
def spPmul (C : Addr) (K : PySem.W.Frag) : Sp := fun vs H Q _ => ∃ (a b : Addr) (l m : List Int), vs = [.ref a, .ref b] ∧ PolyAt K C H a l ∧ PolyAt K C H b m ∧ l.length + m.length ≤ 200 ∧ (∀ x ∈ l, ∀ y ∈ m, CMulW x y) ∧ ∀ r H', PolyAt K C H' r (pmul l m) → Same H H' → Q (.ref r) H'
theorem pmul_short {l m : List Int} {n : Nat} (h : l.length + m.length ≤ n + 1) : trim (rngN n (cnv l m)) = pmul l m := by
  refine (trim_trim _).ext (trim_trim _) fun i => ?_
  have := pmul_get l m i
  rw [this, trim_get, rngN_get]
  split
  · rfl
  · exact (cnv_far (by omega)).symm
theorem ok_pmul {f C : Addr} {fd : FuncData} (TT : Txt mg) (T : PoT K mg C) (F : Fun K "__mul__" "Poly.__mul__" s_pmulm f fd) (c_pil : Ma P w K mg base 2 C (spPI C false K)) (c_deg : Me P w K mg base 1 C "degree" (spPdeg C K)) (c_item : Cl P w K mg base CX0 1 "_product_item" (spPitem K)) : FnOk P w K mg base CX0 4 f fd ["self", "other"] (spPmul C K) := by
  refine F.ok sc_pmulm (fun vs H Q E h => ?_) (fun cdv A outer s H vs Q E hr h => ?_)
  · obtain ⟨a, b, _, _, rfl, _⟩ := h
    rfl
  · obtain ⟨a, b, l, m, rfl, po, po', few, hw, q⟩ := h
    obtain ⟨dx, t, h1, h2⟩ := po.ob
    obtain ⟨dy, u, g1, g2⟩ := po'.ob
    have f1 := po.few
    refine ⟨_, (pss_cons (ps_set (i := 2) sc_pmulm.nd rfl (Or.inl rfl) (pe_op op_add (pe_op op_add (pe_me0 c_deg T.cl hr (pv 0) ) (pe_me0 c_deg T.cl hr (pv 1) )) pe_int))
 (pss_one (ps_ret (pe_ma c_pil hr T.g (pa_cons (pe_lc (own := [("k", 3)]) (g := (gName 3)) (tt := tYes) rfl sc_pmulm.nd (pi_range1 rfl TT.range (pa_cons (pv 2) pa_nil)) (blkOk_by (N := ["self", "other", "size", "k"]) (sc := defScope s_pmulm) (by decide +kernel)) (fun _ _ _ _ _ => (pg_name (i := 3) sc_pmulm.nd rfl (Or.inl rfl))) (fun _ _ _ _ _ => pts_nil) (fun _ _ _ _ _ => (pe_cl c_item (by exact hr) (pa_cons (pe_fldK (K := K) rfl (pv 0) rfl) (pa_cons (pe_fldK (K := K) rfl (pv 1) rfl) (pa_cons (pv 3) pa_nil)))))) pa_nil))))), ?_⟩
    refine ⟨_, rfl, a, dx, _, rfl, h1, pyF_no _ (by decide +kernel), a, l, rfl, po, _, rfl, b, dy, _, rfl, g1, pyF_no _ (by decide +kernel), b, m, rfl, po', _, _, rfl, rfl, _, _, rfl, rfl, ?_⟩
    obtain ⟨n, hn⟩ : ∃ n : Int, (l.length : Int) - 1 + ((m.length : Int) - 1) + 1 = n := ⟨_, rfl⟩
    show gName 2 (V.int ((l.length : Int) - 1 + ((m.length : Int) - 1) + 1)) _ _ _
    rw [hn]
    refine ⟨_, rfl, n, rfl, (by omega), (by omega), fun D nD => lcW walk_range0 (tkV ((rngN n.toNat (cnv l m)).map V.int)) nD rfl (fun _ _ => trivial) ?_ ?_⟩
    · rintro i x H2 H2' hi s3 hL ⟨rfl, rfl⟩
      refine ⟨rfl, _, rfl, a, C, dx, _, _, rfl, s3 _ _ h1, T.cl, T.nC, pyF_c _, _, rfl, b, C, dy, _, _, rfl, s3 _ _ g1, T.cl, T.nC, pyF_c _, _, rfl, t, u, l, m, i, rfl, Evl.ex_t s3 h2, Evl.ex_t s3 g2, f1, hw, fun H' s' => ?_⟩
      exact mapEnd nD (by rw [List.length_map, rngN_len]; omega) (s3.trans s') (s' _ _ hL) (map_at (rngN_at hi))
    · intro H2 s3 hL
      have len : ((rngN n.toNat (cnv l m)).map V.int).length = n.toNat := by rw [List.length_map, rngN_len]
      have e : tkV ((rngN n.toNat (cnv l m)).map V.int) n.toNat = (rngN n.toNat (cnv l m)).map V.int := by
        have := tkV_all ((rngN n.toNat (cnv l m)).map V.int)
        rw [len] at this
        exact this
      rw [e] at hL
      refine make_po (tup := false) (ns := rngN n.toNat (cnv l m)) (SqL.of hL) (by rw [rngN_len]; omega) fun r H' po3 s' => q r H' ?_ (s3.trans s')
      rw [pmul_short (by omega)] at po3
      exact po3
abbrev s_pcall : Stmt := inClass (top 14) 9
theorem sc_pcall : FnScope ["self", "x", "value", "n"] ["self", "x"] (defScope s_pcall) := ⟨rfl, rfl, rfl, by decide +kernel, rfl, by decide +kernel, by decide +kernel⟩
def spPcall (C : Addr) (K : PySem.W.Frag) : Sp := fun vs H Q _ => ∃ (a : Addr) (l : List Int) (x : Int), vs = [.ref a, .int x] ∧ PolyAt K C H a l ∧ -(2 ^ 64) < x ∧ x < 2 ^ 64 ∧ Q (.int (pev l x)) H
theorem ok_pcall {f C : Addr} {fd : FuncData} (hrev : mg "reversed" = none) (T : PoT K mg C) (F : Fun K "__call__" "Poly.__call__" s_pcall f fd) : FnOk P w K mg base CX0 1 f fd ["self", "x"] (spPcall C K) := by
  refine F.ok sc_pcall (fun vs H Q E h => ?_) (fun cdv A outer s H vs Q E hr h => ?_)
  · obtain ⟨a, l, x, rfl, _⟩ := h
    rfl
  · obtain ⟨a, l, x, rfl, po, x1, x2, q⟩ := h
    obtain ⟨dx, t, h1, h2⟩ := po.ob
    refine ⟨_, (pss_cons (ps_set (i := 2) sc_pcall.nd rfl (Or.inl rfl) pe_int)
 (pss_cons (ps_for PassesOwn.never rfl (RT.pi_revA rfl hrev (pe_fld (pv 0) rfl)) (pg_name (i := 3) sc_pcall.nd rfl (Or.inl rfl)) (pss_one (ps_set (i := 2) sc_pcall.nd rfl (Or.inl rfl) (pe_op op_add (pe_op op_mul (pv 2) (pv 1)) (pv 3)))))
 (pss_one (ps_ret (pv 2))))), ?_⟩
    refine ⟨_, rfl, a, C, dx, _, _, rfl, h1, T.cl, T.nC, pyF_c _, t, l.map V.int, rfl, .inr ⟨h2, ?_⟩⟩
    refine RT.for_ItvT (xs := l.map V.int) (fun i σ H' => H' = H ∧ ∃ x3, σ = [some (.ref a), some (.int x), some (.int (pev (l.drop (l.length - i)) x)), x3]) ⟨rfl, none, by rw [Nat.sub_zero, List.drop_length] <;> rfl⟩ (fun i σ H' h => by rw [h.1]; exact h2) ?_ ?_
    · rintro i y σ _ hi hy ⟨rfl, x3, rfl⟩
      obtain ⟨z, rfl, hz⟩ := item_int hy
      rw [List.length_map] at hi hz
      refine ⟨_, rfl, _, rfl, _, _, rfl, rfl, .inr ⟨x1, x2⟩, _, rfl, _, _, rfl, rfl, ?_⟩
      refine ⟨rfl, some (.int z), ?_⟩
      have e := pev_drop hz x
      rw [show l.length - 1 - i + 1 = l.length - i by omega] at e
      rw [show l.length - (i + 1) = l.length - 1 - i by omega, e, Int.mul_comm, Int.add_comm]
      rfl
    · rintro σ _ ⟨rfl, x3, rfl⟩
      rw [List.length_map, Nat.sub_self, List.drop_zero]
      exact ⟨_, rfl, q⟩
-- part lplain
abbrev s_lplain : Stmt := top 19
theorem sc_lplain : FnScope ["_law_row_here"] ["_law_row_here"] (defScope s_lplain) := ⟨rfl, rfl, rfl, by decide +kernel, rfl, by decide +kernel, by decide +kernel⟩
def spPlain (K : PySem.W.Frag) : Sp := fun vs H Q _ => ∃ (a : Addr) (ns : List Int), vs = [.ref a] ∧ (SqL K H a (ns.map V.int) ∨ SqT K H a (ns.map V.int)) ∧ ns.length ≤ 300 ∧
  ∀ p H', H p = none → Same H H' → H' p = some (.lst ((trim ns).map V.int)) → Q (.ref p) H'
theorem none_of {H H' : Hp} {p : Addr} (s : Same H H') (n : H' p = none) : H p = none := by
  cases h : H p with
  | none => rfl
  | some o => rw [s _ _ h] at n; cases n
theorem map_nil_iff {l : List Int} : decide (l = []) = l.isEmpty := by cases l <;> rfl
theorem take_last {l : List Int} {k : Nat} (h0 : 0 < k) (h : k ≤ l.length) : (l.take k).map V.int = (l.take (k - 1)).map V.int ++ [V.int (l.getD (k - 1) 0)] := by
  obtain ⟨n, rfl⟩ : ∃ n, k = n + 1 := ⟨k - 1, by omega⟩
  rw [Nat.add_sub_cancel, List.take_add_one, getD_at (show n < l.length by omega), List.map_append]
  rfl
theorem cut_last {xs : List V} : cutV xs none (some (-1)) = xs.take (xs.length - 1) := by
  show (xs.drop 0).take (HT.sIx xs.length xs.length (some (-1)) - 0) = _
  have e : HT.sIx xs.length xs.length (some (-1)) = xs.length - 1 := by
    show (if (-1 : Int) < 0 then (-1 + (xs.length : Int)).toNat else min (-1 : Int).toNat xs.length) = _
    rw [if_pos (by decide)]
    omega
  rw [e, List.drop_zero, Nat.sub_zero]
theorem ok_lplain {f : Addr} {fd : FuncData} (T : Txt mg) (F : Fun K "_law_plain" "_law_plain" s_lplain f fd) : FnOk P w K mg base CX0 1 f fd ["_law_row_here"] (spPlain K) := by
  refine F.ok sc_lplain (fun vs H Q E h => ?_) (fun cdv A outer s H vs Q E hr h => ?_)
  · obtain ⟨a, ns, rfl, _⟩ := h
    rfl
  · obtain ⟨a, ns, rfl, hS, few, q⟩ := h
    refine ⟨_, (pss_cons (ps_set (i := 0) sc_lplain.nd rfl (Or.inl rfl) (pe_callTy call_list_of (by rfl) T.list boot_list (pa_cons (pv 0) pa_nil)))
 (pss_cons (ps_while PassesOwn.never (pw_and (pt_cmpR (op_neD (hu64 hr)) (pv 0) (pe_lst pa_nil) (nomark _)) (pw_and1 (pt_cmpR op_eq (pe_ix ix_list (pv 0) (pe_un un_neg pe_int) (fun _ _ => rfl)) pe_int (nomark _)))).pt (pss_one (ps_set (i := 0) sc_lplain.nd rfl (Or.inl rfl) (pe_slice sl_list (pv 0) po_none (po_some (pe_un un_neg pe_int))))))
 (pss_one (ps_ret (pv 0))))), ?_⟩
    refine ⟨_, rfl, a, _, rfl, hS, fun p np => ?_⟩
    refine while_by (fun σ H' => ∃ (r : Addr) (k : Nat), σ = [some (.ref r)] ∧ Same H H' ∧ H r = none ∧ H' r = some (.lst ((ns.take k).map V.int)) ∧ k ≤ ns.length ∧ tsz ns k = tsz ns ns.length)
      (fun σ H' => match σ[0]? with | some (some (V.ref r)) => (match H' r with | some (.lst xs) => xs.length | _ => 0) | _ => 0)
      ⟨p, ns.length, rfl, same_upd np, np, by rw [List.take_length]; exact upd_same, Nat.le_refl _, rfl⟩ ?_ ?_
    · rintro σ H1 ⟨r, k, rfl, s1, nr, hr1, hk, ht⟩
      refine ⟨_, rfl, (by show 0 ≤ sizeLine; decide), fun b nb => ?_⟩
      have g2 := same_upd (o := .lst []) nb
      have hr2 := g2 _ _ hr1
      refine ⟨_, _, dp_lst (SqL.of hr2), dp_lst (l := []) (SqL.of upd_same), shaped_ints _, shaped_ints [], _, rfl, ?_⟩
      rw [eqv_ints]
      by_cases c0 : 0 < k
      · have ne : ns.take k ≠ [] := fun e => by
          have := congrArg List.length e
          rw [List.length_take] at this
          have h0 : ([] : List Int).length = 0 := rfl
          omega
        refine if_pos_of (by rw [decide_eq_false ne]; rfl) ?_
        refine ⟨_, rfl, _, rfl, r, _, _, _, rfl, rfl, SqL.of hr2, (by rw [take_last c0 hk]; exact atI_last _ _), rfl, _, rfl, ?_⟩
        by_cases c1 : ns.getD (k - 1) 0 = 0
        · refine if_pos_of (decide_eq_true (by rw [c1])) ?_
          refine ⟨_, rfl, _, rfl, _, rfl, r, _, rfl, SqL.of hr2, fun c nc => ?_⟩
          have e : cutV ((ns.take k).map V.int) none (some (-1)) = (ns.take (k - 1)).map V.int := by
            rw [cut_last, List.length_map, List.length_take, ← List.map_take, List.take_take]
            congr 2
            omega
          refine ⟨⟨c, k - 1, rfl, (s1.trans g2).trans (same_upd nc), none_of (s1.trans g2) nc, (by rw [← e]; exact upd_same), by omega, tsz_turn ht c1 c0⟩, ?_⟩
          show (match (upd (upd H1 b (.lst [])) c (.lst (cutV ((ns.take k).map V.int) none (some (-1))))) c with | some (.lst xs) => xs.length | _ => 0) < (match H1 r with | some (.lst xs) => xs.length | _ => 0)
          rw [upd_same, hr1, e]
          show ((ns.take (k - 1)).map V.int).length < ((ns.take k).map V.int).length
          rw [List.length_map, List.length_map, List.length_take, List.length_take]
          omega
        · refine if_neg_of (decide_eq_false fun e => c1 (V.int.inj e)) ?_
          refine ⟨_, rfl, q r _ nr (s1.trans g2) ?_⟩
          rw [← tsz_stop ht fun _ => c1]
          exact hr2
      · have e0 : k = 0 := by omega
        subst e0
        refine if_neg_of (by rw [List.take_zero] <;> rfl) ?_
        refine ⟨_, rfl, q r _ nr (s1.trans g2) ?_⟩
        rw [← tsz_stop ht fun h => absurd h c0]
        exact hr2
    · rintro σ H1 Q1 Q2 h ⟨v, e1, e2, z⟩
      refine ⟨v, e1, e2, fun b nb => ?_⟩
      obtain ⟨d, e, f1, f2, f3, f4, k, f5, z⟩ := z b nb
      refine ⟨d, e, f1, f2, f3, f4, k, f5, ?_⟩
      cases k with
      | false => exact h _ _ z
      | true =>
        obtain ⟨v1, g1, v2, g2, p1, xs1, i2, y1, g5, g6, g7, g8, g9, k2, g10, z⟩ := z
        exact ⟨v1, g1, v2, g2, p1, xs1, i2, y1, g5, g6, g7, g8, g9, k2, g10, h _ _ z⟩
-- part polybd
/-! sizes of coefficients -/
def Bd (b : Nat) (l : List Int) : Prop := ∀ z ∈ l, z.natAbs < 2 ^ b
theorem Bd.get {b : Nat} {l : List Int} (h : Bd b l) (i : Nat) : (l.getD i 0).natAbs < 2 ^ b := by
  by_cases c : i < l.length
  · exact h _ (List.mem_of_getElem? (getD_at c))
  · rw [getD_ge (by omega)]
    exact Nat.two_pow_pos b
theorem Bd.mono {a b : Nat} {l : List Int} (h : Bd a l) (hab : a ≤ b) : Bd b l := fun z hz => pow_small (h z hz) hab
theorem Bd.trim {b : Nat} {l : List Int} (h : Bd b l) : Bd b (trim l) := fun z hz => h z (trim_mem hz)
theorem Bd.rng {b n : Nat} {f : Nat → Int} (h : ∀ i, (f i).natAbs < 2 ^ b) : Bd b (rngN n f) := fun z hz => by
  obtain ⟨i, _, rfl⟩ := List.mem_map.mp hz
  exact h i
theorem Bd.neg {b : Nat} {l : List Int} (h : Bd b l) : Bd b (pneg l) := fun z hz => by
  obtain ⟨y, hy, rfl⟩ := List.mem_map.mp hz
  have := h y hy
  show (-y).natAbs < 2 ^ b
  rw [Int.natAbs_neg]
  exact this
theorem Bd.plus {b : Nat} {l m : List Int} {s : Int} (hl : Bd b l) (hm : Bd b m) (hs : s = 1 ∨ s = -1) : Bd (b + 1) (pplus s l m) := by
  refine Bd.trim (Bd.rng fun i => ?_)
  have h1 := hl.get i
  have h2 := hm.get i
  rw [Nat.pow_succ]
  rcases hs with rfl | rfl <;> omega
theorem sumN_bd {f : Nat → Int} {B : Nat} (h : ∀ i, (f i).natAbs ≤ B) : ∀ n, (sumN f n).natAbs ≤ n * B
  | 0 => by rw [Nat.zero_mul]; exact Nat.le_refl 0
  | n + 1 => by
    have ih := sumN_bd h n
    have := h n
    show (sumN f n + f n).natAbs ≤ _
    rw [Nat.succ_mul]
    omega
theorem Bd.mul {a b : Nat} {l m : List Int} (hl : Bd a l) (hm : Bd b m) (few : l.length ≤ 200) : Bd (a + b + 8) (pmul l m) := by
  refine Bd.trim (Bd.rng fun k => ?_)
  have := sumN_bd (B := 2 ^ (a + b)) (f := fun i => l.getD i 0 * (if i ≤ k then m.getD (k - i) 0 else 0)) (fun i => by
    have h1 := hl.get i
    by_cases c : i ≤ k
    · have h2 := hm.get (k - i)
      show (l.getD i 0 * (if i ≤ k then m.getD (k - i) 0 else 0)).natAbs ≤ _
      rw [if_pos c]
      exact Nat.le_of_lt (wide_lt h1 h2)
    · show (l.getD i 0 * (if i ≤ k then m.getD (k - i) 0 else 0)).natAbs ≤ _
      rw [if_neg c, Int.mul_zero]
      exact Nat.zero_le _) l.length
  show (cnv l m k).natAbs < _
  unfold cnv
  refine Nat.lt_of_le_of_lt this ?_
  rw [Nat.pow_add _ (a + b) 8, Nat.mul_comm]
  exact Nat.mul_lt_mul_of_pos_left (by show l.length < 256; omega) (Nat.two_pow_pos _)
theorem Bd.wide {a b : Nat} {l m : List Int} (hl : Bd a l) (hm : Bd b m) (ha : 0 < a) (hb : 0 < b) (h : a + b ≤ 1000000) : ∀ x ∈ l, ∀ y ∈ m, CMulW x y := fun x hx y hy => wide_mul (hl x hx) (hm y hy) ha hb h
theorem Bd.app {b : Nat} {l m : List Int} (hl : Bd b l) (hm : Bd b m) : Bd b (l ++ m) := fun z hz => (List.mem_append.mp hz).elim (hl z) (hm z)
theorem Bd.zeros (b n : Nat) : Bd b (List.replicate n 0) := fun z hz => by
  rw [(List.mem_replicate.mp hz).2]
  exact Nat.two_pow_pos b
theorem Bd.range {r : Int} {b : Nat} {l : List Int} (h : ∀ z ∈ l, -r ≤ z ∧ z ≤ r) (hr : r.natAbs < 2 ^ b) : Bd b l := fun z hz => by
  have := h z hz
  omega
theorem PolyAt.putL {C : Addr} {H : Hp} {a b : Addr} {l : List Int} {xs : List V} {o : HO} (h : PolyAt K C H a l) (hb : H b = some (.lst xs)) : PolyAt K C (upd H b o) a l := by
  obtain ⟨dx, t, h1, h2⟩ := h.ob
  refine ⟨⟨dx, t, by rw [upd_ne (fun e => by rw [e, hb] at h1; cases h1)]; exact h1, ?_⟩, h.trm, h.few⟩
  rcases h2 with (h | ⟨o', h⟩) | h
  · exact .inl (.inl (by rw [upd_ne (fun e => by rw [e, hb] at h; cases h)]; exact h))
  · exact .inl (.inr ⟨o', by rw [upd_ne (fun e => by rw [e, hb] at h; cases h)]; exact h⟩)
  · exact .inr h
theorem useP2 {C : Addr} {H : Hp} {a b : Addr} {l m : List Int} {sp : Sp} {Q : VK} (po : PolyAt K C H a l) (po' : PolyAt K C H b m) (h : sp [.ref a, .ref b] H Q E0) : rOwn2 C sp (.ref a) (.ref b) H Q := by
  obtain ⟨dx, t, h1, _⟩ := po.ob
  obtain ⟨dy, u, g1, _⟩ := po'.ob
  exact ⟨a, b, _, _, _, _, rfl, rfl, h1, g1, h⟩
theorem useP1 {C : Addr} {H : Hp} {a : Addr} {l : List Int} {sp : Sp} {Q : VK} (po : PolyAt K C H a l) (h : sp [.ref a] H Q E0) : rOwn1 C sp (.ref a) H Q := by
  obtain ⟨dx, t, h1, _⟩ := po.ob
  exact ⟨a, dx, _, rfl, h1, h⟩
theorem useEqP {C : Addr} {H : Hp} {a b : Addr} {l m : List Int} {Q : VK} (po : PolyAt K C H a l) (po' : PolyAt K C H b m) (h : Q (.bl (decide (l = m))) H) : rOwn2 C (spPeq C K) (.ref a) (.ref b) H Q :=
  useP2 po po' ⟨a, b, l, m, rfl, po, po', h⟩
theorem useEqX {C : Addr} {H : Hp} {a : Addr} {l : List Int} {y : V} {t : String} {Q : VK} (ic : PySem.W.isClsIn K C = true) (ty : PySem.W.typeIn K (.ref C) = some (.type "type")) (po : PolyAt K C H a l) (ho : OthT H y t) (nf : PySem.W.subIn K (.type t) (.ref C) = some false) (h : Q (.bl false) H) : rOwnX K C (spPeqX C K) (.ref a) y H Q := by
  obtain ⟨dx, u, h1, _⟩ := po.ob
  exact ⟨a, dx, _, t, rfl, h1, ho, nf, a, y, t, rfl, ho, kit_ownF ic ty nf, h⟩
theorem Drawn.cons {z : Int} {zs ds : List Int} (h : Drawn (z :: zs) ds) : ∃ (d : Int) (ds' : List Int), ds = d :: ds' ∧ (0 ≤ d ∧ d < z) ∧ Drawn zs ds' := by
  cases ds with
  | nil => exact absurd h.1 (by simp)
  | cons d ds => exact ⟨d, ds, rfl, h.2 0 d z rfl rfl, by have := h.1; simpa using this, fun i d' z' h1 h2 => h.2 (i + 1) d' z' h1 h2⟩
theorem Drawn.nil {ds : List Int} (h : Drawn [] ds) : ds = [] := List.length_eq_zero_iff.mp h.1
theorem same_put {H H' : Hp} {p : Addr} {o : HO} (s : Same H H') (n : H p = none) : Same H (upd H' p o) := fun b u e => by
  rw [upd_ne (ne_of_none e n)]
  exact s b u e
-- part polycont
abbrev s_comof : Stmt := top 6
theorem sc_comof : FnScope ["numbers", "found", "n"] ["numbers"] (defScope s_comof) := ⟨rfl, rfl, rfl, by decide +kernel, rfl, by decide +kernel, by decide +kernel⟩
theorem cont_take {l : List Int} {i : Nat} {z : Int} (h : l[i]? = some z) : cont (l.take (i + 1)) = Int.gcd ((cont (l.take i) : Nat) : Int) z := by
  unfold cont
  rw [List.take_add_one, h, List.foldl_append]
  rfl
def spComof (K : PySem.W.Frag) : Sp := fun vs H Q _ => ∃ (a : Addr) (l : List Int), vs = [.ref a] ∧ SqT K H a (l.map V.int) ∧ Q (.int ((cont l : Nat) : Int)) H
theorem ok_comof {f : Addr} {fd : FuncData} (F : Fun K "common_of" "common_of" s_comof f fd) (c_common : Cl P w K mg base CX0 1 "common" spCommon) : FnOk P w K mg base CX0 2 f fd ["numbers"] (spComof K) := by
  refine F.ok sc_comof (fun vs H Q E h => ?_) (fun cdv A outer s H vs Q E hr h => ?_)
  · obtain ⟨a, l, rfl, _⟩ := h
    rfl
  · obtain ⟨a, l, rfl, hS, q⟩ := h
    refine ⟨_, (pss_cons (ps_set (i := 1) sc_comof.nd rfl (Or.inl rfl) pe_int)
 (pss_cons (ps_for PassesOwn.never rfl (pi_tup (pv 0)) (pg_name (i := 2) sc_comof.nd rfl (Or.inl rfl)) (pss_one (ps_set (i := 1) sc_comof.nd rfl (Or.inl rfl) (pe_cl c_common hr (pa_cons (pv 1) (pa_cons (pv 2) pa_nil))))))
 (pss_one (ps_ret (pv 1))))), ?_⟩
    refine ⟨_, rfl, a, rfl, ⟨_, hS⟩, for_tup (K := K) (a := a) (xs := l.map V.int) (fun i σ H' => H = H' ∧ ∃ x2, σ = [some (.ref a), some (.int ((cont (l.take i) : Nat) : Int)), x2]) ⟨rfl, none, rfl⟩ (fun i σ H' _ h => by rw [← h.1]; exact hS) ?_ ?_⟩
    · rintro i y σ _ hi ⟨rfl, x2, rfl⟩
      obtain ⟨z, rfl, hz⟩ := item_int hi
      refine ⟨_, rfl, _, rfl, _, _, rfl, ?_⟩
      rw [← cont_take hz]
      exact ⟨rfl, _, rfl⟩
    · rintro σ _ ⟨rfl, x2, rfl⟩
      rw [List.length_map, List.take_length]
      exact ⟨_, rfl, q⟩
abbrev s_pcont : Stmt := inClass (top 14) 12
theorem sc_pcont : FnScope ["self"] ["self"] (defScope s_pcont) := ⟨rfl, rfl, rfl, by decide +kernel, rfl, by decide +kernel, by decide +kernel⟩
def spPcont (C : Addr) (K : PySem.W.Frag) : Sp := fun vs H Q _ => ∃ (a : Addr) (l : List Int), vs = [.ref a] ∧ PolyAt K C H a l ∧ Q (.int ((cont l : Nat) : Int)) H
theorem ok_pcont {f C : Addr} {fd : FuncData} (T : PoT K mg C) (F : Fun K "content" "Poly.content" s_pcont f fd) (c_comof : Cl P w K mg base CX0 2 "common_of" (spComof K)) : FnOk P w K mg base CX0 3 f fd ["self"] (spPcont C K) := by
  refine F.ok sc_pcont (fun vs H Q E h => ?_) (fun cdv A outer s H vs Q E hr h => ?_)
  · obtain ⟨a, l, rfl, _⟩ := h
    rfl
  · obtain ⟨a, l, rfl, po, q⟩ := h
    obtain ⟨dx, t, h1, h2⟩ := po.ob
    refine ⟨_, (pss_one (ps_ret (pe_cl c_comof hr (pa_cons (pe_fld (pv 0) rfl) pa_nil)))), ?_⟩
    exact ⟨_, rfl, a, C, dx, _, _, rfl, h1, T.cl, T.nC, pyF_c _, t, l, rfl, h2, q⟩
theorem cont_lt {l : List Int} {b : Nat} (ht : Trim l) (h : Bd b l) : cont l < 2 ^ b := by
  by_cases c : l = []
  · subst c
    exact Nat.two_pow_pos b
  · obtain ⟨k, hk⟩ : ∃ k, l.length = k + 1 := ⟨l.length - 1, by have := List.length_pos_iff.mpr c; omega⟩
    have h1 := ht k hk
    have h2 := cont_get (l := l) k
    have h3 := h.get k
    have h4 := Int.le_of_dvd (a := ((cont l : Nat) : Int)) (b := ((l.getD k 0).natAbs : Int)) (by omega) (Int.dvd_natAbs.mpr h2)
    omega
theorem cont_pos {l : List Int} (ht : Trim l) (h : l ≠ []) : 0 < cont l := Nat.pos_of_ne_zero fun e => h (cont_nil ht e)
abbrev s_pprm : Stmt := inClass (top 14) 13
theorem sc_pprm : FnScope ["self", "content", "n"] ["self"] (defScope s_pprm) := ⟨rfl, rfl, rfl, by decide +kernel, rfl, by decide +kernel, by decide +kernel⟩
def spPprm (C : Addr) (K : PySem.W.Frag) : Sp := fun vs H Q _ => ∃ (a : Addr) (l : List Int), vs = [.ref a] ∧ PolyAt K C H a l ∧ Bd 8000 l ∧ ∀ r H', PolyAt K C H' r (pprim l) → Same H H' → Q (.ref r) H'
theorem ok_pprm {f C : Addr} {fd : FuncData} (T : PoT K mg C) (F : Fun K "primitive" "Poly.primitive" s_pprm f fd) (c_pil : Ma P w K mg base 2 C (spPI C false K)) (c_cont : Me P w K mg base 3 C "content" (spPcont C K)) : FnOk P w K mg base CX0 4 f fd ["self"] (spPprm C K) := by
  refine F.ok sc_pprm (fun vs H Q E h => ?_) (fun cdv A outer s H vs Q E hr h => ?_)
  · obtain ⟨a, l, rfl, _⟩ := h
    rfl
  · obtain ⟨a, l, rfl, po, bd, q⟩ := h
    obtain ⟨dx, t, h1, h2⟩ := po.ob
    have few := po.few
    refine ⟨_, (pss_cons (ps_set (i := 1) sc_pprm.nd rfl (Or.inr rfl) (pe_me0 c_cont T.cl hr (pv 0) ))
 (pss_one (ps_ret (pe_ma c_pil hr T.g (pa_cons (pe_lc (own := [("n", 2)]) (g := (gName 2)) (tt := tYes) rfl sc_pprm.nd (pi_tup (pe_fld (pv 0) rfl)) (blkOk_by (N := ["self", "content", "n"]) (sc := defScope s_pprm) (by decide +kernel)) (fun _ _ _ _ _ => (pg_name (i := 2) sc_pprm.nd rfl (Or.inl rfl))) (fun _ _ _ _ _ => pts_nil) (fun _ _ _ _ _ => (pe_op op_fdivW (pv 2) (pv 1)))) pa_nil))))), ?_⟩
    refine ⟨_, rfl, a, dx, _, rfl, h1, pyF_no _ (by decide +kernel), a, l, rfl, po, ?_⟩
    refine ⟨_, rfl, a, C, dx, _, _, rfl, h1, T.cl, T.nC, pyF_c _, t, rfl, ⟨_, h2⟩, fun D nD => lcMap walk_tup ((pprim l).map V.int) (by unfold pprim; rw [List.length_map, List.length_map, List.length_map]) nD (fun H s => Evl.ex_t s h2) ?_ ?_⟩
    · rintro i x H2 _ hi s3 hL ⟨rfl, hx⟩
      obtain ⟨z, rfl, hz⟩ := item_int hx
      have ne : l ≠ [] := fun e => by rw [e] at hz; cases hz
      have cp := cont_pos po.trm ne
      have cl := cont_lt po.trm bd
      refine ⟨rfl, _, rfl, _, rfl, _, _, rfl, rfl, wide_div (b := 8000) (by omega) (by rw [Int.natAbs_natCast]; exact cl) (by decide) (by decide), ?_⟩
      exact mapEnd nD (by unfold pprim; rw [List.length_map, List.length_map]; omega) s3 hL (map_at (f := V.int) (by unfold pprim; rw [List.getElem?_map, hz] <;> rfl))
    · intro H2 s3 hL
      refine make_po (tup := false) (ns := pprim l) (SqL.of hL) (by unfold pprim; rw [List.length_map]; exact few) fun r H' po3 s' => q r H' ?_ (s3.trans s')
      rw [trim_of (pprim_trim po.trm)] at po3
      exact po3
abbrev s_pder : Stmt := inClass (top 14) 14
theorem sc_pder : FnScope ["self", "k", "n"] ["self"] (defScope s_pder) := ⟨rfl, rfl, rfl, by decide +kernel, rfl, by decide +kernel, by decide +kernel⟩
def spPder (C : Addr) (K : PySem.W.Frag) : Sp := fun vs H Q _ => ∃ (a : Addr) (l : List Int), vs = [.ref a] ∧ PolyAt K C H a l ∧ ∀ r H', PolyAt K C H' r (pdrv l) → Same H H' → Q (.ref r) H'
theorem rng_drop (n : Nat) (f : Nat → Int) : ((rngN n f).map V.int).drop 1 = (rngN (n - 1) fun k => f (k + 1)).map V.int := by
  refine List.ext_getElem? fun i => ?_
  rw [List.getElem?_drop]
  by_cases c : i < n - 1
  · rw [map_at (f := V.int) (rngN_at (show 1 + i < n by omega)), map_at (f := V.int) (rngN_at c), Nat.add_comm]
  · rw [List.getElem?_eq_none (by rw [List.length_map, rngN_len]; omega), List.getElem?_eq_none (by rw [List.length_map, rngN_len]; omega)]
theorem cut_drop1 (xs : List V) : cutV xs (some 1) none = xs.drop 1 := by
  show (xs.drop (HT.sIx xs.length 0 (some ((1 : Nat) : Int)))).take (xs.length - HT.sIx xs.length 0 (some ((1 : Nat) : Int))) = _
  rw [HT.sIx_nat]
  by_cases c : 1 ≤ xs.length
  · rw [Nat.min_eq_left c, List.take_of_length_le (by rw [List.length_drop]; exact Nat.le_refl _)]
  · have : xs = [] := List.length_eq_zero_iff.mp (by omega)
    subst this
    rfl
theorem ok_pder {f C : Addr} {fd : FuncData} (henum : mg "enumerate" = none) (T : PoT K mg C) (F : Fun K "derivative" "Poly.derivative" s_pder f fd) (c_pil : Ma P w K mg base 2 C (spPI C false K)) : FnOk P w K mg base CX0 4 f fd ["self"] (spPder C K) := by
  refine F.ok sc_pder (fun vs H Q E h => ?_) (fun cdv A outer s H vs Q E hr h => ?_)
  · obtain ⟨a, l, rfl, _⟩ := h
    rfl
  · obtain ⟨a, l, rfl, po, q⟩ := h
    obtain ⟨dx, t, h1, h2⟩ := po.ob
    have few := po.few
    refine ⟨_, (pss_one (ps_ret (pe_ma c_pil hr T.g (pa_cons (pe_slice sl_list (pe_lc (own := [("k", 1), ("n", 2)]) (g := (gTup K 2 (gCons (gName 1) (gCons (gName 2) gNil)))) (tt := tYes) rfl sc_pder.nd (pi_enumT rfl henum (pa_cons (pe_fld (pv 0) rfl) pa_nil)) (blkOk_by (N := ["self", "k", "n"]) (sc := defScope s_pder) (by decide +kernel)) (fun _ _ _ _ _ => (pg_tup rfl (pgs_cons (pg_name (i := 1) sc_pder.nd rfl (Or.inl rfl)) (pgs_cons (pg_name (i := 2) sc_pder.nd rfl (Or.inl rfl)) pgs_nil)))) (fun _ _ _ _ _ => pts_nil) (fun _ _ _ _ _ => (pe_op op_mul (pv 1) (pv 2)))) (po_some pe_int) po_none) pa_nil)))), ?_⟩
    refine ⟨_, rfl, a, C, dx, _, _, rfl, h1, T.cl, T.nC, pyF_c _, t, _, rfl, h2, fun D nD => lcMap walk_enumT ((rngN l.length fun k => (k : Int) * l.getD k 0).map V.int) (by rw [List.length_map, List.length_map, rngN_len]) nD (fun H s => Evl.ex_t s h2) ?_ ?_⟩
    · rintro i x H2 H3 hi s3 hL ⟨Tp, x1, y1, rfl, nT, rfl, hx1, hy1⟩
      cases hx1
      obtain ⟨z, rfl, hz⟩ := item_int hy1
      rw [List.length_map] at hi
      have s4 := same_upd (o := .tup [.int (i : Nat), .int z]) nT
      refine ⟨Tp, _, rfl, SqT.of upd_same, rfl, _, _, rfl, _, _, rfl, rfl, rfl, _, rfl, _, rfl, _, _, rfl, rfl, .inl ⟨by omega, by omega⟩, ?_⟩
      have e := rngN_at (n := l.length) (f := fun k => (k : Int) * l.getD k 0) hi
      rw [getD_of hz] at e
      exact mapEnd nD (by rw [List.length_map, rngN_len]; omega) (s3.trans s4) (s4 _ _ hL) (map_at e)
    · intro H2 s3 hL
      refine ⟨1, rfl, D, _, rfl, SqL.of hL, fun p np => ?_⟩
      have hp : SqL K (upd H2 p (.lst (cutV ((rngN l.length fun k => (k : Int) * l.getD k 0).map V.int) (some 1) none))) p ((rngN (l.length - 1) fun k => ((k + 1 : Nat) : Int) * l.getD (k + 1) 0).map V.int) := by
        refine SqL.of ?_
        rw [upd_same, cut_drop1, rng_drop]
      refine make_po (tup := false) (ns := rngN (l.length - 1) fun k => ((k + 1 : Nat) : Int) * l.getD (k + 1) 0) hp (by rw [rngN_len]; omega) fun r H' po3 s' => q r H' ?_ ((s3.trans (same_upd np)).trans s')
      exact po3
-- part law_k32
abbrev s_lcom : Stmt := top 21
theorem sc_lcom : FnScope ["_law_row_here", "_law_result", "_law_k", "_law_first", "_law_second"] ["_law_row_here"] (defScope s_lcom) := ⟨rfl, rfl, rfl, by decide +kernel, rfl, by decide +kernel, by decide +kernel⟩
def spLcom (K : PySem.W.Frag) : Sp := fun vs H Q _ => ∃ (a : Addr) (l : List Int), vs = [.ref a] ∧ SqL K H a (l.map V.int) ∧ Q (.int ((cont l : Nat) : Int)) H
theorem abs_if (z : Int) : (if z < 0 then -z else z) = ((z.natAbs : Nat) : Int) := by
  split <;> omega
theorem ok_lcom {f : Addr} {fd : FuncData} (T : Txt mg) (F : Fun K "_law_common" "_law_common" s_lcom f fd) : FnOk P w K mg base CX0 1 f fd ["_law_row_here"] (spLcom K) := by
  refine F.ok sc_lcom (fun vs H Q E h => ?_) (fun cdv A outer s H vs Q E hr h => ?_)
  · obtain ⟨a, l, rfl, _⟩ := h
    rfl
  · obtain ⟨a, l, rfl, hS, q⟩ := h
    refine ⟨_, (pss_cons (ps_set (i := 1) sc_lcom.nd rfl (Or.inl rfl) pe_int)
 (pss_cons (ps_for PassesOwn.never rfl (pi_list (pv 0)) (pg_name (i := 2) sc_lcom.nd rfl (Or.inl rfl)) (pss_cons (ps_par (i := 3) (j := 4) rfl sc_lcom.nd rfl rfl (by decide) rfl rfl (pa_cons (pe_callB call_abs (by rfl) T.abs boot_abs (pa_cons (pv 1) pa_nil)) (pa_cons (pe_callB call_abs (by rfl) T.abs boot_abs (pa_cons (pv 2) pa_nil)) pa_nil)) rfl)
 (pss_cons (ps_while PassesOwn.never (pt_cmpR op_gt (pv 4) pe_int (nomark _)) (pss_one (ps_par (i := 3) (j := 4) rfl sc_lcom.nd rfl rfl (by decide) rfl rfl (pa_cons (pv 4) (pa_cons (pe_op op_mod (pv 3) (pv 4)) pa_nil)) rfl)))
 (pss_one (ps_set (i := 1) sc_lcom.nd rfl (Or.inl rfl) (pv 3))))))
 (pss_one (ps_ret (pv 1))))), ?_⟩
    refine ⟨_, rfl, a, rfl, ⟨_, hS⟩, for_list (K := K) (a := a) (xs := l.map V.int) (fun i σ H' => H = H' ∧ ∃ x2 x3 x4, σ = [some (.ref a), some (.int ((cont (l.take i) : Nat) : Int)), x2, x3, x4]) ⟨rfl, none, none, none, rfl⟩ (fun i σ H' _ h => by rw [← h.1]; exact hS) ?_ ?_⟩
    · rintro i y σ _ hi ⟨rfl, x2, x3, x4, rfl⟩
      obtain ⟨z, rfl, hz⟩ := item_int hi
      refine ⟨_, rfl, _, rfl, _, rfl, _, rfl, _, _, rfl, ?_⟩
      rw [abs_if, abs_if, Int.natAbs_natCast]
      refine while_by (fun σ H' => H = H' ∧ ∃ x y : Nat, σ = [some (.ref a), some (.int ((cont (l.take i) : Nat) : Int)), some (.int z), some (.int (x : Int)), some (.int (y : Int))] ∧ Nat.gcd x y = cont (l.take (i + 1)))
        (fun σ _ => match σ[4]? with | some (some (V.int k)) => k.toNat | _ => 0) ⟨rfl, _, _, rfl, by rw [cont_take hz] <;> rfl⟩ ?_ ?_
      · rintro σ _ ⟨rfl, x, y, rfl, hg⟩
        refine ⟨_, rfl, _, _, rfl, rfl, _, rfl, ?_⟩
        by_cases c : 0 < y
        · refine if_pos_of (decide_eq_true (by omega)) ?_
          refine ⟨_, rfl, _, rfl, _, rfl, _, _, rfl, rfl, (by show (0 : Int) < y; omega), _, _, rfl, ?_⟩
          refine ⟨⟨rfl, y, x % y, ?_, ?_⟩, ?_⟩
          · rw [Int.natCast_emod]
            rfl
          · rw [← hg, Nat.gcd_comm x y, Nat.gcd_rec y x, Nat.gcd_comm]
          · show ((x : Int) % (y : Int)).toNat < ((y : Int)).toNat
            rw [← Int.natCast_emod]
            have := Nat.mod_lt x c
            omega
        · refine if_neg_of (decide_eq_false (by omega)) ?_
          have e : y = 0 := by omega
          subst e
          rw [Nat.gcd_zero_right] at hg
          subst hg
          exact ⟨_, rfl, rfl, _, _, _, rfl⟩
      · rintro σ H1 Q1 Q2 h ⟨v, e1, i2, j2, e3, e4, k, e6, qq⟩
        exact ⟨v, e1, i2, j2, e3, e4, k, e6, h _ _ qq⟩
    · rintro σ _ ⟨rfl, x2, x3, x4, rfl⟩
      rw [List.length_map, List.take_length]
      exact ⟨_, rfl, q⟩
abbrev s_lright : Stmt := top 22
theorem sc_lright : FnScope ["_law_poly", "_law_row_here", "_law_content", "_law_part", "_law_slope", "_law_k"] ["_law_poly", "_law_row_here"] (defScope s_lright) := ⟨rfl, rfl, rfl, by decide +kernel, rfl, by decide +kernel, by decide +kernel⟩
def spLright (C : Addr) (K : PySem.W.Frag) : Sp := fun vs H Q _ => ∃ (a b : Addr) (row : List Int), vs = [.ref a, .ref b] ∧ PolyAt K C H a (trim row) ∧ SqL K H b (row.map V.int) ∧ row.length ≤ 50 ∧ Bd 200 row ∧ ∀ H', Same H H' → Q (.bl true) H'
theorem ok_lright {f C : Addr} {fd : FuncData} (TT : Txt mg) (T : PoT K mg C) (F : Fun K "_law_right" "_law_right" s_lright f fd) (c_isint : Cl P w K mg base CX0 1 "_law_is_integer" spIsInt) (c_lcom : Cl P w K mg base CX0 1 "_law_common" (spLcom K)) (c_plain : Cl P w K mg base CX0 1 "_law_plain" (spPlain K))
    (c_pil : Ma P w K mg base 2 C (spPI C false K)) (c_whole : Cm P w K mg base 4 C "whole" (spPwhole C K)) (c_deg : Me P w K mg base 1 C "degree" (spPdeg C K)) (c_cont : Me P w K mg base 3 C "content" (spPcont C K)) (c_prm : Me P w K mg base 4 C "primitive" (spPprm C K)) (c_der : Me P w K mg base 4 C "derivative" (spPder C K))
    (c_mul : Me P w K mg base 4 C "__mul__" (spPmul C K)) (c_eq : Me P w K mg base 1 C "__eq__" (spPeq C K)) : FnOk P w K mg base CX0 6 f fd ["_law_poly", "_law_row_here"] (spLright C K) := by
  refine F.ok sc_lright (fun vs H Q E h => ?_) (fun cdv A outer s H vs Q E hr h => ?_)
  · obtain ⟨a, b, row, rfl, _⟩ := h
    rfl
  · obtain ⟨a, b, row, rfl, po, hb, few, bd, q⟩ := h
    have z1000 : 1000 ≤ sizeLine := by rw [sizeLine_eq]; decide
    obtain ⟨dx, t, h1, h2⟩ := po.ob
    have tl := po.trm
    have bt : Bd 200 (trim row) := bd.trim
    have ft : (trim row).length ≤ 50 := Nat.le_trans (trim_few row) few
    have cl : cont (trim row) < 2 ^ 200 := cont_lt tl bt
    refine ⟨_, (pss_cons (ps_set (i := 2) sc_lright.nd rfl (Or.inl rfl) (pe_cl c_lcom hr (pa_cons (pv 1) pa_nil)))
 (Evl.pss_cut (ps_if (pw_or (pt_not (pt_val (pe_cl c_isint hr (pa_cons (pe_me0 c_cont T.cl hr (pv 0) ) pa_nil)))) (pw_or1 (pt_cmpR op_ne (pe_me0 c_cont T.cl hr (pv 0) ) (pv 2) (nomark _)))).pt (pss_one (ps_ret pe_bl)) pss_nil)
 (Evl.pss_cut (ps_set (i := 3) sc_lright.nd rfl (Or.inl rfl) (pe_me0 c_prm T.cl hr (pv 0) ))
 (Evl.pss_cut (ps_if (pw_or (pt_not (pt_cmpR (op_eq_own c_eq hr) (pe_op (op_own2 c_mul hr T.sf) (pv 3) (pe_cm c_whole hr (pe_glob (v := .ref C) (by rfl) T.g rfl) (pa_cons (pv 2) pa_nil))) (pv 0) (nomark _))) (pw_or1 (pw_and (pt_cmpR op_gt (pv 2) pe_int (nomark _)) (pw_and1 (pt_cmpR op_ne (pe_me0 c_cont T.cl hr (pv 3) ) pe_int (nomark _)))).pt)).pt (pss_one (ps_ret pe_bl)) pss_nil)
 (Evl.pss_cut (ps_if (pw_and (pt_cmpR op_eq (pv 2) pe_int (nomark _)) (pw_and1 (pt_cmpR op_ne (pe_me0 c_deg T.cl hr (pv 3) ) (pe_un un_neg pe_int) (nomark _)))).pt (pss_one (ps_ret pe_bl)) pss_nil)
 (Evl.pss_cut (ps_setLc (i := 4) (own := [("_law_k", 5)]) (g := (gName 5)) (tt := tYes) rfl sc_lright.nd rfl rfl (sw_true rfl rfl rfl (by decide +kernel)) (pi_range2 rfl TT.range (pa_cons pe_int (pa_cons (pe_callB call_len_seq (by rfl) TT.len PySem.boot_len (pa_cons (pv 1) pa_nil)) pa_nil))) (blkOk_by (N := ["_law_poly", "_law_row_here", "_law_content", "_law_part", "_law_slope", "_law_k"]) (sc := defScope s_lright) (by decide +kernel)) (fun _ _ _ _ _ => (pg_name (i := 5) sc_lright.nd rfl (Or.inl rfl))) (fun _ _ _ _ _ => pts_nil) (fun _ _ _ _ _ => (pe_op op_mul (pv 5) (pe_ix (r := rIxL K) (by exact ix_list) (pv 1) (pv 5) (fun _ _ => rfl)))))
 (pss_one (ps_ret (pe_and (pe_cmpR (op_eq_own c_eq hr) (pe_me0 c_der T.cl hr (pv 0) ) (pe_ma c_pil hr T.g (pa_cons (pv 4) pa_nil)) (nomark _)) (pe_one (pe_cmpR (op_eqD (hu64 hr)) (pe_callTy call_list_of (by rfl) TT.list boot_list (pa_cons (pe_fld (pv 0) rfl) pa_nil)) (pe_cl c_plain hr (pa_cons (pv 1) pa_nil)) (nomark _)))))))))))), ?_⟩
    refine ⟨_, rfl, b, row, rfl, hb, ?_⟩
    -- content
    refine ⟨fun σ H' => Same H H' ∧ σ = [some (.ref a), some (.ref b), some (.int ((cont row : Nat) : Int)), none, none, none], ?_, ?_⟩
    · refine ⟨_, rfl, a, dx, _, rfl, h1, pyF_no _ (by decide +kernel), a, _, rfl, po, _, rfl, _, rfl, iteF ?_⟩
      refine ⟨_, rfl, a, dx, _, rfl, h1, pyF_no _ (by decide +kernel), a, _, rfl, po, _, rfl, rfl, _, rfl, ?_⟩
      rw [cont_trim]
      exact if_neg_of (by simp) ⟨Same.refl H, rfl⟩
    rintro σ H1 ⟨s1, rfl⟩
    -- part
    refine ⟨fun σ H' => Same H H' ∧ ∃ p, PolyAt K C H' p (pprim (trim row)) ∧ σ = [some (.ref a), some (.ref b), some (.int ((cont row : Nat) : Int)), some (.ref p), none, none], ?_, ?_⟩
    · exact ⟨_, rfl, a, dx, _, rfl, s1 _ _ h1, pyF_no _ (by decide +kernel), a, _, rfl, po.same s1, bt.mono (by decide), fun r H' pp s' => ⟨s1.trans s', r, pp, rfl⟩⟩
    rintro σ H2 ⟨s2, p, pp, rfl⟩
    refine ⟨fun σ H' => Same H H' ∧ PolyAt K C H' p (pprim (trim row)) ∧ σ = [some (.ref a), some (.ref b), some (.int ((cont row : Nat) : Int)), some (.ref p), none, none], ?_, ?_⟩
    · refine ⟨_, rfl, rfl, _, rfl, _, rfl, fun r H3 pw s3 => ?_⟩
      have pp3 := pp.same s3
      have flen : (pprim (trim row)).length ≤ 50 := by unfold pprim; rw [List.length_map]; exact ft
      have wlen : (trim [((cont row : Nat) : Int)]).length ≤ 1 := trim_few _
      have bp : Bd 200 (pprim (trim row)) := fun z hz => by
        obtain ⟨y, hy, rfl⟩ := List.mem_map.mp hz
        exact Nat.lt_of_le_of_lt (Int.natAbs_ediv_le_natAbs _ _) (bt y hy)
      have bw : Bd 200 (trim [((cont row : Nat) : Int)]) := fun z hz => by
        rw [List.mem_singleton.mp (trim_mem hz), Int.natAbs_natCast, ← cont_trim]
        exact cl
      refine useP2 pp3 pw ⟨p, r, _, _, rfl, pp3, pw, by omega, bp.wide bw (by decide) (by decide) (by decide), fun r2 H4 pm s4 => ?_⟩
      have e : pmul (pprim (trim row)) (trim [((cont row : Nat) : Int)]) = trim row := by
        rw [← cont_trim]
        exact pprim_whole tl
      rw [e] at pm
      have s := s2.trans (s3.trans s4)
      refine ⟨_, rfl, useEqP pm (po.same s) ⟨_, rfl, iteNS rfl ?_⟩⟩
      refine ⟨_, rfl, _, _, rfl, rfl, _, rfl, ?_⟩
      by_cases c : cont row = 0
      · exact if_neg_of (decide_eq_false (by omega)) (if_neg_of rfl ⟨s, pp3.same s4, rfl⟩)
      · refine if_pos_of (decide_eq_true (by omega)) ?_
        have pp4 := pp3.same s4
        obtain ⟨dy, u, g1, g2⟩ := pp4.ob
        refine ⟨_, rfl, p, dy, _, rfl, g1, pyF_no _ (by decide +kernel), p, _, rfl, pp4, rfl, _, rfl, ?_⟩
        have e1 : cont (pprim (trim row)) = 1 := cont_pprim (by rw [cont_trim]; exact c)
        rw [e1]
        exact if_neg_of rfl ⟨s, pp4, rfl⟩
    rintro σ H3 ⟨s3, pp, rfl⟩
    refine ⟨fun σ H' => Same H H' ∧ σ = [some (.ref a), some (.ref b), some (.int ((cont row : Nat) : Int)), some (.ref p), none, none], ?_, ?_⟩
    · refine ⟨_, rfl, rfl, _, rfl, ?_⟩
      by_cases c : cont row = 0
      · refine if_pos_of (decide_eq_true (by rw [c] <;> rfl)) ?_
        obtain ⟨dy, u, g1, g2⟩ := pp.ob
        refine ⟨_, rfl, p, dy, _, rfl, g1, pyF_no _ (by decide +kernel), p, _, rfl, pp, _, rfl, rfl, _, rfl, ?_⟩
        have e := (pprim_zero tl (by rw [cont_trim]; exact c)).2
        rw [e]
        exact if_neg_of rfl ⟨s3, rfl⟩
      · refine if_neg_of (decide_eq_false fun e => c (by have := V.int.inj e; omega)) ?_
        exact if_neg_of rfl ⟨s3, rfl⟩
    rintro σ H4 ⟨s4, rfl⟩
    have hb4 := s4.seq hb
    refine ⟨fun σ H' => Same H H' ∧ ∃ sl x5, H' sl = some (.lst ((rngN (row.length - 1) fun k => ((k : Int) + 1) * row.getD (k + 1) 0).map V.int)) ∧ σ = [some (.ref a), some (.ref b), some (.int ((cont row : Nat) : Int)), some (.ref p), some (.ref sl), x5], ?_, ?_⟩
    · refine ⟨_, rfl, b, _, rfl, .inl hb4, 1, ((row.map V.int).length : Int), rfl, ⟨by decide, by decide, by rw [List.length_map]; omega, by rw [List.length_map]; omega⟩, fun D nD => lcMap (walk_range (lo := 1) (n := (((row.map V.int).length : Int) - 1).toNat)) ((rngN (row.length - 1) fun k => ((k : Int) + 1) * row.getD (k + 1) 0).map V.int) (by rw [List.length_map, rngN_len, List.length_map]; omega) nD (fun _ _ => trivial) ?_ ?_⟩
      · rintro i x H5 H6 hi s5 hL ⟨rfl, rfl⟩
        rw [List.length_map] at hi
        have hi' : i + 1 < row.length := by omega
        have at1 : atI (row.map V.int) (1 + (i : Int)) = some (V.int (row.getD (i + 1) 0)) := by
          rw [show 1 + (i : Int) = ((i + 1 : Nat) : Int) by omega]
          exact atI_nat (map_at (getD_at hi'))
        refine ⟨rfl, _, rfl, _, rfl, _, rfl, b, _, _, _, rfl, rfl, s5.seq hb4, at1, _, _, rfl, rfl, .inl ⟨by omega, by omega⟩, ?_⟩
        have e := rngN_at (n := row.length - 1) (f := fun k => ((k : Int) + 1) * row.getD (k + 1) 0) (i := i) (by omega)
        rw [Int.add_comm 1]
        exact mapEnd nD (by rw [List.length_map, rngN_len]; omega) s5 hL (map_at e)
      · intro H5 s5 hL
        exact ⟨s4.trans s5, D, _, hL, rfl⟩
    rintro σ H5 ⟨s5, sl, x5, hsl, rfl⟩
    refine ⟨_, rfl, a, dx, _, rfl, s5 _ _ h1, pyF_no _ (by decide +kernel), a, _, rfl, po.same s5, fun r H6 pd s6 => ?_⟩
    refine ⟨_, rfl, fun x dq nx ndq _ => make_poA (tup := false) (ns := rngN (row.length - 1) fun k => ((k : Int) + 1) * row.getD (k + 1) 0) nx ndq (SqL.of (s6 _ _ hsl)) (by rw [rngN_len]; omega) fun H7 ps s7 => ⟨rfl, ?_⟩⟩
    rw [pdrv_trim] at pd
    refine useEqP (pd.same s7) ps ⟨_, rfl, if_pos_of (decide_eq_true rfl) ?_⟩
    have s := s5.trans (s6.trans s7)
    refine ⟨_, rfl, a, C, dx, _, _, rfl, s _ _ h1, T.cl, T.nC, pyF_c _, t, _, rfl, .inr (Evl.ex_t s h2), fun p1 np1 => ?_⟩
    have g1 := same_upd (o := .lst ((trim row).map V.int)) np1
    refine ⟨_, rfl, b, row, rfl, .inl ((s.trans g1).seq hb), by omega, fun p2 H8 np2 s8 hp2 => ?_⟩
    refine ⟨_, _, dp_lst (SqL.of (s8 _ _ upd_same)), dp_lst (SqL.of hp2), shaped_ints _, shaped_ints _, ?_⟩
    rw [eqv_ints]
    have z := q H8 ((s.trans g1).trans s8)
    rw [← decide_eq_true (show trim row = trim row from rfl)] at z
    exact z
abbrev s_law : Stmt := top 23
theorem sc_law : FnScope ["_law_script", "_law_head", "_law_factors", "_law_first", "_law_k", "_law_second", "_law_one", "_law_two", "_law_both"] ["_law_script"] (defScope s_law) := ⟨rfl, rfl, rfl, by decide +kernel, rfl, by decide +kernel, by decide +kernel⟩
theorem ok_law {f C : Addr} {fd : FuncData} (TT : Txt mg) (T : PoT K mg C) (F : Fun K "law" "law" s_law f fd) (c_cell : Cl P w K mg base CX0 1 "_law_cell" (spCellL K)) (c_draws : Cl P w K mg base CX0 1 "_law_draws" (spDraws K)) (c_row : Cl P w K mg base CX0 2 "_law_row" spRow)
    (c_right : Cl P w K mg base CX0 6 "_law_right" (spLright C K)) (c_pil : Ma P w K mg base 2 C (spPI C false K)) (c_cont : Me P w K mg base 3 C "content" (spPcont C K)) (c_prm : Me P w K mg base 4 C "primitive" (spPprm C K)) (c_der : Me P w K mg base 4 C "derivative" (spPder C K))
    (c_add : Me P w K mg base 4 C "__add__" (spPadd C K 1)) (c_mul : Me P w K mg base 4 C "__mul__" (spPmul C K)) (c_eq : Me P w K mg base 1 C "__eq__" (spPeq C K)) : FnOk P w K mg base CX0 7 f fd ["_law_script"] (spLaw K) := by
  refine F.ok sc_law (fun vs H Q E h => ?_) (fun cdv A outer s H vs Q E hr h => ?_)
  · obtain ⟨a, ns, rfl, _⟩ := h
    rfl
  · obtain ⟨sc, ns, rfl, hS, hlen, q⟩ := h
    refine ⟨_, (Evl.pss_cut (ps_set (i := 1) sc_law.nd rfl (Or.inl rfl) (pe_cl c_draws hr (pa_cons (pe_cl c_cell hr (pa_cons (pv 0) (pa_cons pe_int pa_nil))) (pa_cons (pe_lst (pa_cons pe_int (pa_cons pe_int (pa_cons pe_int (pa_cons (pe_op op_pow pe_int pe_int) (pa_cons pe_int pa_nil)))))) pa_nil))))
 (Evl.pss_cut (ps_set (i := 2) sc_law.nd rfl (Or.inr rfl) (pe_lst (pa_cons (pe_ix ix_list (pe_lst (pa_cons pe_int (pa_cons (pe_op op_add (pe_ix ix_list (pv 1) pe_int (fun _ _ => rfl)) pe_int) (pa_cons (pe_op op_add (pe_ix ix_list (pv 1) pe_int (fun _ _ => rfl)) pe_int) pa_nil)))) (pe_ix ix_list (pv 1) pe_int (fun _ _ => rfl)) (fun _ _ => rfl)) (pa_cons (pe_ix ix_list (pe_lst (pa_cons pe_int (pa_cons pe_int (pa_cons pe_int pa_nil)))) (pe_ix ix_list (pv 1) pe_int (fun _ _ => rfl)) (fun _ _ => rfl)) pa_nil))))
 (Evl.pss_cut (ps_setLc (i := 3) (own := [("_law_k", 4)]) (g := (gName 4)) (tt := tYes) rfl sc_law.nd rfl rfl (sw_true rfl rfl rfl (by decide +kernel)) (pi_list (pe_cl c_row hr (pa_cons (pe_cl c_cell hr (pa_cons (pv 0) (pa_cons pe_int pa_nil))) (pa_cons (pe_ix ix_list (pv 1) pe_int (fun _ _ => rfl)) (pa_cons pe_int pa_nil))))) (blkOk_by (N := ["_law_script", "_law_head", "_law_factors", "_law_first", "_law_k", "_law_second", "_law_one", "_law_two", "_law_both"]) (sc := defScope s_law) (by decide +kernel)) (fun _ _ _ _ _ => (pg_name (i := 4) sc_law.nd rfl (Or.inl rfl))) (fun _ _ _ _ _ => pts_nil) (fun _ _ _ _ _ => (pe_op op_mul (pv 4) (pe_ix (r := rIxL K) (by exact ix_list) (pv 2) pe_int (fun _ _ => rfl)))))
 (Evl.pss_cut (ps_setLc (i := 5) (own := [("_law_k", 4)]) (g := (gName 4)) (tt := tYes) rfl sc_law.nd rfl rfl (sw_true rfl rfl rfl (by decide +kernel)) (pi_list (pe_cl c_row hr (pa_cons (pe_cl c_cell hr (pa_cons (pv 0) (pa_cons pe_int pa_nil))) (pa_cons (pe_ix ix_list (pv 1) pe_int (fun _ _ => rfl)) (pa_cons pe_int pa_nil))))) (blkOk_by (N := ["_law_script", "_law_head", "_law_factors", "_law_first", "_law_k", "_law_second", "_law_one", "_law_two", "_law_both"]) (sc := defScope s_law) (by decide +kernel)) (fun _ _ _ _ _ => (pg_name (i := 4) sc_law.nd rfl (Or.inl rfl))) (fun _ _ _ _ _ => pts_nil) (fun _ _ _ _ _ => (pe_op op_mul (pv 4) (pe_ix (r := rIxL K) (by exact ix_list) (pv 2) pe_int (fun _ _ => rfl)))))
 (Evl.pss_cut (ps_set (i := 6) sc_law.nd rfl (Or.inl rfl) (pe_ma c_pil hr T.g (pa_cons (pv 3) pa_nil)))
 (Evl.pss_cut (ps_set (i := 7) sc_law.nd rfl (Or.inl rfl) (pe_ma c_pil hr T.g (pa_cons (pv 5) pa_nil)))
 (Evl.pss_cut (ps_if (pw_or (pt_not (pt_val (pe_cl c_right hr (pa_cons (pv 6) (pa_cons (pv 3) pa_nil))))) (pw_or1 (pt_not (pt_val (pe_cl c_right hr (pa_cons (pv 7) (pa_cons (pv 5) pa_nil))))))).pt (pss_one (ps_ret pe_bl)) pss_nil)
 (Evl.pss_cut (ps_set (i := 8) sc_law.nd rfl (Or.inl rfl) (pe_op (op_own2 c_mul hr T.sf) (pv 6) (pv 7)))
 (Evl.pss_cut (ps_if (pt_cmpR op_ne (pe_me0 c_cont T.cl hr (pv 8) ) (pe_op op_mulW (pe_me0 c_cont T.cl hr (pv 6) ) (pe_me0 c_cont T.cl hr (pv 7) )) (nomark _)) (pss_one (ps_ret pe_bl)) pss_nil)
 (Evl.pss_cut (ps_if (pt_not (pt_cmpR (op_eq_own c_eq hr) (pe_me0 c_der T.cl hr (pv 8) ) (pe_op (op_own2 c_add hr T.sf) (pe_op (op_own2 c_mul hr T.sf) (pe_me0 c_der T.cl hr (pv 6) ) (pv 7)) (pe_op (op_own2 c_mul hr T.sf) (pv 6) (pe_me0 c_der T.cl hr (pv 7) ))) (nomark _))) (pss_one (ps_ret pe_bl)) pss_nil)
 (pss_one (ps_ret (pe_and (pe_cl c_right hr (pa_cons (pv 6) (pa_cons (pv 3) pa_nil))) (pe_and (pe_cmpR op_eq (pe_me0 c_cont T.cl hr (pe_ma c_pil hr T.g (pa_cons (pe_lst pa_nil) pa_nil)) ) pe_int (nomark _)) (pe_one (pe_cmpR (op_eq_own c_eq hr) (pe_me0 c_prm T.cl hr (pe_ma c_pil hr T.g (pa_cons (pe_lst (pa_cons pe_int (pa_cons pe_int (pa_cons pe_int pa_nil)))) pa_nil)) ) (pe_ma c_pil hr T.g (pa_cons (pe_lst (pa_cons pe_int (pa_cons pe_int (pa_cons pe_int pa_nil)))) pa_nil)) (nomark _))))))))))))))))), ?_⟩
    have z1000 : 1000 ≤ sizeLine := by rw [sizeLine_eq]; decide
    -- head
    refine ⟨fun σ H' => Same H H' ∧ ∃ (hd : Addr) (d0 d1 d2 d3 d4 : Int), H' hd = some (.lst [.int d0, .int d1, .int d2, .int d3, .int d4]) ∧ (0 ≤ d0 ∧ d0 < 7) ∧ (0 ≤ d1 ∧ d1 < 7) ∧ (0 ≤ d2 ∧ d2 < 3) ∧ (0 ≤ d3 ∧ d3 < 10 ^ (20 : Int).toNat) ∧ (0 ≤ d4 ∧ d4 < 40) ∧
      σ = [some (.ref sc), some (.ref hd), none, none, none, none, none, none, none], ?_, ?_⟩
    · refine ⟨_, rfl, sc, ns, 0, rfl, hS, fun c => ⟨_, _, rfl, rfl, ⟨by decide, by decide, by decide⟩, (by show 5 ≤ sizeLine; decide), fun z nz => ?_⟩⟩
      refine ⟨c, z, [7, 7, 3, 10 ^ (20 : Int).toNat, 40], rfl, SqL.of upd_same, by decide, by decide +kernel, fun p ds H' np dr s' hp => ?_⟩
      obtain ⟨d0, ds, rfl, b0, dr⟩ := dr.cons
      obtain ⟨d1, ds, rfl, b1, dr⟩ := dr.cons
      obtain ⟨d2, ds, rfl, b2, dr⟩ := dr.cons
      obtain ⟨d3, ds, rfl, b3, dr⟩ := dr.cons
      obtain ⟨d4, ds, rfl, b4, dr⟩ := dr.cons
      obtain rfl := dr.nil
      exact ⟨(same_upd nz).trans s', p, d0, d1, d2, d3, d4, hp, b0, b1, b2, b3, b4, rfl⟩
    rintro σ H1 ⟨s1, hd, d0, d1, d2, d3, d4, hhd, b0, b1, b2, b3, b4, rfl⟩
    have e20 : (10 : Int) ^ (20 : Int).toNat = 100000000000000000000 := by decide
    rw [e20] at b3
    -- factors
    refine ⟨fun σ H' => Same H1 H' ∧ ∃ (fa : Addr) (u v : Int), H' fa = some (.lst [.int u, .int v]) ∧ u.natAbs < 2 ^ 70 ∧ v.natAbs < 2 ^ 70 ∧ σ = [some (.ref sc), some (.ref hd), some (.ref fa), none, none, none, none, none, none], ?_, ?_⟩
    · refine ⟨_, rfl, hd, _, _, _, rfl, rfl, SqL.of hhd, rfl, _, _, rfl, rfl, _, rfl, hd, _, _, _, rfl, rfl, SqL.of hhd, rfl, _, _, rfl, rfl, (by show 3 ≤ sizeLine; decide), fun p np => ?_⟩
      have g1 := same_upd (o := .lst [.int 1, .int (d3 + 1), .int (d4 + 1)]) np
      have pick : ∃ u : Int, atI ([.int 1, .int (d3 + 1), .int (d4 + 1)] : List V) d2 = some (.int u) ∧ u.natAbs < 2 ^ 70 := by
        have : d2 = 0 ∨ d2 = 1 ∨ d2 = 2 := by omega
        rcases this with rfl | rfl | rfl
        · exact ⟨1, rfl, by decide⟩
        · exact ⟨d3 + 1, rfl, by omega⟩
        · exact ⟨d4 + 1, rfl, by omega⟩
      have pick2 : ∃ v : Int, atI ([.int 1, .int 6, .int 0] : List V) d2 = some (.int v) ∧ v.natAbs < 2 ^ 70 := by
        have : d2 = 0 ∨ d2 = 1 ∨ d2 = 2 := by omega
        rcases this with rfl | rfl | rfl
        · exact ⟨1, rfl, by decide⟩
        · exact ⟨6, rfl, by decide⟩
        · exact ⟨0, rfl, by decide⟩
      obtain ⟨u, hu, bu⟩ := pick
      obtain ⟨v, hv, bv⟩ := pick2
      refine ⟨_, rfl, hd, _, _, _, rfl, rfl, SqL.of (g1 _ _ hhd), rfl, p, _, _, _, rfl, rfl, SqL.of upd_same, hu, ?_⟩
      refine ⟨(by show 3 ≤ sizeLine; decide), fun p2 np2 => ?_⟩
      have g2 := same_upd (o := .lst [.int 1, .int 6, .int 0]) np2
      refine ⟨_, rfl, hd, _, _, _, rfl, rfl, SqL.of (g2 _ _ (g1 _ _ hhd)), rfl, p2, _, _, _, rfl, rfl, SqL.of upd_same, hv, ?_⟩
      refine ⟨(by show 2 ≤ sizeLine; decide), fun fa nfa => ?_⟩
      exact ⟨(g1.trans g2).trans (same_upd nfa), fa, u, v, upd_same, bu, bv, rfl⟩
    rintro σ H2 ⟨s2, fa, u, v, hfa, bu, bv, rfl⟩
    have hhd := s2 _ _ hhd
    have hS2 := (s1.trans s2).seq hS
    -- a row
    have rowb : ∀ {n1 : List Int} {t : Int}, (∀ z ∈ n1, -30 ≤ z ∧ z ≤ 30) → t.natAbs < 2 ^ 70 → Bd 75 (n1.map fun z => z * t) := fun h ht z hz => by
      obtain ⟨y, hy, rfl⟩ := List.mem_map.mp hz
      have := h y hy
      exact wide_lt (a := 5) (b := 70) (by omega) ht
    -- first
    refine ⟨fun σ H' => Same H2 H' ∧ ∃ (a1 : Addr) (L1 : List Int) (x4 : Option V), H' a1 = some (.lst (L1.map V.int)) ∧ L1.length ≤ 20 ∧ Bd 75 L1 ∧ σ = [some (.ref sc), some (.ref hd), some (.ref fa), some (.ref a1), x4, none, none, none, none], ?_, ?_⟩
    · refine ⟨_, rfl, sc, ns, 1, rfl, hS2, fun c => ⟨_, rfl, hd, _, _, _, rfl, rfl, SqL.of hhd, rfl, c, d0.toNat, 30, by rw [Int.toNat_of_nonneg b0.1] <;> rfl, by omega, by decide, by decide, fun p n1 H3 np len bd s3 hp => ?_⟩⟩
      refine ⟨p, rfl, ⟨_, SqL.of hp⟩, fun D nD => lcMap walk_list ((n1.map fun z => z * u).map V.int) (by rw [List.length_map, List.length_map, List.length_map]) nD (fun H s => SqL.of (s _ _ hp)) ?_ ?_⟩
      · rintro i x H4 _ hi s4 hL ⟨rfl, hx⟩
        obtain ⟨z, rfl, hz⟩ := item_int hx
        have bz := bd z (List.mem_of_getElem? hz)
        refine ⟨rfl, _, rfl, _, rfl, fa, _, _, _, rfl, rfl, SqL.of (s4 _ _ (s3 _ _ hfa)), rfl, _, _, rfl, rfl, .inl ⟨by omega, by omega⟩, ?_⟩
        exact mapEnd nD (by rw [List.length_map, List.length_map]; omega) s4 hL (map_at (f := V.int) (by rw [List.getElem?_map, hz] <;> rfl))
      · intro H4 s4 hL
        exact ⟨s3.trans s4, D, _, _, hL, by rw [List.length_map]; omega, rowb bd bu, rfl⟩
    rintro σ H3 ⟨s3, a1, L1, x4, h1, len1, bd1, rfl⟩
    have hhd := s3 _ _ hhd
    have hfa := s3 _ _ hfa
    have hS3 := s3.seq hS2
    -- second
    refine ⟨fun σ H' => Same H3 H' ∧ ∃ (a2 : Addr) (L2 : List Int) (x4 : Option V), H' a2 = some (.lst (L2.map V.int)) ∧ L2.length ≤ 20 ∧ Bd 75 L2 ∧ σ = [some (.ref sc), some (.ref hd), some (.ref fa), some (.ref a1), x4, some (.ref a2), none, none, none], ?_, ?_⟩
    · refine ⟨_, rfl, sc, ns, 2, rfl, hS3, fun c => ⟨_, rfl, hd, _, _, _, rfl, rfl, SqL.of hhd, rfl, c, d1.toNat, 30, by rw [Int.toNat_of_nonneg b1.1] <;> rfl, by omega, by decide, by decide, fun p n1 H4 np len bd s4 hp => ?_⟩⟩
      refine ⟨p, rfl, ⟨_, SqL.of hp⟩, fun D nD => lcMap walk_list ((n1.map fun z => z * v).map V.int) (by rw [List.length_map, List.length_map, List.length_map]) nD (fun H s => SqL.of (s _ _ hp)) ?_ ?_⟩
      · rintro i x H5 _ hi s5 hL ⟨rfl, hx⟩
        obtain ⟨z, rfl, hz⟩ := item_int hx
        have bz := bd z (List.mem_of_getElem? hz)
        refine ⟨rfl, _, rfl, _, rfl, fa, _, _, _, rfl, rfl, SqL.of (s5 _ _ (s4 _ _ hfa)), rfl, _, _, rfl, rfl, .inl ⟨by omega, by omega⟩, ?_⟩
        exact mapEnd nD (by rw [List.length_map, List.length_map]; omega) s5 hL (map_at (f := V.int) (by rw [List.getElem?_map, hz] <;> rfl))
      · intro H5 s5 hL
        exact ⟨s4.trans s5, D, _, _, hL, by rw [List.length_map]; omega, rowb bd bv, rfl⟩
    rintro σ H4 ⟨s4, a2, L2, x4, h2, len2, bd2, rfl⟩
    have h1 := s4 _ _ h1
    -- one, two
    refine ⟨fun σ H' => Same H4 H' ∧ ∃ o1, PolyAt K C H' o1 (trim L1) ∧ σ = [some (.ref sc), some (.ref hd), some (.ref fa), some (.ref a1), x4, some (.ref a2), some (.ref o1), none, none], ?_, ?_⟩
    · exact ⟨_, rfl, fun o1 dx nx ndx _ => make_poA (tup := false) (ns := L1) nx ndx (SqL.of h1) (by omega) fun H' po s' => ⟨rfl, s', o1, po, rfl⟩⟩
    rintro σ H5 ⟨s5, o1, po1, rfl⟩
    have h1 := s5 _ _ h1
    have h2 := s5 _ _ h2
    refine ⟨fun σ H' => Same H5 H' ∧ ∃ o2, PolyAt K C H' o2 (trim L2) ∧ σ = [some (.ref sc), some (.ref hd), some (.ref fa), some (.ref a1), x4, some (.ref a2), some (.ref o1), some (.ref o2), none], ?_, ?_⟩
    · exact ⟨_, rfl, fun o2 dx nx ndx _ => make_poA (tup := false) (ns := L2) nx ndx (SqL.of h2) (by omega) fun H' po s' => ⟨rfl, s', o2, po, rfl⟩⟩
    rintro σ H6 ⟨s6, o2, po2, rfl⟩
    have po1 := po1.same s6
    have h1 := s6 _ _ h1
    have h2 := s6 _ _ h2
    refine ⟨fun σ H' => Same H6 H' ∧ σ = [some (.ref sc), some (.ref hd), some (.ref fa), some (.ref a1), x4, some (.ref a2), some (.ref o1), some (.ref o2), none], ?_, ?_⟩
    · refine ⟨_, rfl, _, rfl, o1, a1, L1, rfl, po1, SqL.of h1, by omega, bd1.mono (by decide), fun H7 s7 => ⟨_, rfl, iteF ?_⟩⟩
      exact ⟨_, rfl, _, rfl, o2, a2, L2, rfl, po2.same s7, SqL.of (s7 _ _ h2), by omega, bd2.mono (by decide), fun H8 s8 => ⟨_, rfl, if_neg_of rfl ⟨s7.trans s8, rfl⟩⟩⟩
    rintro σ H7 ⟨s7, rfl⟩
    have po1 := po1.same s7
    have po2 := po2.same s7
    have h1 := s7 _ _ h1
    have bl := bd1.trim
    have bm := bd2.trim
    have fl : (trim L1).length ≤ 20 := Nat.le_trans (trim_few L1) len1
    have fm : (trim L2).length ≤ 20 := Nat.le_trans (trim_few L2) len2
    have tl := trim_trim L1
    have tm := trim_trim L2
    -- both
    refine ⟨fun σ H' => Same H7 H' ∧ ∃ o3, PolyAt K C H' o3 (pmul (trim L1) (trim L2)) ∧ σ = [some (.ref sc), some (.ref hd), some (.ref fa), some (.ref a1), x4, some (.ref a2), some (.ref o1), some (.ref o2), some (.ref o3)], ?_, ?_⟩
    · exact ⟨_, rfl, _, rfl, useP2 po1 po2 ⟨o1, o2, _, _, rfl, po1, po2, by omega, bl.wide bm (by decide) (by decide) (by decide), fun o3 H8 po3 s8 => ⟨s8, o3, po3, rfl⟩⟩⟩
    rintro σ H8 ⟨s8, o3, po3, rfl⟩
    have po1 := po1.same s8
    have po2 := po2.same s8
    have h1 := s8 _ _ h1
    obtain ⟨dx, t, u1, u2⟩ := po1.ob
    obtain ⟨dy, t', v1, v2⟩ := po2.ob
    obtain ⟨dz, t'', w1, w2⟩ := po3.ob
    refine ⟨fun σ H' => H8 = H' ∧ σ = [some (.ref sc), some (.ref hd), some (.ref fa), some (.ref a1), x4, some (.ref a2), some (.ref o1), some (.ref o2), some (.ref o3)], ?_, ?_⟩
    · refine ⟨_, rfl, o3, dz, _, rfl, w1, pyF_no _ (by decide +kernel), o3, _, rfl, po3, _, rfl, o1, dx, _, rfl, u1, pyF_no _ (by decide +kernel), o1, _, rfl, po1, _, rfl, o2, dy, _, rfl, v1, pyF_no _ (by decide +kernel), o2, _, rfl, po2, ?_⟩
      refine ⟨_, _, rfl, rfl, wide_mul (a := 75) (b := 75) (by rw [Int.natAbs_natCast]; exact cont_lt tl bl) (by rw [Int.natAbs_natCast]; exact cont_lt tm bm) (by decide) (by decide) (by decide), rfl, _, rfl, ?_⟩
      rw [gauss, Int.natCast_mul]
      exact if_neg_of (by simp) ⟨rfl, rfl⟩
    rintro σ _ ⟨rfl, rfl⟩
    refine ⟨fun σ H' => Same H8 H' ∧ σ = [some (.ref sc), some (.ref hd), some (.ref fa), some (.ref a1), x4, some (.ref a2), some (.ref o1), some (.ref o2), some (.ref o3)], ?_, ?_⟩
    · refine ⟨_, rfl, o3, dz, _, rfl, w1, pyF_no _ (by decide +kernel), o3, _, rfl, po3, fun q1 H9 pq1 s9 => ?_⟩
      refine ⟨_, rfl, o1, dx, _, rfl, s9 _ _ u1, pyF_no _ (by decide +kernel), o1, _, rfl, po1.same s9, fun q2 H10 pq2 s10 => ?_⟩
      have dl : ∀ {l : List Int} {b : Nat}, Bd b l → l.length ≤ 20 → Bd (b + 5) (pdrv l) ∧ (pdrv l).length ≤ 20 := fun {l b} h hl => by
        constructor
        · refine Bd.trim (fun z hz => ?_)
          obtain ⟨k, hk, rfl⟩ := List.mem_map.mp hz
          have hk := List.mem_range.mp hk
          rw [Nat.add_comm b 5]
          exact wide_lt (a := 5) (by omega) (h.get (k + 1))
        · refine Nat.le_trans (trim_few _) ?_
          rw [rngN_len]
          omega
      obtain ⟨bdl, fdl⟩ := dl bl fl
      obtain ⟨bdm, fdm⟩ := dl bm fm
      have s910 := s9.trans s10
      refine ⟨_, rfl, useP2 pq2 (po2.same s910) ⟨q2, o2, _, _, rfl, pq2, po2.same s910, by omega, bdl.wide bm (by decide) (by decide) (by decide), fun q3 H11 pq3 s11 => ?_⟩⟩
      have s11' := s910.trans s11
      refine ⟨_, rfl, _, rfl, o2, dy, _, rfl, s11' _ _ v1, pyF_no _ (by decide +kernel), o2, _, rfl, po2.same s11', fun q4 H12 pq4 s12 => ?_⟩
      have s12' := s11'.trans s12
      refine useP2 (po1.same s12') pq4 ⟨o1, q4, _, _, rfl, po1.same s12', pq4, by omega, bl.wide bdm (by decide) (by decide) (by decide), fun q5 H13 pq5 s13 => ?_⟩
      have pq3' := (pq3.same s12).same s13
      refine useP2 pq3' pq5 ⟨q3, q5, _, _, rfl, pq3', pq5, fun q6 H14 pq6 s14 => ?_⟩
      rw [← pdrv_mul] at pq6
      have sAll := (s12'.trans s13).trans s14
      exact useEqP (((((pq1.same s10).same s11).same s12).same s13).same s14) pq6 ⟨_, rfl, if_neg_of (by simp) ⟨sAll, rfl⟩⟩
    rintro σ H9 ⟨s9, rfl⟩
    -- the end
    refine ⟨_, rfl, _, rfl, o1, a1, L1, rfl, po1.same s9, SqL.of (s9 _ _ h1), by omega, bd1.mono (by decide), fun H10 s10 => ⟨_, rfl, if_pos_of rfl ?_⟩⟩
    refine ⟨(by show 0 ≤ sizeLine; decide), fun b nb => ?_⟩
    refine fun p2 dq nx ndq _ => make_poA (tup := false) (ns := []) nx ndq (SqL.of upd_same) (by decide) fun H11 pp2 s11 => ⟨rfl, ?_⟩
    obtain ⟨dx2, t2, z1, z2⟩ := pp2.ob
    refine ⟨p2, dx2, _, rfl, z1, pyF_no _ (by decide +kernel), p2, _, rfl, pp2, rfl, _, rfl, if_pos_of rfl ?_⟩
    refine ⟨(by show 3 ≤ sizeLine; decide), fun b2 nb2 => ?_⟩
    refine fun p3 dq nx ndq _ => make_poA (tup := false) (ns := [0, 0, 5]) nx ndq (SqL.of upd_same) (by decide) fun H12 pp3 s12 => ⟨rfl, ?_⟩
    obtain ⟨dx3, t3, y1, y2⟩ := pp3.ob
    refine ⟨p3, dx3, _, rfl, y1, pyF_no _ (by decide +kernel), p3, _, rfl, pp3, by unfold Bd; decide +kernel, fun p4 H13 pp4 s13 => ?_⟩
    refine ⟨(by show 3 ≤ sizeLine; decide), fun b3 nb3 => ?_⟩
    refine fun p5 dq nx ndq _ => make_poA (tup := false) (ns := [0, 0, 1]) nx ndq (SqL.of upd_same) (by decide) fun H14 pp5 s14 => ⟨rfl, ?_⟩
    refine useEqP ((pp4.same (same_upd nb3)).same s14) pp5 ?_
    have z := q H14
    rw [← decide_eq_true (show pprim (trim [0, 0, 5]) = trim [0, 0, 1] by decide +kernel)] at z
    exact z
end
theorem all_mk {P : Program} {w : World} {K : PySem.W.Frag} {h : Heap} {mg : Str → Option Value} {fa : Addr} (X : K.In h) (G : h.Ns mainGlobals mg) (hfa : mg "law" = some (.ref fa))
    {f_padded : Addr} {od_padded an_padded : Option Addr} {sl_padded : Array (Option Value)} {oc_padded kV_padded dc_padded pm_padded cd_padded ct_padded : Value}
    {f_pitem : Addr} {od_pitem an_pitem : Option Addr} {sl_pitem : Array (Option Value)} {oc_pitem kV_pitem dc_pitem pm_pitem cd_pitem ct_pitem : Value}
    {f_common : Addr} {od_common an_common : Option Addr} {sl_common : Array (Option Value)} {oc_common kV_common dc_common pm_common cd_common ct_common : Value}
    {f_comof : Addr} {od_comof an_comof : Option Addr} {sl_comof : Array (Option Value)} {oc_comof kV_comof dc_comof pm_comof cd_comof ct_comof : Value}
    {f_cell : Addr} {od_cell an_cell : Option Addr} {sl_cell : Array (Option Value)} {oc_cell kV_cell dc_cell pm_cell cd_cell ct_cell : Value}
    {f_draws : Addr} {od_draws an_draws : Option Addr} {sl_draws : Array (Option Value)} {oc_draws kV_draws dc_draws pm_draws cd_draws ct_draws : Value}
    {f_lisint : Addr} {od_lisint an_lisint : Option Addr} {sl_lisint : Array (Option Value)} {oc_lisint kV_lisint dc_lisint pm_lisint cd_lisint ct_lisint : Value}
    {f_lplain : Addr} {od_lplain an_lplain : Option Addr} {sl_lplain : Array (Option Value)} {oc_lplain kV_lplain dc_lplain pm_lplain cd_lplain ct_lplain : Value}
    {f_lrow : Addr} {od_lrow an_lrow : Option Addr} {sl_lrow : Array (Option Value)} {oc_lrow kV_lrow dc_lrow pm_lrow cd_lrow ct_lrow : Value}
    {f_lcom : Addr} {od_lcom an_lcom : Option Addr} {sl_lcom : Array (Option Value)} {oc_lcom kV_lcom dc_lcom pm_lcom cd_lcom ct_lcom : Value}
    {f_lright : Addr} {od_lright an_lright : Option Addr} {sl_lright : Array (Option Value)} {oc_lright kV_lright dc_lright pm_lright cd_lright ct_lright : Value}
    {f_law : Addr} {od_law an_law : Option Addr} {sl_law : Array (Option Value)} {oc_law kV_law dc_law pm_law cd_law ct_law : Value}
    {C_po : Addr}
    {f_pinit : Addr} {od_pinit an_pinit : Option Addr} {sl_pinit : Array (Option Value)} {oc_pinit kV_pinit dc_pinit pm_pinit cd_pinit ct_pinit : Value}
    {f_pdeg : Addr} {od_pdeg an_pdeg : Option Addr} {sl_pdeg : Array (Option Value)} {oc_pdeg kV_pdeg dc_pdeg pm_pdeg cd_pdeg ct_pdeg : Value}
    {f_pcont : Addr} {od_pcont an_pcont : Option Addr} {sl_pcont : Array (Option Value)} {oc_pcont kV_pcont dc_pcont pm_pcont cd_pcont ct_pcont : Value}
    {f_pprm : Addr} {od_pprm an_pprm : Option Addr} {sl_pprm : Array (Option Value)} {oc_pprm kV_pprm dc_pprm pm_pprm cd_pprm ct_pprm : Value}
    {f_pder : Addr} {od_pder an_pder : Option Addr} {sl_pder : Array (Option Value)} {oc_pder kV_pder dc_pder pm_pder cd_pder ct_pder : Value}
    {f_peq : Addr} {od_peq an_peq : Option Addr} {sl_peq : Array (Option Value)} {oc_peq kV_peq dc_peq pm_peq cd_peq ct_peq : Value}
    {f_padd : Addr} {od_padd an_padd : Option Addr} {sl_padd : Array (Option Value)} {oc_padd kV_padd dc_padd pm_padd cd_padd ct_padd : Value}
    {f_pmulm : Addr} {od_pmulm an_pmulm : Option Addr} {sl_pmulm : Array (Option Value)} {oc_pmulm kV_pmulm dc_pmulm pm_pmulm cd_pmulm ct_pmulm : Value}
    {f_pwhole : Addr} {od_pwhole an_pwhole : Option Addr} {sl_pwhole : Array (Option Value)} {oc_pwhole kV_pwhole dc_pwhole pm_pwhole cd_pwhole ct_pwhole : Value}
    {p_pwhole : Addr} {r_pwhole : List Value}
    (a_padded : PySem.W.nsIn K mainGlobals "padded" = some (some (.ref f_padded))) (l_padded : K.lookup f_padded = some ⟨oc_padded, od_padded, .func (PySem.W.fnOf "padded" "padded" (defArgs s_padded) (defBody s_padded) (defScope s_padded) .none kV_padded dc_padded pm_padded an_padded cd_padded ct_padded), sl_padded⟩) (c_padded : PySem.W.codeIn K cd_padded "padded" = true) (k_padded : PySem.W.keepIn K (.ref f_padded) = true)
    (a_pitem : PySem.W.nsIn K mainGlobals "_product_item" = some (some (.ref f_pitem))) (l_pitem : K.lookup f_pitem = some ⟨oc_pitem, od_pitem, .func (PySem.W.fnOf "_product_item" "_product_item" (defArgs s_pitem) (defBody s_pitem) (defScope s_pitem) .none kV_pitem dc_pitem pm_pitem an_pitem cd_pitem ct_pitem), sl_pitem⟩) (c_pitem : PySem.W.codeIn K cd_pitem "_product_item" = true) (k_pitem : PySem.W.keepIn K (.ref f_pitem) = true)
    (a_common : PySem.W.nsIn K mainGlobals "common" = some (some (.ref f_common))) (l_common : K.lookup f_common = some ⟨oc_common, od_common, .func (PySem.W.fnOf "common" "common" (defArgs s_common) (defBody s_common) (defScope s_common) .none kV_common dc_common pm_common an_common cd_common ct_common), sl_common⟩) (c_common : PySem.W.codeIn K cd_common "common" = true) (k_common : PySem.W.keepIn K (.ref f_common) = true)
    (a_comof : PySem.W.nsIn K mainGlobals "common_of" = some (some (.ref f_comof))) (l_comof : K.lookup f_comof = some ⟨oc_comof, od_comof, .func (PySem.W.fnOf "common_of" "common_of" (defArgs s_comof) (defBody s_comof) (defScope s_comof) .none kV_comof dc_comof pm_comof an_comof cd_comof ct_comof), sl_comof⟩) (c_comof : PySem.W.codeIn K cd_comof "common_of" = true) (k_comof : PySem.W.keepIn K (.ref f_comof) = true)
    (a_cell : PySem.W.nsIn K mainGlobals "_law_cell" = some (some (.ref f_cell))) (l_cell : K.lookup f_cell = some ⟨oc_cell, od_cell, .func (PySem.W.fnOf "_law_cell" "_law_cell" (defArgs s_cell) (defBody s_cell) (defScope s_cell) .none kV_cell dc_cell pm_cell an_cell cd_cell ct_cell), sl_cell⟩) (c_cell : PySem.W.codeIn K cd_cell "_law_cell" = true) (k_cell : PySem.W.keepIn K (.ref f_cell) = true)
    (a_draws : PySem.W.nsIn K mainGlobals "_law_draws" = some (some (.ref f_draws))) (l_draws : K.lookup f_draws = some ⟨oc_draws, od_draws, .func (PySem.W.fnOf "_law_draws" "_law_draws" (defArgs s_draws) (defBody s_draws) (defScope s_draws) .none kV_draws dc_draws pm_draws an_draws cd_draws ct_draws), sl_draws⟩) (c_draws : PySem.W.codeIn K cd_draws "_law_draws" = true) (k_draws : PySem.W.keepIn K (.ref f_draws) = true)
    (a_lisint : PySem.W.nsIn K mainGlobals "_law_is_integer" = some (some (.ref f_lisint))) (l_lisint : K.lookup f_lisint = some ⟨oc_lisint, od_lisint, .func (PySem.W.fnOf "_law_is_integer" "_law_is_integer" (defArgs s_lisint) (defBody s_lisint) (defScope s_lisint) .none kV_lisint dc_lisint pm_lisint an_lisint cd_lisint ct_lisint), sl_lisint⟩) (c_lisint : PySem.W.codeIn K cd_lisint "_law_is_integer" = true) (k_lisint : PySem.W.keepIn K (.ref f_lisint) = true)
    (a_lplain : PySem.W.nsIn K mainGlobals "_law_plain" = some (some (.ref f_lplain))) (l_lplain : K.lookup f_lplain = some ⟨oc_lplain, od_lplain, .func (PySem.W.fnOf "_law_plain" "_law_plain" (defArgs s_lplain) (defBody s_lplain) (defScope s_lplain) .none kV_lplain dc_lplain pm_lplain an_lplain cd_lplain ct_lplain), sl_lplain⟩) (c_lplain : PySem.W.codeIn K cd_lplain "_law_plain" = true) (k_lplain : PySem.W.keepIn K (.ref f_lplain) = true)
    (a_lrow : PySem.W.nsIn K mainGlobals "_law_row" = some (some (.ref f_lrow))) (l_lrow : K.lookup f_lrow = some ⟨oc_lrow, od_lrow, .func (PySem.W.fnOf "_law_row" "_law_row" (defArgs s_lrow) (defBody s_lrow) (defScope s_lrow) .none kV_lrow dc_lrow pm_lrow an_lrow cd_lrow ct_lrow), sl_lrow⟩) (c_lrow : PySem.W.codeIn K cd_lrow "_law_row" = true) (k_lrow : PySem.W.keepIn K (.ref f_lrow) = true)
    (a_lcom : PySem.W.nsIn K mainGlobals "_law_common" = some (some (.ref f_lcom))) (l_lcom : K.lookup f_lcom = some ⟨oc_lcom, od_lcom, .func (PySem.W.fnOf "_law_common" "_law_common" (defArgs s_lcom) (defBody s_lcom) (defScope s_lcom) .none kV_lcom dc_lcom pm_lcom an_lcom cd_lcom ct_lcom), sl_lcom⟩) (c_lcom : PySem.W.codeIn K cd_lcom "_law_common" = true) (k_lcom : PySem.W.keepIn K (.ref f_lcom) = true)
    (a_lright : PySem.W.nsIn K mainGlobals "_law_right" = some (some (.ref f_lright))) (l_lright : K.lookup f_lright = some ⟨oc_lright, od_lright, .func (PySem.W.fnOf "_law_right" "_law_right" (defArgs s_lright) (defBody s_lright) (defScope s_lright) .none kV_lright dc_lright pm_lright an_lright cd_lright ct_lright), sl_lright⟩) (c_lright : PySem.W.codeIn K cd_lright "_law_right" = true) (k_lright : PySem.W.keepIn K (.ref f_lright) = true)
    (a_law : PySem.W.nsIn K mainGlobals "law" = some (some (.ref f_law))) (l_law : K.lookup f_law = some ⟨oc_law, od_law, .func (PySem.W.fnOf "law" "law" (defArgs s_law) (defBody s_law) (defScope s_law) .none kV_law dc_law pm_law an_law cd_law ct_law), sl_law⟩) (c_law : PySem.W.codeIn K cd_law "law" = true) (k_law : PySem.W.keepIn K (.ref f_law) = true)
    (K_aK : PySem.W.nsIn K mainGlobals "Poly" = some (some (.ref C_po)))
    (K_pg : PySem.W.plainGet K C_po Str.empty = true)
    (K_hd : PySem.W.hasDictIn K C_po = true)
    (K_po : PySem.W.plainOver K C_po = true)
    (K_sa : PySem.W.findIn K (.ref C_po) "__setattr__" = some (some (.builtin "object.__setattr__")))
    (K_sf : PySem.W.selfFirst K C_po = true)
    (K_ha : PySem.W.findIn K (.ref C_po) "__class__" = some (some (.builtin "object.__class__")))
    (K_hn : PySem.W.specialIn K (.builtin "object.__class__") "__get__" = some (some (.builtin "getset_descriptor.__get__")))
    (K_htk : PySem.W.takesIn K (.builtin "object.__class__") = some true)
    (K_hm : PySem.W.mroIn K C_po (.type "object") = some true)
    (K_mk : PySem.W.makesIn K C_po = true)
    (K_kp : PySem.W.keepIn K (.ref C_po) = true)
    (K_no_coefficients : PySem.W.findIn K (.ref C_po) "coefficients" = some none)
    (K_rd : PySem.W.readsIn K C_po (.type "type") = true)
    (K_sg : PySem.W.specialIn K (.ref C_po) "__getattribute__" = some (some (.builtin "type.__getattribute__")))
    (K_at_pinit : PySem.W.findIn K (.ref C_po) "__init__" = some (some (.ref f_pinit)))
    (K_fn_pinit : PySem.W.isFn K (.ref f_pinit) = true)
    (K_l_pinit : K.lookup f_pinit = some ⟨oc_pinit, od_pinit, .func (PySem.W.fnOf "__init__" "Poly.__init__" (defArgs s_pinit) (defBody s_pinit) (defScope s_pinit) .none kV_pinit dc_pinit pm_pinit an_pinit cd_pinit ct_pinit), sl_pinit⟩)
    (K_c_pinit : PySem.W.codeIn K cd_pinit "Poly.__init__" = true)
    (K_k_pinit : PySem.W.keepIn K (.ref f_pinit) = true)
    (K_at_pdeg : PySem.W.findIn K (.ref C_po) "degree" = some (some (.ref f_pdeg)))
    (K_fn_pdeg : PySem.W.isFn K (.ref f_pdeg) = true)
    (K_l_pdeg : K.lookup f_pdeg = some ⟨oc_pdeg, od_pdeg, .func (PySem.W.fnOf "degree" "Poly.degree" (defArgs s_pdeg) (defBody s_pdeg) (defScope s_pdeg) .none kV_pdeg dc_pdeg pm_pdeg an_pdeg cd_pdeg ct_pdeg), sl_pdeg⟩)
    (K_c_pdeg : PySem.W.codeIn K cd_pdeg "Poly.degree" = true)
    (K_k_pdeg : PySem.W.keepIn K (.ref f_pdeg) = true)
    (K_at_pcont : PySem.W.findIn K (.ref C_po) "content" = some (some (.ref f_pcont)))
    (K_fn_pcont : PySem.W.isFn K (.ref f_pcont) = true)
    (K_l_pcont : K.lookup f_pcont = some ⟨oc_pcont, od_pcont, .func (PySem.W.fnOf "content" "Poly.content" (defArgs s_pcont) (defBody s_pcont) (defScope s_pcont) .none kV_pcont dc_pcont pm_pcont an_pcont cd_pcont ct_pcont), sl_pcont⟩)
    (K_c_pcont : PySem.W.codeIn K cd_pcont "Poly.content" = true)
    (K_k_pcont : PySem.W.keepIn K (.ref f_pcont) = true)
    (K_at_pprm : PySem.W.findIn K (.ref C_po) "primitive" = some (some (.ref f_pprm)))
    (K_fn_pprm : PySem.W.isFn K (.ref f_pprm) = true)
    (K_l_pprm : K.lookup f_pprm = some ⟨oc_pprm, od_pprm, .func (PySem.W.fnOf "primitive" "Poly.primitive" (defArgs s_pprm) (defBody s_pprm) (defScope s_pprm) .none kV_pprm dc_pprm pm_pprm an_pprm cd_pprm ct_pprm), sl_pprm⟩)
    (K_c_pprm : PySem.W.codeIn K cd_pprm "Poly.primitive" = true)
    (K_k_pprm : PySem.W.keepIn K (.ref f_pprm) = true)
    (K_at_pder : PySem.W.findIn K (.ref C_po) "derivative" = some (some (.ref f_pder)))
    (K_fn_pder : PySem.W.isFn K (.ref f_pder) = true)
    (K_l_pder : K.lookup f_pder = some ⟨oc_pder, od_pder, .func (PySem.W.fnOf "derivative" "Poly.derivative" (defArgs s_pder) (defBody s_pder) (defScope s_pder) .none kV_pder dc_pder pm_pder an_pder cd_pder ct_pder), sl_pder⟩)
    (K_c_pder : PySem.W.codeIn K cd_pder "Poly.derivative" = true)
    (K_k_pder : PySem.W.keepIn K (.ref f_pder) = true)
    (K_at_peq : PySem.W.findIn K (.ref C_po) "__eq__" = some (some (.ref f_peq)))
    (K_fn_peq : PySem.W.isFn K (.ref f_peq) = true)
    (K_l_peq : K.lookup f_peq = some ⟨oc_peq, od_peq, .func (PySem.W.fnOf "__eq__" "Poly.__eq__" (defArgs s_peq) (defBody s_peq) (defScope s_peq) .none kV_peq dc_peq pm_peq an_peq cd_peq ct_peq), sl_peq⟩)
    (K_c_peq : PySem.W.codeIn K cd_peq "Poly.__eq__" = true)
    (K_k_peq : PySem.W.keepIn K (.ref f_peq) = true)
    (K_at_padd : PySem.W.findIn K (.ref C_po) "__add__" = some (some (.ref f_padd)))
    (K_fn_padd : PySem.W.isFn K (.ref f_padd) = true)
    (K_l_padd : K.lookup f_padd = some ⟨oc_padd, od_padd, .func (PySem.W.fnOf "__add__" "Poly.__add__" (defArgs s_padd) (defBody s_padd) (defScope s_padd) .none kV_padd dc_padd pm_padd an_padd cd_padd ct_padd), sl_padd⟩)
    (K_c_padd : PySem.W.codeIn K cd_padd "Poly.__add__" = true)
    (K_k_padd : PySem.W.keepIn K (.ref f_padd) = true)
    (K_at_pmulm : PySem.W.findIn K (.ref C_po) "__mul__" = some (some (.ref f_pmulm)))
    (K_fn_pmulm : PySem.W.isFn K (.ref f_pmulm) = true)
    (K_l_pmulm : K.lookup f_pmulm = some ⟨oc_pmulm, od_pmulm, .func (PySem.W.fnOf "__mul__" "Poly.__mul__" (defArgs s_pmulm) (defBody s_pmulm) (defScope s_pmulm) .none kV_pmulm dc_pmulm pm_pmulm an_pmulm cd_pmulm ct_pmulm), sl_pmulm⟩)
    (K_c_pmulm : PySem.W.codeIn K cd_pmulm "Poly.__mul__" = true)
    (K_k_pmulm : PySem.W.keepIn K (.ref f_pmulm) = true)
    (K_at_pwhole : PySem.W.findCls K (.ref C_po) (.type "type") "whole" = some (.get (.builtin "classmethod.__get__") (.ref p_pwhole) .none (.ref C_po)))
    (K_rc_pwhole : PySem.W.recIn K p_pwhole "classmethod" = some (.ref f_pwhole :: r_pwhole))
    (K_fi_pwhole : PySem.W.fnIn K f_pwhole = true)
    (K_l_pwhole : K.lookup f_pwhole = some ⟨oc_pwhole, od_pwhole, .func (PySem.W.fnOf "whole" "Poly.whole" (defArgs s_pwhole) (defBody s_pwhole) (defScope s_pwhole) .none kV_pwhole dc_pwhole pm_pwhole an_pwhole cd_pwhole ct_pwhole), sl_pwhole⟩)
    (K_c_pwhole : PySem.W.codeIn K cd_pwhole "Poly.whole" = true)
    (K_k_pwhole : PySem.W.keepIn K (.ref f_pwhole) = true)
    (z_int : PySem.W.nsIn K mainGlobals "int" = some none)
    (z_len : PySem.W.nsIn K mainGlobals "len" = some none)
    (z_abs : PySem.W.nsIn K mainGlobals "abs" = some none)
    (z_isinstance : PySem.W.nsIn K mainGlobals "isinstance" = some none)
    (z_bool : PySem.W.nsIn K mainGlobals "bool" = some none)
    (z_tuple : PySem.W.nsIn K mainGlobals "tuple" = some none)
    (z_list : PySem.W.nsIn K mainGlobals "list" = some none)
    (z_str : PySem.W.nsIn K mainGlobals "str" = some none)
    (z_range : PySem.W.nsIn K mainGlobals "range" = some none)
    (z_max : PySem.W.nsIn K mainGlobals "max" = some none)
    (z_min : PySem.W.nsIn K mainGlobals "min" = some none)
    (z_sorted : PySem.W.nsIn K mainGlobals "sorted" = some none)
    (z_set : PySem.W.nsIn K mainGlobals "set" = some none)
    (z_zip : PySem.W.nsIn K mainGlobals "zip" = some none)
    (z_sum : PySem.W.nsIn K mainGlobals "sum" = some none)
    (z_enumerate : PySem.W.nsIn K mainGlobals "enumerate" = some none)
    (g_gcd : PySem.W.nsIn K mainGlobals "gcd" = some (some (.builtin "math.gcd"))) :
    ∃ fd : FuncData, (∀ (s : Shared) (v : Value), BindsTo s fd ⟨[v], []⟩ [("_law_script", v)]) ∧ ∀ base : Heap, K.In base → base.Ns mainGlobals mg → FnOk P w K mg base CX0 7 fa fd ["_law_script"] (spLaw K) := by
  have e := hfa.symm.trans (PySem.W.mg_of X G a_law)
  cases e
  have T : Txt mg := ⟨PySem.W.mg_none_of X G z_int, PySem.W.mg_none_of X G z_len, PySem.W.mg_none_of X G z_abs, PySem.W.mg_none_of X G z_isinstance, PySem.W.mg_none_of X G z_bool, PySem.W.mg_none_of X G z_tuple, PySem.W.mg_none_of X G z_list, PySem.W.mg_none_of X G z_str, PySem.W.mg_none_of X G z_range, PySem.W.mg_none_of X G z_max, PySem.W.mg_none_of X G z_min, PySem.W.mg_none_of X G z_sorted, PySem.W.mg_none_of X G z_set⟩
  have n_zip := PySem.W.mg_none_of X G z_zip
  have n_sum := PySem.W.mg_none_of X G z_sum
  have n_enumerate := PySem.W.mg_none_of X G z_enumerate
  have TC : PoT K mg C_po := ⟨PySem.W.mg_of X G K_aK, ⟨K_pg, K_hd, K_po, K_sa⟩, K_no_coefficients, K_sf, ⟨⟨K_pg, K_hd, K_po, K_sa⟩, K_ha, K_hn, K_htk, K_hm, if_pos (beq_self_eq_true _)⟩⟩
  have F_pinit := fun_mk (st := s_pinit) K_l_pinit K_c_pinit K_k_pinit
  have b_pinit := F_pinit.binds (ps := ["self", "coefficients"]) fun _ _ _ _ _ _ us hl => match us, hl with | [_, _], _ => rfl
  have F_pdeg := fun_mk (st := s_pdeg) K_l_pdeg K_c_pdeg K_k_pdeg
  have b_pdeg := F_pdeg.binds (ps := ["self"]) fun _ _ _ _ _ _ us hl => match us, hl with | [_], _ => rfl
  have M_pdeg : Meth K C_po "degree" f_pdeg := ⟨K_at_pdeg, K_fn_pdeg, K_k_pdeg⟩
  have F_pcont := fun_mk (st := s_pcont) K_l_pcont K_c_pcont K_k_pcont
  have b_pcont := F_pcont.binds (ps := ["self"]) fun _ _ _ _ _ _ us hl => match us, hl with | [_], _ => rfl
  have M_pcont : Meth K C_po "content" f_pcont := ⟨K_at_pcont, K_fn_pcont, K_k_pcont⟩
  have F_pprm := fun_mk (st := s_pprm) K_l_pprm K_c_pprm K_k_pprm
  have b_pprm := F_pprm.binds (ps := ["self"]) fun _ _ _ _ _ _ us hl => match us, hl with | [_], _ => rfl
  have M_pprm : Meth K C_po "primitive" f_pprm := ⟨K_at_pprm, K_fn_pprm, K_k_pprm⟩
  have F_pder := fun_mk (st := s_pder) K_l_pder K_c_pder K_k_pder
  have b_pder := F_pder.binds (ps := ["self"]) fun _ _ _ _ _ _ us hl => match us, hl with | [_], _ => rfl
  have M_pder : Meth K C_po "derivative" f_pder := ⟨K_at_pder, K_fn_pder, K_k_pder⟩
  have F_peq := fun_mk (st := s_peq) K_l_peq K_c_peq K_k_peq
  have b_peq := F_peq.binds (ps := ["self", "other"]) fun _ _ _ _ _ _ us hl => match us, hl with | [_, _], _ => rfl
  have M_peq : Meth K C_po "__eq__" f_peq := ⟨K_at_peq, K_fn_peq, K_k_peq⟩
  have F_padd := fun_mk (st := s_padd) K_l_padd K_c_padd K_k_padd
  have b_padd := F_padd.binds (ps := ["self", "other"]) fun _ _ _ _ _ _ us hl => match us, hl with | [_, _], _ => rfl
  have M_padd : Meth K C_po "__add__" f_padd := ⟨K_at_padd, K_fn_padd, K_k_padd⟩
  have F_pmulm := fun_mk (st := s_pmulm) K_l_pmulm K_c_pmulm K_k_pmulm
  have b_pmulm := F_pmulm.binds (ps := ["self", "other"]) fun _ _ _ _ _ _ us hl => match us, hl with | [_, _], _ => rfl
  have M_pmulm : Meth K C_po "__mul__" f_pmulm := ⟨K_at_pmulm, K_fn_pmulm, K_k_pmulm⟩
  have F_pwhole := fun_mk (st := s_pwhole) K_l_pwhole K_c_pwhole K_k_pwhole
  have b_pwhole := F_pwhole.binds (ps := ["cls", "n"]) fun _ _ _ _ _ _ us hl => match us, hl with | [_, _], _ => rfl
  have M_pwhole : ClX.CMet K C_po (.type "type") "whole" p_pwhole f_pwhole := ⟨K_at_pwhole, ⟨_, K_rc_pwhole⟩, K_fi_pwhole⟩
  have CR : ClX.CRead K C_po (.type "type") := ⟨K_rd, K_sg⟩
  have F_padded := fun_mk (st := s_padded) l_padded c_padded k_padded
  have b_padded := F_padded.binds (ps := ["numbers", "size"]) fun _ _ _ _ _ _ us hl => match us, hl with | [_, _], _ => rfl
  have F_pitem := fun_mk (st := s_pitem) l_pitem c_pitem k_pitem
  have b_pitem := F_pitem.binds (ps := ["first", "second", "k"]) fun _ _ _ _ _ _ us hl => match us, hl with | [_, _, _], _ => rfl
  have F_common := fun_mk (st := s_common) l_common c_common k_common
  have b_common := F_common.binds (ps := ["a", "b"]) fun _ _ _ _ _ _ us hl => match us, hl with | [_, _], _ => rfl
  have F_comof := fun_mk (st := s_comof) l_comof c_comof k_comof
  have b_comof := F_comof.binds (ps := ["numbers"]) fun _ _ _ _ _ _ us hl => match us, hl with | [_], _ => rfl
  have F_cell := fun_mk (st := s_cell) l_cell c_cell k_cell
  have b_cell := F_cell.binds (ps := ["_law_script", "_law_k"]) fun _ _ _ _ _ _ us hl => match us, hl with | [_, _], _ => rfl
  have F_draws := fun_mk (st := s_draws) l_draws c_draws k_draws
  have b_draws := F_draws.binds (ps := ["_law_cell_here", "_law_sizes"]) fun _ _ _ _ _ _ us hl => match us, hl with | [_, _], _ => rfl
  have F_lisint := fun_mk (st := s_lisint) l_lisint c_lisint k_lisint
  have b_lisint := F_lisint.binds (ps := ["_law_actual"]) fun _ _ _ _ _ _ us hl => match us, hl with | [_], _ => rfl
  have F_lplain := fun_mk (st := s_lplain) l_lplain c_lplain k_lplain
  have b_lplain := F_lplain.binds (ps := ["_law_row_here"]) fun _ _ _ _ _ _ us hl => match us, hl with | [_], _ => rfl
  have F_lrow := fun_mk (st := s_lrow) l_lrow c_lrow k_lrow
  have b_lrow := F_lrow.binds (ps := ["_law_cell_here", "_law_many", "_law_reach"]) fun _ _ _ _ _ _ us hl => match us, hl with | [_, _, _], _ => rfl
  have F_lcom := fun_mk (st := s_lcom) l_lcom c_lcom k_lcom
  have b_lcom := F_lcom.binds (ps := ["_law_row_here"]) fun _ _ _ _ _ _ us hl => match us, hl with | [_], _ => rfl
  have F_lright := fun_mk (st := s_lright) l_lright c_lright k_lright
  have b_lright := F_lright.binds (ps := ["_law_poly", "_law_row_here"]) fun _ _ _ _ _ _ us hl => match us, hl with | [_, _], _ => rfl
  have F_law := fun_mk (st := s_law) l_law c_law k_law
  have m_gcd := PySem.W.mg_of X G g_gcd
  refine ⟨PySem.W.fnOf "law" "law" (defArgs s_law) (defBody s_law) (defScope s_law) .none kV_law dc_law pm_law an_law cd_law ct_law, fun s v => .of_eq rfl, fun base _ _ => ?_⟩
  have d_padded : Cl P w K mg base CX0 1 "padded" (spPadded K) := ⟨_, _, _, ok_padded T F_padded, PySem.W.mg_of X G a_padded, k_padded, b_padded⟩
  have d_pitem : Cl P w K mg base CX0 1 "_product_item" (spPitem K) := ⟨_, _, _, ok_pitem T n_sum F_pitem, PySem.W.mg_of X G a_pitem, k_pitem, b_pitem⟩
  have d_common : Cl P w K mg base CX0 1 "common" spCommon := ⟨_, _, _, ok_common m_gcd F_common, PySem.W.mg_of X G a_common, k_common, b_common⟩
  have d_comof : Cl P w K mg base CX0 2 "common_of" (spComof K) := ⟨_, _, _, ok_comof F_comof d_common, PySem.W.mg_of X G a_comof, k_comof, b_comof⟩
  have d_cell : Cl P w K mg base CX0 1 "_law_cell" (spCellL K) := ⟨_, _, _, ok_cell T F_cell, PySem.W.mg_of X G a_cell, k_cell, b_cell⟩
  have d_draws : Cl P w K mg base CX0 1 "_law_draws" (spDraws K) := ⟨_, _, _, ok_draws T F_draws, PySem.W.mg_of X G a_draws, k_draws, b_draws⟩
  have d_lisint : Cl P w K mg base CX0 1 "_law_is_integer" spIsInt := ⟨_, _, _, ok_lisint T F_lisint, PySem.W.mg_of X G a_lisint, k_lisint, b_lisint⟩
  have d_lplain : Cl P w K mg base CX0 1 "_law_plain" (spPlain K) := ⟨_, _, _, ok_lplain T F_lplain, PySem.W.mg_of X G a_lplain, k_lplain, b_lplain⟩
  have d_lrow : Cl P w K mg base CX0 2 "_law_row" spRow := ⟨_, _, _, ok_lrow F_lrow d_draws, PySem.W.mg_of X G a_lrow, k_lrow, b_lrow⟩
  have d_lcom : Cl P w K mg base CX0 1 "_law_common" (spLcom K) := ⟨_, _, _, ok_lcom T F_lcom, PySem.W.mg_of X G a_lcom, k_lcom, b_lcom⟩
  have c_pil : Ma P w K mg base 2 C_po (spPI C_po false K) := ⟨_, _, _, ⟨K_mk, K_at_pinit, K_fn_pinit, K_kp⟩, ok_pinit false T TC F_pinit, b_pinit⟩
  have c_pit : Ma P w K mg base 2 C_po (spPI C_po true K) := ⟨_, _, _, ⟨K_mk, K_at_pinit, K_fn_pinit, K_kp⟩, ok_pinit true T TC F_pinit, b_pinit⟩
  have c_whole : Cm P w K mg base 4 C_po "whole" (spPwhole C_po K) := ⟨_, _, _, _, _, CR, M_pwhole, ok_pwhole TC F_pwhole c_pil, b_pwhole⟩
  have c_deg : Me P w K mg base 1 C_po "degree" (spPdeg C_po K) := ⟨_, _, _, M_pdeg, ok_pdeg T TC F_pdeg, b_pdeg⟩
  have c_cont : Me P w K mg base 3 C_po "content" (spPcont C_po K) := ⟨_, _, _, M_pcont, ok_pcont TC F_pcont d_comof, b_pcont⟩
  have c_prm : Me P w K mg base 4 C_po "primitive" (spPprm C_po K) := ⟨_, _, _, M_pprm, ok_pprm TC F_pprm c_pil c_cont, b_pprm⟩
  have c_der : Me P w K mg base 4 C_po "derivative" (spPder C_po K) := ⟨_, _, _, M_pder, ok_pder n_enumerate TC F_pder c_pil, b_pder⟩
  have c_eq : Me P w K mg base 1 C_po "__eq__" (spPeq C_po K) := ⟨_, _, _, M_peq, ok_peq T TC F_peq, b_peq⟩
  have c_add : Me P w K mg base 4 C_po "__add__" (spPadd C_po K 1) := ⟨_, _, _, M_padd, ok_padd T n_zip TC F_padd c_pil d_padded, b_padd⟩
  have c_mul : Me P w K mg base 4 C_po "__mul__" (spPmul C_po K) := ⟨_, _, _, M_pmulm, ok_pmul T TC F_pmulm c_pil c_deg d_pitem, b_pmulm⟩
  have d_lright : Cl P w K mg base CX0 6 "_law_right" (spLright C_po K) := ⟨_, _, _, ok_lright T TC F_lright d_lisint d_lcom d_lplain c_pil c_whole c_deg c_cont c_prm c_der c_mul c_eq, PySem.W.mg_of X G a_lright, k_lright, b_lright⟩
  exact ok_law T TC F_law d_cell d_draws d_lrow d_lright c_pil c_cont c_prm c_der c_add c_mul c_eq
theorem walk {l : PySem.W.OpenLaw} {q : Program} {loose : List Str} {XP : (Str → Option Value) → Heap → Prop} {YP : World → Heap → Prop} {d : DefRec} {K : Params → PySem.W.Frag} (hn : l.most = some 63) (hdf : d.params.defaults = [])
    (hY : ∀ (w : World) (h : Heap), YP w h → (K w.params).In h)
    (F : ∀ (w : World) (mg : Str → Option Value) (fa : Addr) (h : Heap), (K w.params).In h → h.Ns mainGlobals mg → mg d.name = some (.ref fa) →
      ∃ fd : FuncData, (∀ (s : Shared) (u : Value), BindsTo s fd ⟨[u], []⟩ [("_law_script", u)]) ∧ ∀ base : Heap, (K w.params).In base → base.Ns mainGlobals mg → FnOk l.prog w (K w.params) mg base CX0 7 fa fd ["_law_script"] (spLaw (K w.params))) :
    PySem.W.WalkO q loose XP YP l.row.toRowW d [] (fun f vs => PySem.call f vs) :=
  L2.walk_of (n := 63) (k := 7) (x := "_law_script") (CX := fun _ => CX0) (sp := fun w => spLaw (K w.params)) hn (by decide) hdf ⟨rfl, by decide, by decide⟩ hY F (fun _ _ a ns hl _ hS => ⟨a, ns, rfl, hS, hl, fun _ => rfl⟩) fun _ _ _ _ _ z => z
end My
open PySem PySem.W PyProof.Rows
set_option maxRecDepth 100000 in
set_option maxHeartbeats 0 in
theorem PySem.Challenge.cw_everyfield_k32_contents_and_derivatives_holds : PySem.Challenge.rw_everyfield_k32_contents_and_derivatives.Holds := by
  w_on; o_law; k_head; (case hw => w_witness2)
  k_fill
  refine My.walk (l := PySem.Challenge.rw_everyfield_k32_contents_and_derivatives) rfl rfl (fun w h Y => PySem.W.kIn_of Y) ?F
  case F =>
    intro w mg fa h KX G hmg
    refine' My.all_mk KX G hmg ?a_padded ?l_padded ?c_padded ?k_padded ?a_pitem ?l_pitem ?c_pitem ?k_pitem ?a_common ?l_common ?c_common ?k_common ?a_comof ?l_comof ?c_comof ?k_comof ?a_cell ?l_cell ?c_cell ?k_cell ?a_draws ?l_draws ?c_draws ?k_draws ?a_lisint ?l_lisint ?c_lisint ?k_lisint ?a_lplain ?l_lplain ?c_lplain ?k_lplain ?a_lrow ?l_lrow ?c_lrow ?k_lrow ?a_lcom ?l_lcom ?c_lcom ?k_lcom ?a_lright ?l_lright ?c_lright ?k_lright ?a_law ?l_law ?c_law ?k_law ?K_aK ?K_pg ?K_hd ?K_po ?K_sa ?K_sf ?K_ha ?K_hn ?K_htk ?K_hm ?K_mk ?K_kp ?K_no_coefficients ?K_rd ?K_sg ?K_at_pinit ?K_fn_pinit ?K_l_pinit ?K_c_pinit ?K_k_pinit ?K_at_pdeg ?K_fn_pdeg ?K_l_pdeg ?K_c_pdeg ?K_k_pdeg ?K_at_pcont ?K_fn_pcont ?K_l_pcont ?K_c_pcont ?K_k_pcont ?K_at_pprm ?K_fn_pprm ?K_l_pprm ?K_c_pprm ?K_k_pprm ?K_at_pder ?K_fn_pder ?K_l_pder ?K_c_pder ?K_k_pder ?K_at_peq ?K_fn_peq ?K_l_peq ?K_c_peq ?K_k_peq ?K_at_padd ?K_fn_padd ?K_l_padd ?K_c_padd ?K_k_padd ?K_at_pmulm ?K_fn_pmulm ?K_l_pmulm ?K_c_pmulm ?K_k_pmulm ?K_at_pwhole ?K_rc_pwhole ?K_fi_pwhole ?K_l_pwhole ?K_c_pwhole ?K_k_pwhole ?z_int ?z_len ?z_abs ?z_isinstance ?z_bool ?z_tuple ?z_list ?z_str ?z_range ?z_max ?z_min ?z_sorted ?z_set ?z_zip ?z_sum ?z_enumerate ?g_gcd
    (case a_padded => k_is)
    (case l_padded => k_is)
    (case c_padded => k_is)
    (case k_padded => k_is)
    (case a_pitem => k_is)
    (case l_pitem => k_is)
    (case c_pitem => k_is)
    (case k_pitem => k_is)
    (case a_common => k_is)
    (case l_common => k_is)
    (case c_common => k_is)
    (case k_common => k_is)
    (case a_comof => k_is)
    (case l_comof => k_is)
    (case c_comof => k_is)
    (case k_comof => k_is)
    (case a_cell => k_is)
    (case l_cell => k_is)
    (case c_cell => k_is)
    (case k_cell => k_is)
    (case a_draws => k_is)
    (case l_draws => k_is)
    (case c_draws => k_is)
    (case k_draws => k_is)
    (case a_lisint => k_is)
    (case l_lisint => k_is)
    (case c_lisint => k_is)
    (case k_lisint => k_is)
    (case a_lplain => k_is)
    (case l_lplain => k_is)
    (case c_lplain => k_is)
    (case k_lplain => k_is)
    (case a_lrow => k_is)
    (case l_lrow => k_is)
    (case c_lrow => k_is)
    (case k_lrow => k_is)
    (case a_lcom => k_is)
    (case l_lcom => k_is)
    (case c_lcom => k_is)
    (case k_lcom => k_is)
    (case a_lright => k_is)
    (case l_lright => k_is)
    (case c_lright => k_is)
    (case k_lright => k_is)
    (case a_law => k_is)
    (case l_law => k_is)
    (case c_law => k_is)
    (case k_law => k_is)
    (case K_aK => k_is)
    (case K_pg => k_is)
    (case K_hd => k_is)
    (case K_po => k_is)
    (case K_sa => k_is)
    (case K_sf => k_is)
    (case K_ha => k_is)
    (case K_hn => k_is)
    (case K_htk => k_is)
    (case K_hm => k_is)
    (case K_mk => k_is)
    (case K_kp => k_is)
    (case K_no_coefficients => k_is)
    (case K_rd => k_is)
    (case K_sg => k_is)
    (case K_at_pinit => k_is)
    (case K_fn_pinit => k_is)
    (case K_l_pinit => k_is)
    (case K_c_pinit => k_is)
    (case K_k_pinit => k_is)
    (case K_at_pdeg => k_is)
    (case K_fn_pdeg => k_is)
    (case K_l_pdeg => k_is)
    (case K_c_pdeg => k_is)
    (case K_k_pdeg => k_is)
    (case K_at_pcont => k_is)
    (case K_fn_pcont => k_is)
    (case K_l_pcont => k_is)
    (case K_c_pcont => k_is)
    (case K_k_pcont => k_is)
    (case K_at_pprm => k_is)
    (case K_fn_pprm => k_is)
    (case K_l_pprm => k_is)
    (case K_c_pprm => k_is)
    (case K_k_pprm => k_is)
    (case K_at_pder => k_is)
    (case K_fn_pder => k_is)
    (case K_l_pder => k_is)
    (case K_c_pder => k_is)
    (case K_k_pder => k_is)
    (case K_at_peq => k_is)
    (case K_fn_peq => k_is)
    (case K_l_peq => k_is)
    (case K_c_peq => k_is)
    (case K_k_peq => k_is)
    (case K_at_padd => k_is)
    (case K_fn_padd => k_is)
    (case K_l_padd => k_is)
    (case K_c_padd => k_is)
    (case K_k_padd => k_is)
    (case K_at_pmulm => k_is)
    (case K_fn_pmulm => k_is)
    (case K_l_pmulm => k_is)
    (case K_c_pmulm => k_is)
    (case K_k_pmulm => k_is)
    (case K_at_pwhole => k_is)
    (case K_rc_pwhole => k_is)
    (case K_fi_pwhole => k_is)
    (case K_l_pwhole => k_is)
    (case K_c_pwhole => k_is)
    (case K_k_pwhole => k_is)
    (case z_int => k_is)
    (case z_len => k_is)
    (case z_abs => k_is)
    (case z_isinstance => k_is)
    (case z_bool => k_is)
    (case z_tuple => k_is)
    (case z_list => k_is)
    (case z_str => k_is)
    (case z_range => k_is)
    (case z_max => k_is)
    (case z_min => k_is)
    (case z_sorted => k_is)
    (case z_set => k_is)
    (case z_zip => k_is)
    (case z_sum => k_is)
    (case z_enumerate => k_is)
    (case g_gcd => k_is)
