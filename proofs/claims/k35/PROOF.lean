import PyProof.Rows.All
import Wide.All
import OpenK.AllK
import Wide.FinOn
import PyProof.NoPylong
import Flt.Len
import HandS.ForMost
import HandS.ForExc
import HandS.Wide
import HandS.Gcd
import HandS.IsInst
import HandS.Evl
import HandS.Flow
import HandS.Iter
import HandS.ExcInit
import HandS.ExcField
import HandS.ExcCtx
import HandS.HotCalls
import HandS.ExcInitHot
import HandS.TupLe
import HandS.TupAny
import HandS.Conv
import HandS.Strs
import HandS.SetFor
import HandS.Zip
import HandS.Star
import HandS.ClsMeth
import HandS.Codes
import HandS.SlotsOwn
import HandS.Walk
import HandS.StrMore
import HandS.FStr
import HandS.FStrTup
import HandS.Style
import HandS.TryMany
import HandS.ExcIs
import HandS.Rev
import HandS.ListEq
import HandS.Small
import KE.GoesMore
import KE.GoesEnum
import PyProof.Draws
import Flt.RightSqrt
import PySem.Challenge.RW_everyfield_k35_divided_in_characteristic
set_option Elab.async false
set_option linter.all false
set_option maxRecDepth 100000
set_option maxHeartbeats 4000000
set_option exponentiation.threshold 20000
namespace My
open PySem PySem.Spec PyProof.Rows L2
def top (i : Nat) : Stmt := PySem.Challenge.pw_everyfield_k35_divided_in_characteristic.main.body.getD i (.Pass ⟨0, 0, 0, 0⟩)
-- part prime_math
def Pr (n : Int) : Prop := 2 ≤ n ∧ ∀ m : Int, 2 ≤ m → m < n → ¬ m ∣ n
noncomputable def prB (n : Int) : Bool := @decide (Pr n) (Classical.propDecidable _)
theorem prB_true {n : Int} (h : Pr n) : prB n = true := by unfold prB; exact @decide_eq_true _ (Classical.propDecidable _) h
theorem prB_false {n : Int} (h : ¬ Pr n) : prB n = false := by unfold prB; exact @decide_eq_false _ (Classical.propDecidable _) h
theorem prB_iff {n : Int} : prB n = true ↔ Pr n := by unfold prB; exact @decide_eq_true_iff _ (Classical.propDecidable _)
/-- r is the least divisor of n from 2 on -/
structure Least (n r : Int) : Prop where
  two : 2 ≤ r
  dvd : r ∣ n
  min : ∀ m : Int, 2 ≤ m → m < r → ¬ m ∣ n
theorem Least.le {n r : Int} (h : Least n r) (hn : 2 ≤ n) : r ≤ n := Int.le_of_dvd (by omega) h.dvd
theorem Least.pr {n r : Int} (h : Least n r) : Pr r := ⟨h.two, fun m h1 h2 h3 => h.min m h1 h2 (Int.dvd_trans h3 h.dvd)⟩
theorem Least.uniq {n r r' : Int} (h : Least n r) (h' : Least n r') : r = r' := by
  rcases Int.lt_trichotomy r r' with c | c | c
  · exact absurd h.dvd (h'.min r h.two c)
  · exact c
  · exact absurd h'.dvd (h.min r' h'.two c)
theorem Least.self {n r : Int} (h : Least n r) (hn : 2 ≤ n) : r = n ↔ Pr n := by
  constructor
  · intro e
    rw [e] at h
    exact h.pr
  · intro p
    have := h.le hn
    by_cases c : r = n
    · exact c
    · exact absurd h.dvd (p.2 r h.two (by omega))
/-- a proper divisor: one at most the root -/
theorem small_div {n m s : Int} (hn : 2 ≤ n) (h2 : 2 ≤ m) (hm : m < n) (hd : m ∣ n) (hs0 : 0 ≤ s) (hs : n < (s + 1) * (s + 1)) : ∃ d : Int, 2 ≤ d ∧ d ≤ s ∧ d ≤ m ∧ d ∣ n := by
  obtain ⟨k, e⟩ := hd
  have hk : 2 ≤ k := by
    rcases Int.lt_trichotomy k 1 with c | c | c
    · have : m * k ≤ m * 0 := Int.mul_le_mul_of_nonneg_left (by omega) (by omega)
      omega
    · subst c
      omega
    · omega
  by_cases c : m ≤ s
  · exact ⟨m, h2, c, Int.le_refl _, ⟨k, e⟩⟩
  · refine ⟨k, hk, ?_, ?_, ⟨m, by rw [e, Int.mul_comm]⟩⟩
    · by_cases c2 : k ≤ s
      · exact c2
      · have : (s + 1) * (s + 1) ≤ m * k := Int.mul_le_mul (by omega) (by omega) (by omega) (by omega)
        omega
    · by_cases c2 : k ≤ m
      · exact c2
      · have c3 : k ≤ s := by
          by_cases c4 : k ≤ s
          · exact c4
          · have : (s + 1) * (s + 1) ≤ m * k := Int.mul_le_mul (by omega) (by omega) (by omega) (by omega)
            omega
        omega
/-- the trial over the odd ints: what is left at its end -/
theorem least_of_odd {n s : Int} (hn : 2 ≤ n) (h2 : ¬ (2 : Int) ∣ n) (hs0 : 0 ≤ s) (hs : n < (s + 1) * (s + 1)) (h : ∀ i : Nat, 3 + (i : Int) * 2 ≤ s → ¬ (3 + (i : Int) * 2) ∣ n) : Least n n := by
  refine ⟨hn, Int.dvd_refl n, fun m h1 hm hd => ?_⟩
  obtain ⟨d, d2, ds, _, dn⟩ := small_div hn h1 hm hd hs0 hs
  have odd : d % 2 = 1 := by
    have := Int.emod_two_eq d
    rcases this with e | e
    · exact absurd (Int.dvd_trans (Int.dvd_of_emod_eq_zero e) dn) h2
    · exact e
  have e : d = 3 + ((((d - 3) / 2).toNat : Nat) : Int) * 2 := by omega
  exact h ((d - 3) / 2).toNat (by omega) (e ▸ dn)
theorem least_at {n : Int} {i : Nat} (h2 : ¬ (2 : Int) ∣ n) (hd : (3 + (i : Int) * 2) ∣ n) (h : ∀ j : Nat, j < i → ¬ (3 + (j : Int) * 2) ∣ n) : Least n (3 + (i : Int) * 2) := by
  refine ⟨by omega, hd, fun m h1 hm hdv => ?_⟩
  have odd : m % 2 = 1 := by
    have := Int.emod_two_eq m
    rcases this with e | e
    · exact absurd (Int.dvd_trans (Int.dvd_of_emod_eq_zero e) hdv) h2
    · exact e
  have e : m = 3 + ((((m - 3) / 2).toNat : Nat) : Int) * 2 := by omega
  exact h ((m - 3) / 2).toNat (by omega) (e ▸ hdv)
theorem least_two {n : Int} (h : (2 : Int) ∣ n) : Least n 2 := ⟨by omega, h, fun m h1 h2 => by omega⟩
/-- every int from 2 on has a least divisor -/
theorem least_ex {n : Int} (hn : 2 ≤ n) : ∃ r, Least n r := by
  have key : ∀ (k : Nat) (r : Int), n - r ≤ k → 2 ≤ r → r ≤ n → (∀ m : Int, 2 ≤ m → m < r → ¬ m ∣ n) → ∃ r, Least n r := by
    intro k
    induction k with
    | zero =>
      intro r h1 h2 h3 h4
      have : r = n := by omega
      subst this
      exact ⟨r, h2, Int.dvd_refl r, h4⟩
    | succ k ih =>
      intro r h1 h2 h3 h4
      by_cases c : r ∣ n
      · exact ⟨r, h2, c, h4⟩
      · by_cases e : r = n
        · exact absurd (e ▸ Int.dvd_refl r) c
        · refine ih (r + 1) (by omega) (by omega) (by omega) fun m hm1 hm2 => ?_
          by_cases e2 : m = r
          · rw [e2]
            exact c
          · exact h4 m hm1 (by omega)
  exact key (n - 2).toNat 2 (by omega) (by omega) hn (fun m h1 h2 => by omega)
/-- a check of a prime by trial, for the kernel -/
def trial (n : Nat) : Nat → Nat → Bool
  | 0, _ => false
  | f + 1, k => if n < k * k then true else if n % k = 0 then false else trial n f (k + 1)
theorem trial_ok {n : Nat} (hn : 2 ≤ n) : ∀ (f k : Nat), 2 ≤ k → (∀ m : Nat, 2 ≤ m → m < k → ¬ m ∣ n) → trial n f k = true → Pr (n : Int) := by
  intro f
  induction f with
  | zero => intro k _ _ h; exact absurd h (by simp [trial])
  | succ f ih =>
    intro k hk hm h
    unfold trial at h
    by_cases c : n < k * k
    · refine ⟨by omega, fun m h1 h2 h3 => ?_⟩
      obtain ⟨d, d2, ds, _, dn⟩ := small_div (n := n) (s := (k : Int) - 1) (by omega) h1 h2 h3 (by omega) (by
        rw [Int.sub_add_cancel]
        exact_mod_cast c)
      refine hm d.toNat (by omega) (by omega) ?_
      have : ((d.toNat : Nat) : Int) ∣ (n : Int) := by rw [Int.toNat_of_nonneg (by omega)]; exact dn
      exact Int.natCast_dvd_natCast.mp this
    · rw [if_neg c] at h
      by_cases c2 : n % k = 0
      · rw [if_pos c2] at h
        exact absurd h (by simp)
      · rw [if_neg c2] at h
        refine ih (k + 1) (by omega) (fun m h1 h2 h3 => ?_) h
        by_cases e : m = k
        · subst e
          exact c2 (Nat.mod_eq_zero_of_dvd h3)
        · exact hm m h1 (by omega) h3
theorem pr_of_trial {n : Nat} (f : Nat) (h : (decide (2 ≤ n) && trial n f 2) = true) : Pr (n : Int) := by
  rw [Bool.and_eq_true] at h
  exact trial_ok (of_decide_eq_true h.1) f 2 (by omega) (fun m h1 h2 => by omega) h.2
theorem pr_10007 : Pr 10007 := pr_of_trial (n := 10007) 200 (by decide +kernel)
-- part fact_math
/-- a prime divides a factor -/
theorem pr_mul {q a b : Int} (hq : Pr q) (h : q ∣ a * b) : q ∣ a ∨ q ∣ b := by
  by_cases c : q ∣ a
  · exact .inl c
  · refine .inr ?_
    have hco : Nat.Coprime q.natAbs a.natAbs := by
      have g1 : Nat.gcd q.natAbs a.natAbs ∣ q.natAbs := Nat.gcd_dvd_left _ _
      have g2 : Nat.gcd q.natAbs a.natAbs ∣ a.natAbs := Nat.gcd_dvd_right _ _
      have hq2 := hq.1
      generalize hg : Nat.gcd q.natAbs a.natAbs = g at *
      have gi : (g : Int) ∣ q := Int.natAbs_dvd_natAbs.mp (by rw [Int.natAbs_natCast]; exact g1)
      have ga : (g : Int) ∣ a := Int.natAbs_dvd_natAbs.mp (by rw [Int.natAbs_natCast]; exact g2)
      have gpos : 0 < g := by
        rcases Nat.eq_zero_or_pos g with z | z
        · rw [z] at gi
          have := Int.zero_dvd.mp gi
          omega
        · exact z
      have gle : (g : Int) ≤ q := Int.le_of_dvd (by omega) gi
      by_cases g1' : g = 1
      · unfold Nat.Coprime
        rw [hg, g1']
      · by_cases g2' : (g : Int) = q
        · rw [g2'] at ga
          exact absurd ga c
        · exact absurd gi (hq.2 g (by omega) (by omega))
    have h2 : q.natAbs ∣ a.natAbs * b.natAbs := by
      rw [← Int.natAbs_mul]
      exact Int.natAbs_dvd_natAbs.mpr h
    exact Int.natAbs_dvd_natAbs.mp (Nat.Coprime.dvd_of_dvd_mul_left hco h2)
theorem pr_dvd_pr {p q : Int} (hp : Pr p) (hq : Pr q) (h : q ∣ p) : q = p := by
  have := Int.le_of_dvd (by have := hp.1; omega) h
  by_cases c : q = p
  · exact c
  · exact absurd h (hp.2 q hq.1 (by omega))
/-- l tells the primes that divide n, ascending -/
def PD (n : Int) (l : List Int) : Prop := l.Pairwise (· < ·) ∧ ∀ q, q ∈ l ↔ Pr q ∧ q ∣ n
theorem sorted_uniq : ∀ {l m : List Int}, l.Pairwise (· < ·) → m.Pairwise (· < ·) → (∀ q, q ∈ l ↔ q ∈ m) → l = m
  | [], [], _, _, _ => rfl
  | [], b :: m, _, _, h => absurd ((h b).mpr List.mem_cons_self) (by simp)
  | a :: l, [], _, _, h => absurd ((h a).mp List.mem_cons_self) (by simp)
  | a :: l, b :: m, hl, hm, h => by
    rw [List.pairwise_cons] at hl hm
    have hab : a = b := by
      rcases List.mem_cons.mp ((h a).mp List.mem_cons_self) with e | e
      · exact e
      · rcases List.mem_cons.mp ((h b).mpr List.mem_cons_self) with e2 | e2
        · exact e2.symm
        · have := hm.1 a e
          have := hl.1 b e2
          omega
    subst hab
    rw [sorted_uniq hl.2 hm.2 fun q => ?_]
    constructor
    · intro hq
      have := hl.1 q hq
      rcases List.mem_cons.mp ((h q).mp (List.mem_cons_of_mem _ hq)) with e | e
      · omega
      · exact e
    · intro hq
      have := hm.1 q hq
      rcases List.mem_cons.mp ((h q).mpr (List.mem_cons_of_mem _ hq)) with e | e
      · omega
      · exact e
theorem PD.uniq {n : Int} {l m : List Int} (h : PD n l) (h' : PD n m) : l = m := sorted_uniq h.1 h'.1 fun q => (h.2 q).trans (h'.2 q).symm
/-- what holds between two turns: fs found, r left of n; every prime of r is at least d, those found are less -/
structure Fac (n : Int) (fs : List Int) (r d : Int) : Prop where
  pos : 1 ≤ r
  dv : r ∣ n
  asc : fs.Pairwise (· < ·)
  low : ∀ f ∈ fs, f < d
  mem : ∀ f ∈ fs, Pr f ∧ f ∣ n
  all : ∀ q, Pr q → q ∣ n → q ∣ r ∨ q ∈ fs
  up : ∀ q, Pr q → q ∣ r → d ≤ q
  len : (2 : Int) ^ fs.length * r ≤ n
theorem fac0 {n : Int} (hn : 1 ≤ n) : Fac n [] n 2 := ⟨hn, Int.dvd_refl n, List.Pairwise.nil, (fun _ h => nomatch h), (fun _ h => nomatch h), (fun q _ h => .inl h), (fun q h _ => h.1), by show (2 : Int) ^ 0 * n ≤ n; omega⟩
/-- within the inner loop: r0 at its start, p taken out -/
structure Tak (r0 p r : Int) : Prop where
  pos : 1 ≤ r
  dv : r ∣ r0
  keep : ∀ q, Pr q → q ∣ r0 → q ∣ r ∨ q = p
  half : r = r0 ∨ 2 * r ≤ r0
theorem tak0 {r0 p : Int} (h : 1 ≤ r0) : Tak r0 p r0 := ⟨h, Int.dvd_refl _, fun q _ h => .inl h, .inl rfl⟩
theorem tak_step {r0 p r : Int} (hp : Pr p) (h : Tak r0 p r) (hd : p ∣ r) : Tak r0 p (r / p) ∧ r / p < r := by
  have hp2 := hp.1
  have hpos := h.pos
  obtain ⟨k, e⟩ := hd
  have ek : r / p = k := by rw [e, Int.mul_ediv_cancel_left _ (by omega)]
  rw [ek]
  have k1 : 1 ≤ k := by
    by_cases c : 1 ≤ k
    · exact c
    · have : p * k ≤ p * 0 := Int.mul_le_mul_of_nonneg_left (by omega) (by omega)
      omega
  have k2 : 2 * k ≤ r := by
    have : 2 * k ≤ p * k := Int.mul_le_mul_of_nonneg_right hp2 (by omega)
    omega
  refine ⟨⟨k1, Int.dvd_trans ⟨p, by rw [e, Int.mul_comm]⟩ h.dv, fun q hq hd => ?_, .inr ?_⟩, by omega⟩
  · rcases h.keep q hq hd with c | c
    · rw [e] at c
      rcases pr_mul hq c with c2 | c2
      · exact .inr (pr_dvd_pr hp hq c2)
      · exact .inl c2
    · exact .inr c
  · rcases h.half with c | c <;> omega
/-- behind the inner loop -/
theorem fac_step {n : Int} {fs : List Int} {r0 d p r : Int} (F : Fac n fs r0 d) (hp : Pr p) (hd : p ∣ r0) (T : Tak r0 p r) (hn : ¬ p ∣ r) (hmin : ∀ q, Pr q → q ∣ r0 → p ≤ q) : Fac n (fs ++ [p]) r (p + 1) ∧ r < r0 := by
  have hr : 2 * r ≤ r0 := T.half.resolve_left fun e => hn (e ▸ hd)
  have hdp : d ≤ p := F.up p hp hd
  refine ⟨⟨T.pos, Int.dvd_trans T.dv F.dv, ?_, ?_, ?_, ?_, ?_, ?_⟩, by have := T.pos; omega⟩
  · rw [List.pairwise_append]
    refine ⟨F.asc, List.pairwise_singleton _ _, fun a ha b hb => ?_⟩
    rw [List.mem_singleton.mp hb]
    have := F.low a ha
    omega
  · intro f hf
    rcases List.mem_append.mp hf with h | h
    · have := F.low f h
      omega
    · rw [List.mem_singleton.mp h]
      omega
  · intro f hf
    rcases List.mem_append.mp hf with h | h
    · exact F.mem f h
    · rw [List.mem_singleton.mp h]
      exact ⟨hp, Int.dvd_trans hd F.dv⟩
  · intro q hq h
    rcases F.all q hq h with c | c
    · rcases T.keep q hq c with c2 | c2
      · exact .inl c2
      · exact .inr (List.mem_append_right _ (by rw [c2]; exact List.mem_singleton.mpr rfl))
    · exact .inr (List.mem_append_left _ c)
  · intro q hq h
    have h1 := hmin q hq (Int.dvd_trans h T.dv)
    by_cases c : q = p
    · exact absurd (c ▸ h) hn
    · omega
  · rw [List.length_append]
    show (2 : Int) ^ (fs.length + 1) * r ≤ n
    rw [Int.pow_succ, Int.mul_assoc]
    have h1 : (2 : Int) ^ fs.length * (2 * r) ≤ 2 ^ fs.length * r0 := Int.mul_le_mul_of_nonneg_left hr (Int.pow_nonneg (by decide))
    have := F.len
    omega
theorem fac_end {n : Int} {fs : List Int} {d : Int} (F : Fac n fs 1 d) : PD n fs := by
  refine ⟨F.asc, fun q => ⟨F.mem q, fun ⟨h1, h2⟩ => (F.all q h1 h2).resolve_left fun c => ?_⟩⟩
  have := Int.le_of_dvd (by decide) c
  have := h1.1
  omega
theorem fac_len {n : Int} {fs : List Int} {r d : Int} (F : Fac n fs r d) (hn : n < 2 ^ 62) : fs.length < 62 := by
  by_cases c : fs.length < 62
  · exact c
  · have h1 : (2 : Int) ^ 62 ≤ 2 ^ fs.length := by
      have : (2 : Nat) ^ 62 ≤ 2 ^ fs.length := Nat.pow_le_pow_right (by decide) (by omega)
      have h2 := Int.ofNat_le.mpr this
      rw [Int.natCast_pow, Int.natCast_pow] at h2
      exact h2
    have h2 : (2 : Int) ^ fs.length * 1 ≤ 2 ^ fs.length * r := Int.mul_le_mul_of_nonneg_left F.pos (Int.pow_nonneg (by decide))
    have := F.len
    omega
theorem fac_up {n : Int} {fs : List Int} {r d : Int} (F : Fac n fs r d) (h : ¬ d ∣ r) : Fac n fs r (d + 1) := by
  refine ⟨F.pos, F.dv, F.asc, fun f hf => by have := F.low f hf; omega, F.mem, F.all, fun q h1 h2 => ?_, F.len⟩
  have := F.up q h1 h2
  by_cases c : q = d
  · exact absurd (c ▸ h2) h
  · omega
/-- d divides what is left: it is a prime -/
theorem fac_pr {n : Int} {fs : List Int} {r d : Int} (F : Fac n fs r d) (h2 : 2 ≤ d) (h : d ∣ r) : Pr d := by
  obtain ⟨q, hq⟩ := least_ex h2
  have h1 := F.up q hq.pr (Int.dvd_trans hq.dvd h)
  have := hq.le h2
  have e : q = d := by omega
  exact e ▸ hq.pr
/-- d * d above what is left: that is a prime -/
theorem fac_jump {n : Int} {fs : List Int} {r d : Int} (F : Fac n fs r d) (h2 : 2 ≤ d) (hr : 1 < r) (h : r < d * d) : Pr r ∧ ∀ q, Pr q → q ∣ r → r ≤ q := by
  have hp : Pr r := by
    refine ⟨by omega, fun m h1 h3 h4 => ?_⟩
    obtain ⟨e, e2, es, _, en⟩ := small_div (n := r) (s := d - 1) (by omega) h1 h3 h4 (by omega) (by rw [Int.sub_add_cancel]; exact h)
    obtain ⟨q, hq⟩ := least_ex e2
    have := F.up q hq.pr (Int.dvd_trans hq.dvd en)
    have := hq.le e2
    omega
  exact ⟨hp, fun q hq hd => by have := pr_dvd_pr hp hq hd; omega⟩
-- part trim
/-! rows without zeros at the end -/
def tsz (l : List Int) : Nat → Nat
  | 0 => 0
  | k + 1 => if l.getD k 0 = 0 then tsz l k else k + 1
def trim (l : List Int) : List Int := l.take (tsz l l.length)
/-- the last one is not 0 -/
def Trim (l : List Int) : Prop := ∀ k, l.length = k + 1 → l.getD k 0 ≠ 0
theorem tsz_le (l : List Int) : ∀ k, tsz l k ≤ k
  | 0 => Nat.le_refl _
  | k + 1 => by
    unfold tsz
    split
    · exact Nat.le_succ_of_le (tsz_le l k)
    · exact Nat.le_refl _
theorem tsz_zero (l : List Int) : ∀ k i, tsz l k ≤ i → i < k → l.getD i 0 = 0
  | 0, i, _, h => absurd h (Nat.not_lt_zero i)
  | k + 1, i, h1, h2 => by
    unfold tsz at h1
    split at h1
    · rename_i c
      by_cases e : i = k
      · rw [e]
        exact c
      · exact tsz_zero l k i h1 (by omega)
    · omega
theorem tsz_last (l : List Int) : ∀ k n, tsz l k = n + 1 → l.getD n 0 ≠ 0
  | 0, n, h => by cases h
  | k + 1, n, h => by
    unfold tsz at h
    split at h
    · exact tsz_last l k n h
    · rename_i c
      cases h
      exact c
theorem getD_of {l : List Int} {i : Nat} {z : Int} (h : l[i]? = some z) : l.getD i 0 = z := by
  rw [List.getD_eq_getElem?_getD, h] <;> rfl
theorem getD_ge {l : List Int} {i : Nat} (h : l.length ≤ i) : l.getD i 0 = 0 := by
  rw [List.getD_eq_getElem?_getD, List.getElem?_eq_none h] <;> rfl
theorem getD_at {l : List Int} {i : Nat} (h : i < l.length) : l[i]? = some (l.getD i 0) := by
  rw [List.getD_eq_getElem?_getD, List.getElem?_eq_getElem h] <;> rfl
theorem getD_take (l : List Int) (n i : Nat) : (l.take n).getD i 0 = if i < n then l.getD i 0 else 0 := by
  rw [List.getD_eq_getElem?_getD, List.getElem?_take]
  split
  · rw [List.getD_eq_getElem?_getD]
  · rfl
theorem getD_map {f : Int → Int} (h0 : f 0 = 0) (l : List Int) (i : Nat) : (l.map f).getD i 0 = f (l.getD i 0) := by
  rw [List.getD_eq_getElem?_getD, List.getD_eq_getElem?_getD, List.getElem?_map]
  cases l[i]? with
  | none => exact h0.symm
  | some z => rfl
theorem getD_app0 (l : List Int) (k i : Nat) : (l ++ List.replicate k 0).getD i 0 = l.getD i 0 := by
  rw [List.getD_eq_getElem?_getD, List.getD_eq_getElem?_getD]
  by_cases c : i < l.length
  · rw [List.getElem?_append_left c]
  · rw [List.getElem?_append_right (by omega), List.getElem?_eq_none (show l.length ≤ i by omega), List.getElem?_replicate]
    split <;> rfl
theorem trim_len (l : List Int) : (trim l).length = tsz l l.length := by
  unfold trim
  rw [List.length_take]
  have := tsz_le l l.length
  omega
theorem trim_few (l : List Int) : (trim l).length ≤ l.length := by
  rw [trim_len]
  exact tsz_le l l.length
theorem trim_mem {l : List Int} {z : Int} (h : z ∈ trim l) : z ∈ l := List.mem_of_mem_take h
theorem trim_get (l : List Int) (i : Nat) : (trim l).getD i 0 = l.getD i 0 := by
  unfold trim
  rw [getD_take]
  split
  · rfl
  · rename_i c
    by_cases d : i < l.length
    · exact (tsz_zero l l.length i (by omega) d).symm
    · exact (getD_ge (by omega)).symm
theorem trim_trim (l : List Int) : Trim (trim l) := fun k h => by
  rw [trim_len] at h
  rw [trim_get]
  exact tsz_last l l.length k h
theorem Trim.ext {a b : List Int} (ha : Trim a) (hb : Trim b) (h : ∀ i, a.getD i 0 = b.getD i 0) : a = b := by
  have hl : a.length = b.length := by
    rcases Nat.lt_trichotomy a.length b.length with c | c | c
    · obtain ⟨k, hk⟩ : ∃ k, b.length = k + 1 := ⟨b.length - 1, by omega⟩
      have := hb k hk
      rw [← h k, getD_ge (by omega)] at this
      exact absurd rfl this
    · exact c
    · obtain ⟨k, hk⟩ : ∃ k, a.length = k + 1 := ⟨a.length - 1, by omega⟩
      have := ha k hk
      rw [h k, getD_ge (by omega)] at this
      exact absurd rfl this
  refine List.ext_getElem? fun i => ?_
  by_cases c : i < a.length
  · rw [getD_at c, getD_at (by omega), h i]
  · rw [List.getElem?_eq_none (by omega), List.getElem?_eq_none (by omega)]
theorem trim_ext {a b : List Int} (h : ∀ i, a.getD i 0 = b.getD i 0) : trim a = trim b :=
  (trim_trim a).ext (trim_trim b) fun i => by rw [trim_get, trim_get, h i]
theorem trim_of {l : List Int} (h : Trim l) : trim l = l := (trim_trim l).ext h fun i => trim_get l i
theorem trim_nil : trim [] = [] := rfl
theorem Trim.nil : Trim [] := fun k h => by cases h
theorem Trim.map {l : List Int} {f : Int → Int} (h : Trim l) (h0 : f 0 = 0) (hf : ∀ z, f z = 0 → z = 0) : Trim (l.map f) := fun k hk => by
  rw [List.length_map] at hk
  rw [getD_map h0]
  exact fun e => h k hk (hf _ e)
/-- sums and differences by places -/
theorem getD_zip {f : Int → Int → Int} (a b : List Int) (hl : a.length = b.length) (h0 : f 0 0 = 0) (i : Nat) : (List.zipWith f a b).getD i 0 = f (a.getD i 0) (b.getD i 0) := by
  rw [List.getD_eq_getElem?_getD, List.getElem?_zipWith]
  by_cases c : i < a.length
  · rw [getD_at c, getD_at (show i < b.length by omega)] <;> rfl
  · rw [List.getElem?_eq_none (by omega), List.getElem?_eq_none (show b.length ≤ i by omega), getD_ge (by omega), getD_ge (show b.length ≤ i by omega), h0] <;> rfl
def rngN (n : Nat) (f : Nat → Int) : List Int := (List.range n).map f
theorem rngN_len (n : Nat) (f : Nat → Int) : (rngN n f).length = n := by
  unfold rngN
  rw [List.length_map, List.length_range]
theorem rngN_at {n : Nat} {f : Nat → Int} {i : Nat} (h : i < n) : (rngN n f)[i]? = some (f i) := by
  unfold rngN
  rw [List.getElem?_map, List.getElem?_range h] <;> rfl
theorem rngN_get (n : Nat) (f : Nat → Int) (i : Nat) : (rngN n f).getD i 0 = if i < n then f i else 0 := by
  split
  · rename_i c
    exact getD_of (rngN_at c)
  · rename_i c
    exact getD_ge (by rw [rngN_len]; omega)
/-- the polynomial's rows: sum (sign s), product -/
def pplus (s : Int) (a b : List Int) : List Int := trim (rngN (max a.length b.length) fun i => a.getD i 0 + s * b.getD i 0)
theorem pplus_get (s : Int) (a b : List Int) (i : Nat) : (pplus s a b).getD i 0 = a.getD i 0 + s * b.getD i 0 := by
  unfold pplus
  rw [trim_get, rngN_get]
  split
  · rfl
  · rw [getD_ge (show a.length ≤ i by omega), getD_ge (show b.length ≤ i by omega)]
    simp
/-- the sum of f below n -/
def sumN (f : Nat → Int) : Nat → Int
  | 0 => 0
  | n + 1 => sumN f n + f n
theorem sumN_congr {f g : Nat → Int} : ∀ n, (∀ i, i < n → f i = g i) → sumN f n = sumN g n
  | 0, _ => rfl
  | n + 1, h => by
    unfold sumN
    rw [sumN_congr n fun i hi => h i (by omega), h n (by omega)]
theorem sumN_zero (n : Nat) : sumN (fun _ => 0) n = 0 := by
  induction n with
  | zero => rfl
  | succ n ih => unfold sumN; rw [ih]; rfl
theorem sumN_more {f : Nat → Int} {n : Nat} : ∀ m, (∀ i, n ≤ i → f i = 0) → n ≤ m → sumN f m = sumN f n
  | 0, _, h => by rw [show n = 0 by omega]
  | m + 1, h0, h => by
    by_cases e : n = m + 1
    · rw [e]
    · show sumN f m + f m = sumN f n
      rw [sumN_more m h0 (by omega), h0 m (by omega), Int.add_zero]
/-- the coefficient at k of the product -/
def cnv (a b : List Int) (k : Nat) : Int := sumN (fun i => a.getD i 0 * (if i ≤ k then b.getD (k - i) 0 else 0)) a.length
def pmul (a b : List Int) : List Int := trim (rngN (a.length + b.length) (cnv a b))
theorem cnv_far {a b : List Int} {k : Nat} (h : a.length + b.length ≤ k + 1) : cnv a b k = 0 := by
  unfold cnv
  rw [sumN_congr (g := fun _ => 0) _ fun i hi => ?_, sumN_zero]
  split
  · rw [getD_ge (show b.length ≤ k - i by omega), Int.mul_zero]
  · rw [Int.mul_zero]
theorem pmul_get (a b : List Int) (k : Nat) : (pmul a b).getD k 0 = cnv a b k := by
  unfold pmul
  rw [trim_get, rngN_get]
  split
  · rfl
  · exact (cnv_far (by omega)).symm
/-- the value at x -/
def pev : List Int → Int → Int
  | [], _ => 0
  | c :: l, x => c + x * pev l x
theorem pev_trim (l : List Int) (x : Int) : pev (trim l) x = pev l x := by
  unfold trim
  have key : ∀ (l : List Int) (n : Nat), (∀ i, n ≤ i → l.getD i 0 = 0) → pev (l.take n) x = pev l x := fun l => by
    induction l with
    | nil => intro n _; rw [List.take_nil]
    | cons c l ih =>
      intro n h
      cases n with
      | zero =>
        have hc : c = 0 := h 0 (Nat.le_refl _)
        have hl := ih 0 fun i _ => h (i + 1) (Nat.zero_le _)
        rw [List.take_zero] at hl ⊢
        show 0 = c + x * pev l x
        rw [← hl, hc]
        show (0 : Int) = 0 + x * 0
        rw [Int.mul_zero] <;> rfl
      | succ n =>
        rw [List.take_succ_cons]
        show c + x * pev (l.take n) x = c + x * pev l x
        rw [ih n fun i hi => h (i + 1) (by omega)]
  refine key l _ fun i hi => ?_
  by_cases c : i < l.length
  · exact tsz_zero l _ i hi c
  · exact getD_ge (by omega)
theorem pev_drop {l : List Int} {i : Nat} {c : Int} (h : l[i]? = some c) (x : Int) : pev (l.drop i) x = c + x * pev (l.drop (i + 1)) x := by
  have hi := (List.getElem?_eq_some_iff.mp h).1
  rw [List.drop_eq_getElem_cons hi]
  rw [List.getElem?_eq_getElem hi] at h
  cases h
  rfl
/-- the value, term by term -/
theorem pev_take {l : List Int} {i : Nat} {c : Int} (h : l[i]? = some c) (x : Int) : pev (l.take (i + 1)) x = pev (l.take i) x + c * x ^ i := by
  induction l generalizing i with
  | nil => cases h
  | cons d l ih =>
    cases i with
    | zero =>
      cases h
      rw [List.take_succ_cons, List.take_zero, List.take_zero]
      show c + x * 0 = 0 + c * x ^ 0
      simp
    | succ i =>
      have := ih (i := i) h
      rw [List.take_succ_cons, List.take_succ_cons]
      show d + x * pev (l.take (i + 1)) x = d + x * pev (l.take i) x + c * x ^ (i + 1)
      rw [this, Int.mul_add, Int.pow_succ]
      have e : x * (c * x ^ i) = c * (x ^ i * x) := by rw [Int.mul_left_comm, Int.mul_comm x]
      rw [e]
      omega
-- part gauss
/-! contents: the lemma of Gauss; derivatives -/
/-- the greatest common divisor of a row -/
def cont (l : List Int) : Nat := l.foldl (fun (g : Nat) (z : Int) => Int.gcd (g : Int) z) 0
theorem cont_go (l : List Int) : ∀ g : Nat, (∀ z ∈ l, ((l.foldl (fun (g : Nat) (z : Int) => Int.gcd (g : Int) z) g : Nat) : Int) ∣ z) ∧ ((l.foldl (fun (g : Nat) (z : Int) => Int.gcd (g : Int) z) g : Nat) : Int) ∣ (g : Int) ∧
    ∀ d : Int, d ∣ (g : Int) → (∀ z ∈ l, d ∣ z) → d ∣ ((l.foldl (fun (g : Nat) (z : Int) => Int.gcd (g : Int) z) g : Nat) : Int) := by
  induction l with
  | nil => exact fun g => ⟨fun z h => (nomatch h), Int.dvd_refl _, fun d h _ => h⟩
  | cons c l ih =>
    intro g
    obtain ⟨h1, h2, h3⟩ := ih (Int.gcd (g : Int) c)
    rw [List.foldl_cons]
    refine ⟨fun z hz => ?_, Int.dvd_trans h2 (Int.gcd_dvd_left _ _), fun d hg hd => h3 d (Int.dvd_coe_gcd hg (hd c List.mem_cons_self)) fun z hz => hd z (List.mem_cons_of_mem _ hz)⟩
    rcases List.mem_cons.mp hz with rfl | h
    · exact Int.dvd_trans h2 (Int.gcd_dvd_right _ _)
    · exact h1 z h
theorem cont_dvd {l : List Int} {z : Int} (h : z ∈ l) : ((cont l : Nat) : Int) ∣ z := (cont_go l 0).1 z h
theorem dvd_cont {l : List Int} {d : Int} (h : ∀ z ∈ l, d ∣ z) : d ∣ ((cont l : Nat) : Int) := (cont_go l 0).2.2 d (Int.dvd_zero d) h
theorem cont_get {l : List Int} (i : Nat) : ((cont l : Nat) : Int) ∣ l.getD i 0 := by
  by_cases c : i < l.length
  · exact cont_dvd (List.mem_of_getElem? (getD_at c))
  · rw [getD_ge (by omega)]
    exact Int.dvd_zero _
theorem dvd_cont_get {l : List Int} {d : Int} (h : ∀ i, d ∣ l.getD i 0) : d ∣ ((cont l : Nat) : Int) := dvd_cont fun z hz => by
  obtain ⟨i, hi⟩ := List.mem_iff_getElem?.mp hz
  have := h i
  rw [getD_of hi] at this
  exact this
theorem nat_antisymm {a b : Nat} (h1 : (a : Int) ∣ (b : Int)) (h2 : (b : Int) ∣ (a : Int)) : a = b := Nat.dvd_antisymm (Int.ofNat_dvd.mp h1) (Int.ofNat_dvd.mp h2)
/-- rows with the same places have the same content -/
theorem cont_ext {l m : List Int} (h : ∀ i, l.getD i 0 = m.getD i 0) : cont l = cont m :=
  nat_antisymm (dvd_cont_get fun i => by rw [← h i]; exact cont_get i) (dvd_cont_get fun i => by rw [h i]; exact cont_get i)
theorem cont_trim (l : List Int) : cont (trim l) = cont l := cont_ext fun i => trim_get l i
theorem cont_zero {l : List Int} (h : cont l = 0) (i : Nat) : l.getD i 0 = 0 := by
  have := cont_get (l := l) i
  rw [h] at this
  exact Int.zero_dvd.mp this
theorem cont_nil {l : List Int} (ht : Trim l) (h : cont l = 0) : l = [] := ht.ext Trim.nil fun i => by rw [cont_zero h i, getD_ge (Nat.zero_le _)]
/-- the row with its content taken out -/
def pprim (l : List Int) : List Int := l.map fun z => z / ((cont l : Nat) : Int)
theorem pprim_get (l : List Int) (i : Nat) : (pprim l).getD i 0 = l.getD i 0 / ((cont l : Nat) : Int) := getD_map (f := fun z => z / ((cont l : Nat) : Int)) (Int.zero_ediv _) l i
theorem pprim_mul (l : List Int) (i : Nat) : (pprim l).getD i 0 * ((cont l : Nat) : Int) = l.getD i 0 := by
  rw [pprim_get]
  exact Int.ediv_mul_cancel (cont_get i)
theorem cont_scale {l m : List Int} {c : Nat} (h : ∀ i, m.getD i 0 = l.getD i 0 * (c : Int)) : cont m = cont l * c := by
  refine nat_antisymm ?_ ?_
  · by_cases c0 : c = 0
    · subst c0
      rw [Nat.mul_zero]
      exact Int.dvd_zero _
    · -- m's content is a multiple of c
      have h1 : (c : Int) ∣ ((cont m : Nat) : Int) := dvd_cont_get fun i => by rw [h i]; exact Int.dvd_mul_left _ _
      obtain ⟨k, hk⟩ := h1
      rw [hk, Int.natCast_mul, Int.mul_comm]
      refine Int.mul_dvd_mul_right (c : Int) (dvd_cont_get fun i => ?_)
      have := cont_get (l := m) i
      rw [hk, h i, Int.mul_comm (l.getD i 0)] at this
      exact Int.dvd_of_mul_dvd_mul_left (by omega) this
  · refine dvd_cont_get fun i => ?_
    rw [h i, Int.natCast_mul]
    exact Int.mul_dvd_mul_right _ (cont_get i)
theorem cont_pprim {l : List Int} (h : cont l ≠ 0) : cont (pprim l) = 1 := by
  have := cont_scale (l := pprim l) (m := l) (c := cont l) fun i => (pprim_mul l i).symm
  have h2 : cont (pprim l) * cont l = 1 * cont l := by rw [Nat.one_mul]; exact this.symm
  exact Nat.eq_of_mul_eq_mul_right (Nat.pos_of_ne_zero h) h2
theorem pprim_trim {l : List Int} (h : Trim l) : Trim (pprim l) := fun k hk => by
  have hk' : l.length = k + 1 := by
    unfold pprim at hk
    rw [List.length_map] at hk
    exact hk
  have h1 := h k hk'
  intro e
  have := pprim_mul l k
  rw [e, Int.zero_mul] at this
  exact h1 this.symm
/-! sums -/
theorem sumN_add (f g : Nat → Int) : ∀ n, sumN (fun i => f i + g i) n = sumN f n + sumN g n
  | 0 => rfl
  | n + 1 => by
    show sumN (fun i => f i + g i) n + (f n + g n) = sumN f n + f n + (sumN g n + g n)
    rw [sumN_add f g n]
    omega
theorem sumN_mul (c : Int) (f : Nat → Int) : ∀ n, sumN (fun i => c * f i) n = c * sumN f n
  | 0 => by show 0 = c * 0; rw [Int.mul_zero]
  | n + 1 => by
    show sumN (fun i => c * f i) n + c * f n = c * (sumN f n + f n)
    rw [sumN_mul c f n, Int.mul_add]
theorem sumN_head (f : Nat → Int) : ∀ n, sumN f (n + 1) = f 0 + sumN (fun i => f (i + 1)) n
  | 0 => by show 0 + f 0 = f 0 + 0; omega
  | n + 1 => by
    have := sumN_head f n
    show sumN f (n + 1) + f (n + 1) = f 0 + (sumN (fun i => f (i + 1)) n + f (n + 1))
    rw [this]
    omega
/-- the coefficient, in full -/
theorem cnv_eq (a b : List Int) (k : Nat) : cnv a b k = sumN (fun i => a.getD i 0 * b.getD (k - i) 0) (k + 1) := by
  have e : ∀ n, a.length ≤ n → sumN (fun i => a.getD i 0 * (if i ≤ k then b.getD (k - i) 0 else 0)) n = cnv a b k := fun n hn =>
    sumN_more n (fun i hi => by rw [getD_ge hi, Int.zero_mul]) hn
  have e2 : ∀ n, k + 1 ≤ n → sumN (fun i => a.getD i 0 * (if i ≤ k then b.getD (k - i) 0 else 0)) n = sumN (fun i => a.getD i 0 * (if i ≤ k then b.getD (k - i) 0 else 0)) (k + 1) := fun n hn =>
    sumN_more n (fun i hi => by rw [if_neg (by omega), Int.mul_zero]) hn
  rw [← e (a.length + k + 1) (by omega), e2 (a.length + k + 1) (by omega)]
  exact sumN_congr _ fun i hi => by rw [if_pos (by omega)]
theorem sumN_dvd {p : Int} {f : Nat → Int} : ∀ n, (∀ i, i < n → p ∣ f i) → p ∣ sumN f n
  | 0, _ => Int.dvd_zero p
  | n + 1, h => Int.dvd_add (sumN_dvd n fun i hi => h i (by omega)) (h n (by omega))
theorem sumN_but {p : Int} {f : Nat → Int} {j : Nat} : ∀ n, j < n → (∀ i, i < n → i ≠ j → p ∣ f i) → p ∣ sumN f n → p ∣ f j
  | 0, h, _, _ => absurd h (Nat.not_lt_zero j)
  | n + 1, hj, h, hd => by
    have hd' : p ∣ sumN f n + f n := hd
    by_cases e : j = n
    · subst e
      exact (Int.dvd_iff_dvd_of_dvd_add hd').mp (sumN_dvd j fun i hi => h i (by omega) (by omega))
    · refine sumN_but n (by omega) (fun i hi => h i (by omega)) ?_
      exact (Int.dvd_iff_dvd_of_dvd_add hd').mpr (h n (by omega) (by omega))
/-- the first place that a prime does not divide -/
theorem first_not {p : Int} {f : Nat → Int} : ∀ n, ¬ p ∣ f n → ∃ i, ¬ p ∣ f i ∧ ∀ j, j < i → p ∣ f j := by
  intro n
  induction n using Nat.strongRecOn with
  | ind n ih =>
    intro h
    by_cases c : ∃ m, m < n ∧ ¬ p ∣ f m
    · obtain ⟨m, hm, hd⟩ := c
      exact ih m hm hd
    · exact ⟨n, h, fun j hj => Classical.byContradiction fun hd => c ⟨j, hj, hd⟩⟩
theorem gauss_one {a b : List Int} {p : Int} (hp : Pr p) (ha : ∃ i, ¬ p ∣ a.getD i 0) (hb : ∃ i, ¬ p ∣ b.getD i 0) : ∃ k, ¬ p ∣ cnv a b k := by
  obtain ⟨i0, h0⟩ := ha
  obtain ⟨j0, g0⟩ := hb
  obtain ⟨i, hi, mi⟩ := first_not (f := fun i => a.getD i 0) i0 h0
  obtain ⟨j, hj, mj⟩ := first_not (f := fun i => b.getD i 0) j0 g0
  refine ⟨i + j, fun hd => ?_⟩
  rw [cnv_eq] at hd
  have := sumN_but (j := i) (i + j + 1) (by omega) (fun s hs hne => ?_) hd
  · have e : i + j - i = j := by omega
    rw [e] at this
    rcases pr_mul hp this with h | h
    · exact hi h
    · exact hj h
  · by_cases c : s < i
    · exact Int.dvd_mul_of_dvd_left (mi s c)
    · exact Int.dvd_mul_of_dvd_right (mj (i + j - s) (by omega))
theorem prime_of {n : Nat} (h : n ≠ 1) : ∃ p : Int, Pr p ∧ p ∣ (n : Int) := by
  by_cases c : n = 0
  · subst c
    exact ⟨2, ⟨by decide, fun m h1 h2 => by omega⟩, Int.dvd_zero _⟩
  · obtain ⟨r, hr⟩ := least_ex (n := (n : Int)) (by omega)
    exact ⟨r, hr.pr, hr.dvd⟩
theorem cont_one_prime {l : List Int} (h : cont l = 1) {p : Int} (hp : Pr p) : ∃ i, ¬ p ∣ l.getD i 0 := Classical.byContradiction fun hn => by
  have hall : ∀ i, p ∣ l.getD i 0 := fun i => Classical.byContradiction fun hd => hn ⟨i, hd⟩
  have := dvd_cont_get hall
  rw [h] at this
  have := Int.le_of_dvd (by decide) this
  have := hp.1
  omega
theorem gauss_prim {a b : List Int} (ha : cont a = 1) (hb : cont b = 1) : cont (pmul a b) = 1 := Classical.byContradiction fun hn => by
  obtain ⟨p, hp, hd⟩ := prime_of hn
  obtain ⟨k, hk⟩ := gauss_one hp (cont_one_prime ha hp) (cont_one_prime hb hp)
  exact hk (by rw [← pmul_get]; exact Int.dvd_trans hd (cont_get k))
theorem cnv_scale (a b : List Int) (k : Nat) : cnv a b k = cnv (pprim a) (pprim b) k * ((cont a * cont b : Nat) : Int) := by
  rw [cnv_eq, cnv_eq, Int.mul_comm, ← sumN_mul]
  refine sumN_congr _ fun i _ => ?_
  rw [← pprim_mul a i, ← pprim_mul b (k - i), Int.natCast_mul]
  generalize (pprim a).getD i 0 = x
  generalize (pprim b).getD (k - i) 0 = y
  rw [Int.mul_assoc, Int.mul_left_comm _ y, ← Int.mul_assoc x y, Int.mul_comm (x * y)]
theorem gauss (a b : List Int) : cont (pmul a b) = cont a * cont b := by
  by_cases ha : cont a = 0
  · rw [ha, Nat.zero_mul]
    refine nat_antisymm (Int.dvd_zero _) (dvd_cont_get fun k => ?_)
    rw [pmul_get, cnv_eq]
    exact sumN_dvd _ fun i _ => by rw [cont_zero ha, Int.zero_mul]; exact Int.dvd_zero _
  · by_cases hb : cont b = 0
    · rw [hb, Nat.mul_zero]
      refine nat_antisymm (Int.dvd_zero _) (dvd_cont_get fun k => ?_)
      rw [pmul_get, cnv_eq]
      exact sumN_dvd _ fun i _ => by rw [cont_zero hb, Int.mul_zero]; exact Int.dvd_zero _
    · have := cont_scale (l := pmul (pprim a) (pprim b)) (m := pmul a b) (c := cont a * cont b) fun i => by rw [pmul_get, pmul_get]; exact cnv_scale a b i
      rw [gauss_prim (cont_pprim ha) (cont_pprim hb), Nat.one_mul] at this
      exact this
/-- the derivative -/
def pdrv (l : List Int) : List Int := trim (rngN (l.length - 1) fun k => ((k : Int) + 1) * l.getD (k + 1) 0)
theorem pdrv_get (l : List Int) (k : Nat) : (pdrv l).getD k 0 = ((k : Int) + 1) * l.getD (k + 1) 0 := by
  unfold pdrv
  rw [trim_get, rngN_get]
  split
  · rfl
  · rw [getD_ge (show l.length ≤ k + 1 by omega), Int.mul_zero]
theorem pdrv_mul (a b : List Int) : pdrv (pmul a b) = pplus 1 (pmul (pdrv a) b) (pmul a (pdrv b)) := by
  have t1 : Trim (pdrv (pmul a b)) := trim_trim _
  have t2 : Trim (pplus 1 (pmul (pdrv a) b) (pmul a (pdrv b))) := trim_trim _
  refine t1.ext t2 fun k => ?_
  rw [pdrv_get, pplus_get, pmul_get, pmul_get, pmul_get, cnv_eq, cnv_eq, cnv_eq, Int.one_mul, ← sumN_mul]
  have e1 : sumN (fun i => ((k : Int) + 1) * (a.getD i 0 * b.getD (k + 1 - i) 0)) (k + 1 + 1) =
      sumN (fun i => (i : Int) * (a.getD i 0 * b.getD (k + 1 - i) 0)) (k + 1 + 1) + sumN (fun i => ((k + 1 - i : Nat) : Int) * (a.getD i 0 * b.getD (k + 1 - i) 0)) (k + 1 + 1) := by
    rw [← sumN_add]
    refine sumN_congr _ fun i hi => ?_
    rw [← Int.add_mul]
    congr 1
    omega
  have e2 : sumN (fun i => (i : Int) * (a.getD i 0 * b.getD (k + 1 - i) 0)) (k + 1 + 1) = sumN (fun i => (pdrv a).getD i 0 * b.getD (k - i) 0) (k + 1) := by
    rw [sumN_head]
    show ((0 : Nat) : Int) * _ + _ = _
    rw [show ((0 : Nat) : Int) = 0 from rfl, Int.zero_mul, Int.zero_add]
    refine sumN_congr _ fun i hi => ?_
    rw [pdrv_get, show k + 1 - (i + 1) = k - i by omega, Int.mul_assoc, Int.natCast_add] <;> rfl
  have e3 : sumN (fun i => ((k + 1 - i : Nat) : Int) * (a.getD i 0 * b.getD (k + 1 - i) 0)) (k + 1 + 1) = sumN (fun i => a.getD i 0 * (pdrv b).getD (k - i) 0) (k + 1) := by
    show sumN (fun i => ((k + 1 - i : Nat) : Int) * (a.getD i 0 * b.getD (k + 1 - i) 0)) (k + 1) + ((k + 1 - (k + 1) : Nat) : Int) * _ = _
    rw [Nat.sub_self, show ((0 : Nat) : Int) = 0 from rfl, Int.zero_mul, Int.add_zero]
    refine sumN_congr _ fun i hi => ?_
    rw [pdrv_get, show k - i + 1 = k + 1 - i by omega, Int.mul_left_comm]
    congr 2
    omega
  rw [e1, e2, e3]
theorem pmul_const {l : List Int} {c : Int} : pmul l (trim [c]) = trim (l.map (· * c)) := by
  have t1 : Trim (pmul l (trim [c])) := trim_trim _
  refine t1.ext (trim_trim _) fun k => ?_
  rw [pmul_get, trim_get, getD_map (f := (· * c)) (Int.zero_mul c), cnv_eq]
  show sumN _ k + l.getD k 0 * (trim [c]).getD (k - k) 0 = _
  rw [sumN_congr (g := fun _ => 0) k fun i hi => ?_, sumN_zero, Int.zero_add, trim_get, Nat.sub_self]
  · rfl
  · rw [trim_get, getD_ge (l := [c]) (by show 1 ≤ k - i; omega), Int.mul_zero]
theorem pprim_whole {l : List Int} (h : Trim l) : pmul (pprim l) (trim [((cont l : Nat) : Int)]) = l := by
  have t1 : Trim (pmul (pprim l) (trim [((cont l : Nat) : Int)])) := trim_trim _
  refine t1.ext h fun k => ?_
  rw [pmul_const, trim_get, getD_map (f := (· * ((cont l : Nat) : Int))) (Int.zero_mul _)]
  exact pprim_mul l k
theorem pdrv_trim (l : List Int) : pdrv (trim l) = pdrv l := by
  have t1 : Trim (pdrv (trim l)) := trim_trim _
  have t2 : Trim (pdrv l) := trim_trim _
  exact t1.ext t2 fun k => by rw [pdrv_get, pdrv_get, trim_get]
theorem pprim_zero {l : List Int} (ht : Trim l) (h : cont l = 0) : l = [] ∧ pprim l = [] := by
  have := cont_nil ht h
  subst this
  exact ⟨rfl, rfl⟩
-- part euclid
/-- floor division: the rest is smaller and has the divisor's sign -/
theorem fd_parts (d r : Int) (hr : r ≠ 0) : ∃ m : Int, d - d.fdiv r * r = m ∧ m.natAbs < r.natAbs ∧ ((0 ≤ r ∧ 0 ≤ m) ∨ (r ≤ 0 ∧ m ≤ 0)) ∧ (d.fdiv r).natAbs ≤ d.natAbs ∧
    (((0 ≤ d ∧ 0 ≤ r) ∨ (d ≤ 0 ∧ r ≤ 0)) → d.natAbs = (d.fdiv r).natAbs * r.natAbs + m.natAbs) := by
  have key : ∀ d r : Int, 0 < r → ∃ m : Int, d - d.fdiv r * r = m ∧ m.natAbs < r.natAbs ∧ 0 ≤ m ∧ (d.fdiv r).natAbs ≤ d.natAbs ∧ (0 ≤ d → d.natAbs = (d.fdiv r).natAbs * r.natAbs + m.natAbs) := by
    intro d r h
    rw [Int.fdiv_eq_ediv_of_nonneg d (by omega)]
    have e := Int.mul_ediv_add_emod d r
    have e1 := Int.emod_nonneg d (show r ≠ 0 by omega)
    have e2 := Int.emod_lt_of_pos d h
    have e3 : d / r * r = r * (d / r) := Int.mul_comm _ _
    refine ⟨d % r, by omega, by omega, e1, Int.natAbs_ediv_le_natAbs d r, fun hd => ?_⟩
    have e4 : 0 ≤ d / r := Int.ediv_nonneg hd (by omega)
    have e5 : ((d / r).natAbs * r.natAbs : Nat) = (d / r * r).natAbs := (Int.natAbs_mul _ _).symm
    have e6 : 0 ≤ d / r * r := Int.mul_nonneg e4 (by omega)
    rw [e5]
    omega
  by_cases h : 0 < r
  · obtain ⟨m, h1, h2, h3, h4, h5⟩ := key d r h
    exact ⟨m, h1, h2, .inl ⟨by omega, h3⟩, h4, fun hh => h5 (by omega)⟩
  · obtain ⟨m, h1, h2, h3, h4, h5⟩ := key (-d) (-r) (by omega)
    rw [Int.neg_fdiv_neg] at h1 h4 h5
    have e : d.fdiv r * -r = -(d.fdiv r * r) := Int.mul_neg _ _
    refine ⟨-m, by omega, by omega, .inr ⟨by omega, by omega⟩, by omega, fun hh => ?_⟩
    have h6 := h5 (by omega)
    have e2 : (-r).natAbs = r.natAbs := by omega
    have e3 : (-d).natAbs = d.natAbs := by omega
    have e4 : (-m).natAbs = m.natAbs := by omega
    rw [e2, e3] at h6
    rw [e4]
    exact h6
/-- what holds between two turns -/
structure Euc (a b d r u u' : Int) : Prop where
  g : d.gcd r = a.gcd b
  c1 : ∃ v, d = u * a + v * b
  c2 : ∃ v, r = u' * a + v * b
  bd : d.natAbs ≤ a.natAbs + b.natAbs
  br : r.natAbs ≤ a.natAbs + b.natAbs
  bu : u.natAbs ≤ b.natAbs + 1
  bu' : u'.natAbs ≤ b.natAbs
  way : (u' = 0 ∧ u = 1 ∧ r = b) ∨ (((0 ≤ d ∧ 0 ≤ r) ∨ (d ≤ 0 ∧ r ≤ 0)) ∧ d ≠ 0 ∧ d.natAbs * u'.natAbs + r.natAbs * u.natAbs ≤ b.natAbs)
theorem euc0 (a b : Int) : Euc a b a b 1 0 := ⟨rfl, ⟨0, by omega⟩, ⟨1, by omega⟩, by omega, by omega, by omega, by omega, .inl ⟨rfl, rfl, rfl⟩⟩
theorem euc_step {a b d r u u' : Int} (h : Euc a b d r u u') (hr : r ≠ 0) :
    Euc a b r (d - d.fdiv r * r) u' (u - d.fdiv r * u') ∧ (d - d.fdiv r * r).natAbs < r.natAbs := by
  obtain ⟨m, e, hm, hs, hq, hd⟩ := fd_parts d r hr
  obtain ⟨v1, c1⟩ := h.c1
  obtain ⟨v2, c2⟩ := h.c2
  generalize hqq : d.fdiv r = q at *
  rw [e]
  have hg : r.gcd m = a.gcd b := by
    rw [← e, Int.gcd_sub_mul_right_right, Int.gcd_comm, h.g]
  have hc2 : ∃ v, m = (u - q * u') * a + v * b := by
    refine ⟨v1 - q * v2, ?_⟩
    rw [← e, Int.sub_mul, Int.sub_mul, Int.mul_assoc, Int.mul_assoc]
    have : q * r = q * (u' * a) + q * (v2 * b) := by rw [← Int.mul_add, ← c2]
    omega
  -- the bounds
  have hw : r.natAbs * (u - q * u').natAbs + m.natAbs * u'.natAbs ≤ b.natAbs := by
    rcases h.way with ⟨z1, z2, z3⟩ | ⟨s, z1, z2⟩
    · subst z1
      subst z2
      subst z3
      rw [Int.mul_zero]
      simp
    · have hd' := hd s
      have t1 : (u - q * u').natAbs ≤ u.natAbs + q.natAbs * u'.natAbs := by
        have := Int.natAbs_sub_le u (q * u')
        rw [Int.natAbs_mul] at this
        exact this
      have t2 := Nat.mul_le_mul_left r.natAbs t1
      rw [hd', Nat.add_mul] at z2
      rw [Nat.mul_add] at t2
      have t3 : r.natAbs * (q.natAbs * u'.natAbs) = q.natAbs * r.natAbs * u'.natAbs := by
        rw [← Nat.mul_assoc, Nat.mul_comm r.natAbs]
      omega
  have hrn : 1 ≤ r.natAbs := by omega
  have hu2 : (u - q * u').natAbs ≤ b.natAbs := by
    have := Nat.mul_le_mul_right (u - q * u').natAbs hrn
    omega
  exact ⟨⟨hg, ⟨v2, c2⟩, hc2, h.br, by have := h.br; omega, by have := h.bu'; omega, hu2, .inr ⟨hs, hr, hw⟩⟩, hm⟩
/-- the end -/
theorem euc_end {a b d u u' : Int} (h : Euc a b d 0 u u') : d.natAbs = a.gcd b := by
  have := h.g
  rwa [Int.gcd_zero_right] at this
theorem euc_last {a b d u v : Int} (hb : b ≠ 0) (c : d = u * a + v * b) : (d - u * a).fdiv b = v := by
  have : d - u * a = v * b := by omega
  rw [this, Int.mul_fdiv_cancel _ hb]
theorem natAbs_le_mul {v b : Int} (hb : b ≠ 0) : v.natAbs ≤ (v * b).natAbs := by
  rw [Int.natAbs_mul]
  exact Nat.le_mul_of_pos_right _ (by omega)

structure Cl (P : Program) (w : World) (K : PySem.W.Frag) (mg : Str → Option Value) (base : Heap) (CX : CXT) (k : Nat) (x : Str) (sp : Sp) : Prop where
  ex : ∃ (f : Addr) (fd : FuncData) (ps : List Str), FnOk P w K mg base CX k f fd ps sp ∧ mg x = some (.ref f) ∧ PySem.W.keepIn K (.ref f) = true ∧ Binds K fd ps []
theorem pe_cl {X : Cx} {k j : Nat} {x : Str} {sp : Sp} {p pos : Pos} {e : Expr} {es : List Expr} {t : TA} (c : Cl X.prog X.w X.K X.mg X.base CX0 k x sp) (hr : Room j X.A) (ha : PA X (e :: es) t) (hk : k ≤ j := by decide) (hg : Gl X x := by rfl)
    (hdb : (x == ("__debug__" : Str)) = false := by decide) (he : starEach (e :: es) X.env = (false, eval e X.env) :: starEach es X.env := by rfl) (hpl : (backTo pos (starEach es X.env)).any (·.1) = false := by rfl) :
    PE X (.Call (.Name x p) (e :: es) [] pos) (tCall sp [] E0 t) := by
  obtain ⟨f, fd, ps, F, hm, kp, b⟩ := c.ex
  exact pe_call F (hr.mono hk) hg hm kp b .nil pass0 ha hdb he hpl
structure Txt (mg : Str → Option Value) : Prop where
  int : mg "int" = none
  len : mg "len" = none
  abs : mg "abs" = none
  isinstance : mg "isinstance" = none
  bool : mg "bool" = none
  tuple : mg "tuple" = none
  list : mg "list" = none
  str : mg "str" = none
  range : mg "range" = none
  max : mg "max" = none
  min : mg "min" = none
  sorted : mg "sorted" = none
  set : mg "set" = none
theorem if_pos_of {c : Bool} {A B : Prop} (hc : c = true) (h : A) : if c = true then A else B := by
  rw [if_pos hc]
  exact h
theorem if_neg_of {c : Bool} {A B : Prop} (hc : c = false) (h : B) : if c = true then A else B := by
  rw [hc, if_neg Bool.false_ne_true]
  exact h
theorem same_upd {H : Hp} {p : Addr} {o : HO} (h : H p = none) : Same H (upd H p o) := fun b u e => by
  rw [upd_ne (ne_of_none e h)]
  exact e
/-- a call of a def that may raise, where it doesn't -/
theorem pe_cl0 {X : Cx} {k j : Nat} {x : Str} {sp : Sp} {p pos : Pos} {e : Expr} {es : List Expr} {t : TA} (c : Cl X.prog X.w X.K X.mg X.base (L2.CX X.prog X.w) k x sp) (hr : Room j X.A) (ha : PA X (e :: es) t) (hk : k ≤ j := by decide) (hg : Gl X x := by rfl)
    (hdb : (x == ("__debug__" : Str)) = false := by decide) (he : starEach (e :: es) X.env = (false, eval e X.env) :: starEach es X.env := by rfl) (hpl : (backTo pos (starEach es X.env)).any (·.1) = false := by rfl) :
    PE X (.Call (.Name x p) (e :: es) [] pos) (tCall sp [] E0 t) := by
  obtain ⟨f, fd, ps, F, hm, kp, b⟩ := c.ex
  exact pe_call F (hr.mono hk) hg hm kp b .nil passL ha hdb he hpl
/-- a call of a def that may raise, in a def or try that takes it -/
theorem pe_clX {X : Cx} {W : WX} {k j : Nat} {x : Str} {sp : Sp} {p pos : Pos} {e : Expr} {es : List Expr} {t : TA} (c : Cl X.prog X.w X.K X.mg X.base (L2.CX X.prog X.w) k x sp) (hr : Room j X.A) (tk : Takes X W) (ha : PA X (e :: es) t) (hk : k ≤ j := by decide) (hg : Gl X x := by rfl)
    (hdb : (x == ("__debug__" : Str)) = false := by decide) (he : starEach (e :: es) X.env = (false, eval e X.env) :: starEach es X.env := by rfl) (hpl : (backTo pos (starEach es X.env)).any (·.1) = false := by rfl) :
    PE X (.Call (.Name x p) (e :: es) [] pos) (tCallS sp (WE W) t) := by
  obtain ⟨f, fd, ps, F, hm, kp, b⟩ := c.ex
  exact pe_callS F (hr.mono hk) hg hm kp b (fun σ => passAt tk σ) ha hdb he hpl
/-- FieldError, and what its __init__ is -/
structure FErr (K : PySem.W.Frag) (mg : Str → Option Value) (C : Addr) : Prop where
  g : mg "FieldError" = some (.ref C)
  rd : PySem.W.readsIn K C (.type "type") = true
  ga : PySem.W.specialIn K (.ref C) "__getattribute__" = some (some (.builtin "type.__getattribute__"))
  fi : PySem.W.findCls K (.ref C) (.type "type") "__init__" = some (.val (.builtin "ValueError.__init__"))
theorem pe_feinit {X : Cx} {CF : Addr} {e : Expr} {es : List Expr} {ta : TA} {p1 p2 pos : Pos} {pl : Sem Bool} (F : FErr X.K X.mg CF) (ha : PA X (e :: es) ta) (hg : Gl X "FieldError" := by rfl)
    (hc : eval (.Call (.Attribute (.Name "FieldError" p1) "__init__" p2) (e :: es) [] pos) X.env = (do
      let ov ← eval (.Name "FieldError" p1) X.env
      standAt p2.atName
      let (f, first) ← holding [ov] (getMethod ov "__init__" pl)
      callWith pos f first (backTo pos (starEach (e :: es) X.env)) (backToKw pos (keywordEach [] X.env))) := by rfl)
    (he : starEach (e :: es) X.env = (false, eval e X.env) :: starEach es X.env := by rfl) (hpl : (backTo pos (starEach es X.env)).any (·.1) = false := by rfl) :
    PE X (.Call (.Attribute (.Name "FieldError" p1) "__init__" p2) (e :: es) [] pos) (tVeI X.K ta) := by
  refine ⟨fun pins s σ H Q I h => ?_⟩
  refine PySem.W.methodCall_KW (ld_glob I hg F.g ?_ (by decide)) hc
  refine PySem.W.method_cls I.kIn F.ga (PySem.W.cls_value I.kIn F.rd F.fi (by decide +kernel) ?_)
  show wpAny _ _ (callWith pos (Value.builtin "ValueError.__init__") [] (backTo pos (starEach (e :: es) X.env)) []) _ _ _
  refine PyProof.Rows.callWith_method1 (thn (ha.run pos pins _ σ H _ (I.tok _) h) fun us s1 ⟨vs, H1, I1, r1, a, C, ws, ev, hl, T, ea, q⟩ => ?_) he hpl
  subst ev
  cases r1 with
  | @cons _ u0 _ ur ra rw' =>
    obtain rfl : u0 = Value.ref a := ra
    have hlen : ur.length ≤ sizeLine := by
      rw [← Paired.length rw', sizeLine_eq]
      omega
    exact oinit_ok T I1 ea hlen fun s' J => ⟨.non, H1, J, rfl, q⟩
/-- an own error class with one attribute, and its __init__ by its promise -/
def spInit (C : Addr) (fld : Str) : Sp := fun vs H Q _ => ∃ (a : Addr) (v : V), vs = [.ref a, v] ∧ H a = some (exo a C none) ∧
  ∀ d, H d = none → d ≠ a → Q .non (upd (upd H d (exd d [(fld, v)])) a (exo a C (some d)))
structure ErrC (K : PySem.W.Frag) (mg : Str → Option Value) (nm fld : Str) (C fI : Addr) : Prop where
  g : mg nm = some (.ref C)
  oex : OexC K C
  no : PySem.W.findIn K (.ref C) fld = some none
  iC : PySem.W.findIn K (.ref C) "__init__" = some (some (.ref fI))
  tI : PySem.W.typeIn K (.ref fI) = some (.type "function")
  xf : XfC K C
  te : PySem.W.exmOne K (.ref C) (.ref C) = some true
structure Er (P : Program) (w : World) (K : PySem.W.Frag) (mg : Str → Option Value) (base : Heap) (nm fld : Str) (C : Addr) : Prop where
  ex : ∃ (fI : Addr) (fd : FuncData) (ps : List Str), ErrC K mg nm fld C fI ∧ FnOk P w K mg base CX0 1 fI fd ps (spInit C fld) ∧ Binds K fd ps []
theorem Er.c {P : Program} {w : World} {K : PySem.W.Frag} {mg : Str → Option Value} {base : Heap} {nm fld : Str} {C : Addr} (e : Er P w K mg base nm fld C) : ∃ fI, ErrC K mg nm fld C fI := by
  obtain ⟨fI, _, _, T, _⟩ := e.ex
  exact ⟨fI, T⟩
theorem exm_me {K : PySem.W.Frag} {S : Addr} (h1 : PySem.W.subIn K (.ref S) (.type "BaseException") = some true) (h2 : PySem.W.isClsIn K S = true) (h3 : PySem.W.typeIn K (.ref S) = some (.type "type")) (h4 : PySem.W.subIn K (.ref S) (.ref S) = some true) :
    PySem.W.exmOne K (.ref S) (.ref S) = some true := by
  have e1 : (PySem.W.subIn K (.ref S) (.type "BaseException") == some true) = true := by rw [h1] <;> rfl
  have h2' : (PySem.W.clsIn K S).isSome = true := h2
  have e2 : ((PySem.W.clsIn K S).isSome && PySem.W.typeIn K (.ref S) == some (.type "type")) = true := by rw [h2', h3] <;> rfl
  unfold PySem.W.exmOne
  rw [if_pos e1]
  show (if ((PySem.W.clsIn K S).isSome && PySem.W.typeIn K (.ref S) == some (.type "type")) = true then PySem.W.subIn K (.ref S) (.ref S) else none) = some true
  rw [if_pos e2]
  exact h4
/-- raise C(v): the argument, then what C's own __init__ asks (mk1 answers it) -/
theorem ps_raise1 {X : Cx} {W : WX} {x fld : Str} {C : Addr} {j : Nat} {e : Expr} {ta : TA} {p pos pos' : Pos} (c : Er X.prog X.w X.K X.mg X.base x fld C) (hr : Room j X.A) (tk : Takes X W) (ha : PA X [e] ta) (hj : 2 ≤ j := by decide) (hcalm : X.calm = true := by rfl) (hg : Gl X x := by rfl)
    (hdb : (x == ("__debug__" : Str)) = false := by decide) (he : starEach [e] X.env = (false, eval e X.env) :: starEach [] X.env := by rfl) (hpl : (backTo pos (starEach [] X.env)).any (·.1) = false := by rfl) :
    PS X (.Raise (some (.Call (.Name x p) [e] [] pos)) none pos') (fun _ σ H => tMkO C (spInit C fld) [] ta σ H fun cls d H' => W cls d σ H') := by
  obtain ⟨fI, fd, ps, T, F, b⟩ := c.ex
  exact ps_raise hcalm tk (pmk_oex (X := X) (p := p) (pos := pos) T.oex T.iC T.tI F (hr.mono hj) b .nil (fun _ _ _ _ _ _ _ h => h.elim) hg T.g ha hdb he hpl)
theorem mk1 {C : Addr} {fld : Str} {v : V} {H1 : Hp} {Q : XK} (k : ∀ d H2, Same H1 H2 → H1 d = none → H2 d = some (.xd [(fld, v)]) → Q (.ref C) (some d) H2) :
    ([v] : List V).length ≤ 1000 ∧ ∀ a, H1 a = none → spInit C fld (.ref a :: ([v] ++ [])) (upd H1 a (exo a C none))
      (fun u H2 => u = .non ∧ ∃ (d : Addr) (fs : List (Str × V)), H2 a = some (exo a C (some d)) ∧ H2 d = some (exd d fs) ∧ H1 d = none ∧ Q (.ref C) (some d) (upd (del H2 a) d (.xd fs))) (fun _ _ _ => False) := by
  refine ⟨(by show 1 ≤ 1000; decide), fun a ha => ⟨a, v, rfl, upd_same, fun d hd hda => ⟨rfl, d, [(fld, v)], upd_same, ?_, ?_, ?_⟩⟩⟩
  · rw [upd_ne hda, upd_same]
  · rw [upd_ne hda] at hd
    exact hd
  · rw [upd_ne hda] at hd
    refine k d _ (fun b o e => ?_) hd upd_same
    have hba := ne_of_none e ha
    have hbd := ne_of_none e hd
    rw [upd_ne hbd, del_ne hba, upd_ne hba, upd_ne hbd, upd_ne hba]
    exact e
/-! the same for exceptions whose context is None -/
theorem passN {X : Cx} : Passes (L2N.CX X.prog X.w) X E0 := fun _ _ _ _ _ _ _ ⟨_, _, _, _, _, _, _, _, _, _, _, _, z⟩ => z.elim
theorem takes0N {X : Cx} : L2N.Takes X (fun _ _ _ _ => False) := fun _ _ ⟨_, _, _, _, _, _, _, _, _, _, _, _, _, _, _, _, z⟩ => z.elim
theorem okN {P : Program} {w : World} {K : PySem.W.Frag} {mg : Str → Option Value} {base : Heap} {x qual : Str} {st : Stmt} {f : Addr} {fd : FuncData} {N ps : List Str} {k : Nat} {sp : Sp} (F : Fun K x qual st f fd) (S : FnScope N ps (defScope st)) (len : ∀ vs H Q E, sp vs H Q E → vs.length = ps.length)
    (body : ∀ (cdv : Value) (A : Around) (outer : List Env) (s : Shared) (H : Hp) (vs : List V) (Q : VK) (E : XK), Room k (A.deeper (envOfC qual (defScope st) s.heap.objs.size f cdv)) → sp vs H Q E →
      ∃ t, PSs (cxOf (L2N.CX P w) P w K mg base N qual (defScope st) f cdv A outer s H E) (defBody st) t ∧ t { nx := fun _ H' => Q .non H', rt := Q } (start N vs) H) : FnOk P w K mg base (L2N.CX P w) (k + 1) f fd ps sp := by
  obtain ⟨oc, od, kV, doc, pm, an, cdv, ct, osl, rfl, lk, hcd⟩ := F.ex
  exact fn_of lk hcd S len fun A outer s H vs Q E hr h => body cdv A outer s H vs Q E hr h
/-- a call of such a def, where it doesn't raise -/
theorem pe_clN0 {X : Cx} {k j : Nat} {x : Str} {sp : Sp} {p pos : Pos} {e : Expr} {es : List Expr} {t : TA} (c : Cl X.prog X.w X.K X.mg X.base (L2N.CX X.prog X.w) k x sp) (hr : Room j X.A) (ha : PA X (e :: es) t) (hk : k ≤ j := by decide) (hg : Gl X x := by rfl)
    (hdb : (x == ("__debug__" : Str)) = false := by decide) (he : starEach (e :: es) X.env = (false, eval e X.env) :: starEach es X.env := by rfl) (hpl : (backTo pos (starEach es X.env)).any (·.1) = false := by rfl) :
    PE X (.Call (.Name x p) (e :: es) [] pos) (tCall sp [] E0 t) := by
  obtain ⟨f, fd, ps, F, hm, kp, b⟩ := c.ex
  exact pe_call F (hr.mono hk) hg hm kp b .nil passN ha hdb he hpl
theorem pe_clNX {X : Cx} {W : WX} {k j : Nat} {x : Str} {sp : Sp} {p pos : Pos} {e : Expr} {es : List Expr} {t : TA} (c : Cl X.prog X.w X.K X.mg X.base (L2N.CX X.prog X.w) k x sp) (hr : Room j X.A) (tk : L2N.Takes X W) (ha : PA X (e :: es) t) (hk : k ≤ j := by decide) (hg : Gl X x := by rfl)
    (hdb : (x == ("__debug__" : Str)) = false := by decide) (he : starEach (e :: es) X.env = (false, eval e X.env) :: starEach es X.env := by rfl) (hpl : (backTo pos (starEach es X.env)).any (·.1) = false := by rfl) :
    PE X (.Call (.Name x p) (e :: es) [] pos) (tCallS sp (WE W) t) := by
  obtain ⟨f, fd, ps, F, hm, kp, b⟩ := c.ex
  exact pe_callS F (hr.mono hk) hg hm kp b (fun σ => L2N.passAt tk σ) ha hdb he hpl
theorem pmk_oexN {X : Cx} {e : Expr} {es : List Expr} {ta : TA} {p pos : Pos} {x : Str} {C fI : Addr} {k : Nat} {fd : FuncData} {ps : List Str} {sp : Sp} {ds : List Value} {dvs : List V} (T : OexC X.K C) (iC : PySem.W.findIn X.K (.ref C) "__init__" = some (some (.ref fI))) (tI : PySem.W.typeIn X.K (.ref fI) = some (.type "function"))
    (F1 : FnOk X.prog X.w X.K X.mg X.base CX0 k fI fd ps sp) (hr : Room (k + 1) X.A) (hb : Binds X.K fd ps ds) (hd : Vals dvs ds) (hg : Gl X x) (hm : X.mg x = some (.ref C)) (ha : PA X (e :: es) ta)
    (hdb : (x == ("__debug__" : Str)) = false) (he : starEach (e :: es) X.env = (false, eval e X.env) :: starEach es X.env) (hpl : (backTo pos (starEach es X.env)).any (·.1) = false) :
    L2N.PMk X (.Call (.Name x p) (e :: es) [] pos) (tMkO C sp dvs ta) := by
  intro pins s σ H Q I h
  obtain ⟨nm, q, N, bs, bm, sn, sub, ab, col, dd, k0, k1, k2, k3, k5, hC, hbm⟩ := T.cls
  refine wpAny_Call_Name_kw (ld_glob I hg hm ?_ hdb)
  refine PySem.W.callWith_K (h₀ := X.base) I.ok.mod.kin T.kC (thn (ha.run pos pins s σ H _ I h) fun us st got => ?_) he hpl
  obtain ⟨vs, G1, I1, r1, hz, q1⟩ := got
  refine ⟨I1.kIn, ?_⟩
  show wpAny _ _ (call (.ref C) us) _ _ _
  obtain ⟨hp, g, dr, tk, os⟩ := st
  generalize ex : hp.objs.size + 1 = x1 at *
  have le1 : hp.objs.size ≤ x1 := by omega
  have sp1 := q1 x1 (I1.hok.fresh le1)
  have old : ∀ b o, hp.get? b = some o → ((hp.push (PySem.W.kdv_tup us)).push (PySem.HandSPX.excO C hp.objs.size)).get? b = some o := fun b o z =>
    Heap.get?_push_of_some _ (Heap.get?_push_of_some _ z)
  have new1 : ((hp.push (PySem.W.kdv_tup us)).push (PySem.HandSPX.excO C hp.objs.size)).get? x1 = some (PySem.HandSPX.excO C hp.objs.size) := by
    subst ex
    heap_get
  have I2 := I1.laid (t' := tk) (a := x1) (o := exo x1 C none) old le1 (exo_ok new1)
  have rel : Vals (V.ref x1 :: (vs ++ dvs)) (Value.ref x1 :: (us ++ ds)) := .cons rfl (r1.append hd)
  have few : us.length ≤ sizeLine := by
    have := Paired.length r1
    rw [sizeLine_eq]
    omega
  have many : (Value.ref x1 :: us ++ ds).length = ps.length := by
    have z := rel.length
    rw [F1.len _ _ _ _ sp1] at z
    exact z.symm
  have run := F1.run _ X.stack _ _ ⟨Value.ref x1 :: us, []⟩ (Value.ref x1 :: (us ++ ds)) _ _ (fun _ _ _ => False) (hr.make C us []) (I2.env0.make C us []) (hb _ (Value.ref x1 :: us) I2.kIn many) rel sp1
  refine wpAny_call (PySem.HandSPX.call_own F.excBase_ValueError (fun Y => PySem.HandSPX.refsVE_contains Y bm hbm) (I1.kIn _ _ hC) (PySem.W.looks_findIn I1.kIn iC) (fun self => PySem.W.bind_fn I1.kIn self tI) few ?_)
  subst ex
  refine codeAny_mono run fun r s' back => ?_
  cases r with
  | error er => exact False.elim back
  | ok fl =>
    cases fl with
    | ret u =>
      obtain ⟨v, H2, os2, bare2, un2, hok2, rv, ev, d, fs, ea, ed, hd1, q2⟩ := back
      subst ev
      obtain ⟨h2, g2, d2, t2, os'⟩ := s'
      obtain ⟨t0, G, J, kG, ge, hoe, na⟩ := mk_end0 (d2 := d2) (t2 := t2) I1 le1 old un2 hok2 os2 bare2 ea ed hd1
      exact ⟨rv, _, _, _, ⟨G, g2, d2, t2, os'⟩, _, .ref C, some d, rfl, J, kG, ge, hoe, ⟨rfl, rfl, fun vs z => by cases z; rfl⟩, rfl, rfl, na, rfl, bare2, raises_own T.exC T.tyC, q2⟩
    | next => exact False.elim back
    | brk => exact False.elim back
    | cont => exact False.elim back
theorem ps_raise1N {X : Cx} {W : WX} {x fld : Str} {C : Addr} {j : Nat} {e : Expr} {ta : TA} {p pos pos' : Pos} (c : Er X.prog X.w X.K X.mg X.base x fld C) (hr : Room j X.A) (tk : L2N.Takes X W) (ha : PA X [e] ta) (hj : 2 ≤ j := by decide) (hcalm : X.calm = true := by rfl) (hg : Gl X x := by rfl)
    (hdb : (x == ("__debug__" : Str)) = false := by decide) (he : starEach [e] X.env = (false, eval e X.env) :: starEach [] X.env := by rfl) (hpl : (backTo pos (starEach [] X.env)).any (·.1) = false := by rfl) :
    PS X (.Raise (some (.Call (.Name x p) [e] [] pos)) none pos') (fun _ σ H => tMkO C (spInit C fld) [] ta σ H fun cls d H' => W cls d σ H') := by
  obtain ⟨fI, fd, ps, T, F, b⟩ := c.ex
  exact L2N.ps_raise hcalm tk (pmk_oexN (X := X) (p := p) (pos := pos) T.oex T.iC T.tI F (hr.mono hj) b .nil hg T.g ha hdb he hpl)
section
variable {P : Program} {w : World} {K : PySem.W.Frag} {mg : Str → Option Value} {base : Heap}
-- part divm
/-! division with rest in a prime characteristic -/
def prem (p : Int) (l : List Int) : List Int := trim (l.map (· % p))
theorem prem_get (p : Int) (l : List Int) (i : Nat) : (prem p l).getD i 0 = l.getD i 0 % p := by
  unfold prem
  rw [trim_get]
  exact getD_map (f := fun z => z % p) (Int.zero_emod p) l i
theorem prem_bd {p : Int} (hp : 0 < p) {l : List Int} : ∀ z ∈ prem p l, 0 ≤ z ∧ z < p := fun z hz => by
  obtain ⟨y, _, rfl⟩ := List.mem_map.mp (trim_mem hz)
  exact ⟨Int.emod_nonneg _ (by omega), Int.emod_lt_of_pos _ hp⟩
theorem prem_few (p : Int) (l : List Int) : (prem p l).length ≤ l.length := by
  have := trim_few (l.map (· % p))
  rw [List.length_map] at this
  exact this
theorem trim_short {l : List Int} {n : Nat} (ht : Trim l) (h : ∀ i, n ≤ i → l.getD i 0 = 0) : l.length ≤ n := by
  by_cases c : l.length ≤ n
  · exact c
  · exact absurd (h (l.length - 1) (by omega)) (ht (l.length - 1) (by omega))
theorem cnv_nil (d : List Int) (k : Nat) : cnv [] d k = 0 := rfl
theorem cnv_add (a b d : List Int) (k : Nat) : cnv (pplus 1 a b) d k = cnv a d k + cnv b d k := by
  rw [cnv_eq, cnv_eq, cnv_eq, ← sumN_add]
  refine sumN_congr _ fun i _ => ?_
  rw [pplus_get, Int.one_mul, Int.add_mul]
def trm (c : Int) (e : Nat) : List Int := trim (List.replicate e 0 ++ [c])
theorem trm_get (c : Int) (e i : Nat) : (trm c e).getD i 0 = if i = e then c else 0 := by
  unfold trm
  rw [trim_get]
  by_cases h : i < e
  · rw [if_neg (by omega), List.getD_eq_getElem?_getD, List.getElem?_append_left (by rw [List.length_replicate]; exact h), List.getElem?_replicate, if_pos h]
    rfl
  · rw [List.getD_eq_getElem?_getD, List.getElem?_append_right (by rw [List.length_replicate]; omega), List.length_replicate]
    by_cases h2 : i = e
    · rw [if_pos h2, show i - e = 0 by omega]
      rfl
    · rw [if_neg h2, List.getElem?_eq_none (by show [c].length ≤ i - e; show 1 ≤ i - e; omega)]
      rfl
theorem sumN_one {e : Nat} {v : Nat → Int} : ∀ n, sumN (fun i => if i = e then v i else 0) n = if e < n then v e else 0
  | 0 => by rw [if_neg (by omega)]; rfl
  | n + 1 => by
    show sumN (fun i => if i = e then v i else 0) n + (if n = e then v n else 0) = _
    rw [sumN_one n]
    by_cases h : n = e
    · rw [if_neg (by omega), if_pos h, if_pos (by omega), h, Int.zero_add]
    · by_cases h2 : e < n
      · rw [if_pos h2, if_neg h, if_pos (by omega), Int.add_zero]
      · rw [if_neg h2, if_neg h, if_neg (by omega)]
        rfl
theorem cnv_term (c : Int) (e : Nat) (d : List Int) (k : Nat) : cnv (trm c e) d k = if e ≤ k then c * d.getD (k - e) 0 else 0 := by
  rw [cnv_eq]
  have h := sumN_one (e := e) (v := fun i => c * d.getD (k - i) 0) (k + 1)
  rw [sumN_congr (g := fun i => if i = e then c * d.getD (k - i) 0 else 0) _ fun i _ => by
    rw [trm_get]
    split
    · rfl
    · exact Int.zero_mul _, h]
  by_cases hk : e ≤ k
  · rw [if_pos hk, if_pos (by omega)]
  · rw [if_neg hk, if_neg (by omega)]
theorem dvd_eq {p a b : Int} (h : p ∣ a) (e : a = b) : p ∣ b := e ▸ h
structure DivS (p : Int) (first d q r : List Int) : Prop where
  rt : Trim r
  rb : ∀ z ∈ r, 0 ≤ z ∧ z < p
  eq : ∀ i, p ∣ first.getD i 0 - cnv q d i - r.getD i 0
theorem div0 {p : Int} (hp : 0 < p) (first d : List Int) : DivS p first d [] (prem p first) := by
  refine ⟨trim_trim _, prem_bd hp, fun i => ?_⟩
  rw [prem_get, cnv_nil, Int.sub_zero]
  exact Int.dvd_self_sub_emod
theorem div_step {p : Int} {first d q r : List Int} {b : Int} (hp : 0 < p) (h : DivS p first d q r) (len : d.length ≤ r.length) (dn : 0 < d.length) (hb : p ∣ b * d.getD (d.length - 1) 0 - 1) {c : Int} {e : Nat} (hc : c = r.getD (r.length - 1) 0 * b) (he : e = r.length - d.length) :
    DivS p first d (pplus 1 q (trm c e)) (prem p (pplus (-1) r (pmul (trm c e) d))) ∧ (prem p (pplus (-1) r (pmul (trm c e) d))).length < r.length := by
  have g : ∀ i, (prem p (pplus (-1) r (pmul (trm c e) d))).getD i 0 = (r.getD i 0 + -1 * cnv (trm c e) d i) % p := fun i => by rw [prem_get, pplus_get, pmul_get]
  refine ⟨⟨trim_trim _, prem_bd hp, fun i => ?_⟩, ?_⟩
  · rw [g, cnv_add]
    have h1 := h.eq i
    have h2 : p ∣ (r.getD i 0 + -1 * cnv (trm c e) d i) - (r.getD i 0 + -1 * cnv (trm c e) d i) % p := Int.dvd_self_sub_emod
    have := Int.dvd_add h1 h2
    exact dvd_eq this (by omega)
  · have : (prem p (pplus (-1) r (pmul (trm c e) d))).length ≤ r.length - 1 := by
      refine trim_short (trim_trim _) fun i hi => ?_
      rw [g, cnv_term, if_pos (by omega)]
      by_cases c1 : r.length ≤ i
      · rw [getD_ge c1, getD_ge (show d.length ≤ i - e by omega), Int.mul_zero]
        exact Int.zero_emod _
      · have e1 : i = r.length - 1 := by omega
        rw [e1, show r.length - 1 - e = d.length - 1 by omega, hc]
        refine Int.emod_eq_zero_of_dvd ?_
        obtain ⟨k, hk⟩ := hb
        refine ⟨-(r.getD (r.length - 1) 0 * k), ?_⟩
        have : b * d.getD (d.length - 1) 0 = p * k + 1 := by omega
        rw [Int.mul_assoc, this, Int.mul_add, Int.mul_one, Int.mul_neg, ← Int.mul_assoc, ← Int.mul_assoc, Int.mul_comm p]
        omega
    omega
/-- what is told fits -/
theorem sumN_sub_dvd {p : Int} {f g : Nat → Int} (hf : ∀ j, p ∣ f j - g j) : ∀ n, p ∣ sumN f n - sumN g n
  | 0 => ⟨0, by rw [Int.mul_zero] <;> rfl⟩
  | n + 1 => by
    refine dvd_eq (Int.dvd_add (sumN_sub_dvd hf n) (hf n)) ?_
    show sumN f n - sumN g n + (f n - g n) = sumN f n + f n - (sumN g n + g n)
    omega
theorem rem_swap (p x y : Int) : p ∣ x * (y % p) - x % p * y := by
  have a1 := Int.emod_add_mul_ediv x p
  have a2 := Int.emod_add_mul_ediv y p
  have b1 : x * (y % p) = x * y - x * (p * (y / p)) := by rw [← Int.mul_sub]; congr 1; omega
  have b2 : x % p * y = x * y - p * (x / p) * y := by rw [← Int.sub_mul]; congr 1; omega
  refine ⟨x / p * y - x * (y / p), ?_⟩
  rw [b1, b2, Int.mul_sub, Int.mul_left_comm x p (y / p), Int.mul_assoc]
  omega
theorem cnv_swap (p : Int) (q second : List Int) (i : Nat) : p ∣ cnv q (prem p second) i - cnv (prem p q) second i := by
  rw [cnv_eq, cnv_eq]
  refine sumN_sub_dvd (fun j => ?_) _
  rw [prem_get, prem_get]
  exact rem_swap _ _ _
theorem div_fits {p : Int} {first second q r : List Int} (h : DivS p first (prem p second) q r) : prem p (pplus 1 (pmul (prem p q) second) r) = prem p first := by
  refine Trim.ext (show Trim (prem p _) from trim_trim _) (show Trim (prem p first) from trim_trim _) fun i => ?_
  rw [prem_get, prem_get, pplus_get, pmul_get, Int.one_mul]
  have h3 := Int.dvd_neg.mpr (Int.dvd_add (h.eq i) (cnv_swap p q second i))
  refine Int.emod_eq_emod_iff_emod_sub_eq_zero.mpr (Int.emod_eq_zero_of_dvd (dvd_eq h3 ?_))
  omega
/-- the reciprocal -/
theorem gcd_one {n p : Int} (hp : Pr p) (h0 : 0 < n) (h1 : n < p) : n.gcd p = 1 := by
  have d1 : ((n.gcd p : Nat) : Int) ∣ n := Int.gcd_dvd_left ..
  have d2 : ((n.gcd p : Nat) : Int) ∣ p := Int.gcd_dvd_right ..
  have le := Int.le_of_dvd h0 d1
  by_cases c : 2 ≤ ((n.gcd p : Nat) : Int)
  · exact absurd d2 (hp.2 _ c (by omega))
  · have : (n.gcd p) ≠ 0 := fun e => by
      rw [e] at d1
      have := Int.zero_dvd.mp d1
      omega
    omega
theorem recip_ok {n p u v : Int} (h : u * n + v * p = 1) (hp : 0 < p) : p ∣ (u % p) * n - 1 := by
  have a1 := Int.emod_add_mul_ediv u p
  have b2 : u % p * n = u * n - p * (u / p) * n := by rw [← Int.sub_mul]; congr 1; omega
  refine ⟨-v - u / p * n, ?_⟩
  rw [b2, Int.mul_sub, Int.mul_neg, Int.mul_comm p v, Int.mul_assoc]
  omega
-- part partm
/-! division by multiples, in a prime characteristic -/
theorem cnv_rem (p : Int) (q d : List Int) (i : Nat) : p ∣ cnv (prem p q) d i - cnv q d i := by
  rw [cnv_eq, cnv_eq]
  refine sumN_sub_dvd (fun j => ?_) _
  rw [prem_get]
  have := Int.emod_add_mul_ediv (q.getD j 0) p
  refine ⟨-(q.getD j 0 / p * d.getD (i - j) 0), ?_⟩
  grind
theorem pmul_const_get (l : List Int) (c : Int) (i : Nat) : (pmul l (trim [c])).getD i 0 = l.getD i 0 * c := by
  rw [pmul_const, trim_get]
  exact getD_map (f := fun z => z * c) (Int.zero_mul c) l i
theorem cnv_const (q d : List Int) (c : Int) (i : Nat) : cnv (pmul q (trim [c])) d i = c * cnv q d i := by
  rw [cnv_eq, cnv_eq, ← sumN_mul]
  refine sumN_congr _ fun j _ => ?_
  rw [pmul_const_get]
  grind
structure DivM (p by_ : Int) (first d q r : List Int) : Prop where
  rt : Trim r
  rb : ∀ z ∈ r, 0 ≤ z ∧ z < p
  b0 : 0 < by_
  b1 : by_ < p
  eq : ∀ i, p ∣ by_ * first.getD i 0 - cnv q d i - r.getD i 0
theorem divM0 {p : Int} (hp : 2 ≤ p) (first d : List Int) : DivM p 1 first d [] (prem p first) := by
  refine ⟨trim_trim _, prem_bd (by omega), by omega, by omega, fun i => ?_⟩
  rw [prem_get, cnv_nil, Int.sub_zero, Int.one_mul]
  exact Int.dvd_self_sub_emod
theorem divM_step {p by_ : Int} {first d q r : List Int} (hp : Pr p) (h : DivM p by_ first d q r) (len : d.length ≤ r.length) (dn : 0 < d.length) {last c : Int} {e : Nat} (hl : last = d.getD (d.length - 1) 0) (l0 : 0 < last) (l1 : last < p) (hc : c = r.getD (r.length - 1) 0) (he : e = r.length - d.length) :
    DivM p (by_ * last % p) first d (prem p (pplus 1 (pmul q (trim [last])) (trm c e))) (prem p (pplus (-1) (pmul r (trim [last])) (pmul (trm c e) d))) ∧ (prem p (pplus (-1) (pmul r (trim [last])) (pmul (trm c e) d))).length < r.length := by
  have p0 : 0 < p := by have := hp.1; omega
  have g : ∀ i, (prem p (pplus (-1) (pmul r (trim [last])) (pmul (trm c e) d))).getD i 0 = (r.getD i 0 * last + -1 * cnv (trm c e) d i) % p := fun i => by rw [prem_get, pplus_get, pmul_const_get, pmul_get]
  refine ⟨⟨trim_trim _, prem_bd p0, ?_, Int.emod_lt_of_pos _ p0, fun i => ?_⟩, ?_⟩
  · have := Int.emod_nonneg (by_ * last) (show p ≠ 0 by omega)
    by_cases z : by_ * last % p = 0
    · have h1 := h.b0
      have h2 := h.b1
      rcases pr_mul hp (Int.dvd_of_emod_eq_zero z) with d | d
      · have := Int.le_of_dvd h1 d
        omega
      · have := Int.le_of_dvd l0 d
        omega
    · omega
  · have h1 := Int.dvd_mul_of_dvd_right (b := last) (h.eq i)
    have h2 := Int.dvd_mul_of_dvd_left (c := first.getD i 0) (show p ∣ by_ * last - by_ * last % p from Int.dvd_self_sub_emod)
    have h3 := cnv_rem p (pplus 1 (pmul q (trim [last])) (trm c e)) d i
    have h4 : p ∣ (r.getD i 0 * last + -1 * cnv (trm c e) d i) - (r.getD i 0 * last + -1 * cnv (trm c e) d i) % p := Int.dvd_self_sub_emod
    rw [cnv_add, cnv_const] at h3
    rw [g]
    refine dvd_eq (Int.dvd_add (Int.dvd_sub h1 h2) (Int.dvd_sub h4 h3)) ?_
    grind
  · have : (prem p (pplus (-1) (pmul r (trim [last])) (pmul (trm c e) d))).length ≤ r.length - 1 := by
      refine trim_short (trim_trim _) fun i hi => ?_
      rw [g, cnv_term, if_pos (by omega)]
      by_cases c1 : r.length ≤ i
      · rw [getD_ge c1, getD_ge (show d.length ≤ i - e by omega), Int.mul_zero, Int.zero_mul]
        exact Int.zero_emod _
      · have e1 : i = r.length - 1 := by omega
        rw [e1, show r.length - 1 - e = d.length - 1 by omega, ← hc, ← hl]
        refine Int.emod_eq_zero_of_dvd ⟨0, ?_⟩
        grind
    omega
/-- back to the division itself -/
theorem divM_back {p by_ u : Int} {first d q r : List Int} (hp : 0 < p) (h : DivM p by_ first d q r) (hu : p ∣ u * by_ - 1) : DivS p first d (pmul q (trim [u])) (prem p (pmul r (trim [u]))) := by
  refine ⟨trim_trim _, prem_bd hp, fun i => ?_⟩
  rw [prem_get, cnv_const, pmul_const_get]
  have h1 := Int.dvd_mul_of_dvd_right (b := u) (h.eq i)
  have h2 := Int.dvd_mul_of_dvd_left (c := first.getD i 0) hu
  have h4 : p ∣ r.getD i 0 * u - r.getD i 0 * u % p := Int.dvd_self_sub_emod
  refine dvd_eq (Int.dvd_add (Int.dvd_sub h1 h2) h4) ?_
  grind
theorem pmul_const_few (l : List Int) (c : Int) : (pmul l (trim [c])).length ≤ l.length := by
  rw [pmul_const]
  have := trim_few (l.map (· * c))
  rw [List.length_map] at this
  exact this
-- part gen2
/-- an isinstance of an int -/
theorem isi_int {K : PySem.W.Frag} {i : Int} {T : String} {b : Bool} {H : Hp} {Q : VK} (h : kitB "int" T = some b) (q : Q (.bl b) H) : rIsi K [.int i, .ty T] H Q :=
  ⟨_, _, _, _, b, rfl, .ty T, .base (.int i), kit_ty h, q⟩
theorem isi_tup {K : PySem.W.Frag} {a : Addr} {xs : List V} {T : String} {b : Bool} {H : Hp} {Q : VK} (ha : H a = some (.tup xs)) (h : kitB "tuple" T = some b) (q : Q (.bl b) H) : rIsi K [.ref a, .ty T] H Q :=
  ⟨_, _, _, _, b, rfl, .ty T, .base (.tup ha), kit_ty h, q⟩
theorem isi_bl {K : PySem.W.Frag} {x : Bool} {T : String} {b : Bool} {H : Hp} {Q : VK} (h : kitB "bool" T = some b) (q : Q (.bl b) H) : rIsi K [.bl x, .ty T] H Q :=
  ⟨_, _, _, _, b, rfl, .ty T, .base (.bl x), kit_ty h, q⟩
theorem isi_lst {K : PySem.W.Frag} {a : Addr} {xs : List V} {T : String} {b : Bool} {H : Hp} {Q : VK} (ha : H a = some (.lst xs)) (h : kitB "list" T = some b) (q : Q (.bl b) H) : rIsi K [.ref a, .ty T] H Q :=
  ⟨_, _, _, _, b, rfl, .ty T, .base (.lst ha), kit_ty h, q⟩
/-- the law's own promise -/
def spLaw (K : PySem.W.Frag) : Sp := fun vs H Q _ => ∃ (a : Addr) (ns : List Int), vs = [.ref a] ∧ SqL K H a (ns.map V.int) ∧ ns.length ≤ 63 ∧ ∀ H', Q (.bl true) H'
/-- a test by an own truth -/
theorem pt_own {X : Cx} {a : Expr} {ta : TE} {r : V → Hp → (Bool → Hp → Prop) → Prop} (ha : PE X a ta) (hr : TruR X r) (he : ∀ whole, isTrue a X.env whole = (do let v ← whole; standAt a.pos; holding [v] (truthy v)) := by intro _; rfl) :
    PT X a (fun σ H Q => ta σ H fun x H' => r x H' Q) :=
  ⟨fun pins s σ H Q I h => isTrue_plain (thn (ha.run pins s σ H _ I h) fun v s1 ⟨x, H1, I1, r1, q1⟩ => hr pins s1 σ H1 x v Q I1 r1 q1) (he _)⟩
-- part errgr
/-! own errors whose __init__ keeps any promise; errors without arguments -/
structure ErG (P : Program) (w : World) (K : PySem.W.Frag) (mg : Str → Option Value) (base : Heap) (nm : Str) (C : Addr) (sp : Sp) : Prop where
  ex : ∃ (fI : Addr) (fd : FuncData) (ps : List Str), mg nm = some (.ref C) ∧ OexC K C ∧ PySem.W.findIn K (.ref C) "__init__" = some (some (.ref fI)) ∧ PySem.W.typeIn K (.ref fI) = some (.type "function") ∧ FnOk P w K mg base CX0 1 fI fd ps sp ∧ Binds K fd ps []
theorem ps_raiseG {X : Cx} {W : WX} {x : Str} {C : Addr} {sp : Sp} {j : Nat} {e : Expr} {es : List Expr} {ta : TA} {p pos pos' : Pos} (c : ErG X.prog X.w X.K X.mg X.base x C sp) (hr : Room j X.A) (tk : L2N.Takes X W) (ha : PA X (e :: es) ta) (hj : 2 ≤ j := by decide) (hcalm : X.calm = true := by rfl) (hg : Gl X x := by rfl)
    (hdb : (x == ("__debug__" : Str)) = false := by decide) (he : starEach (e :: es) X.env = (false, eval e X.env) :: starEach es X.env := by rfl) (hpl : (backTo pos (starEach es X.env)).any (·.1) = false := by rfl) :
    PS X (.Raise (some (.Call (.Name x p) (e :: es) [] pos)) none pos') (fun _ σ H => tMkO C sp [] ta σ H fun cls d H' => W cls d σ H') := by
  obtain ⟨fI, fd, ps, g, T, iC, tI, F, b⟩ := c.ex
  exact L2N.ps_raise hcalm tk (pmk_oexN (X := X) (p := p) (pos := pos) T iC tI F (hr.mono hj) b .nil hg g ha hdb he hpl)
-- part errz
/-- the exception is let go; it has no dict -/
theorem let_go {X : Cx} {pins : List (Addr × Obj)} {σ : L2.St} {H1 H2 : Hp} {hp hp2 h2 : Heap} {g1 g2 : Array GenState} {d1 d2 : Drawn} {t1 t2 : Nat} {os1 os2 : OsState} {a C : Addr} (I1 : Inv X pins σ H1 ⟨hp, g1, d1, t1, os1⟩)
    (ha : hp.objs.size ≤ a) (k : ∀ b o, hp.get? b = some o → hp2.get? b = some o) (un : Un (frs X.stack) [] (upd H1 a (exo a C none)) H2 hp2 h2) (hok : HOk X.prog X.w H2 h2) (ho : os2 = os1) (hb : AllBare g2) (ea : H2 a = some (exo a C none)) :
    ∃ (t0 : Addr) (G : Heap), Inv X pins σ (del H2 a) ⟨G, g2, d2, t2, os2⟩ ∧ (∀ b o, G.get? b = some o → h2.get? b = some o) ∧ G.get? a = none ∧
      h2.get? a = some ({ cls := .ref C, dict := none, data := .fields #[.ref t0, .none, .none, .none, .bool false, .none] } : Obj) ∧ del H2 a a = none := by
  obtain ⟨t0, stands⟩ := exo_at hok ea
  have n1 : H1 a = none := I1.hok.fresh ha
  obtain ⟨G, same, gone⟩ := restrict h2 fun b => decide (b ≠ a)
  have at_ : ∀ b, b ≠ a → G.get? b = h2.get? b := fun b q => same b (decide_eq_true q)
  have no : G.get? a = none := gone a (by simp)
  have old : ∀ {b : Addr} {o : Obj}, hp.get? b = some o → b ≠ a := fun {b o} z => Nat.ne_of_lt (Nat.lt_of_lt_of_le (Heap.lt_size z) ha)
  have un1 : ∀ {b : Addr}, b ≠ a → H1 b = none → upd H1 a (exo a C none) b = none := fun {b} q n => by
    rw [upd_ne q]
    exact n
  have U : Un (frs X.stack) [] H1 (del H2 a) hp G := {
    keep := fun b o z n f x => by
      rw [at_ b (old z)]
      exact un.keep b o (k b o z) (un1 (old z) n) f x
    slot := fun b o z n f x => by
      rw [at_ b (old z)]
      exact un.slot b o (k b o z) (un1 (old z) n) f x
    free := fun b o z n x => by
      rw [del_ne (old z)]
      exact un.free b o (k b o z) (un1 (old z) n) x
    there := fun b o z x => by
      rw [at_ b (old z)]
      exact un.there b o (k b o z) x
    tups := fun b xs z => by
      have q := ne_of_none z n1
      rw [del_ne q]
      exact un.tups b xs (by rw [upd_ne q]; exact z)
    frzs := fun b o v z => by
      have q := ne_of_none z n1
      rw [del_ne q]
      exact un.frzs b o v (by rw [upd_ne q]; exact z)
    tbls := fun b ps z => by
      have q := ne_of_none z n1
      rw [del_ne q]
      exact un.tbls b ps (by rw [upd_ne q]; exact z) }
  have good : HOk X.prog X.w (del H2 a) G := fun b o z => by
    have q : b ≠ a := fun e => by
      rw [e, del_same] at z
      cases z
    rw [del_ne q] at z
    have far : ∀ {c : Addr}, H2 c = some (.own b) → c ≠ a := fun {c} y => at_ne ea y exo_own
    exact (hok b o z).stay (fun c v hc y => by
        have q2 : c ≠ a := by
          rcases hc with hc | hc
          · rw [hc]
            exact q
          · exact far hc
        rw [at_ c q2]
        exact y)
      (fun c y => by rw [del_ne (far y)]; exact y) (fun c xs y => by rw [del_ne (at_ne ea y exo_tup)]; exact y)
  refine ⟨t0, G, I1.call' (ch := []) ho U good hb (fun b z => absurd z (by simp)), fun b o z => ?_, no, stands, del_same⟩
  by_cases q : b = a
  · rw [q, no] at z
    cases z
  · exact (at_ b q).symm.trans z
/-- C(), C's own __init__ gives it no field -/
def tMkZ (C : Addr) (sp : Sp) : L2.St → Hp → XK → Prop := fun _ H Q => ∀ a, H a = none → sp [.ref a] (upd H a (exo a C none)) (fun v H2 => v = .non ∧ H2 a = some (exo a C none) ∧ Q (.ref C) none (del H2 a)) (fun _ _ _ => False)
theorem pmk_z {X : Cx} {p pos : Pos} {x : Str} {C : Addr} {sp : Sp} {j : Nat} (c : ErG X.prog X.w X.K X.mg X.base x C sp) (hr : Room j X.A) (hj : 2 ≤ j) (hg : Gl X x) (hdb : (x == ("__debug__" : Str)) = false) : L2N.PMk X (.Call (.Name x p) [] [] pos) (tMkZ C sp) := by
  obtain ⟨fI, fd, ps, hm, T, iC, tI, F1, b⟩ := c.ex
  intro pins s σ H Q I h
  obtain ⟨nm, q, N, bs, bm, sn, sub, ab, col, dd, k0, k1, k2, k3, k5, hC, hbm⟩ := T.cls
  refine wpAny_Call_Name_kw (ld_glob I hg hm ?_ hdb)
  refine PySem.W.callWith_K0 I.kIn T.kC ?_
  obtain ⟨hp, g, dr, tk, os⟩ := s
  generalize ex : hp.objs.size + 1 = x1 at *
  have le1 : hp.objs.size ≤ x1 := by omega
  have sp1 := h x1 (I.hok.fresh le1)
  have old : ∀ b o, hp.get? b = some o → ((hp.push (PySem.W.kdv_tup [])).push (PySem.HandSPX.excO C hp.objs.size)).get? b = some o := fun b o z =>
    Heap.get?_push_of_some _ (Heap.get?_push_of_some _ z)
  have new1 : ((hp.push (PySem.W.kdv_tup [])).push (PySem.HandSPX.excO C hp.objs.size)).get? x1 = some (PySem.HandSPX.excO C hp.objs.size) := by
    subst ex
    heap_get
  have I2 := I.laid (t' := tk) (a := x1) (o := exo x1 C none) old le1 (exo_ok new1)
  have many : ([Value.ref x1] : List Value).length = ps.length := F1.len _ _ _ _ sp1
  have bound := b _ [Value.ref x1] I2.kIn (by rw [List.append_nil]; exact many)
  rw [List.append_nil] at bound
  have run := F1.run _ X.stack _ _ ⟨[Value.ref x1], []⟩ [Value.ref x1] [V.ref x1] _ (fun _ _ _ => False) ((hr.mono hj).make C [] []) (I2.env0.make C [] []) bound (.cons rfl .nil) sp1
  refine wpAny_call (PySem.HandSPX.call_own F.excBase_ValueError (fun Y => PySem.HandSPX.refsVE_contains Y bm hbm) (I.kIn _ _ hC) (PySem.W.looks_findIn I.kIn iC) (fun self => PySem.W.bind_fn I.kIn self tI) (Nat.zero_le _) ?_)
  subst ex
  refine codeAny_mono run fun r s' back => ?_
  cases r with
  | error er => exact False.elim back
  | ok fl =>
    cases fl with
    | ret u =>
      obtain ⟨v, H2, os2, bare2, un2, hok2, rv, ev, ea, q2⟩ := back
      subst ev
      obtain ⟨h2, g2, d2, t2, os'⟩ := s'
      obtain ⟨t0, G, J, kG, ge, hoe, na⟩ := let_go (d2 := d2) (t2 := t2) I le1 old un2 hok2 os2 bare2 ea
      exact ⟨rv, _, _, _, ⟨G, g2, d2, t2, os'⟩, _, .ref C, none, rfl, J, kG, ge, hoe, ⟨rfl, rfl, fun vs z => by cases z; rfl⟩, rfl, rfl, na, rfl, bare2, raises_own T.exC T.tyC, q2⟩
    | next => exact False.elim back
    | brk => exact False.elim back
    | cont => exact False.elim back
theorem ps_raiseZ {X : Cx} {W : WX} {x : Str} {C : Addr} {sp : Sp} {j : Nat} {p pos pos' : Pos} (c : ErG X.prog X.w X.K X.mg X.base x C sp) (hr : Room j X.A) (tk : L2N.Takes X W) (hj : 2 ≤ j := by decide) (hcalm : X.calm = true := by rfl) (hg : Gl X x := by rfl) (hdb : (x == ("__debug__" : Str)) = false := by decide) :
    PS X (.Raise (some (.Call (.Name x p) [] [] pos)) none pos') (fun _ σ H => tMkZ C sp σ H fun cls d H' => W cls d σ H') :=
  L2N.ps_raise hcalm tk (pmk_z c hr hj hg hdb)
/-- no field -/
def spInit0 (C : Addr) : Sp := fun vs H Q _ => ∃ a : Addr, vs = [.ref a] ∧ H a = some (exo a C none) ∧ Q .non H
theorem mk0 {C : Addr} {σ : L2.St} {H1 : Hp} {Q : XK} (k : ∀ H2, Same H1 H2 → Q (.ref C) none H2) : tMkZ C (spInit0 C) σ H1 Q := fun a ha => ⟨a, rfl, upd_same, rfl, upd_same, k _ fun b o e => by
  have hba := ne_of_none e ha
  rw [del_ne hba, upd_ne hba]
  exact e⟩
abbrev s_ini : Stmt := inClass (top 6) 0
theorem sc_ini : FnScope ["self"] ["self"] (defScope s_ini) := ⟨rfl, rfl, rfl, by decide +kernel, rfl, by decide +kernel, by decide +kernel⟩
theorem ok_ini {f C CF : Addr} {fd : FuncData} (TF : FErr K mg CF) (hC : OexC K C) (F : Fun K "__init__" "NoInverse.__init__" s_ini f fd) : FnOk P w K mg base CX0 1 f fd ["self"] (spInit0 C) := by
  refine F.ok sc_ini (fun vs H Q E h => ?_) (fun cdv A outer s H vs Q E hr h => ?_)
  · obtain ⟨a, rfl, _⟩ := h
    rfl
  · obtain ⟨a, rfl, ha, q⟩ := h
    refine ⟨_, (pss_one (ps_expr (pe_feinit TF (pa_cons (pv 0) (pa_cons pe_str pa_nil))))), ?_⟩
    exact ⟨_, rfl, a, C, _, rfl, (by show 1 ≤ 1000; decide), hC, ha, q⟩
-- part cell

abbrev s_cell : Stmt := top 30
theorem sc_cell : FnScope ["_law_script", "_law_k"] ["_law_script", "_law_k"] (defScope s_cell) := ⟨rfl, rfl, rfl, by decide +kernel, rfl, by decide +kernel, by decide +kernel⟩
def spCellL (K : PySem.W.Frag) : Sp := fun vs H Q _ => ∃ (a : Addr) (ns : List Int) (k : Nat), vs = [.ref a, .int (k : Int)] ∧ SqL K H a (ns.map V.int) ∧ ∀ v, Q (.int v) H
theorem ok_cell {f : Addr} {fd : FuncData} (T : Txt mg) (F : Fun K "_law_cell" "_law_cell" s_cell f fd) : FnOk P w K mg base CX0 1 f fd ["_law_script", "_law_k"] (spCellL K) := by
  refine F.ok sc_cell (fun vs H Q E h => ?_) (fun cdv A outer s H vs Q E hr h => ?_)
  · obtain ⟨a, ns, k, rfl, _⟩ := h
    rfl
  · obtain ⟨a, ns, k, rfl, hS, q⟩ := h
    refine ⟨_, (pss_cons (ps_if (pt_cmpR op_lt (pv 1) (pe_callB call_len_seq (by rfl) T.len PySem.boot_len (pa_cons (pv 0) pa_nil)) (nomark _)) (pss_one (ps_ret (pe_ix ix_list (pv 0) (pv 1) (fun _ _ => rfl)))) pss_nil)
 (pss_one (ps_ret pe_int))), ?_⟩
    refine ⟨_, rfl, _, rfl, a, _, rfl, .inl hS, _, _, rfl, rfl, _, rfl, ?_⟩
    rw [List.length_map]
    by_cases c : k < ns.length
    · refine if_pos_of (decide_eq_true (by omega)) ?_
      refine ⟨_, rfl, _, rfl, a, _, _, .int ns[k], rfl, rfl, hS, atI_nat (by rw [List.getElem?_map, List.getElem?_eq_getElem c]; rfl), ?_⟩
      exact q _
    · refine if_neg_of (decide_eq_false (by omega)) ?_
      exact q _
-- part maps
/-! comprehensions and loops whose turns leave what stood before as it was -/
/-- the list that a comprehension makes: f i behind i turns -/
def PvM (H1 : Hp) (D : Addr) (f : Nat → List V) (i : Nat) (H : Hp) : Prop := Same H1 H ∧ H D = some (.lst (f i))
theorem PvM.zero {H1 : Hp} {D : Addr} {f : Nat → List V} (hD : H1 D = none) (h0 : f 0 = []) : PvM H1 D f 0 (upd H1 D (.lst [])) := ⟨same_upd hD, by rw [h0]; exact upd_same⟩
theorem PvM.push {H1 H4 : Hp} {D : Addr} {f : Nat → List V} {i : Nat} {y : V} (hD : H1 D = none) (s : Same H1 H4) (hd : H4 D = some (.lst (f i))) (few : (f i).length < 1000) (hf : f (i + 1) = f i ++ [y]) :
    ∃ acc, H4 D = some (.lst acc) ∧ acc.length < sizeLine ∧ PvM H1 D f (i + 1) (upd H4 D (.lst (acc ++ [y]))) :=
  ⟨f i, hd, small1000 (by omega), fun b o eb => by
    rw [upd_ne (ne_of_none eb hD)]
    exact s b o eb, by rw [hf]; exact upd_same⟩
theorem PvM.skip {H1 H4 : Hp} {D : Addr} {f : Nat → List V} {i : Nat} (s : Same H1 H4) (hd : H4 D = some (.lst (f i))) (hf : f (i + 1) = f i) : PvM H1 D f (i + 1) H4 := ⟨s, by rw [hf]; exact hd⟩
section
variable {J : It} {n : Nat} {G : Hp → Prop} {Y : Nat → Hp → V → Hp → Prop}
theorem lcW (w : Walk J n G Y) {g : TG} {tt : TT} {te : TE} {vs : List Nat} {σ : L2.St} {H1 : Hp} {D : Addr} {Qd : Hp → Prop} (f : Nat → List V) (hD : H1 D = none) (h0 : f 0 = []) (hG : ∀ H, Same H1 H → G H)
    (hs : ∀ i x H H', i < n → Same H1 H → H D = some (.lst (f i)) → Y i H x H' → g x (wipe σ vs) H' fun σ2 H2 => wipe σ2 vs = wipe σ vs ∧ tt σ2 H2 fun b H3 =>
      if b = true then te σ2 H3 fun y H4 => ∃ acc, H4 D = some (.lst acc) ∧ acc.length < sizeLine ∧ PvM H1 D f (i + 1) (upd H4 D (.lst (acc ++ [y]))) else PvM H1 D f (i + 1) H3) (hd : ∀ H, Same H1 H → H D = some (.lst (f n)) → Qd H) :
    ∃ W : Nat → Nat → Hp → Prop, (∃ m, W 0 m (upd H1 D (.lst []))) ∧ ∀ i m H, W i m H →
      (J.stop i H ∧ Qd H) ∨ (J.go i H ∧ ∃ Nx : Hp → Prop, (∀ H', Nx H' → ∃ m', m' < m ∧ W (i + 1) m' H') ∧ ∀ x H', J.yld i H x H' → g x (wipe σ vs) H' fun σ2 H2 => wipe σ2 vs = wipe σ vs ∧ tt σ2 H2 fun b H3 =>
        if b = true then te σ2 H3 fun y H4 => ∃ acc, H4 D = some (.lst acc) ∧ acc.length < sizeLine ∧ Nx (upd H4 D (.lst (acc ++ [y]))) else Nx H3) :=
  lc_it w (PvM H1 D f) (PvM.zero hD h0) (fun _ H _ h => hG H h.1) (fun i x H H' hi h y => hs i x H H' hi h.1 h.2 y) fun H h => hd H h.1 h.2
end
/-- the first i of a row -/
abbrev tkV (l : List V) (i : Nat) : List V := l.take i
theorem tkV_succ {l : List V} {i : Nat} {y : V} (h : l[i]? = some y) : tkV l (i + 1) = tkV l i ++ [y] := by
  show l.take (i + 1) = l.take i ++ [y]
  rw [List.take_add_one, h]
  rfl
theorem tkV_len (l : List V) (i : Nat) : (tkV l i).length ≤ l.length := by
  show (l.take i).length ≤ l.length
  rw [List.length_take]
  omega
theorem tkV_all (l : List V) : tkV l l.length = l := List.take_length
/-- the turn of a map ends -/
theorem mapEnd {H1 H4 : Hp} {D : Addr} {ys : List V} {i : Nat} {y : V} (hD : H1 D = none) (few : ys.length < 1000) (s : Same H1 H4) (hd : H4 D = some (.lst (tkV ys i))) (hy : ys[i]? = some y) :
    ∃ acc, H4 D = some (.lst acc) ∧ acc.length < sizeLine ∧ PvM H1 D (tkV ys) (i + 1) (upd H4 D (.lst (acc ++ [y]))) :=
  PvM.push hD s hd (Nat.lt_of_le_of_lt (tkV_len ys i) few) (tkV_succ hy)
theorem map_at {α : Type} {f : α → V} {l : List α} {i : Nat} {z : α} (h : l[i]? = some z) : (l.map f)[i]? = some (f z) := by
  rw [List.getElem?_map, h]
  rfl
theorem pow_small {z : Int} {n m : Nat} (h : z.natAbs < 2 ^ n) (hnm : n ≤ m) : z.natAbs < 2 ^ m := Nat.lt_of_lt_of_le h (Nat.pow_le_pow_right (by decide) hnm)
theorem flat_rep {α : Type} (x : α) : ∀ m : Nat, (List.replicate m [x]).flatten = List.replicate m x
  | 0 => rfl
  | m + 1 => by rw [List.replicate_succ, List.flatten_cons, flat_rep x m, List.replicate_succ, List.singleton_append]
/-- len of a list or tuple, the frame named -/
def rLenS (K : PySem.W.Frag) : List V → Hp → VK → Prop := fun xs H Q => ∃ p ys, xs = [V.ref p] ∧ (SqL K H p ys ∨ SqT K H p ys) ∧ Q (V.int (ys.length : Int)) H
theorem call_len_seqK {X : Cx} {K : PySem.W.Frag} (hK : X.K = K) : CallR X (.builtin "len") (rLenS K) := by
  subst hK
  exact call_len_seq
/-- o.f, the frame named -/
theorem pe_fldK {X : Cx} {K : PySem.W.Frag} {e : Expr} {f : Str} {pos : Pos} {ta : TE} (hK : X.K = K) (he : PE X e ta) (hb : attributeBase e f X.env (eval e X.env) = eval e X.env) : PE X (.Attribute e f pos) (tFld K ta f) := by
  subst hK
  exact pe_fld he hb
/-- range(n): 0, 1, .. -/
theorem walk_range0 {n : Nat} : Walk (Itr 0 n) n (fun _ => True) (YFn fun i => .int (i : Int)) :=
  walk_range.mono (fun _ _ => trivial) fun i H x H' _ _ y => ⟨y.1, y.2.trans (congrArg V.int (Int.zero_add _))⟩
section
variable {J : It} {n : Nat} {G : Hp → Prop} {Y : Nat → Hp → V → Hp → Prop}
/-- a comprehension that makes the row ys -/
theorem lcMap (w : Walk J n G Y) {g : TG} {tt : TT} {te : TE} {vs : List Nat} {σ : L2.St} {H1 : Hp} {D : Addr} {Qd : Hp → Prop} (ys : List V) (hl : ys.length = n) (hD : H1 D = none) (hG : ∀ H, Same H1 H → G H)
    (hs : ∀ i x H H', i < n → Same H1 H → H D = some (.lst (tkV ys i)) → Y i H x H' → g x (wipe σ vs) H' fun σ2 H2 => wipe σ2 vs = wipe σ vs ∧ tt σ2 H2 fun b H3 =>
      if b = true then te σ2 H3 fun y H4 => ∃ acc, H4 D = some (.lst acc) ∧ acc.length < sizeLine ∧ PvM H1 D (tkV ys) (i + 1) (upd H4 D (.lst (acc ++ [y]))) else PvM H1 D (tkV ys) (i + 1) H3) (hd : ∀ H, Same H1 H → H D = some (.lst ys) → Qd H) :
    ∃ W : Nat → Nat → Hp → Prop, (∃ m, W 0 m (upd H1 D (.lst []))) ∧ ∀ i m H, W i m H →
      (J.stop i H ∧ Qd H) ∨ (J.go i H ∧ ∃ Nx : Hp → Prop, (∀ H', Nx H' → ∃ m', m' < m ∧ W (i + 1) m' H') ∧ ∀ x H', J.yld i H x H' → g x (wipe σ vs) H' fun σ2 H2 => wipe σ2 vs = wipe σ vs ∧ tt σ2 H2 fun b H3 =>
        if b = true then te σ2 H3 fun y H4 => ∃ acc, H4 D = some (.lst acc) ∧ acc.length < sizeLine ∧ Nx (upd H4 D (.lst (acc ++ [y]))) else Nx H3) :=
  lcW w (tkV ys) hD rfl hG hs fun H s h => hd H s (by rw [h, ← hl, tkV_all])
end
-- part eqints
theorem eqvAll_ints : ∀ l m : List Int, PyData.eqvAll (l.map PyData.int) (m.map PyData.int) = decide (l = m)
  | [], [] => by rw [List.map_nil, PyData.eqvAll]; rfl
  | [], b :: m => by rw [List.map_nil, List.map_cons, PyData.eqvAll] <;> first | (exact (decide_eq_false (by simp)).symm) | skip
  | a :: l, [] => by rw [List.map_nil, List.map_cons, PyData.eqvAll] <;> first | (exact (decide_eq_false (by simp)).symm) | skip
  | a :: l, b :: m => by
    rw [List.map_cons, List.map_cons, PyData.eqvAll, PyData.eqv, eqvAll_ints l m]
    by_cases c : a = b
    · subst c
      by_cases c2 : l = m
      · subst c2
        simp
      · simp [c2]
    · simp [c]
theorem eqv_ints (l m : List Int) : PyData.eqv (.list (l.map PyData.int)) (.list (m.map PyData.int)) = decide (l = m) := by
  rw [PyData.eqv]
  exact eqvAll_ints l m
theorem eqv_intsT (l m : List Int) : PyData.eqv (.tuple (l.map PyData.int)) (.tuple (m.map PyData.int)) = decide (l = m) := by
  rw [PyData.eqv]
  exact eqvAll_ints l m
theorem canLay_ints : ∀ l : List Int, PyData.canLayAll0 (l.map PyData.int) = true
  | [] => by rw [List.map_nil, PyData.canLayAll0]
  | a :: l => by rw [List.map_cons, PyData.canLayAll0, PyData.canLay0, canLay_ints l]; rfl
theorem depth_ints : ∀ l : List Int, PyData.depthAll (l.map PyData.int) = 0
  | [] => by rw [List.map_nil, PyData.depthAll]
  | a :: l => by rw [List.map_cons, PyData.depthAll, PyData.depth, depth_ints l]; rfl
theorem shaped_ints (l : List Int) : SeqAt.shaped (.list (l.map PyData.int)) = true := by
  unfold SeqAt.shaped
  rw [PyData.canLay0, canLay_ints, PyData.depth, depth_ints]
  rfl
theorem shaped_intsT (l : List Int) : SeqAt.shaped (.tuple (l.map PyData.int)) = true := by
  unfold SeqAt.shaped
  rw [PyData.canLay0, canLay_ints, PyData.depth, depth_ints]
  rfl
theorem dpAll_ints {K : PySem.W.Frag} {H : Hp} : ∀ l : List Int, DpAll K H (l.map V.int) (l.map PyData.int)
  | [] => .nil
  | a :: l => .cons (.int a) (dpAll_ints l)
theorem dp_lst {K : PySem.W.Frag} {H : Hp} {a : Addr} {l : List Int} (h : SqL K H a (l.map V.int)) : Dp K H (.ref a) (.list (l.map PyData.int)) := .lst h (dpAll_ints l)
theorem dp_tup {K : PySem.W.Frag} {H : Hp} {a : Addr} {l : List Int} (h : SqT K H a (l.map V.int)) : Dp K H (.ref a) (.tuple (l.map PyData.int)) := .tup h (dpAll_ints l)
theorem hu64 {k : Nat} {A : Around} (hr : Room k A) : A.units + 64 < cLine := by
  have := hr.un
  omega
theorem item_int {l : List Int} {i : Nat} {y : V} (h : (l.map V.int)[i]? = some y) : ∃ z : Int, y = .int z ∧ l[i]? = some z := by
  rw [List.getElem?_map] at h
  cases e : l[i]? with
  | none =>
    rw [e] at h
    cases h
  | some z =>
    rw [e] at h
    exact ⟨z, (Option.some.inj h).symm, rfl⟩
-- part draws
abbrev s_draws : Stmt := top 31
theorem sc_draws : FnScope ["_law_cell_here", "_law_sizes", "_law_drawn", "_law_left", "_law_at", "_law_mixed"] ["_law_cell_here", "_law_sizes"] (defScope s_draws) := ⟨rfl, rfl, rfl, by decide +kernel, rfl, by decide +kernel, by decide +kernel⟩
/-- numbers drawn below their sizes -/
def Drawn (zs ds : List Int) : Prop := ds.length = zs.length ∧ ∀ (i : Nat) (d z : Int), ds[i]? = some d → zs[i]? = some z → 0 ≤ d ∧ d < z
def spDraws (K : PySem.W.Frag) : Sp := fun vs H Q _ => ∃ (c : Int) (s : Addr) (zs : List Int), vs = [.int c, .ref s] ∧ SqL K H s (zs.map V.int) ∧ zs.length < 100 ∧ (∀ z ∈ zs, 0 < z ∧ z.natAbs < 2 ^ 300) ∧
  ∀ p ds H', H p = none → Drawn zs ds → Same H H' → H' p = some (.lst (ds.map V.int)) → Q (.ref p) H'
theorem mix_small2 (z : Int) : -(2 ^ 64) < z % 2147483647 ∧ z % 2147483647 < 2 ^ 64 := by
  have h1 := Int.emod_nonneg z (show (2147483647 : Int) ≠ 0 by decide)
  have h2 := Int.emod_lt_of_pos z (show (0 : Int) < 2147483647 by decide)
  omega
theorem ok_draws {f : Addr} {fd : FuncData} (T : Txt mg) (F : Fun K "_law_draws" "_law_draws" s_draws f fd) : FnOk P w K mg base CX0 1 f fd ["_law_cell_here", "_law_sizes"] (spDraws K) := by
  refine F.ok sc_draws (fun vs H Q E h => ?_) (fun cdv A outer s H vs Q E hr h => ?_)
  · obtain ⟨c, s, zs, rfl, _⟩ := h
    rfl
  · obtain ⟨c, s, zs, rfl, hS, few, hz, q⟩ := h
    refine ⟨_, (pss_cons (ps_set (i := 2) sc_draws.nd rfl (Or.inl rfl) (pe_lst pa_nil))
 (pss_cons (ps_set (i := 3) sc_draws.nd rfl (Or.inl rfl) (pe_callB call_abs (by rfl) T.abs boot_abs (pa_cons (pv 0) pa_nil)))
 (pss_cons (ps_for PassesOwn.never rfl (pi_range1 rfl T.range (pa_cons (pe_callB call_len_seq (by rfl) T.len PySem.boot_len (pa_cons (pv 1) pa_nil)) pa_nil)) (pg_name (i := 4) sc_draws.nd rfl (Or.inl rfl)) (pss_one (ps_if (pt_cmpR op_ge (pe_callB call_abs (by rfl) T.abs boot_abs (pa_cons (pv 0) pa_nil)) (pe_op op_pow pe_int pe_int) (nomark _)) (pss_cons (ps_expr (pe_bm PySem.F.plainAttrs_list PySem.F.slot_list_append PySem.F.type_list_append mt_append (pv 2) (pa_cons (pe_op op_mod (pe_callTy call_int1 (by rfl) T.int boot_int (pa_cons (pv 3) pa_nil)) (pe_ix ix_list (pv 1) (pv 4) (fun _ _ => rfl))) pa_nil)))
 (pss_one (ps_set (i := 3) sc_draws.nd rfl (Or.inl rfl) (pe_op op_fdivW (pv 3) (pe_ix ix_list (pv 1) (pv 4) (fun _ _ => rfl)))))) (pss_cons (ps_set (i := 5) sc_draws.nd rfl (Or.inl rfl) (pe_op op_mod (pe_callTy call_int1 (by rfl) T.int boot_int (pa_cons (pe_op op_mul (pe_op op_add (pe_op op_add (pv 3) (pe_op op_mul pe_int (pv 4))) pe_int) pe_int) pa_nil)) pe_int))
 (pss_cons (ps_set (i := 5) sc_draws.nd rfl (Or.inl rfl) (pe_op op_mod (pe_callTy call_int1 (by rfl) T.int boot_int (pa_cons (pe_op op_add (pe_op op_add (pe_op op_mul (pe_op op_mul (pv 5) (pv 5)) pe_int) (pe_op op_mul pe_int (pv 4))) (pv 5)) pa_nil)) pe_int))
 (pss_one (ps_expr (pe_bm PySem.F.plainAttrs_list PySem.F.slot_list_append PySem.F.type_list_append mt_append (pv 2) (pa_cons (pe_op op_mod (pe_op op_fdivW (pv 5) pe_int) (pe_ix ix_list (pv 1) (pv 4) (fun _ _ => rfl))) pa_nil)))))))))
 (pss_one (ps_ret (pv 2)))))), ?_⟩
    refine ⟨(by show 0 ≤ sizeLine; decide), fun D nD => ⟨_, rfl, _, rfl, ?_⟩⟩
    have g1 := same_upd (o := .lst []) nD
    refine ⟨_, rfl, s, _, rfl, .inl (g1.seq hS), _, rfl, (by rw [List.length_map]; omega), (by rw [List.length_map]; omega), ?_⟩
    refine for_range (lo := 0) (n := _) (fun i σ H' => ∃ (ds : List Int) (left : Int) (x4 x5 : Option V), σ = [some (.int c), some (.ref s), some (.ref D), some (.int left), x4, x5] ∧ Same H H' ∧ H' D = some (.lst (ds.map V.int)) ∧ ds.length = i ∧
        ∀ (j : Nat) (d z : Int), ds[j]? = some d → zs[j]? = some z → 0 ≤ d ∧ d < z) ⟨[], _, none, none, rfl, g1, upd_same, rfl, fun j d z h => by cases h⟩ ?_ ?_
    · rintro i σ H' hi ⟨ds, left, x4, x5, rfl, s1, hD, hl, hds⟩
      have hi : i < zs.length := by
        have hi' : i < (zs.map V.int).length := by simpa using hi
        rwa [List.length_map] at hi'
      have hzi : zs[i]? = some zs[i] := List.getElem?_eq_getElem hi
      obtain ⟨zp, zb⟩ := hz _ (List.mem_of_getElem? hzi)
      generalize ez : zs[i] = z at hzi zp zb
      have at_z : atI (zs.map V.int) (0 + (i : Int)) = some (V.int z) := by
        rw [Int.zero_add]
        exact atI_nat (map_at hzi)
      have more : ∀ d : Int, 0 ≤ d → d < z → ∀ (j : Nat) (d' z' : Int), (ds ++ [d])[j]? = some d' → zs[j]? = some z' → 0 ≤ d' ∧ d' < z' := fun d h0 h1 j d' z' hd' hz' => by
        by_cases c : j < ds.length
        · rw [List.getElem?_append_left c] at hd'
          exact hds j d' z' hd' hz'
        · rw [List.getElem?_append_right (by omega)] at hd'
          have e : j = i := by
            by_cases e : j - ds.length = 0
            · omega
            · rw [List.getElem?_eq_none (by show 1 ≤ j - ds.length; omega)] at hd'
              cases hd'
          subst e
          rw [hl, Nat.sub_self] at hd'
          cases hd'
          rw [hzi] at hz'
          cases hz'
          exact ⟨h0, h1⟩
      have fin : ∀ (d left : Int) (x4 x5 : Option V), 0 ≤ d → d < z → ∃ (ds' : List Int) (left' : Int) (y4 y5 : Option V), [some (.int c), some (.ref s), some (.ref D), some (.int left), x4, x5] = [some (.int c), some (.ref s), some (.ref D), some (.int left'), y4, y5] ∧
          Same H (upd H' D (.lst (ds.map V.int ++ [.int d]))) ∧ (upd H' D (.lst (ds.map V.int ++ [.int d]))) D = some (.lst (ds'.map V.int)) ∧ ds'.length = i + 1 ∧ ∀ (j : Nat) (d z : Int), ds'[j]? = some d → zs[j]? = some z → 0 ≤ d ∧ d < z := fun d left x4 x5 h0 h1 =>
        ⟨ds ++ [d], left, x4, x5, rfl, fun b o eb => by
          rw [upd_ne (ne_of_none eb nD)]
          exact s1 b o eb, by rw [List.map_append]; exact upd_same, by rw [List.length_append, hl]; rfl, more d h0 h1⟩
      have few2 : (ds.map V.int).length < sizeLine := by rw [List.length_map]; exact small1000 (by omega)
      refine ⟨_, rfl, _, rfl, _, _, rfl, rfl, ⟨by decide, by decide, by decide⟩, _, _, rfl, rfl, _, rfl, ?_⟩
      by_cases c1 : (10 : Int) ^ 18 ≤ if c < 0 then -c else c
      · refine if_pos_of (decide_eq_true c1) ?_
        refine ⟨_, rfl, .inl ⟨rfl, _, SqL.of hD⟩, _, rfl, .inl ⟨_, rfl, _, rfl, _, rfl, s, _, _, _, rfl, rfl, s1.seq hS, at_z, _, _, rfl, rfl, zp, D, _, _, rfl, rfl, hD, few2, ?_⟩⟩
        have s2 : Same H (upd H' D (.lst (ds.map V.int ++ [.int (left % z)]))) := fun b o eb => by
          rw [upd_ne (ne_of_none eb nD)]
          exact s1 b o eb
        refine ⟨_, rfl, _, rfl, _, rfl, s, _, _, _, rfl, rfl, s2.seq hS, at_z, _, _, rfl, rfl, ⟨zp, PySem.Flt.log2_lt_of (by decide) (pow_small zb (by decide))⟩, ?_⟩
        exact fin _ _ _ _ (Int.emod_nonneg _ (by omega)) (Int.emod_lt_of_pos _ zp)
      · refine if_neg_of (decide_eq_false c1) ?_
        refine ⟨_, rfl, _, rfl, _, _, rfl, rfl, .inl ⟨by decide, by decide⟩, _, _, rfl, rfl, _, _, rfl, rfl, _, _, rfl, rfl, .inr ⟨by decide, by decide⟩, .inl ⟨_, rfl, _, _, rfl, rfl, (by show (0 : Int) < 2147483647; decide), ?_⟩⟩
        refine ⟨_, rfl, _, rfl, _, _, rfl, rfl, .inl (mix_small2 _), _, _, rfl, rfl, .inr ⟨by decide, by decide⟩, _, rfl, _, _, rfl, rfl, .inl ⟨by decide, by decide⟩, _, _, rfl, rfl, _, rfl, _, _, rfl, rfl, .inl ⟨_, rfl, _, _, rfl, rfl, (by show (0 : Int) < 2147483629; decide), ?_⟩⟩
        refine ⟨_, rfl, .inl ⟨rfl, _, SqL.of hD⟩, _, rfl, _, _, rfl, rfl, ⟨by decide, by decide⟩, _, rfl, _, rfl, s, _, _, _, rfl, rfl, s1.seq hS, at_z, _, _, rfl, rfl, zp, D, _, _, rfl, rfl, hD, few2, ?_⟩
        exact fin _ _ _ _ (Int.emod_nonneg _ (by omega)) (Int.emod_lt_of_pos _ zp)
    · rintro σ H' ⟨ds, left, x4, x5, rfl, s1, hD, hl, hds⟩
      have hl' : ds.length = zs.length := by simpa using hl
      exact ⟨_, rfl, q D ds H' nD ⟨hl', hds⟩ s1 hD⟩
abbrev s_lrow : Stmt := top 36
theorem sc_lrow : FnScope ["_law_cell_here", "_law_many", "_law_reach", "_law_drawn", "_law_k"] ["_law_cell_here", "_law_many", "_law_reach"] (defScope s_lrow) := ⟨rfl, rfl, rfl, by decide +kernel, rfl, by decide +kernel, by decide +kernel⟩
/-- a row of m numbers from -r to r -/
def spRow : Sp := fun vs H Q _ => ∃ (c : Int) (m : Nat) (r : Int), vs = [.int c, .int (m : Int), .int r] ∧ m < 100 ∧ 0 ≤ r ∧ r.natAbs < 2 ^ 200 ∧
  ∀ (p : Addr) (ns : List Int) (H' : Hp), H p = none → ns.length = m → (∀ z ∈ ns, -r ≤ z ∧ z ≤ r) → Same H H' → H' p = some (.lst (ns.map V.int)) → Q (.ref p) H'
theorem ok_lrow {f : Addr} {fd : FuncData} (F : Fun K "_law_row" "_law_row" s_lrow f fd) (c_draws : Cl P w K mg base CX0 1 "_law_draws" (spDraws K)) : FnOk P w K mg base CX0 2 f fd ["_law_cell_here", "_law_many", "_law_reach"] spRow := by
  refine F.ok sc_lrow (fun vs H Q E h => ?_) (fun cdv A outer s H vs Q E hr h => ?_)
  · obtain ⟨c, m, r, rfl, _⟩ := h
    rfl
  · obtain ⟨c, m, r, rfl, hm, hr0, hrb, q⟩ := h
    refine ⟨_, (pss_cons (ps_set (i := 3) sc_lrow.nd rfl (Or.inl rfl) (pe_cl c_draws hr (pa_cons (pv 0) (pa_cons (pe_op op_rep (pe_lst (pa_cons (pe_op op_add (pe_op op_mul pe_int (pv 2)) pe_int) pa_nil)) (pv 1)) pa_nil))))
 (pss_one (ps_ret (pe_lc (own := [("_law_k", 4)]) (g := (gName 4)) (tt := tYes) rfl sc_lrow.nd (pi_list (pv 3)) (blkOk_by (N := ["_law_cell_here", "_law_many", "_law_reach", "_law_drawn", "_law_k"]) (sc := defScope s_lrow) (by decide +kernel)) (fun _ _ _ _ _ => (pg_name (i := 4) sc_lrow.nd rfl (Or.inl rfl))) (fun _ _ _ _ _ => pts_nil) (fun _ _ _ _ _ => (pe_op op_sub (pv 4) (pv 2))))))), ?_⟩
    refine ⟨_, rfl, _, rfl, _, _, rfl, rfl, .inl ⟨by decide, by decide⟩, _, _, rfl, rfl, (by show 1 ≤ sizeLine; decide), fun a na => ?_⟩
    have g1 := same_upd (o := .lst [.int (2 * r + 1)]) na
    refine ⟨_, rfl, a, _, _, rfl, rfl, upd_same, (by omega), (by omega), (by show 1 * ((m : Int)).toNat ≤ sizeLine; rw [Nat.one_mul, Int.toNat_natCast]; exact Nat.le_of_lt (small1000 (by omega))), fun b nb => ?_⟩
    refine ⟨_, _, List.replicate m (2 * r + 1), rfl, ?_, by rw [List.length_replicate]; exact hm, fun z hz => ?_, fun D ds H' nD dr s1 hD => ?_⟩
    · refine .inl (.inl ?_)
      rw [upd_same, Int.toNat_natCast, List.map_replicate, flat_rep]
    · rw [(List.mem_replicate.mp hz).2]
      have : (2 : Nat) ^ 200 * 4 ≤ 2 ^ 300 := by decide
      omega
    · have hl : ds.length = m := by rw [dr.1, List.length_replicate]
      have s2 := (g1.trans (same_upd nb)).trans s1
      refine ⟨_, rfl, D, rfl, ⟨_, SqL.of hD⟩, fun L nL => lcW walk_list (tkV ((ds.map (· - r)).map V.int)) nL rfl (fun H s => s.seq (SqL.of hD)) ?_ ?_⟩
      · rintro i x H2 _ hi s3 hL ⟨rfl, hx⟩
        obtain ⟨z, rfl, hz⟩ := item_int hx
        refine ⟨rfl, _, rfl, _, rfl, _, _, rfl, rfl, ?_⟩
        exact mapEnd nL (by rw [List.length_map, List.length_map]; omega) s3 hL (map_at (f := V.int) (by rw [List.getElem?_map, hz] <;> rfl))
      · intro H2 s3 hL
        have e : tkV ((ds.map (· - r)).map V.int) (ds.map V.int).length = (ds.map (· - r)).map V.int := by
          have := tkV_all ((ds.map (· - r)).map V.int)
          rw [List.length_map, List.length_map] at this
          rw [List.length_map]
          exact this
        rw [e] at hL
        refine q L (ds.map (· - r)) H2 (by
          cases h : H L with
          | none => rfl
          | some o => rw [s2 _ _ h] at nL; cases nL) (by rw [List.length_map]; exact hl) (fun z hz => ?_) (s2.trans s3) hL
        obtain ⟨d, hd, rfl⟩ := List.mem_map.mp hz
        obtain ⟨i, hi⟩ := List.mem_iff_getElem?.mp hd
        have hi' : i < m := by
          rw [← hl]
          exact (List.getElem?_eq_some_iff.mp hi).1
        have := dr.2 i d (2 * r + 1) hi (by rw [List.getElem?_replicate, if_pos hi'])
        omega
-- part lawbits
abbrev s_lisint : Stmt := top 32
theorem sc_lisint : FnScope ["_law_actual"] ["_law_actual"] (defScope s_lisint) := ⟨rfl, rfl, rfl, by decide +kernel, rfl, by decide +kernel, by decide +kernel⟩
/-- of an int it is True -/
def spIsInt : Sp := fun vs H Q _ => ∃ n : Int, vs = [.int n] ∧ Q (.bl true) H
theorem ok_lisint {f : Addr} {fd : FuncData} (T : Txt mg) (F : Fun K "_law_is_integer" "_law_is_integer" s_lisint f fd) : FnOk P w K mg base CX0 1 f fd ["_law_actual"] spIsInt := by
  refine F.ok sc_lisint (fun vs H Q E h => ?_) (fun cdv A outer s H vs Q E hr h => ?_)
  · obtain ⟨n, rfl, _⟩ := h
    rfl
  · obtain ⟨n, rfl, q⟩ := h
    refine ⟨_, (pss_one (ps_ret (pe_and (pe_callB call_isi (by rfl) T.isinstance boot_isinstance (pa_cons (pv 0) (pa_cons (pe_bltn (v := .ty "int") (by rfl) T.int boot_int rfl) pa_nil))) (pe_one (pe_not (pe_callB call_isi (by rfl) T.isinstance boot_isinstance (pa_cons (pv 0) (pa_cons (pe_bltn (v := .ty "bool") (by rfl) T.bool boot_bool rfl) pa_nil)))))))), ?_⟩
    refine ⟨_, rfl, _, _, _, _, true, rfl, .ty _, .base (.int _), kit_ty (by decide +kernel), _, rfl, if_pos_of rfl ?_⟩
    exact ⟨_, rfl, _, _, _, _, false, rfl, .ty _, .base (.int _), kit_ty (by decide +kernel), _, rfl, q⟩
-- part ownops
/-! operators of an own class -/
/-- a method of the class at C, by its promise -/
structure Me (P : Program) (w : World) (K : PySem.W.Frag) (mg : Str → Option Value) (base : Heap) (k : Nat) (C : Addr) (m : Str) (sp : Sp) : Prop where
  ex : ∃ (f : Addr) (fd : FuncData) (ps : List Str), Meth K C m f ∧ FnOk P w K mg base CX0 k f fd ps sp ∧ Binds K fd ps []
section
variable {X : Cx} {C : Addr} {m : Str} {sp : Sp} {k j : Nat}
theorem inst_of {pins : List (Addr × Obj)} {σ : L2.St} {H : Hp} {s : Shared} {a dx : Addr} {fs : List (Str × V)} (I : Inv X pins σ H s) (e : H a = some (.ins C dx fs)) : ∃ ox od, PySem.W.InstAt s.heap a ox C od := by
  obtain ⟨mA, O, _⟩ := ins_get I.hok e
  obtain ⟨od, J, _⟩ := O.look
  exact ⟨_, _, J⟩
/-- x op y of two instances -/
def rOwn2 (C : Addr) (sp : Sp) : R2 := fun x y H Q => ∃ a b dx dy fs gs, x = .ref a ∧ y = .ref b ∧ H a = some (.ins C dx fs) ∧ H b = some (.ins C dy gs) ∧ sp [x, y] H Q E0
theorem op_own2 {op : Operator} (c : Me X.prog X.w X.K X.mg X.base k C m sp) (hr : Room j X.A) (sf : PySem.W.selfFirst X.K C = true) (hm : PySem.dunder op.info.2 = m := by decide +kernel) (hk : k ≤ j := by decide) : OpR X (binaryOp op) (rOwn2 C sp) := by
  obtain ⟨f, fd, ps, M, F, b⟩ := c.ex
  intro pins s σ H x y v u Q I rx ry h
  obtain ⟨a, b', dx, dy, fs, gs, rfl, rfl, ha, hb, q⟩ := h
  cases (show v = Value.ref a from rx)
  cases (show u = Value.ref b' from ry)
  obtain ⟨ox, od, J⟩ := inst_of I ha
  obtain ⟨oy, od', J'⟩ := inst_of I hb
  obtain ⟨mm, hF⟩ := I.fr
  refine PySem.W.binop_K hF I.ok.mod.kin J J'.type sf (by rw [hm]; exact M.at_) M.fn ?_
  refine wpAny_mono (run_fn (us := [.ref a, .ref b']) (vs := [.ref a, .ref b']) F (hr.mono hk) b .nil pass0 I (.cons rfl (.cons rfl .nil)) q) (fun u' s' z => ?_) fun _ _ x => x
  obtain ⟨z', H', I', rz, qz⟩ := z
  exact SlX.cmpback rz ⟨z', H', I', rz, qz⟩
/-- op x of an instance -/
def rOwn1 (C : Addr) (sp : Sp) : V → Hp → VK → Prop := fun x H Q => ∃ a dx fs, x = .ref a ∧ H a = some (.ins C dx fs) ∧ sp [x] H Q E0
theorem un_inv1 (c : Me X.prog X.w X.K X.mg X.base k C "__invert__" sp) (hr : Room j X.A) (hk : k ≤ j := by decide) : UnR X (unaryOp .Invert) (rOwn1 C sp) := by
  obtain ⟨f, fd, ps, M, F, b⟩ := c.ex
  intro pins s σ H x v Q I rx h
  obtain ⟨a, dx, fs, rfl, ha, q⟩ := h
  cases (show v = Value.ref a from rx)
  obtain ⟨ox, od, J⟩ := inst_of I ha
  obtain ⟨mm, hF⟩ := I.fr
  exact PySem.W.ksp_inv hF I.ok.mod.kin J M.at_ M.fn (run_fn (us := [.ref a]) (vs := [.ref a]) F (hr.mono hk) b .nil pass0 I (.cons rfl .nil) q)
theorem un_neg1 (c : Me X.prog X.w X.K X.mg X.base k C "__neg__" sp) (hr : Room j X.A) (hk : k ≤ j := by decide) : UnR X (unaryOp .USub) (rOwn1 C sp) := by
  obtain ⟨f, fd, ps, M, F, b⟩ := c.ex
  intro pins s σ H x v Q I rx h
  obtain ⟨a, dx, fs, rfl, ha, q⟩ := h
  cases (show v = Value.ref a from rx)
  obtain ⟨ox, od, J⟩ := inst_of I ha
  obtain ⟨mm, hF⟩ := I.fr
  exact PySem.W.ksp_neg hF I.ok.mod.kin J M.at_ M.fn (run_fn (us := [.ref a]) (vs := [.ref a]) F (hr.mono hk) b .nil pass0 I (.cons rfl .nil) q)
/-- x in y, y an instance: the answer a bool -/
def rOwnIn (neg : Bool) (C : Addr) (sp : Sp) : R2 := fun x y H Q => ∃ b dx fs, y = .ref b ∧ H b = some (.ins C dx fs) ∧ sp [y, x] H (fun v H' => ∃ c : Bool, v = .bl c ∧ Q (.bl (if neg then !c else c)) H') E0
theorem op_in_own (c : Me X.prog X.w X.K X.mg X.base k C "__contains__" sp) (hr : Room j X.A) (hk : k ≤ j := by decide) : OpR X (compareOp .In) (rOwnIn false C sp) := by
  obtain ⟨f, fd, ps, M, F, b⟩ := c.ex
  intro pins s σ H x y v u Q I rx ry h
  obtain ⟨a, dx, fs, rfl, ha, q⟩ := h
  cases (show u = Value.ref a from ry)
  obtain ⟨ox, od, J⟩ := inst_of I ha
  obtain ⟨mm, hF⟩ := I.fr
  refine PySem.W.in_K hF I.ok.mod.kin J M.at_ M.fn (wpAny_mono (run_fn (us := [.ref a, v]) (vs := [.ref a, x]) F (hr.mono hk) b .nil pass0 I (.cons rfl (.cons rx .nil)) q) (fun u' s' z => ?_) fun _ _ x => x)
  obtain ⟨z', H', I', rz, d, ez, qz⟩ := z
  subst ez
  cases (show u' = Value.bool d from rz)
  exact wpAny_truthy_bool ⟨.bl d, H', I', rfl, qz⟩
theorem op_notIn_own (c : Me X.prog X.w X.K X.mg X.base k C "__contains__" sp) (hr : Room j X.A) (hk : k ≤ j := by decide) : OpR X (compareOp .NotIn) (rOwnIn true C sp) := by
  obtain ⟨f, fd, ps, M, F, b⟩ := c.ex
  intro pins s σ H x y v u Q I rx ry h
  obtain ⟨a, dx, fs, rfl, ha, q⟩ := h
  cases (show u = Value.ref a from ry)
  obtain ⟨ox, od, J⟩ := inst_of I ha
  obtain ⟨mm, hF⟩ := I.fr
  refine PySem.W.notIn_K hF I.ok.mod.kin J M.at_ M.fn (wpAny_mono (run_fn (us := [.ref a, v]) (vs := [.ref a, x]) F (hr.mono hk) b .nil pass0 I (.cons rfl (.cons rx .nil)) q) (fun u' s' z => ?_) fun _ _ x => x)
  obtain ⟨z', H', I', rz, d, ez, qz⟩ := z
  subst ez
  cases (show u' = Value.bool d from rz)
  exact wpAny_truthy_bool ⟨.bl (!d), H', I', rfl, qz⟩
/-- x == y of two instances -/
theorem op_eq_own (c : Me X.prog X.w X.K X.mg X.base k C "__eq__" sp) (hr : Room j X.A) (hk : k ≤ j := by decide) : OpR X (compareOp .Eq) (rOwn2 C sp) := by
  obtain ⟨f, fd, ps, M, F, b⟩ := c.ex
  intro pins s σ H x y v u Q I rx ry h
  obtain ⟨a, b', dx, dy, fs, gs, rfl, rfl, ha, hb, q⟩ := h
  cases (show v = Value.ref a from rx)
  cases (show u = Value.ref b' from ry)
  obtain ⟨ox, od, J⟩ := inst_of I ha
  obtain ⟨oy, od', J'⟩ := inst_of I hb
  obtain ⟨mm, hF⟩ := I.fr
  show wpAny _ _ (richCompare .Eq (.ref a) (.ref b')) _ _ _
  refine PySem.W.cmp_K (op := .Eq) (tb := .ref C) hr.units0 hF I.ok.mod.kin J J'.type (by unfold PySem.W.notFirst; simp) M.at_ M.fn ?_
  refine wpAny_mono (run_fn (us := [.ref a, .ref b']) (vs := [.ref a, .ref b']) F (hr.mono hk) b .nil pass0 I (.cons rfl (.cons rfl .nil)) q) (fun u' s' z => ?_) fun _ _ x => x
  obtain ⟨z', H', I', rz, qz⟩ := z
  exact SlX.cmpback rz ⟨z', H', I', rz, qz⟩
/-- the truth of an instance, by its __bool__ -/
def rTruOwn (C : Addr) (sp : Sp) : V → Hp → (Bool → Hp → Prop) → Prop := fun x H Q => ∃ a dx fs, x = .ref a ∧ H a = some (.ins C dx fs) ∧ sp [x] H (fun v H' => ∃ c : Bool, v = .bl c ∧ Q c H') E0
theorem tru_own (c : Me X.prog X.w X.K X.mg X.base k C "__bool__" sp) (hr : Room j X.A) (hk : k ≤ j := by decide) : TruR X (rTruOwn C sp) := by
  obtain ⟨f, fd, ps, M, F, b⟩ := c.ex
  intro pins s σ H x v Q I rx h
  obtain ⟨a, dx, fs, rfl, ha, q⟩ := h
  cases (show v = Value.ref a from rx)
  obtain ⟨ox, od, J⟩ := inst_of I ha
  obtain ⟨mm, hF⟩ := I.fr
  refine PySem.W.truthy_K hF I.ok.mod.kin J M.at_ M.fn (wpAny_mono (run_fn (us := [.ref a]) (vs := [.ref a]) F (hr.mono hk) b .nil pass0 I (.cons rfl .nil) q) (fun u' s' z => ?_) fun _ _ x => x)
  obtain ⟨z', H', I', rz, d, ez, qz⟩ := z
  subst ez
  cases (show u' = Value.bool d from rz)
  exact ⟨H', I', qz⟩
end
/-- a class that makes instances, its __init__ by its promise (it may raise, and here doesn't) -/
structure Ma (P : Program) (w : World) (K : PySem.W.Frag) (mg : Str → Option Value) (base : Heap) (k : Nat) (C : Addr) (sp : Sp) : Prop where
  ex : ∃ (f : Addr) (fd : FuncData) (ps : List Str), Mk K C f ∧ FnOk P w K mg base (L2N.CX P w) k f fd ps sp ∧ Binds K fd ps []
section
variable {X : Cx} {C : Addr} {x : Str} {sp : Sp} {k j i : Nat} {p pos : Pos} {e : Expr} {es : List Expr} {t : TA}
theorem pe_ma (c : Ma X.prog X.w X.K X.mg X.base k C sp) (hr : Room j X.A) (hm : X.mg x = some (.ref C)) (ha : PA X (e :: es) t) (hk : k + 1 ≤ j := by decide) (hg : Gl X x := by rfl)
    (hdb : (x == ("__debug__" : Str)) = false := by decide) (he : starEach (e :: es) X.env = (false, eval e X.env) :: starEach es X.env := by rfl) (hpl : (backTo pos (starEach es X.env)).any (·.1) = false := by rfl) :
    PE X (.Call (.Name x p) (e :: es) [] pos) (tMake C sp [] E0 t) := by
  obtain ⟨f, fd, ps, M, F, b⟩ := c.ex
  exact pe_make M F (hr.mono hk) hg hm b .nil passN ha hdb he hpl
/-- cls(..), cls a parameter that holds the class -/
def tMakeL (i : Nat) (C : Addr) (sp : Sp) (t : TA) : TE := fun σ H Q => σ[i]? = some (some (.ref C)) ∧ tMake C sp [] E0 t σ H Q
theorem pe_maL (c : Ma X.prog X.w X.K X.mg X.base k C sp) (hr : Room j X.A) (hN : X.N[i]? = some x) (ha : PA X (e :: es) t) (hk : k + 1 ≤ j := by decide)
    (hv : Vis X.env.scope x := by first | exact Or.inl rfl | exact Or.inr (Or.inl rfl) | exact Or.inr (Or.inr rfl))
    (hdb : (x == ("__debug__" : Str)) = false := by decide) (hcd : (x == ("__classdict__" : Str)) = false := by decide)
    (he : starEach (e :: es) X.env = (false, eval e X.env) :: starEach es X.env := by rfl) (hpl : (backTo pos (starEach es X.env)).any (·.1) = false := by rfl) :
    PE X (.Call (.Name x p) (e :: es) [] pos) (tMakeL i C sp t) := by
  obtain ⟨f, fd, ps, M, F, b⟩ := c.ex
  refine ⟨fun pins s σ H Q I h => ?_⟩
  obtain ⟨at_i, rest⟩ := h
  refine wpAny_Call_Name_kw (thn ((pe_var (pos := p) hN hv hdb hcd).run pins s σ H (fun v G => v = .ref C ∧ G = H) I ⟨.ref C, at_i, rfl, rfl⟩) fun u s1 ⟨v, G, I1, r1, e1, e2⟩ => ?_)
  subst e1
  subst e2
  cases r1
  refine PySem.W.callWith_K (h₀ := X.base) I.ok.mod.kin M.kp (thn (ha.run pos pins s1 σ _ _ I1 rest) fun us s2 ⟨vs, G2, I2, r, q⟩ => ⟨I2.kIn, ?_⟩) he hpl
  exact run_make M F (hr.mono hk) b .nil passN I2 r q
end
-- part ownops2
/-! bool(x) and x == y, where y is no instance; classmethods by FnR; C(..) in a try -/
section
variable {X : Cx} {C : Addr} {m : Str} {sp : Sp} {k j : Nat}
/-- bool(x) of an instance -/
def rBoolOwn (C : Addr) (sp : Sp) : List V → Hp → VK → Prop := fun xs H Q => ∃ a dx fs, xs = [.ref a] ∧ H a = some (.ins C dx fs) ∧ sp [.ref a] H (fun v H' => ∃ c : Bool, v = .bl c ∧ Q (.bl c) H') E0
theorem new_bool_any {prog : Program} {w : World} (x : Value) : MeetsIn prog w (Builtin.«bool.__new__» ⟨[.type "bool", x], []⟩)
    (fun A R s => wpAny (model prog w) A.in1 (truthy x) (fun b s1 => R (.ok (.ret (.bool b))) s1) (fun e s1 => R (.error e) s1) s) :=
  .of_wp fun A R s h => by
    have no_bool := F.conv_sub_bool
    unfold Builtin.«bool.__new__»
    generalize same : truthy = TX
    wp_walk
    subst same
    refine wpAny_mono h (fun b s1 hR => ?_) fun _ _ z => z
    exact wpAny_pure ⟨_, rfl, hR⟩
theorem cr_boolOwn (c : Me X.prog X.w X.K X.mg X.base k C "__bool__" sp) (hr : Room j X.A) (hk : k + 2 ≤ j := by decide) : CallR X (.type "bool") (rBoolOwn C sp) := by
  obtain ⟨f, fd, ps, M, F, b⟩ := c.ex
  intro pins s σ H xs us Q I r h
  obtain ⟨a, dx, fs, rfl, ha, q⟩ := h
  obtain rfl := Vals.ref1 r
  obtain ⟨ox, od, J⟩ := inst_of I ha
  obtain ⟨mm, hF⟩ := I.fr
  have many : ([Value.ref a] : List Value).length = ps.length := F.len [.ref a] _ _ _ q
  have bound := b s [.ref a] I.kIn (by rw [List.append_nil]; exact many)
  rw [List.append_nil] at bound
  refine callType_newIn PySem.F.called_bool PySem.F.newNe_bool (PySem.F.typeCall_bool_1 _) (PySem.F.newCall_bool_1 _) (fun obj => PySem.F.args_object_init_2 obj _) PySem.F.entry_bool_new (new_bool_any _) ?_
  refine PySem.W.truthy_K hF I.ok.mod.kin J M.at_ M.fn (wpAny_call (codeAny_mono (F.run _ X.stack s H ⟨[.ref a], []⟩ [.ref a] [.ref a] _ E0 ((hr.mono hk).in1.in1) (I.env0.in1.in1) bound (.cons rfl .nil) q) fun r s' hq => ?_))
  cases r with
  | error e => exact False.elim hq
  | ok fl =>
    cases fl with
    | ret u =>
      obtain ⟨z', H', I', rz, d, ez, qz⟩ := I.after hq
      subst ez
      cases (show u = Value.bool d from rz)
      exact ⟨rfl, .bl d, H', I', rfl, qz⟩
    | next => exact False.elim hq
    | brk => exact False.elim hq
    | cont => exact False.elim hq
/-- x == y, y a tuple -/
def rOwnT (C : Addr) (sp : Sp) : R2 := fun x y H Q => ∃ a b dx fs zs, x = .ref a ∧ y = .ref b ∧ H a = some (.ins C dx fs) ∧ H b = some (.tup zs) ∧ sp [x, y] H Q E0
theorem op_eq_ownT (c : Me X.prog X.w X.K X.mg X.base k C "__eq__" sp) (hr : Room j X.A) (nf : PySem.W.subIn X.K (.type "tuple") (.ref C) = some false) (hk : k ≤ j := by decide) : OpR X (compareOp .Eq) (rOwnT C sp) := by
  obtain ⟨f, fd, ps, M, F, b⟩ := c.ex
  intro pins s σ H x y v u Q I rx ry h
  obtain ⟨a, b', dx, fs, zs, rfl, rfl, ha, hb, q⟩ := h
  cases (show v = Value.ref a from rx)
  cases (show u = Value.ref b' from ry)
  obtain ⟨ox, od, J⟩ := inst_of I ha
  obtain ⟨_, _, _, o, h1, h2, _⟩ := (show ObjOk X.prog X.w H s.heap b' (.tup zs) from I.hok b' _ hb)
  obtain ⟨mm, hF⟩ := I.fr
  show wpAny _ _ (richCompare .Eq (.ref a) (.ref b')) _ _ _
  refine PySem.W.cmp_K (op := .Eq) (tb := .type "tuple") hr.units0 hF I.ok.mod.kin J (fun A Q E s k q => wpAny_typeOf_ref (k _ _ h1) (by rw [h2]; exact q)) (by unfold PySem.W.notFirst; rw [nf]; simp) M.at_ M.fn ?_
  refine wpAny_mono (run_fn (us := [.ref a, .ref b']) (vs := [.ref a, .ref b']) F (hr.mono hk) b .nil pass0 I (.cons rfl (.cons rfl .nil)) q) (fun u' s' z => ?_) fun _ _ x => x
  obtain ⟨z', H', I', rz, qz⟩ := z
  exact SlX.cmpback rz ⟨z', H', I', rz, qz⟩
end
/-- a classmethod by what its call does -/
structure CmR (P : Program) (w : World) (K : PySem.W.Frag) (mg : Str → Option Value) (base : Heap) (k : Nat) (C : Addr) (m : Str) (sp : Sp) : Prop where
  ex : ∃ (mc : Value) (p g : Addr), ClX.CRead K C mc ∧ ClX.CMet K C mc m p g ∧ FnR P w K mg base CX0 k g sp
theorem pe_cmR {X : Cx} {C : Addr} {m : Str} {sp : Sp} {k j : Nat} {o e : Expr} {es : List Expr} {ta : TE} {t : TA} {apos pos : Pos} {pl : Sem Bool} (c : CmR X.prog X.w X.K X.mg X.base k C m sp) (hr : Room j X.A) (he : PE X o ta) (ha : PA X (e :: es) t) (hk : k ≤ j := by decide)
    (hst : starEach (e :: es) X.env = (false, eval e X.env) :: starEach es X.env := by rfl) (hpl : (backTo pos (starEach es X.env)).any (·.1) = false := by rfl)
    (ht : eval (.Call (.Attribute o m apos) (e :: es) [] pos) X.env = (do
      let got ← eval o X.env
      standAt apos.atName
      let (fn, fst) ← holding [got] (getMethod got m pl)
      callWith pos fn fst (backTo pos (starEach (e :: es) X.env)) (backToKw pos (keywordEach [] X.env))) := by rfl) :
    PE X (.Call (.Attribute o m apos) (e :: es) [] pos) (ClX.tCMeth C sp E0 ta t) := by
  obtain ⟨mc, p, g, r, c, F⟩ := c.ex
  exact ClX.pe_cmeth he r c F (hr.mono hk) pass0 ha hst hpl ht
theorem pe_cmR0 {X : Cx} {C : Addr} {m : Str} {sp : Sp} {k j : Nat} {o : Expr} {ta : TE} {apos pos : Pos} {pl : Sem Bool} (c : CmR X.prog X.w X.K X.mg X.base k C m sp) (hr : Room j X.A) (he : PE X o ta) (hk : k ≤ j := by decide)
    (ht : eval (.Call (.Attribute o m apos) [] [] pos) X.env = (do
      let got ← eval o X.env
      standAt apos.atName
      let (fn, fst) ← holding [got] (getMethod got m pl)
      callWith pos fn fst (backTo pos (starEach [] X.env)) (backToKw pos (keywordEach [] X.env))) := by rfl) :
    PE X (.Call (.Attribute o m apos) [] [] pos) (ClX.tCMeth C sp E0 ta tNil) := by
  obtain ⟨mc, p, g, r, c, F⟩ := c.ex
  refine ⟨fun pins s σ H Q I h => ?_⟩
  refine PySem.W.methodCall_KW (pl := pl) (thn (he.run pins s σ H _ I h) fun u s1 ⟨x, H1, I1, rx, ex, q⟩ => ?_) ht
  subst ex
  obtain rfl : u = Value.ref C := rx
  refine ClX.getmethcm_ok I1 r c fun s2 I2 => ?_
  have hq := ClX.pin_at I2
  show wpAny _ _ (callWith pos (Value.ref s1.heap.objs.size) [] (backTo pos (starEach [] X.env)) []) _ _ _
  refine PySem.W.callWith_M0 (K := X.K) (g := g) (self := .ref C) ?_ c.fi ?_
  · exact ⟨hq, I2.kIn⟩
  · exact ClX.run_cm (us := []) (vs := []) F (hr.mono hk) pass0 I2 .nil q
/-- C(..) whose __init__ may raise, in a try that takes it -/
def tMakeS (C : Addr) (sp : Sp) (E : L2.St → XK) (t : TA) : TE := fun σ H Q => tMake C sp [] (E σ) t σ H Q
theorem pe_maX {X : Cx} {W : WX} {C : Addr} {x : Str} {sp : Sp} {k j : Nat} {p pos : Pos} {e : Expr} {es : List Expr} {t : TA} (c : Ma X.prog X.w X.K X.mg X.base k C sp) (hr : Room j X.A) (tk : L2N.Takes X W) (hm : X.mg x = some (.ref C)) (ha : PA X (e :: es) t) (hk : k + 1 ≤ j := by decide) (hg : Gl X x := by rfl)
    (hdb : (x == ("__debug__" : Str)) = false := by decide) (he : starEach (e :: es) X.env = (false, eval e X.env) :: starEach es X.env := by rfl) (hpl : (backTo pos (starEach es X.env)).any (·.1) = false := by rfl) :
    PE X (.Call (.Name x p) (e :: es) [] pos) (tMakeS C sp (WE W) t) := by
  obtain ⟨f, fd, ps, M, F, b⟩ := c.ex
  refine ⟨fun pins s σ H Q I h => ?_⟩
  refine wpAny_Call_Name_kw (ld_glob I hg hm ?_ hdb)
  refine PySem.W.callWith_K (h₀ := X.base) I.ok.mod.kin M.kp (thn (ha.run pos pins s σ H _ I h) fun us s1 ⟨vs, H1, I1, r, q⟩ => ⟨I1.kIn, ?_⟩) he hpl
  generalize ez : s1.heap.objs.size = z
  have le0 : s1.heap.objs.size ≤ z := by rw [ez]; exact Nat.le_refl z
  have asks := q (z + 1) z (I1.hok.fresh (Nat.le_succ_of_le le0)) (I1.hok.fresh le0) (Nat.ne_of_lt (Nat.lt_succ_self z))
  have laid := Inv.made (C := C) I1
  rw [ez] at laid
  have rel : Vals (V.ref (z + 1) :: vs) (Value.ref (z + 1) :: us) := .cons rfl r
  rw [List.append_nil] at asks
  have many : (Value.ref (z + 1) :: us).length = ps.length := by
    rw [← rel.length]
    exact F.len _ _ _ _ asks
  have bound := b _ (Value.ref (z + 1) :: us) laid.kIn (by rw [List.append_nil]; exact many)
  rw [List.append_nil] at bound
  have runs := F.run _ X.stack _ _ ⟨Value.ref (z + 1) :: us, []⟩ (Value.ref (z + 1) :: us) _ _ (WE W σ) ((hr.mono hk).make C us []) (laid.env0.make C us []) bound rel asks
  subst ez
  refine wpAny_call (make_map (f := f) I1.kIn M.makes M.init (beq_iff_eq.mp M.fn) (codeAny_mono runs fun r' s' back => ?_))
  cases r' with
  | error er => exact L2N.passAt tk σ pins _ _ er s' laid back
  | ok fl =>
    cases fl with
    | ret u =>
      obtain ⟨v, H', I3, rv, ev, q3⟩ := laid.after back
      subst ev
      cases (show u = Value.none from rv)
      exact ⟨rfl, .ref _, H', I3, rfl, q3⟩
    | next => exact False.elim back
    | brk => exact False.elim back
    | cont => exact False.elim back
theorem kit_ownF {C : Addr} {U : String} (h2 : PySem.W.isClsIn K C = true) (h3 : PySem.W.typeIn K (.ref C) = some (.type "type")) (h : PySem.W.subIn K (.type U) (.ref C) = some false) : PySem.W.kitOne K (.type U) (.ref C) = some false := by
  have h2' : (PySem.W.clsIn K C).isSome = true := h2
  have e2 : ((PySem.W.clsIn K C).isSome && PySem.W.typeIn K (.ref C) == some (.type "type")) = true := by rw [h2', h3] <;> rfl
  unfold PySem.W.kitOne
  rw [if_neg (by simp)]
  show (if ((PySem.W.clsIn K C).isSome && PySem.W.typeIn K (.ref C) == some (.type "type")) = true then PySem.W.subIn K (.type U) (.ref C) else none) = some false
  rw [if_pos e2]
  exact h
-- part strown
/-! str(x) of an own instance -/
section
variable {X : Cx} {C : Addr} {sp : Sp} {k j : Nat}
def rStrOwn (C : Addr) (sp : Sp) : List V → Hp → VK → Prop := fun xs H Q => ∃ a dx fs, xs = [.ref a] ∧ H a = some (.ins C dx fs) ∧ sp [.ref a] H (fun v H' => ∃ z : Str, v = .str z ∧ Q (.str z) H') E0
theorem cr_strOwn (c : Me X.prog X.w X.K X.mg X.base k C "__str__" sp) (hr : Room j X.A) (hk : k + 2 ≤ j := by decide) : CallR X (.type "str") (rStrOwn C sp) := by
  obtain ⟨f, fd, ps, M, F, b⟩ := c.ex
  intro pins s σ H xs us Q I r h
  obtain ⟨a, dx, fs, rfl, ha, q⟩ := h
  obtain rfl := Vals.ref1 r
  obtain ⟨ox, od, J⟩ := inst_of I ha
  have many : ([Value.ref a] : List Value).length = ps.length := F.len [.ref a] _ _ _ q
  have bound := b s [.ref a] I.kIn (by rw [List.append_nil]; exact many)
  rw [List.append_nil] at bound
  refine PySem.W.kso_call (hr.mono hk).in1.in1.units0 I.kIn J M.at_ M.fn (wpAny_call (codeAny_mono (F.run _ X.stack s H ⟨[.ref a], []⟩ [.ref a] [.ref a] _ E0 ((hr.mono hk).in1.in1) (I.env0.in1.in1) bound (.cons rfl .nil) q) fun r s' hq => ?_))
  cases r with
  | error e => exact False.elim hq
  | ok fl =>
    cases fl with
    | ret u =>
      obtain ⟨z', H', I', rz, z, ez, qz⟩ := I.after hq
      subst ez
      obtain ⟨t, ht⟩ := (show ∃ t, u = Value.str z t from rz)
      subst ht
      exact ⟨.str z, H', I', ⟨t, rfl⟩, qz⟩
    | next => exact False.elim hq
    | brk => exact False.elim hq
    | cont => exact False.elim hq
end
/-- y.join(xs), the frame named: for the body of a try -/
def rJoin (K : PySem.W.Frag) : V → List V → Hp → VK → Prop := fun x xs H Q => ∃ a p, ∃ ys : List Str, x = .str a ∧ xs = [.ref p] ∧ (SqL K H p (ys.map V.str) ∨ SqT K H p (ys.map V.str)) ∧ (ys.map (·.length)).sum + ys.length * a.length ≤ 16777216 ∧ Q (.str (Txt.join a ys)) H
theorem pe_joinK {X : Cx} {K : PySem.W.Frag} {o e : Expr} {to te : TE} {apos pos : Pos} (hK : X.K = K) (ho : PE X o to) (he : PE X e te) (hs : starEach [e] X.env = [(false, eval e X.env)] := by rfl) (hbase : attributeBase o "join" X.env (eval o X.env) = eval o X.env := by rfl) (hline : (apos.endLine == pos.line) = true := by rfl) :
    PE X (.Call (.Attribute o "join" apos) [e] [] pos) (tM1 (rJoin K) to te) := by
  subst hK
  exact pe_join ho he hs hbase hline
-- part trk
/-! rules whose readings name the frame: for the body of a try and for except suites -/
section
variable {X : Cx} {K : PySem.W.Frag} {o e : Expr} {es : List Expr} {to : TE} {t : TA} {name : Str} {apos cpos : Pos} {T id : String} {r : V → List V → Hp → VK → Prop}
theorem pe_bm0K (hK : X.K = K) (pa : PlainAttrs T) (slot : Slot T name id) (ty : typeOf (.builtin id) = pure (.type "method_descriptor")) (hm : MtR X id r) (ho : PE X o to)
    (hb : attributeBase o name X.env (eval o X.env) = eval o X.env := by rfl) (hl : (apos.endLine == cpos.line) = true := by rfl) : PE X (.Call (.Attribute o name apos) [] [] cpos) (tBM0 K T r to) := by
  subst hK
  exact pe_bm0 pa slot ty hm ho hb hl
theorem pe_bmK (hK : X.K = K) (pa : PlainAttrs T) (slot : Slot T name id) (ty : typeOf (.builtin id) = pure (.type "method_descriptor")) (hm : MtR X id r) (ho : PE X o to) (ha : PA X (e :: es) t)
    (hb : attributeBase o name X.env (eval o X.env) = eval o X.env := by rfl)
    (hf : ((backTo cpos (starEach (e :: es) X.env)).all (fun x => !x.1) && (backToKw cpos (keywordEach [] X.env)).all (fun x => x.1.isSome) && decide ((e :: es).length + ([] : List Keyword).length + (if ([] : List Keyword).isEmpty then 0 else 1) < 30)) = true := by rfl)
    (hl : (apos.endLine == cpos.line) = true := by rfl) (hs : starEach (e :: es) X.env = (false, eval e X.env) :: starEach es X.env := by rfl) (hp : (backTo cpos (starEach es X.env)).any (·.1) = false := by rfl) :
    PE X (.Call (.Attribute o name apos) (e :: es) [] cpos) (tBM K T r to t) := by
  subst hK
  exact pe_bm pa slot ty hm ho ha hb hf hl hs hp
theorem call_isiK (hK : X.K = K) : CallR X (.builtin "isinstance") (rIsi K) := by
  subst hK
  exact call_isi
end
theorem room_suite {X : Cx} {j : Nat} {a : Addr} {l : List (Addr × Obj)} (hr : Room j X.A) : L2H.RoomH j (X.suite a l).A := ⟨hr.dp, hr.un⟩
-- part tryas
/-! try .. except A as n: .. except B as m: .. (exceptions whose context is None) -/
/-- the suite's wish, its name's place filled before and emptied behind -/
def gone (i : Nat) (ts : Addr → Value → Option Addr → TS) : Addr → Value → Option Addr → TS := fun a cls d D σ H =>
  ts a cls d { nx := fun τ G => D.nx (τ.set i none) G, rt := D.rt, bk := fun τ G => D.bk (τ.set i none) G, ct := fun τ G => D.ct (τ.set i none) G } (σ.set i (some (.ref a))) H
abbrev Clauses := List (Value × (Addr → Value → Option Addr → TS))
inductive HAs (X : Cx) : List ExceptHandler → Clauses → Prop
  | none : HAs X [] []
  | more {x n : Str} {i : Nat} {c : Value} {ts : Addr → Value → Option Addr → TS} {b0 : Stmt} {bs : List Stmt} {q1 q2 : Pos} {rest : List ExceptHandler} {l : Clauses}
      (place : X.N[i]? = some n) (isLocal : X.env.kindOf n = some .local) (named : Names X x c)
      (su : ∀ (a : Addr) (oe : Obj) (cls : Value) (d : Option Addr) (pn : List (Addr × Obj)), L2N.Zn cls d oe → (∃ vs, oe.data = .fields vs) → PSs (X.suite a ((a, oe) :: pn)) (b0 :: bs) (ts a cls d)) (others : HAs X rest l) :
      HAs X (.ExceptHandler (some (.Name x q1)) (some n) (b0 :: bs) q2 :: rest) ((c, gone i ts) :: l)
  | plain {x : Str} {c : Value} {ts : Addr → Value → Option Addr → TS} {b0 : Stmt} {bs : List Stmt} {q1 q2 : Pos} {rest : List ExceptHandler} {l : Clauses}
      (named : Names X x c)
      (su : ∀ (a : Addr) (oe : Obj) (cls : Value) (d : Option Addr) (pn : List (Addr × Obj)), L2N.Zn cls d oe → (∃ vs, oe.data = .fields vs) → PSs (X.suite a ((a, oe) :: pn)) (b0 :: bs) (ts a cls d)) (others : HAs X rest l) :
      HAs X (.ExceptHandler (some (.Name x q1)) none (b0 :: bs) q2 :: rest) ((c, ts) :: l)
section
variable {X : Cx} {pins : List (Addr × Obj)} {D : Ends}
/-- the suite is over: the name is emptied -/
theorem suite_over {a : Addr} {oe : Obj} {i : Nat} {n : Str} {q : Pos} {τ : L2.St} {G : Hp} {t : Shared} {R : Shared → Prop} (ok : X.Ok) (J : Inv (X.suite a ((a, oe) :: (X.pn ++ pins))) [] τ G t) (nd : X.N.Nodup) (place : X.N[i]? = some n) (isLocal : X.env.kindOf n = some .local)
    (k : ∀ t', Inv X pins (τ.set i none) G t' → R t') : wpAny (model X.prog X.w) X.A (do bindName X.env n .none; unbindBehindTheSuite X.env n q) (fun _ t' => R t') X.xe t :=
  gone_ok (J.unsuite ok) nd place isLocal k
end
section
variable {X : Cx} {body : List Stmt} {first : ExceptHandler} {others : List ExceptHandler} {l : Clauses} {pos : Pos} {tb : WX → TS} {Wout : WX}
theorem ps_try_ms (stk : X.stack = X.env :: X.outer) (frm : X.env.frame = some X.env.locals) (nd : X.N.Nodup) (out : L2N.Takes X Wout)
    (bodies : ∀ (W : WX) (pn : List (Addr × Obj)) (xe : Value → Shared → Prop), L2N.Takes (X.tr pn xe) W → PassesOwn (model X.prog X.w) X.A X.env xe → PSs (X.tr pn xe) body (tb W))
    (cl : HAs X (first :: others) l) : PS X (.Try body (first :: others) [] [] pos) (fun D σ H => tb (wMany X.K Wout D l) D σ H) := by
  refine ⟨fun pins s σ H D I h => wpAny_Try_except ?_⟩
  have fits := I.ok
  have frames : X.A.frames = some (X.env :: X.outer) := by
    rw [fits.frames, stk]
  refine wpAny_mono ((bodies (wMany X.K Wout D l) (X.pn ++ pins) _ (fun u t flying => ?_) PassesOwn.looking).run [] s σ H D (I.toTry _) h) (fun f t went => ?_) (fun _ _ z => z)
  · -- it is caught here, or by none
    obtain ⟨a, B, t0, pins0, τ, G, cls, d, rfl, J0, old, up0, air, fresh, oss, bare, wish⟩ := flying
    have J : Inv X pins τ G t0 := J0.ofTry fits
    have air1 : Sky B (X.env :: X.outer) a (L2N.Zn cls d) X.env.locals t.heap := by
      rw [← stk]
      exact air
    show wpAny (model X.prog X.w) X.A (noteFrame (.ref a) X.env) _ _ _
    refine L2N.Sky.land L2N.Zn.steady frames frm air1 fun g held up1 => ?_
    have J1 : Inv X pins τ G { t with heap := g } := J.landed old held.1 (up0.trans up1) oss bare
    obtain ⟨o1, v1, at1, zn1, da1⟩ := held.there
    have apart : a ∉ frs (X.env :: X.outer) := fun hm => by
      obtain ⟨_, o2, e2, no⟩ := held.2.2.1.mem hm
      rw [at1] at e2
      cases e2
      exact no _ da1
    have notL : a ≠ X.env.locals := fun z => apart (List.mem_filterMap.mpr ⟨X.env, List.mem_cons_self, by rw [frm, z]⟩)
    have notF : a ∉ X.fs := fun hm => by
      obtain ⟨e, he, q⟩ := List.mem_filterMap.mp hm
      exact apart (List.mem_filterMap.mpr ⟨e, List.mem_cons_of_mem _ he, q⟩)
    have S1 := J1.suite at1 da1 fresh notL notF
    have go : ∀ {hs : List ExceptHandler} {ws : Clauses}, HAs X hs ws → wMany X.K Wout D ws cls d τ G → wpAny (model X.prog X.w) X.A (handleBy (.ref a) X.env hs) (SP X pins D) X.xe { t with heap := g } := by
      intro hs ws hk
      induction hk with
      | none =>
        intro wish
        refine wpAny_handleBy_nil ?_
        obtain ⟨_, _, _, o2, v2, T, oT, tv, e2, _, d2, one, _⟩ := id held
        unfold PySem.passOn
        refine wpAny_bind (wpAny_field e2 d2 one ?_)
        rw [if_neg (show ¬ ((Value.ref T == Value.none) = true) by simp)]
        have on : wpAny (model X.prog X.w) X.A (setFlight (.ref a) X.env.frame) (fun _ t4 => wpAny (model X.prog X.w) X.A (throw (.ref a) : Sem Flow) (SP X pins D) X.xe t4) X.xe { t with heap := g } := by
          rw [frm]
          exact HandSPX.setFlight_upZ held fun g4 fl4 up4 => wpAny_throw (out _ _ ⟨a, B, t0, pins, τ, G, cls, d, rfl, J, old, (up0.trans up1).trans up4, .inr (.inr (by rw [stk]; exact fl4)), fresh, oss, bare, wish⟩)
        first
          | exact wpAny_bind (wpAny_pure (wpAny_bind on))
          | exact wpAny_bind on
      | @more x n i c ts b0 bs q1 q2 rest l2 place isLocal named su more ih =>
        intro wish
        obtain ⟨b, says, yes, no⟩ := wish
        refine wpAny_handleBy_cons (codeAny_handlers_test ?_) (fun z => nomatch z)
        have kind : PySem.W.Looks (model X.prog X.w) g (typeOf (.ref a)) cls := fun _ _ _ _ keep q => wpAny_typeOf_ref (keep _ _ at1) (by rw [zn1.1]; exact q)
        have asks := PySem.W.exm_one (M := model X.prog X.w) J1.kIn kind says
        have read : ∀ {Q R : Value → Shared → Prop}, Q c { t with heap := g } → wpAny (model X.prog X.w) (X.A.mark (some (.ref a))) (eval (.Name x q1) X.env) Q R { t with heap := g } := fun {Q R} q => by
          obtain ⟨gl, db, own | ⟨m0, bv, nn⟩⟩ := named
          · exact ld_glob (X := X.suite a ((a, o1) :: (X.pn ++ pins))) S1 gl own q db
          · exact ld_blt (X := X.suite a ((a, o1) :: (X.pn ++ pins))) S1 gl m0 bv q nn db
        refine read (asks.here ?_)
        cases b with
        | false => exact ih (no rfl)
        | true =>
          refine codeAny_handlers_suite_as (HandSPX.lands_againZ held fun g4 held4 up4 => ?_)
          have J4 : Inv X pins τ G { t with heap := g4 } := J.landed old held4.1 ((up0.trans up1).trans up4) oss bare
          obtain ⟨o4, v4, at4, zn4, da4⟩ := held4.there
          refine store_ok (X := X.suite a ((a, o4) :: (X.pn ++ pins))) (v := .ref a) (J4.suite at4 da4 fresh notL notF) nd place (.inl isLocal) rfl (fun t5 S5 => ?_) (.inr isLocal)
          refine wpAny_mono ((su a o4 cls d (X.pn ++ pins) zn4 ⟨_, da4⟩).run [] t5 _ G _ S5 (yes rfl a fresh)) (fun f t6 went => ?_) (fun _ _ z => False.elim z)
          cases f with
          | ret u =>
            obtain ⟨v6, τ6, G6, S6, r6, q6⟩ := went
            exact suite_over (pins := pins) fits S6 nd place isLocal fun t7 J7 => ⟨_, _, _, J7, r6, q6⟩
          | next =>
            obtain ⟨τ6, G6, S6, q6⟩ := went
            exact suite_over (pins := pins) fits S6 nd place isLocal fun t7 J7 => ⟨_, _, J7, q6⟩
          | brk =>
            obtain ⟨τ6, G6, S6, q6⟩ := went
            exact suite_over (pins := pins) fits S6 nd place isLocal fun t7 J7 => ⟨_, _, J7, q6⟩
          | cont =>
            obtain ⟨τ6, G6, S6, q6⟩ := went
            exact suite_over (pins := pins) fits S6 nd place isLocal fun t7 J7 => ⟨_, _, J7, q6⟩
      | @plain x c ts b0 bs q1 q2 rest l2 named su more ih =>
        intro wish
        obtain ⟨b, says, yes, no⟩ := wish
        refine wpAny_handleBy_cons (codeAny_handlers_test ?_) (fun z => nomatch z)
        have kind : PySem.W.Looks (model X.prog X.w) g (typeOf (.ref a)) cls := fun _ _ _ _ keep q => wpAny_typeOf_ref (keep _ _ at1) (by rw [zn1.1]; exact q)
        have asks := PySem.W.exm_one (M := model X.prog X.w) J1.kIn kind says
        have read : ∀ {Q R : Value → Shared → Prop}, Q c { t with heap := g } → wpAny (model X.prog X.w) (X.A.mark (some (.ref a))) (eval (.Name x q1) X.env) Q R { t with heap := g } := fun {Q R} q => by
          obtain ⟨gl, db, own | ⟨m0, bv, nn⟩⟩ := named
          · exact ld_glob (X := X.suite a ((a, o1) :: (X.pn ++ pins))) S1 gl own q db
          · exact ld_blt (X := X.suite a ((a, o1) :: (X.pn ++ pins))) S1 gl m0 bv q nn db
        refine read (asks.here ?_)
        cases b with
        | false => exact ih (no rfl)
        | true =>
          refine codeAny_handlers_suite (HandSPX.lands_againZ held fun g4 held4 up4 => ?_)
          have J4 : Inv X pins τ G { t with heap := g4 } := J.landed old held4.1 ((up0.trans up1).trans up4) oss bare
          obtain ⟨o4, v4, at4, zn4, da4⟩ := held4.there
          refine wpAny_mono ((su a o4 cls d (X.pn ++ pins) zn4 ⟨_, da4⟩).run [] _ _ G _ (J4.suite at4 da4 fresh notL notF) (yes rfl a fresh)) (fun f t6 went => ?_) (fun _ _ z => False.elim z)
          cases f with
          | ret u =>
            obtain ⟨v6, τ6, G6, S6, r6, q6⟩ := went
            exact ⟨_, _, _, S6.unsuite fits, r6, q6⟩
          | next =>
            obtain ⟨τ6, G6, S6, q6⟩ := went
            exact ⟨_, _, S6.unsuite fits, q6⟩
          | brk =>
            obtain ⟨τ6, G6, S6, q6⟩ := went
            exact ⟨_, _, S6.unsuite fits, q6⟩
          | cont =>
            obtain ⟨τ6, G6, S6, q6⟩ := went
            exact ⟨_, _, S6.unsuite fits, q6⟩
    exact go cl wish
  · cases f with
    | ret u =>
      obtain ⟨v, τ, G, J, r, q⟩ := went
      exact ⟨v, τ, G, J.ofTry fits, r, q⟩
    | next =>
      obtain ⟨τ, G, J, q⟩ := went
      exact wpAny_execs_nil ⟨τ, G, J.ofTry fits, q⟩
    | brk =>
      obtain ⟨τ, G, J, q⟩ := went
      exact ⟨τ, G, J.ofTry fits, q⟩
    | cont =>
      obtain ⟨τ, G, J, q⟩ := went
      exact ⟨τ, G, J.ofTry fits, q⟩
end
-- part clsm
/-- a call of a classmethod without arguments -/
structure Cm (P : Program) (w : World) (K : PySem.W.Frag) (mg : Str → Option Value) (base : Heap) (k : Nat) (C : Addr) (m : Str) (sp : Sp) : Prop where
  ex : ∃ (mc : Value) (p g : Addr) (fd : FuncData) (ps : List Str), ClX.CRead K C mc ∧ ClX.CMet K C mc m p g ∧ FnOk P w K mg base CX0 k g fd ps sp ∧ Binds K fd ps []
theorem fnR_of {P : Program} {w : World} {K : PySem.W.Frag} {mg : Str → Option Value} {base : Heap} {CX : CXT} {k : Nat} {f : Addr} {fd : FuncData} {ps : List Str} {sp : Sp} (F : FnOk P w K mg base CX k f fd ps sp) (b : Binds K fd ps []) : FnR P w K mg base CX k f sp :=
  fun A outer s H us vs Q E hr e0 r h => by
    have hl : us.length = ps.length := by
      rw [← r.length]
      exact F.len _ _ _ _ h
    have z := b s us (e0.mod.kin.keeps fun b o e => (e0.bs b o e).1) (by rw [List.append_nil]; exact hl)
    rw [List.append_nil] at z
    exact F.run A outer s H ⟨us, []⟩ us vs Q E hr e0 z r h
theorem pe_cm {X : Cx} {C : Addr} {m : Str} {sp : Sp} {k j : Nat} {o e : Expr} {es : List Expr} {ta : TE} {t : TA} {apos pos : Pos} {pl : Sem Bool} (c : Cm X.prog X.w X.K X.mg X.base k C m sp) (hr : Room j X.A) (he : PE X o ta) (ha : PA X (e :: es) t) (hk : k ≤ j := by decide)
    (hst : starEach (e :: es) X.env = (false, eval e X.env) :: starEach es X.env := by rfl) (hpl : (backTo pos (starEach es X.env)).any (·.1) = false := by rfl)
    (ht : eval (.Call (.Attribute o m apos) (e :: es) [] pos) X.env = (do
      let got ← eval o X.env
      standAt apos.atName
      let (fn, fst) ← holding [got] (getMethod got m pl)
      callWith pos fn fst (backTo pos (starEach (e :: es) X.env)) (backToKw pos (keywordEach [] X.env))) := by rfl) :
    PE X (.Call (.Attribute o m apos) (e :: es) [] pos) (ClX.tCMeth C sp E0 ta t) := by
  obtain ⟨mc, p, g, fd, ps, r, c, F, b⟩ := c.ex
  exact ClX.pe_cmeth he r c (fnR_of F b) (hr.mono hk) pass0 ha hst hpl ht
theorem pe_cm0 {X : Cx} {C : Addr} {m : Str} {sp : Sp} {k j : Nat} {o : Expr} {ta : TE} {apos pos : Pos} {pl : Sem Bool} (c : Cm X.prog X.w X.K X.mg X.base k C m sp) (hr : Room j X.A) (he : PE X o ta) (hk : k ≤ j := by decide)
    (ht : eval (.Call (.Attribute o m apos) [] [] pos) X.env = (do
      let got ← eval o X.env
      standAt apos.atName
      let (fn, fst) ← holding [got] (getMethod got m pl)
      callWith pos fn fst (backTo pos (starEach [] X.env)) (backToKw pos (keywordEach [] X.env))) := by rfl) :
    PE X (.Call (.Attribute o m apos) [] [] pos) (ClX.tCMeth C sp E0 ta tNil) := by
  obtain ⟨mc, p, g, fd, ps, r, c, F, b⟩ := c.ex
  refine ⟨fun pins s σ H Q I h => ?_⟩
  refine PySem.W.methodCall_KW (pl := pl) (thn (he.run pins s σ H _ I h) fun u s1 ⟨x, H1, I1, rx, ex, q⟩ => ?_) ht
  subst ex
  obtain rfl : u = Value.ref C := rx
  have notin : X.base.get? s1.heap.objs.size = none := by
    cases z : X.base.get? s1.heap.objs.size with
    | none => rfl
    | some o => exact absurd (Heap.lt_size (I1.bk _ o z)) (Nat.lt_irrefl _)
  refine ClX.getmethcm_ok I1 r c fun s2 I2 => ?_
  have hq := ClX.pin_at I2
  have hL : s1.heap.objs.size ≠ X.env.locals := (I2.pin (s1.heap.objs.size, PySem.W.methodObj (.ref g) (.ref C)) (List.mem_append_right _ List.mem_cons_self)).2.2.1
  show wpAny _ _ (callWith pos (Value.ref s1.heap.objs.size) [] (backTo pos (starEach [] X.env)) []) _ _ _
  refine PySem.W.callWith_M0 (K := X.K) (g := g) (self := .ref C) ?_ c.fi ?_
  · exact ⟨hq, I2.kIn⟩
  · have z := ClX.run_cm (us := []) (vs := []) (fnR_of F b) (hr.mono hk) pass0 I2 .nil q
    exact z
-- part maxl
section
variable {X : Cx} {W : WX} {C : Addr} {x m : Str} {sp : Sp} {k j i : Nat} {p pos apos : Pos} {e o : Expr} {es : List Expr} {t : TA} {ta : TE} {pl : Sem Bool}
/-- the making itself, what its __init__ raises is taken -/
theorem run_maX {pins : List (Addr × Obj)} {σ : L2.St} {H : Hp} {s : Shared} {Q : VK} {us : List Value} {vs : List V} (c : Ma X.prog X.w X.K X.mg X.base k C sp) (hr : Room j X.A) (tk : L2N.Takes X W) (hk : k + 1 ≤ j) (I : Inv X pins σ H s) (r : Vals vs us)
    (q : ∀ x dx, H x = none → H dx = none → dx ≠ x → sp (.ref x :: (vs ++ [])) (upd (upd H dx (.own x)) x (.ins C dx [])) (fun u H' => u = .non ∧ Q (.ref x) H') (WE W σ)) :
    wpAny (model X.prog X.w) X.A (call (.ref C) us) (EP X pins σ Q) X.xe s := by
  obtain ⟨f, fd, ps, M, F, b⟩ := c.ex
  generalize ez : s.heap.objs.size = z
  have le0 : s.heap.objs.size ≤ z := by
    rw [ez]
    exact Nat.le_refl z
  have asks := q (z + 1) z (I.hok.fresh (Nat.le_succ_of_le le0)) (I.hok.fresh le0) (Nat.ne_of_lt (Nat.lt_succ_self z))
  have laid := Inv.made (C := C) I
  rw [ez] at laid
  rw [List.append_nil] at asks
  have rel : Vals (V.ref (z + 1) :: vs) (Value.ref (z + 1) :: us) := .cons rfl r
  have bound := b _ (Value.ref (z + 1) :: us) laid.kIn (by
    rw [List.append_nil, ← rel.length]
    exact F.len _ _ _ _ asks)
  rw [List.append_nil] at bound
  have runs := F.run _ X.stack _ _ ⟨Value.ref (z + 1) :: us, []⟩ (Value.ref (z + 1) :: us) _ _ (WE W σ) ((hr.mono hk).make C us []) (laid.env0.make C us []) bound rel asks
  subst ez
  refine wpAny_call (make_map (f := f) I.kIn M.makes M.init (beq_iff_eq.mp M.fn) (codeAny_mono runs fun r' s' back => ?_))
  cases r' with
  | error er => exact L2N.passAt tk σ pins _ _ er s' laid back
  | ok fl =>
    cases fl with
    | ret u =>
      obtain ⟨v, H', I3, rv, ev, q3⟩ := laid.after back
      subst ev
      cases (show u = Value.none from rv)
      exact ⟨rfl, .ref _, H', I3, rfl, q3⟩
    | next => exact False.elim back
    | brk => exact False.elim back
    | cont => exact False.elim back
/-- cls(..), cls a parameter that holds the class; what is raised is taken -/
def tMakeLS (i : Nat) (C : Addr) (sp : Sp) (E : L2.St → XK) (t : TA) : TE := fun σ H Q => σ[i]? = some (some (.ref C)) ∧ tMake C sp [] (E σ) t σ H Q
theorem pe_maLX (c : Ma X.prog X.w X.K X.mg X.base k C sp) (hr : Room j X.A) (tk : L2N.Takes X W) (hN : X.N[i]? = some x) (ha : PA X (e :: es) t) (hk : k + 1 ≤ j := by decide)
    (hv : Vis X.env.scope x := by first | exact Or.inl rfl | exact Or.inr (Or.inl rfl) | exact Or.inr (Or.inr rfl))
    (hdb : (x == ("__debug__" : Str)) = false := by decide) (hcd : (x == ("__classdict__" : Str)) = false := by decide)
    (he : starEach (e :: es) X.env = (false, eval e X.env) :: starEach es X.env := by rfl) (hpl : (backTo pos (starEach es X.env)).any (·.1) = false := by rfl) :
    PE X (.Call (.Name x p) (e :: es) [] pos) (tMakeLS i C sp (WE W) t) := by
  have kp : PySem.W.keepIn X.K (.ref C) = true := by
    obtain ⟨f, fd, ps, M, F, b⟩ := c.ex
    exact M.kp
  refine ⟨fun pins s σ H Q I h => ?_⟩
  obtain ⟨at_i, rest⟩ := h
  refine wpAny_Call_Name_kw (thn ((pe_var (pos := p) hN hv hdb hcd).run pins s σ H (fun v G => v = .ref C ∧ G = H) I ⟨.ref C, at_i, rfl, rfl⟩) fun u s1 ⟨v, G, I1, r1, e1, e2⟩ => ?_)
  subst e1
  subst e2
  cases r1
  exact PySem.W.callWith_K (h₀ := X.base) I.ok.mod.kin kp (thn (ha.run pos pins s1 σ _ _ I1 rest) fun us s2 ⟨vs, G2, I2, r, q⟩ => ⟨I2.kIn, run_maX c hr tk hk I2 r q⟩) he hpl
/-- a classmethod that may raise -/
structure CmN (P : Program) (w : World) (K : PySem.W.Frag) (mg : Str → Option Value) (base : Heap) (k : Nat) (C : Addr) (m : Str) (sp : Sp) : Prop where
  ex : ∃ (mc : Value) (p g : Addr) (fd : FuncData) (ps : List Str), ClX.CRead K C mc ∧ ClX.CMet K C mc m p g ∧ FnOk P w K mg base (L2N.CX P w) k g fd ps sp ∧ Binds K fd ps []
/-- .. where it doesn't -/
theorem pe_cmN0 (c : CmN X.prog X.w X.K X.mg X.base k C m sp) (hr : Room j X.A) (he : PE X o ta) (ha : PA X (e :: es) t) (hk : k ≤ j := by decide)
    (hst : starEach (e :: es) X.env = (false, eval e X.env) :: starEach es X.env := by rfl) (hpl : (backTo pos (starEach es X.env)).any (·.1) = false := by rfl)
    (ht : eval (.Call (.Attribute o m apos) (e :: es) [] pos) X.env = (do
      let got ← eval o X.env
      standAt apos.atName
      let (fn, fst) ← holding [got] (getMethod got m pl)
      callWith pos fn fst (backTo pos (starEach (e :: es) X.env)) (backToKw pos (keywordEach [] X.env))) := by rfl) :
    PE X (.Call (.Attribute o m apos) (e :: es) [] pos) (ClX.tCMeth C sp E0 ta t) := by
  obtain ⟨mc, p, g, fd, ps, r, c, F, b⟩ := c.ex
  exact ClX.pe_cmeth he r c (fnR_of F b) (hr.mono hk) passN ha hst hpl ht
def tCMethS (C : Addr) (sp : Sp) (E : L2.St → XK) (ta : TE) (t : TA) : TE := fun σ H Q => ClX.tCMeth C sp (E σ) ta t σ H Q
/-- .. in a try or def that takes what it raises -/
theorem pe_cmNX (c : CmN X.prog X.w X.K X.mg X.base k C m sp) (hr : Room j X.A) (tk : L2N.Takes X W) (he : PE X o ta) (ha : PA X (e :: es) t) (hk : k ≤ j := by decide)
    (hst : starEach (e :: es) X.env = (false, eval e X.env) :: starEach es X.env := by rfl) (hpl : (backTo pos (starEach es X.env)).any (·.1) = false := by rfl)
    (ht : eval (.Call (.Attribute o m apos) (e :: es) [] pos) X.env = (do
      let got ← eval o X.env
      standAt apos.atName
      let (fn, fst) ← holding [got] (getMethod got m pl)
      callWith pos fn fst (backTo pos (starEach (e :: es) X.env)) (backToKw pos (keywordEach [] X.env))) := by rfl) :
    PE X (.Call (.Attribute o m apos) (e :: es) [] pos) (tCMethS C sp (WE W) ta t) := by
  obtain ⟨mc, p, g, fd, ps, r, c, F, b⟩ := c.ex
  refine ⟨fun pins s σ H Q I h => ?_⟩
  refine PySem.W.methodCall_KW (pl := pl) (thn (he.run pins s σ H _ I h) fun u s1 ⟨x, H1, I1, rx, ex, q⟩ => ?_) ht
  subst ex
  obtain rfl : u = Value.ref C := rx
  refine ClX.getmethcm_ok I1 r c fun s2 I2 => ?_
  refine ClX.callwith_cm I2 (ClX.base_none I1 (Nat.le_refl _)) c.fi (thn (ha.run pos _ s2 σ H1 _ I2 q) fun us s3 ⟨vs, H2, I3, rv, q2⟩ => ⟨⟨ClX.pin_at I3, I3.kIn⟩, ?_⟩) hst hpl
  have many : (Value.ref C :: us).length = ps.length := by
    have z := F.len _ _ _ _ q2
    rw [← z]
    show us.length + 1 = vs.length + 1
    rw [Paired.length rv]
  have bound := b s3 (Value.ref C :: us) I3.kIn (by rw [List.append_nil]; exact many)
  rw [List.append_nil] at bound
  have runs := F.run X.A X.stack s3 H2 ⟨Value.ref C :: us, []⟩ (Value.ref C :: us) (.ref C :: vs) _ (WE W σ) (hr.mono hk) I3.env0 bound (.cons rfl rv) q2
  have z : wpAny (model X.prog X.w) X.A (call (.ref s1.heap.objs.size) us) (EP X ((s1.heap.objs.size, PySem.W.methodObj (.ref g) (.ref C)) :: pins) σ Q) X.xe s3 :=
    wpAny_call (PySem.W.method_call (ClX.pin_at I3) (codeAny_mono runs fun r s' hq => by
      cases r with
      | error er => exact L2N.passAt tk σ _ H2 s3 er s' I3 hq
      | ok fl =>
        cases fl with
        | ret u => exact I3.after hq
        | next => exact False.elim hq
        | brk => exact False.elim hq
        | cont => exact False.elim hq))
  exact thn z fun _ _ y => ClX.unpinE y
end
-- part meths
/-! o.m(..) of an own class, by its promise -/
section
variable {X : Cx} {C : Addr} {m : Str} {sp : Sp} {k j : Nat} {o e : Expr} {es : List Expr} {ta : TE} {t : TA} {apos pos : Pos} {pl : Sem Bool}
theorem pe_me0 (c : Me X.prog X.w X.K X.mg X.base k C m sp) (cl : Cls X.K C) (hr : Room j X.A) (he : PE X o ta) (hk : k ≤ j := by decide)
    (ht : eval (.Call (.Attribute o m apos) [] [] pos) X.env = (do
      let ov ← eval o X.env
      standAt apos.atName
      let (f, first) ← holding [ov] (getMethod ov m pl)
      callWith pos f first (backTo pos (starEach [] X.env)) (backToKw pos (keywordEach [] X.env))) := by rfl) :
    PE X (.Call (.Attribute o m apos) [] [] pos) (tMeth C m sp [] E0 ta tNil) := by
  obtain ⟨f, fd, ps, M, F, b⟩ := c.ex
  exact pe_meth0 he cl M F (hr.mono hk) b .nil pass0 ht
theorem pe_me (c : Me X.prog X.w X.K X.mg X.base k C m sp) (cl : Cls X.K C) (hr : Room j X.A) (he : PE X o ta) (ha : PA X (e :: es) t) (hk : k ≤ j := by decide)
    (hst : starEach (e :: es) X.env = (false, eval e X.env) :: starEach es X.env := by rfl) (hpl : (backTo pos (starEach es X.env)).any (·.1) = false := by rfl)
    (ht : eval (.Call (.Attribute o m apos) (e :: es) [] pos) X.env = (do
      let ov ← eval o X.env
      standAt apos.atName
      let (f, first) ← holding [ov] (getMethod ov m pl)
      callWith pos f first (backTo pos (starEach (e :: es) X.env)) (backToKw pos (keywordEach [] X.env))) := by rfl) :
    PE X (.Call (.Attribute o m apos) (e :: es) [] pos) (tMeth C m sp [] E0 ta t) := by
  obtain ⟨f, fd, ps, M, F, b⟩ := c.ex
  exact pe_meth he cl M F (hr.mono hk) b .nil pass0 ha hst hpl ht
end
/-- a class whose instances are called, by the promise of its __call__ -/
structure Co (P : Program) (w : World) (K : PySem.W.Frag) (mg : Str → Option Value) (base : Heap) (k : Nat) (C : Addr) (sp : Sp) : Prop where
  ex : ∃ g, StX.CallO K C g ∧ FnR P w K mg base CX0 k g sp
def tCallI (C : Addr) (sp : Sp) (tf : TE) (t : TA) : TE := fun σ H Q => tf σ H fun y H1 => ∃ a, y = V.ref a ∧ t σ H1 fun vs H2 => ((∃ dx vs, SlX.Slt H2 a C dx vs) ∨ ∃ dx fs, H2 a = some (.ins C dx fs)) ∧ sp (V.ref a :: vs) H2 Q E0
theorem pe_inst {X : Cx} {C : Addr} {sp : Sp} {k j : Nat} {fe e : Expr} {es : List Expr} {tf : TE} {t : TA} {pos : Pos} (c : Co X.prog X.w X.K X.mg X.base k C sp) (hr : Room j X.A) (hf : PE X fe tf) (ha : PA X (e :: es) t) (hk : k ≤ j := by decide)
    (ht : eval (.Call fe (e :: es) [] pos) X.env = (do callWith pos (← eval fe X.env) [] (backTo pos (starEach (e :: es) X.env)) (backToKw pos (keywordEach [] X.env))) := by rfl)
    (he : starEach (e :: es) X.env = (false, eval e X.env) :: starEach es X.env := by rfl) (hpl : (backTo pos (starEach es X.env)).any (·.1) = false := by rfl) :
    PE X (.Call fe (e :: es) [] pos) (tCallI C sp tf t) := by
  obtain ⟨g, c, F⟩ := c.ex
  exact StX.pe_callO hf c F (hr.mono hk) pass0 ha ht he hpl
-- part polyb
/-! the class Poly -/
def pyF (t : Addr) : List (Str × V) := putF "coefficients" (.ref t) []
theorem pyF_c (t : Addr) : (pyF t).lookup ("coefficients" : Str) = some (.ref t) := by
  unfold pyF
  rw [lookup_putF, if_pos rfl]
theorem pyF_no (t : Addr) {m : Str} (h : ¬ m = "coefficients") : (pyF t).lookup m = none := by
  unfold pyF
  rw [lookup_putF, if_neg h] <;> rfl
/-- a polynomial stands at a -/
structure PolyAt (K : PySem.W.Frag) (C : Addr) (H : Hp) (a : Addr) (l : List Int) : Prop where
  ob : ∃ dx t, H a = some (.ins C dx (pyF t)) ∧ SqT K H t (l.map V.int)
  trm : Trim l
  few : l.length ≤ 200
theorem PolyAt.same {C : Addr} {H H' : Hp} {a : Addr} {l : List Int} (h : PolyAt K C H a l) (s : Same H H') : PolyAt K C H' a l := by
  obtain ⟨dx, t, h1, h2⟩ := h.ob
  exact ⟨⟨dx, t, s _ _ h1, Evl.ex_t s h2⟩, h.trm, h.few⟩
/-- what is told of the class -/
structure PoT (K : PySem.W.Frag) (mg : Str → Option Value) (C : Addr) : Prop where
  g : mg "Poly" = some (.ref C)
  cl : Cls K C
  nC : NoAttr K C "coefficients"
  sf : PySem.W.selfFirst K C = true
  isC : C8.InsC K C
abbrev s_pinit : Stmt := inClass (top 22) 0
theorem sc_pinit : FnScope ["self", "coefficients", "size"] ["self", "coefficients"] (defScope s_pinit) := ⟨rfl, rfl, rfl, by decide +kernel, rfl, by decide +kernel, by decide +kernel⟩
def spPI (C : Addr) (tup : Bool) (K : PySem.W.Frag) : Sp := fun vs H Q _ => ∃ (x dx a : Addr) (ns : List Int), vs = [.ref x, .ref a] ∧ H x = some (.ins C dx []) ∧ (if tup = true then SqT K H a (ns.map V.int) else SqL K H a (ns.map V.int)) ∧ ns.length ≤ 200 ∧
  ∀ H', PolyAt K C H' x (trim ns) → (∀ b o, H b = some o → b ≠ x → H' b = some o) → Q .non H'
/-- one turn of the while tells how far it is -/
theorem tsz_turn {l : List Int} {k : Nat} (h : tsz l k = tsz l l.length) (hz : l.getD (k - 1) 0 = 0) (hk : 0 < k) : tsz l (k - 1) = tsz l l.length := by
  obtain ⟨n, rfl⟩ : ∃ n, k = n + 1 := ⟨k - 1, by omega⟩
  rw [Nat.add_sub_cancel] at hz ⊢
  rw [← h]
  show _ = if l.getD n 0 = 0 then tsz l n else n + 1
  rw [if_pos hz]
theorem tsz_stop {l : List Int} {k : Nat} (h : tsz l k = tsz l l.length) (hz : 0 < k → l.getD (k - 1) 0 ≠ 0) : l.take k = trim l := by
  unfold trim
  rw [← h]
  cases k with
  | zero => rfl
  | succ n =>
    have := hz (Nat.succ_pos n)
    rw [Nat.add_sub_cancel] at this
    show _ = l.take (if l.getD n 0 = 0 then tsz l n else n + 1)
    rw [if_neg this]
theorem ne_of_none' {H : Hp} {t x : Addr} {o : HO} (nt : H t = none) (hx : H x = some o) : t ≠ x := fun e => by
  rw [e, hx] at nt
  cases nt
/-- a tuple stands behind a store in an instance -/
theorem sqT_ins {K : PySem.W.Frag} {H : Hp} {x a C dx : Addr} {fs : List (Str × V)} {o : HO} {xs : List V} (hx : H x = some (.ins C dx fs)) (h : SqT K H a xs) : SqT K (upd H x o) a xs := by
  rcases h with (h | ⟨o', h⟩) | h
  · exact .inl (.inl (by rw [upd_ne (fun e => by rw [e, hx] at h; cases h)]; exact h))
  · exact .inl (.inr ⟨o', by rw [upd_ne (fun e => by rw [e, hx] at h; cases h)]; exact h⟩)
  · exact .inr h
theorem cut_take {l : List Int} {k : Nat} (h : k ≤ l.length) : cutV (l.map V.int) none (some (k : Int)) = (l.map V.int).take k := by
  show ((l.map V.int).drop 0).take (HT.sIx (l.map V.int).length (l.map V.int).length (some (k : Int)) - 0) = _
  rw [HT.sIx_nat, List.length_map, Nat.min_eq_left h, List.drop_zero, Nat.sub_zero]
theorem ok_pinit {f C : Addr} {fd : FuncData} (tup : Bool) (TT : Txt mg) (T : PoT K mg C) (F : Fun K "__init__" "Poly.__init__" s_pinit f fd) : FnOk P w K mg base (L2N.CX P w) 2 f fd ["self", "coefficients"] (spPI C tup K) := by
  refine okN F sc_pinit (fun vs H Q E h => ?_) (fun cdv A outer s H vs Q E hr h => ?_)
  · obtain ⟨x, dx, a, ns, rfl, _⟩ := h
    rfl
  · obtain ⟨x, dx, a, ns, rfl, hx, hS, few, q⟩ := h
    have at_k : ∀ k : Nat, 0 < k → k ≤ ns.length → atI (ns.map V.int) ((k : Int) - 1) = some (V.int (ns.getD (k - 1) 0)) := fun k h0 h1 => by
      rw [show (k : Int) - 1 = ((k - 1 : Nat) : Int) by omega]
      exact atI_nat (map_at (getD_at (by omega)))
    cases tup with
    | false =>
      have hS' : SqL K H a (ns.map V.int) := hS
      refine ⟨_, (pss_cons (ps_set (i := 2) sc_pinit.nd rfl (Or.inl rfl) (pe_callB call_len_seq (by rfl) TT.len PySem.boot_len (pa_cons (pv 1) pa_nil)))
 (pss_cons (ps_while (passes_of rfl) (pw_and (pt_cmpR op_gt (pv 2) pe_int (nomark _)) (pw_and1 (pt_cmpR op_eq (pe_ix ix_list (pv 1) (pe_op op_sub (pv 2) pe_int) (fun _ _ => rfl)) pe_int (nomark _)))).pt (pss_one (ps_aug (i := 2) sc_pinit.nd rfl (Or.inl rfl) pe_int ip_sub)))
 (pss_one (ps_fld (pv 0) (pe_tupleOf (by rfl) TT.tuple (pe_slice sl_list (pv 1) po_none (po_some (pv 2)))) rfl)))), ?_⟩
      refine ⟨_, rfl, a, _, rfl, .inl hS', ?_⟩
      refine while_by (fun σ H' => H' = H ∧ ∃ k : Nat, σ = [some (.ref x), some (.ref a), some (.int (k : Int))] ∧ k ≤ ns.length ∧ tsz ns k = tsz ns ns.length) (fun σ _ => match σ[2]? with | some (some (V.int k)) => k.toNat | _ => 0)
        ⟨rfl, ns.length, by rw [List.length_map] <;> rfl, Nat.le_refl _, rfl⟩ ?_ ?_
      · rintro σ _ ⟨rfl, k, rfl, hk, ht⟩
        have fin : trim ns = ns.take k → sFld K (tVar 0) (tThen (tSl (rSlL K) (tVar 1) tNoPart (tPart (tVar 2))) (kTup K)) "coefficients" { nx := fun _ H' => Q .non H', rt := Q } [some (.ref x), some (.ref a), some (.int (k : Int))] _ := fun e => by
          refine ⟨_, rfl, _, rfl, _, rfl, a, _, rfl, hS', fun p np => ?_⟩
          refine .inl ⟨p, _, rfl, SqL.of upd_same, fun t nt => ?_⟩
          have g1 := same_upd (o := .lst (cutV (ns.map V.int) none (some (k : Int)))) np
          have hx2 := same_upd (o := .tup (cutV (ns.map V.int) none (some (k : Int)))) nt _ _ (g1 _ _ hx)
          refine ⟨_, rfl, x, C, dx, [], rfl, hx2, T.cl, T.nC, (by show 0 < 1000; decide), ?_⟩
          have ntx : t ≠ x := ne_of_none' nt (g1 _ _ hx)
          refine q _ ⟨⟨dx, t, upd_same, .inl (.inl ?_)⟩, trim_trim _, by have := trim_few ns; omega⟩ fun b o hb hbx => ?_
          · rw [upd_ne ntx, upd_same, cut_take hk, e, List.map_take]
          · rw [upd_ne hbx]
            exact same_upd nt _ _ (g1 _ _ hb)
        refine ⟨_, rfl, _, _, rfl, rfl, _, rfl, ?_⟩
        by_cases c0 : 0 < k
        · refine if_pos_of (decide_eq_true (by omega)) ?_
          refine ⟨_, rfl, _, rfl, _, _, rfl, rfl, a, _, _, _, rfl, rfl, hS', at_k k c0 hk, rfl, _, rfl, ?_⟩
          by_cases c1 : ns.getD (k - 1) 0 = 0
          · refine if_pos_of (decide_eq_true (by rw [c1])) ?_
            refine ⟨_, rfl, _, _, rfl, rfl, ⟨rfl, k - 1, ?_, by omega, tsz_turn ht c1 c0⟩, ?_⟩
            · rw [show ((k - 1 : Nat) : Int) = (k : Int) - 1 by omega] <;> rfl
            · show ((k : Int) - 1).toNat < ((k : Int)).toNat
              omega
          · refine if_neg_of (decide_eq_false fun e => c1 (V.int.inj e)) ?_
            exact fin (tsz_stop ht fun _ => c1).symm
        · refine if_neg_of (decide_eq_false (by omega)) ?_
          exact fin (tsz_stop ht fun h => absurd h c0).symm
      · rintro σ H1 Q1 Q2 h z
        obtain ⟨v, e1, i, j, e2, e3, k, e4, z⟩ := z
        refine ⟨v, e1, i, j, e2, e3, k, e4, ?_⟩
        cases k with
        | false => exact h _ _ z
        | true =>
          obtain ⟨v1, f1, v2, f2, i1, j1, f3, f4, p1, xs1, i2, y1, f5, f6, f7, f8, f9, k2, f10, z⟩ := z
          exact ⟨v1, f1, v2, f2, i1, j1, f3, f4, p1, xs1, i2, y1, f5, f6, f7, f8, f9, k2, f10, h _ _ z⟩
    | true =>
      have hS' : SqT K H a (ns.map V.int) := hS
      refine ⟨_, (pss_cons (ps_set (i := 2) sc_pinit.nd rfl (Or.inl rfl) (pe_callB call_len_seq (by rfl) TT.len PySem.boot_len (pa_cons (pv 1) pa_nil)))
 (pss_cons (ps_while (passes_of rfl) (pw_and (pt_cmpR op_gt (pv 2) pe_int (nomark _)) (pw_and1 (pt_cmpR op_eq (pe_ix ix_tup (pv 1) (pe_op op_sub (pv 2) pe_int) (fun _ _ => rfl)) pe_int (nomark _)))).pt (pss_one (ps_aug (i := 2) sc_pinit.nd rfl (Or.inl rfl) pe_int ip_sub)))
 (pss_one (ps_fld (pv 0) (pe_tupleOf (by rfl) TT.tuple (pe_slice sl_tupA (pv 1) po_none (po_some (pv 2)))) rfl)))), ?_⟩
      refine ⟨_, rfl, a, _, rfl, .inr hS', ?_⟩
      refine while_by (fun σ H' => H' = H ∧ ∃ k : Nat, σ = [some (.ref x), some (.ref a), some (.int (k : Int))] ∧ k ≤ ns.length ∧ tsz ns k = tsz ns ns.length) (fun σ _ => match σ[2]? with | some (some (V.int k)) => k.toNat | _ => 0)
        ⟨rfl, ns.length, by rw [List.length_map] <;> rfl, Nat.le_refl _, rfl⟩ ?_ ?_
      · rintro σ _ ⟨rfl, k, rfl, hk, ht⟩
        have fin : trim ns = ns.take k → sFld K (tVar 0) (tThen (tSl (rSlA K) (tVar 1) tNoPart (tPart (tVar 2))) (kTup K)) "coefficients" { nx := fun _ H' => Q .non H', rt := Q } [some (.ref x), some (.ref a), some (.int (k : Int))] _ := fun e => by
          refine ⟨_, rfl, _, rfl, _, rfl, a, _, rfl, hS', fun full => ?_, fun _ t nt => ?_⟩
          · refine .inr ⟨a, _, rfl, hS', ?_⟩
            refine ⟨_, rfl, x, C, dx, [], rfl, hx, T.cl, T.nC, (by show 0 < 1000; decide), ?_⟩
            have hk2 : ns.take k = ns := by
              have h2 : HT.sIx (ns.map V.int).length (ns.map V.int).length (some (k : Int)) = (ns.map V.int).length := full.2
              rw [HT.sIx_nat, List.length_map, Nat.min_eq_left hk] at h2
              rw [h2, List.take_length]
            refine q _ ⟨⟨dx, a, upd_same, ?_⟩, trim_trim _, by have := trim_few ns; omega⟩ fun b o hb hbx => by
              rw [upd_ne hbx]
              exact hb
            rw [e, hk2]
            exact sqT_ins hx hS'
          · refine .inr ⟨t, _, rfl, SqT.of upd_same, ?_⟩
            have hx2 := same_upd (o := .tup (cutV (ns.map V.int) none (some (k : Int)))) nt _ _ hx
            refine ⟨_, rfl, x, C, dx, [], rfl, hx2, T.cl, T.nC, (by show 0 < 1000; decide), ?_⟩
            have ntx : t ≠ x := ne_of_none' nt hx
            refine q _ ⟨⟨dx, t, upd_same, .inl (.inl ?_)⟩, trim_trim _, by have := trim_few ns; omega⟩ fun b o hb hbx => ?_
            · rw [upd_ne ntx, upd_same, cut_take hk, e, List.map_take]
            · rw [upd_ne hbx]
              exact same_upd nt _ _ hb
        refine ⟨_, rfl, _, _, rfl, rfl, _, rfl, ?_⟩
        by_cases c0 : 0 < k
        · refine if_pos_of (decide_eq_true (by omega)) ?_
          refine ⟨_, rfl, _, rfl, _, _, rfl, rfl, a, _, _, _, rfl, rfl, hS', at_k k c0 hk, rfl, _, rfl, ?_⟩
          by_cases c1 : ns.getD (k - 1) 0 = 0
          · refine if_pos_of (decide_eq_true (by rw [c1])) ?_
            refine ⟨_, rfl, _, _, rfl, rfl, ⟨rfl, k - 1, ?_, by omega, tsz_turn ht c1 c0⟩, ?_⟩
            · rw [show ((k - 1 : Nat) : Int) = (k : Int) - 1 by omega] <;> rfl
            · show ((k : Int) - 1).toNat < ((k : Int)).toNat
              omega
          · refine if_neg_of (decide_eq_false fun e => c1 (V.int.inj e)) ?_
            exact fin (tsz_stop ht fun _ => c1).symm
        · refine if_neg_of (decide_eq_false (by omega)) ?_
          exact fin (tsz_stop ht fun h => absurd h c0).symm
      · rintro σ H1 Q1 Q2 h z
        obtain ⟨v, e1, i, j, e2, e3, k, e4, z⟩ := z
        refine ⟨v, e1, i, j, e2, e3, k, e4, ?_⟩
        cases k with
        | false => exact h _ _ z
        | true =>
          obtain ⟨v1, f1, v2, f2, i1, j1, f3, f4, p1, xs1, i2, y1, f5, f6, f7, f8, f9, k2, f10, z⟩ := z
          exact ⟨v1, f1, v2, f2, i1, j1, f3, f4, p1, xs1, i2, y1, f5, f6, f7, f8, f9, k2, f10, h _ _ z⟩
-- part ownxg
/-! == of an instance and another value -/
/-- == with a value that is no instance -/
inductive OthT (H : Hp) : V → String → Prop
  | int (i : Int) : OthT H (.int i) "int"
  | str (z : Str) : OthT H (.str z) "str"
  | lst {b : Addr} {zs : List V} (h : H b = some (.lst zs)) : OthT H (.ref b) "list"
  | tup {b : Addr} {zs : List V} (h : H b = some (.tup zs)) : OthT H (.ref b) "tuple"
section
variable {X : Cx} {C : Addr} {sp : Sp} {k j : Nat}
/-- x == y, y no instance -/
def rOwnX (K : PySem.W.Frag) (C : Addr) (sp : Sp) : R2 := fun x y H Q => ∃ a dx fs t, x = .ref a ∧ H a = some (.ins C dx fs) ∧ OthT H y t ∧ PySem.W.subIn K (.type t) (.ref C) = some false ∧ sp [x, y] H Q E0
theorem op_eq_ownX (c : Me X.prog X.w X.K X.mg X.base k C "__eq__" sp) (hr : Room j X.A) (hk : k ≤ j := by decide) : OpR X (compareOp .Eq) (rOwnX X.K C sp) := by
  obtain ⟨f, fd, ps, M, F, b⟩ := c.ex
  intro pins s σ H x y v u Q I rx ry h
  obtain ⟨a, dx, fs, t, rfl, ha, ho, nf, q⟩ := h
  cases (show v = Value.ref a from rx)
  obtain ⟨ox, od, J⟩ := inst_of I ha
  obtain ⟨mm, hF⟩ := I.fr
  have run := run_fn (us := [.ref a, u]) (vs := [.ref a, y]) F (hr.mono hk) b .nil pass0 I (.cons rfl (.cons ry .nil)) q
  have looks : PySem.W.Looks (model X.prog X.w) s.heap (typeOf u) (.type t) := by
    cases ho with
    | int i =>
      obtain ⟨t, rfl⟩ := ry
      exact fun A Q E s k q => wpAny_pure q
    | str z =>
      obtain ⟨t, rfl⟩ := ry
      exact fun A Q E s k q => wpAny_pure q
    | @lst b' zs h =>
      cases (show u = Value.ref b' from ry)
      obtain ⟨_, its, n, _, e⟩ := (show ObjOk X.prog X.w H s.heap b' (.lst zs) from I.hok b' _ h)
      exact fun A Q E s k q => wpAny_typeOf_ref (k _ _ e) q
    | @tup b' zs h =>
      cases (show u = Value.ref b' from ry)
      obtain ⟨_, _, _, o, h1, h2, _⟩ := (show ObjOk X.prog X.w H s.heap b' (.tup zs) from I.hok b' _ h)
      exact fun A Q E s k q => wpAny_typeOf_ref (k _ _ h1) (by rw [h2]; exact q)
  show wpAny _ _ (richCompare .Eq (.ref a) u) _ _ _
  refine PySem.W.cmp_K (op := .Eq) (tb := .type t) hr.units0 hF I.ok.mod.kin J looks (by unfold PySem.W.notFirst; rw [nf]; simp) M.at_ M.fn ?_
  refine wpAny_mono run (fun u' s' z => ?_) fun _ _ x => x
  obtain ⟨z', H', I', rz, qz⟩ := z
  exact SlX.cmpback rz ⟨z', H', I', rz, qz⟩
end
-- part polym
/-- a polynomial is made by Poly(..) -/
theorem make_po {C : Addr} {tup : Bool} {H1 : Hp} {a : Addr} {ns : List Int} {Q : VK} (hS : if tup = true then SqT K H1 a (ns.map V.int) else SqL K H1 a (ns.map V.int)) (few : ns.length ≤ 200)
    (k : ∀ (r : Addr) (H2 : Hp), PolyAt K C H2 r (trim ns) → Same H1 H2 → Q (.ref r) H2) :
    ∀ x dx, H1 x = none → H1 dx = none → dx ≠ x → spPI C tup K (.ref x :: ([.ref a] ++ [])) (upd (upd H1 dx (.own x)) x (.ins C dx [])) (fun v H2 => v = .non ∧ Q (.ref x) H2) E0 := by
  intro x dx hx hdx hne
  have s1 : Same H1 (upd (upd H1 dx (.own x)) x (.ins C dx [])) := fun b o eb => by
    rw [upd_ne (ne_of_none eb hx), upd_ne (ne_of_none eb hdx)]
    exact eb
  refine ⟨x, dx, a, ns, rfl, upd_same, ?_, few, fun H' po keep => ⟨rfl, k x H' po fun b o eb => keep b o (s1 b o eb) (ne_of_none eb hx)⟩⟩
  cases tup with
  | true =>
    have h : SqT K H1 a (ns.map V.int) := hS
    exact Evl.ex_t s1 h
  | false =>
    have h : SqL K H1 a (ns.map V.int) := hS
    exact s1.seq h
/-- a polynomial is made at x, what follows is any word -/
theorem make_poA {C x dx : Addr} {tup : Bool} {H1 : Hp} {a : Addr} {ns : List Int} {R : VK} (hx : H1 x = none) (hdx : H1 dx = none) (hS : if tup = true then SqT K H1 a (ns.map V.int) else SqL K H1 a (ns.map V.int)) (few : ns.length ≤ 200)
    (k : ∀ (H2 : Hp), PolyAt K C H2 x (trim ns) → Same H1 H2 → R .non H2) : spPI C tup K (.ref x :: ([.ref a] ++ [])) (upd (upd H1 dx (.own x)) x (.ins C dx [])) R E0 := by
  have s1 : Same H1 (upd (upd H1 dx (.own x)) x (.ins C dx [])) := fun b o eb => by
    rw [upd_ne (ne_of_none eb hx), upd_ne (ne_of_none eb hdx)]
    exact eb
  refine ⟨x, dx, a, ns, rfl, upd_same, ?_, few, fun H' po keep => k H' po fun b o eb => keep b o (s1 b o eb) (ne_of_none eb hx)⟩
  cases tup with
  | true =>
    have h : SqT K H1 a (ns.map V.int) := hS
    exact Evl.ex_t s1 h
  | false =>
    have h : SqL K H1 a (ns.map V.int) := hS
    exact s1.seq h
abbrev s_pdeg : Stmt := inClass (top 22) 11
theorem sc_pdeg : FnScope ["self"] ["self"] (defScope s_pdeg) := ⟨rfl, rfl, rfl, by decide +kernel, rfl, by decide +kernel, by decide +kernel⟩
def spPdeg (C : Addr) (K : PySem.W.Frag) : Sp := fun vs H Q _ => ∃ (a : Addr) (l : List Int), vs = [.ref a] ∧ PolyAt K C H a l ∧ Q (.int ((l.length : Int) - 1)) H
theorem ok_pdeg {f C : Addr} {fd : FuncData} (TT : Txt mg) (T : PoT K mg C) (F : Fun K "degree" "Poly.degree" s_pdeg f fd) : FnOk P w K mg base CX0 1 f fd ["self"] (spPdeg C K) := by
  refine F.ok sc_pdeg (fun vs H Q E h => ?_) (fun cdv A outer s H vs Q E hr h => ?_)
  · obtain ⟨a, l, rfl, _⟩ := h
    rfl
  · obtain ⟨a, l, rfl, po, q⟩ := h
    obtain ⟨dx, t, h1, h2⟩ := po.ob
    refine ⟨_, (pss_one (ps_ret (pe_op op_sub (pe_callB call_len_seq (by rfl) TT.len PySem.boot_len (pa_cons (pe_fld (pv 0) rfl) pa_nil)) pe_int))), ?_⟩
    refine ⟨_, rfl, a, C, dx, _, _, rfl, h1, T.cl, T.nC, pyF_c _, t, _, rfl, .inr h2, _, _, rfl, rfl, ?_⟩
    rw [List.length_map]
    exact q
abbrev s_peq : Stmt := inClass (top 22) 8
theorem sc_peq : FnScope ["self", "other"] ["self", "other"] (defScope s_peq) := ⟨rfl, rfl, rfl, by decide +kernel, rfl, by decide +kernel, by decide +kernel⟩
def spPeq (C : Addr) (K : PySem.W.Frag) : Sp := fun vs H Q _ => ∃ (a b : Addr) (l m : List Int), vs = [.ref a, .ref b] ∧ PolyAt K C H a l ∧ PolyAt K C H b m ∧ Q (.bl (decide (l = m))) H
theorem ok_peq {f C : Addr} {fd : FuncData} (TT : Txt mg) (T : PoT K mg C) (F : Fun K "__eq__" "Poly.__eq__" s_peq f fd) : FnOk P w K mg base CX0 1 f fd ["self", "other"] (spPeq C K) := by
  refine F.ok sc_peq (fun vs H Q E h => ?_) (fun cdv A outer s H vs Q E hr h => ?_)
  · obtain ⟨a, b, _, _, rfl, _⟩ := h
    rfl
  · obtain ⟨a, b, l, m, rfl, po, po', q⟩ := h
    obtain ⟨dx, t, h1, h2⟩ := po.ob
    obtain ⟨dy, u, g1, g2⟩ := po'.ob
    refine ⟨_, (pss_one (ps_ret (pe_and (pe_callB (C8.call_isC T.isC) (by rfl) TT.isinstance boot_isinstance (pa_cons (pv 1) (pa_cons (pe_glob (v := .ref C) (by rfl) T.g rfl) pa_nil))) (pe_one (pe_cmpR (op_eqD (hu64 hr)) (pe_fld (pv 0) rfl) (pe_fld (pv 1) rfl) (nomark _)))))), ?_⟩
    refine ⟨_, rfl, b, dy, _, rfl, g1, _, rfl, if_pos_of rfl ?_⟩
    refine ⟨_, rfl, a, C, dx, _, _, rfl, h1, T.cl, T.nC, pyF_c _, _, rfl, b, C, dy, _, _, rfl, g1, T.cl, T.nC, pyF_c _, _, _, dp_tup h2, dp_tup g2, shaped_intsT _, shaped_intsT _, ?_⟩
    rw [eqv_intsT]
    exact q
def spPeqX (C : Addr) (K : PySem.W.Frag) : Sp := fun vs H Q _ => ∃ (a : Addr) (y : V) (t : String), vs = [.ref a, y] ∧ OthT H y t ∧ PySem.W.kitOne K (.type t) (.ref C) = some false ∧ Q (.bl false) H
theorem ok_peqX {f C : Addr} {fd : FuncData} (TT : Txt mg) (T : PoT K mg C) (F : Fun K "__eq__" "Poly.__eq__" s_peq f fd) : FnOk P w K mg base CX0 1 f fd ["self", "other"] (spPeqX C K) := by
  refine F.ok sc_peq (fun vs H Q E h => ?_) (fun cdv A outer s H vs Q E hr h => ?_)
  · obtain ⟨a, _, _, rfl, _⟩ := h
    rfl
  · obtain ⟨a, y, t, rfl, ho, kt, q⟩ := h
    refine ⟨_, (pss_one (ps_ret (pe_and (pe_callB call_isi (by rfl) TT.isinstance boot_isinstance (pa_cons (pv 1) (pa_cons (pe_glob (v := .ref C) (by rfl) T.g rfl) pa_nil))) (pe_one (pe_cmpR (op_eqD (hu64 hr)) (pe_fld (pv 0) rfl) (pe_fld (pv 1) rfl) (nomark _)))))), ?_⟩
    cases ho with
    | int i => exact ⟨_, rfl, _, _, _, _, false, rfl, .own C, .base (.int _), kt, _, rfl, if_neg_of rfl q⟩
    | str z => exact ⟨_, rfl, _, _, _, _, false, rfl, .own C, .base (.str _), kt, _, rfl, if_neg_of rfl q⟩
    | lst hb => exact ⟨_, rfl, _, _, _, _, false, rfl, .own C, .base (.lst hb), kt, _, rfl, if_neg_of rfl q⟩
    | tup hb => exact ⟨_, rfl, _, _, _, _, false, rfl, .own C, .base (.tup hb), kt, _, rfl, if_neg_of rfl q⟩
abbrev s_punk : Stmt := inClass (top 22) 1
theorem sc_punk : FnScope ["cls"] ["cls"] (defScope s_punk) := ⟨rfl, rfl, rfl, by decide +kernel, rfl, by decide +kernel, by decide +kernel⟩
def spPunk (C : Addr) (K : PySem.W.Frag) : Sp := fun vs H Q _ => vs = [.ref C] ∧ ∀ r H', PolyAt K C H' r [0, 1] → Same H H' → Q (.ref r) H'
theorem ok_punk {f C : Addr} {fd : FuncData} (T : PoT K mg C) (F : Fun K "unknown" "Poly.unknown" s_punk f fd) (c_pil : Ma P w K mg base 2 C (spPI C false K)) : FnOk P w K mg base CX0 4 f fd ["cls"] (spPunk C K) := by
  refine F.ok sc_punk (fun vs H Q E h => ?_) (fun cdv A outer s H vs Q E hr h => ?_)
  · obtain ⟨rfl, _⟩ := h
    rfl
  · obtain ⟨rfl, q⟩ := h
    refine ⟨_, (pss_one (ps_ret (pe_maL (i := 0) c_pil hr rfl (pa_cons (pe_lst (pa_cons pe_int (pa_cons pe_int pa_nil))) pa_nil)))), ?_⟩
    refine ⟨rfl, (by show 2 ≤ sizeLine; decide), fun t nt => ?_⟩
    exact make_po (tup := false) (ns := [0, 1]) (SqL.of upd_same) (by decide) fun r H' po s' => q r H' po ((same_upd nt).trans s')
abbrev s_pwhole : Stmt := inClass (top 22) 2
theorem sc_pwhole : FnScope ["cls", "n"] ["cls", "n"] (defScope s_pwhole) := ⟨rfl, rfl, rfl, by decide +kernel, rfl, by decide +kernel, by decide +kernel⟩
def spPwhole (C : Addr) (K : PySem.W.Frag) : Sp := fun vs H Q _ => ∃ n : Int, vs = [.ref C, .int n] ∧ ∀ r H', PolyAt K C H' r (trim [n]) → Same H H' → Q (.ref r) H'
theorem ok_pwhole {f C : Addr} {fd : FuncData} (T : PoT K mg C) (F : Fun K "whole" "Poly.whole" s_pwhole f fd) (c_pil : Ma P w K mg base 2 C (spPI C false K)) : FnOk P w K mg base CX0 4 f fd ["cls", "n"] (spPwhole C K) := by
  refine F.ok sc_pwhole (fun vs H Q E h => ?_) (fun cdv A outer s H vs Q E hr h => ?_)
  · obtain ⟨n, rfl, _⟩ := h
    rfl
  · obtain ⟨n, rfl, q⟩ := h
    refine ⟨_, (pss_one (ps_ret (pe_maL (i := 0) c_pil hr rfl (pa_cons (pe_lst (pa_cons (pv 1) pa_nil)) pa_nil)))), ?_⟩
    refine ⟨rfl, _, rfl, (by show 1 ≤ sizeLine; decide), fun t nt => ?_⟩
    exact make_po (tup := false) (ns := [n]) (SqL.of upd_same) (by show 1 ≤ 200; decide) fun r H' po s' => q r H' po ((same_upd nt).trans s')
abbrev s_pneg : Stmt := inClass (top 22) 6
theorem sc_pneg : FnScope ["self", "n"] ["self"] (defScope s_pneg) := ⟨rfl, rfl, rfl, by decide +kernel, rfl, by decide +kernel, by decide +kernel⟩
def pneg (l : List Int) : List Int := l.map fun z => -z
theorem pneg_trim {l : List Int} (h : Trim l) : Trim (pneg l) := h.map rfl fun z e => by omega
theorem pneg_get (l : List Int) (i : Nat) : (pneg l).getD i 0 = -l.getD i 0 := getD_map rfl l i
def spPneg (C : Addr) (K : PySem.W.Frag) : Sp := fun vs H Q _ => ∃ (a : Addr) (l : List Int), vs = [.ref a] ∧ PolyAt K C H a l ∧ ∀ r H', PolyAt K C H' r (pneg l) → Same H H' → Q (.ref r) H'
theorem ok_pneg {f C : Addr} {fd : FuncData} (T : PoT K mg C) (F : Fun K "__neg__" "Poly.__neg__" s_pneg f fd) (c_pil : Ma P w K mg base 2 C (spPI C false K)) : FnOk P w K mg base CX0 4 f fd ["self"] (spPneg C K) := by
  refine F.ok sc_pneg (fun vs H Q E h => ?_) (fun cdv A outer s H vs Q E hr h => ?_)
  · obtain ⟨a, l, rfl, _⟩ := h
    rfl
  · obtain ⟨a, l, rfl, po, q⟩ := h
    obtain ⟨dx, t, h1, h2⟩ := po.ob
    refine ⟨_, (pss_one (ps_ret (pe_ma c_pil hr T.g (pa_cons (pe_lc (own := [("n", 1)]) (g := (gName 1)) (tt := tYes) rfl sc_pneg.nd (pi_tup (pe_fld (pv 0) rfl)) (blkOk_by (N := ["self", "n"]) (sc := defScope s_pneg) (by decide +kernel)) (fun _ _ _ _ _ => (pg_name (i := 1) sc_pneg.nd rfl (Or.inl rfl))) (fun _ _ _ _ _ => pts_nil) (fun _ _ _ _ _ => (pe_un un_neg (pv 1)))) pa_nil)))), ?_⟩
    refine ⟨_, rfl, a, C, dx, _, _, rfl, h1, T.cl, T.nC, pyF_c _, t, rfl, ⟨_, h2⟩, fun D nD => lcW walk_tup (tkV ((pneg l).map V.int)) nD rfl (fun H s => Evl.ex_t s h2) ?_ ?_⟩
    · rintro i x H2 _ hi s3 hL ⟨rfl, hx⟩
      obtain ⟨z, rfl, hz⟩ := item_int hx
      refine ⟨rfl, _, rfl, _, rfl, ?_⟩
      exact mapEnd nD (by unfold pneg; rw [List.length_map, List.length_map]; have := po.few; omega) s3 hL (map_at (f := V.int) (by unfold pneg; rw [List.getElem?_map, hz] <;> rfl))
    · intro H2 s3 hL
      have e : tkV ((pneg l).map V.int) (l.map V.int).length = (pneg l).map V.int := by
        have := tkV_all ((pneg l).map V.int)
        unfold pneg at this ⊢
        rw [List.length_map, List.length_map] at this
        rw [List.length_map]
        exact this
      rw [e] at hL
      refine make_po (tup := false) (ns := pneg l) (SqL.of hL) (by unfold pneg; rw [List.length_map]; exact po.few) fun r H' po' s' => q r H' ?_ (s3.trans s')
      rw [trim_of (pneg_trim po.trm)] at po'
      exact po'
-- part polyops
abbrev s_padded : Stmt := top 15
theorem sc_padded : FnScope ["numbers", "size"] ["numbers", "size"] (defScope s_padded) := ⟨rfl, rfl, rfl, by decide +kernel, rfl, by decide +kernel, by decide +kernel⟩
def padL (l : List Int) (n : Nat) : List Int := l ++ List.replicate (n - l.length) 0
theorem padL_get (l : List Int) (n i : Nat) : (padL l n).getD i 0 = l.getD i 0 := getD_app0 l _ i
theorem padL_len {l : List Int} {n : Nat} (h : l.length ≤ n) : (padL l n).length = n := by
  unfold padL
  rw [List.length_append, List.length_replicate]
  omega
def spPadded (K : PySem.W.Frag) : Sp := fun vs H Q _ => ∃ (a : Addr) (l : List Int) (n : Nat), vs = [.ref a, .int (n : Int)] ∧ (SqL K H a (l.map V.int) ∨ SqT K H a (l.map V.int)) ∧ l.length ≤ n ∧ n ≤ 1000 ∧
  ∀ p H', H p = none → Same H H' → H' p = some (.lst ((padL l n).map V.int)) → Q (.ref p) H'
theorem ok_padded {f : Addr} {fd : FuncData} (T : Txt mg) (F : Fun K "padded" "padded" s_padded f fd) : FnOk P w K mg base CX0 1 f fd ["numbers", "size"] (spPadded K) := by
  refine F.ok sc_padded (fun vs H Q E h => ?_) (fun cdv A outer s H vs Q E hr h => ?_)
  · obtain ⟨a, l, n, rfl, _⟩ := h
    rfl
  · obtain ⟨a, l, n, rfl, hS, hl, hn, q⟩ := h
    have z1000 : 1000 ≤ sizeLine := by rw [sizeLine_eq]; decide
    refine ⟨_, (pss_one (ps_ret (pe_op op_cat (pe_callTy call_list_of (by rfl) T.list boot_list (pa_cons (pv 0) pa_nil)) (pe_op op_rep (pe_lst (pa_cons pe_int pa_nil)) (pe_op op_sub (pv 1) (pe_callB call_len_seq (by rfl) T.len PySem.boot_len (pa_cons (pv 0) pa_nil))))))), ?_⟩
    refine ⟨_, rfl, a, _, rfl, hS, fun p np => ?_⟩
    have g1 := same_upd (o := .lst (l.map V.int)) np
    refine ⟨(by show 1 ≤ sizeLine; decide), fun b nb => ?_⟩
    have g2 := same_upd (o := .lst [.int 0]) nb
    have hS2 : SqL K (upd (upd H p (.lst (l.map V.int))) b (.lst [.int 0])) a (l.map V.int) ∨ SqT K (upd (upd H p (.lst (l.map V.int))) b (.lst [.int 0])) a (l.map V.int) := by
      rcases hS with h | h
      · exact .inl ((g1.trans g2).seq h)
      · exact .inr (Evl.ex_t (g1.trans g2) h)
    refine ⟨_, rfl, _, rfl, a, _, rfl, hS2, _, _, rfl, rfl, b, _, _, rfl, rfl, upd_same, (by rw [List.length_map]; omega), (by rw [List.length_map]; omega), (by rw [List.length_map]; show 1 * ((n : Int) - (l.length : Int)).toNat ≤ sizeLine; omega), fun c nc => ?_⟩
    have g3 := same_upd (o := .lst (List.replicate ((n : Int) - ((l.map V.int).length : Int)).toNat [V.int 0]).flatten) nc
    refine ⟨p, c, _, _, rfl, rfl, g3 _ _ (g2 _ _ upd_same), upd_same, ?_, fun d nd => ?_⟩
    · rw [flat_rep, List.length_replicate, List.length_map]
      omega
    · have e : l.map V.int ++ (List.replicate ((n : Int) - ((l.map V.int).length : Int)).toNat [V.int 0]).flatten = (padL l n).map V.int := by
        unfold padL
        rw [flat_rep, List.map_append, List.map_replicate, List.length_map]
        congr 2
        omega
      refine q d _ ?_ (((g1.trans g2).trans g3).trans (same_upd nd)) (by rw [upd_same, e])
      cases h : H d with
      | none => rfl
      | some o => rw [g3 _ _ (g2 _ _ (g1 _ _ h))] at nd; cases nd
abbrev s_padd : Stmt := inClass (top 22) 4
theorem sc_padd : FnScope ["self", "other", "size", "mine", "others", "m", "n"] ["self", "other"] (defScope s_padd) := ⟨rfl, rfl, rfl, by decide +kernel, rfl, by decide +kernel, by decide +kernel⟩
theorem zip_plus (a b : List Int) : trim (List.zipWith (· + ·) (padL a (max a.length b.length)) (padL b (max a.length b.length))) = pplus 1 a b := by
  refine (trim_trim _).ext (trim_trim _) fun i => ?_
  have := pplus_get 1 a b i
  rw [trim_get, getD_zip _ _ (by rw [padL_len (by omega), padL_len (by omega)]) rfl, padL_get, padL_get]
  rw [this]
  omega
def spPadd (C : Addr) (K : PySem.W.Frag) (s : Int) : Sp := fun vs H Q _ => ∃ (a b : Addr) (l m : List Int), vs = [.ref a, .ref b] ∧ PolyAt K C H a l ∧ PolyAt K C H b m ∧ ∀ r H', PolyAt K C H' r (pplus s l m) → Same H H' → Q (.ref r) H'
theorem max_if (a b : Nat) : (if (b : Int) > (a : Int) then (b : Int) else (a : Int)) = ((max a b : Nat) : Int) := by
  split <;> omega
theorem ok_padd {f C : Addr} {fd : FuncData} (TT : Txt mg) (hz : mg "zip" = none) (T : PoT K mg C) (F : Fun K "__add__" "Poly.__add__" s_padd f fd) (c_pil : Ma P w K mg base 2 C (spPI C false K)) (c_padded : Cl P w K mg base CX0 1 "padded" (spPadded K)) : FnOk P w K mg base CX0 4 f fd ["self", "other"] (spPadd C K 1) := by
  refine F.ok sc_padd (fun vs H Q E h => ?_) (fun cdv A outer s H vs Q E hr h => ?_)
  · obtain ⟨a, b, _, _, rfl, _⟩ := h
    rfl
  · obtain ⟨a, b, l, m, rfl, po, po', q⟩ := h
    obtain ⟨dx, t, h1, h2⟩ := po.ob
    obtain ⟨dy, u, g1, g2⟩ := po'.ob
    have f1 := po.few
    have f2 := po'.few
    refine ⟨_, (pss_cons (ps_set (i := 2) sc_padd.nd rfl (Or.inl rfl) (pe_callB (call_max2 rfl) (by rfl) TT.max boot_max (pa_cons (pe_callB call_len_seq (by rfl) TT.len PySem.boot_len (pa_cons (pe_fld (pv 0) rfl) pa_nil)) (pa_cons (pe_callB call_len_seq (by rfl) TT.len PySem.boot_len (pa_cons (pe_fld (pv 1) rfl) pa_nil)) pa_nil))))
 (pss_cons (ps_par (i := 3) (j := 4) rfl sc_padd.nd rfl rfl (by decide) rfl rfl (pa_cons (pe_cl c_padded hr (pa_cons (pe_fld (pv 0) rfl) (pa_cons (pv 2) pa_nil))) (pa_cons (pe_cl c_padded hr (pa_cons (pe_fld (pv 1) rfl) (pa_cons (pv 2) pa_nil))) pa_nil)) rfl)
 (pss_one (ps_ret (pe_ma c_pil hr T.g (pa_cons (pe_lc (own := [("m", 5), ("n", 6)]) (g := (gTup K 2 (gCons (gName 5) (gCons (gName 6) gNil)))) (tt := tYes) rfl sc_padd.nd (pi_zip rfl hz (pa_cons (pv 3) (pa_cons (pv 4) pa_nil))) (blkOk_by (N := ["self", "other", "size", "mine", "others", "m", "n"]) (sc := defScope s_padd) (by decide +kernel)) (fun _ _ _ _ _ => (pg_tup rfl (pgs_cons (pg_name (i := 5) sc_padd.nd rfl (Or.inl rfl)) (pgs_cons (pg_name (i := 6) sc_padd.nd rfl (Or.inl rfl)) pgs_nil)))) (fun _ _ _ _ _ => pts_nil) (fun _ _ _ _ _ => (pe_op op_add (pv 5) (pv 6)))) pa_nil)))))), ?_⟩
    refine ⟨_, rfl, a, C, dx, _, _, rfl, h1, T.cl, T.nC, pyF_c _, t, _, rfl, .inr h2, _, rfl, b, C, dy, _, _, rfl, g1, T.cl, T.nC, pyF_c _, u, _, rfl, .inr g2, _, _, rfl, ?_⟩
    rw [List.length_map, List.length_map, max_if]
    generalize hM : max l.length m.length = M
    refine ⟨_, rfl, a, C, dx, _, _, rfl, h1, T.cl, T.nC, pyF_c _, _, rfl, t, l, M, rfl, .inr h2, by omega, by omega, fun p H2 np s2 hp => ?_⟩
    refine ⟨_, rfl, b, C, dy, _, _, rfl, s2 _ _ g1, T.cl, T.nC, pyF_c _, _, rfl, u, m, M, rfl, .inr (Evl.ex_t s2 g2), by omega, by omega, fun p' H3 np' s3 hp' => ?_⟩
    have hp3 := s3 _ _ hp
    refine ⟨_, _, rfl, ?_⟩
    refine ⟨_, rfl, _, rfl, p, p', _, _, rfl, SqL.of hp3, SqL.of hp', fun D nD => lcW (walk_zip (n := M) (by rw [List.length_map, List.length_map, padL_len (by omega), padL_len (by omega), Nat.min_self])) (tkV ((List.zipWith (· + ·) (padL l M) (padL m M)).map V.int)) nD rfl (fun H s => ⟨s.seq (SqL.of hp3), s.seq (SqL.of hp')⟩) ?_ ?_⟩
    · rintro i x H4 H5 hi s4 hL ⟨Tp, x1, y1, rfl, nT, rfl, hx1, hy1⟩
      obtain ⟨z1, rfl, hz1⟩ := item_int hx1
      obtain ⟨z2, rfl, hz2⟩ := item_int hy1
      refine ⟨Tp, _, rfl, SqT.of upd_same, rfl, _, _, rfl, _, _, rfl, rfl, rfl, _, rfl, _, rfl, _, _, rfl, rfl, ?_⟩
      have s5 := same_upd (o := .tup [.int z1, .int z2]) nT
      refine mapEnd nD ?_ (s4.trans s5) (s5 _ _ hL) (map_at (f := V.int) (by rw [List.getElem?_zipWith, hz1, hz2] <;> rfl))
      rw [List.length_map, List.length_zipWith, padL_len (by omega), padL_len (by omega), Nat.min_self]
      omega
    · intro H4 s4 hL
      have len : ((List.zipWith (· + ·) (padL l M) (padL m M)).map V.int).length = M := by
        rw [List.length_map, List.length_zipWith, padL_len (by omega), padL_len (by omega), Nat.min_self]
      have e : tkV ((List.zipWith (· + ·) (padL l M) (padL m M)).map V.int) M = (List.zipWith (· + ·) (padL l M) (padL m M)).map V.int := by
        have := tkV_all ((List.zipWith (· + ·) (padL l M) (padL m M)).map V.int)
        rw [len] at this
        exact this
      rw [e] at hL
      refine make_po (tup := false) (ns := List.zipWith (· + ·) (padL l M) (padL m M)) (SqL.of hL) (by rw [List.length_map] at len; omega) fun r H' po3 s' => q r H' ?_ (((s2.trans s3).trans s4).trans s')
      rw [← hM, zip_plus] at po3
      exact po3
abbrev s_psub : Stmt := inClass (top 22) 5
theorem sc_psub : FnScope ["self", "other"] ["self", "other"] (defScope s_psub) := ⟨rfl, rfl, rfl, by decide +kernel, rfl, by decide +kernel, by decide +kernel⟩
theorem pplus_trim (s : Int) (l m : List Int) : Trim (pplus s l m) := trim_trim _
theorem plus_neg (l m : List Int) : pplus 1 l (pneg m) = pplus (-1) l m := (pplus_trim 1 l (pneg m)).ext (pplus_trim (-1) l m) fun i => by
  have e1 := pplus_get 1 l (pneg m) i
  have e2 := pplus_get (-1) l m i
  rw [e1, e2, pneg_get]
  omega
theorem ok_psub {f C : Addr} {fd : FuncData} (T : PoT K mg C) (F : Fun K "__sub__" "Poly.__sub__" s_psub f fd) (c_add : Me P w K mg base 4 C "__add__" (spPadd C K 1)) (c_neg : Me P w K mg base 4 C "__neg__" (spPneg C K)) : FnOk P w K mg base CX0 5 f fd ["self", "other"] (spPadd C K (-1)) := by
  refine F.ok sc_psub (fun vs H Q E h => ?_) (fun cdv A outer s H vs Q E hr h => ?_)
  · obtain ⟨a, b, _, _, rfl, _⟩ := h
    rfl
  · obtain ⟨a, b, l, m, rfl, po, po', q⟩ := h
    obtain ⟨dx, t, h1, h2⟩ := po.ob
    obtain ⟨dy, u, g1, g2⟩ := po'.ob
    refine ⟨_, (pss_one (ps_ret (pe_op (op_own2 c_add hr T.sf) (pv 0) (pe_un (un_neg1 c_neg hr) (pv 1))))), ?_⟩
    refine ⟨_, rfl, _, rfl, b, dy, _, rfl, g1, b, m, rfl, po', fun r H' po3 s3 => ?_⟩
    obtain ⟨dz, v, y1, y2⟩ := po3.ob
    refine ⟨a, r, _, _, _, _, rfl, rfl, s3 _ _ h1, y1, a, r, l, pneg m, rfl, po.same s3, po3, fun r' H2 po4 s4 => q r' H2 ?_ (s3.trans s4)⟩
    rw [plus_neg] at po4
    exact po4
abbrev s_pitem : Stmt := top 21
theorem sc_pitem : FnScope ["first", "second", "k", "i"] ["first", "second", "k"] (defScope s_pitem) := ⟨rfl, rfl, rfl, by decide +kernel, rfl, by decide +kernel, by decide +kernel⟩
/-- the products that a coefficient adds, in order -/
def cnvL (l m : List Int) (k : Nat) : Nat → List Int
  | 0 => []
  | i + 1 => cnvL l m k i ++ (if i ≤ k ∧ k - i < m.length then [l.getD i 0 * m.getD (k - i) 0] else [])
theorem cnvL_len (l m : List Int) (k : Nat) : ∀ i, (cnvL l m k i).length ≤ i
  | 0 => Nat.le_refl _
  | i + 1 => by
    have := cnvL_len l m k i
    show (cnvL l m k i ++ _).length ≤ i + 1
    rw [List.length_append]
    split
    · show _ + 1 ≤ _
      omega
    · show _ + 0 ≤ _
      omega
theorem cnvL_sum (l m : List Int) (k : Nat) : (cnvL l m k l.length).sum = cnv l m k := by
  unfold cnv
  generalize l.length = n
  induction n with
  | zero => rfl
  | succ n ih =>
    show (cnvL l m k n ++ _).sum = sumN _ n + _
    rw [List.sum_append, ih]
    congr 1
    by_cases c1 : n ≤ k
    · by_cases c2 : k - n < m.length
      · rw [if_pos ⟨c1, c2⟩]
        simp [c1]
      · have := getD_ge (show m.length ≤ k - n by omega)
        rw [if_neg fun h => c2 h.2]
        show ([] : List Int).sum = l.getD n 0 * (if n ≤ k then m.getD (k - n) 0 else 0)
        rw [if_pos c1, this, Int.mul_zero]
        rfl
    · rw [if_neg fun h => c1 h.1]
      simp [c1]
def spPitem (K : PySem.W.Frag) : Sp := fun vs H Q _ => ∃ (a b : Addr) (l m : List Int) (k : Nat), vs = [.ref a, .ref b, .int (k : Int)] ∧ SqT K H a (l.map V.int) ∧ SqT K H b (m.map V.int) ∧ l.length ≤ 200 ∧ (∀ x ∈ l, ∀ y ∈ m, CMulW x y) ∧ ∀ H', Same H H' → Q (.int (cnv l m k)) H'
theorem ok_pitem {f : Addr} {fd : FuncData} (T : Txt mg) (hsum : mg "sum" = none) (F : Fun K "_product_item" "_product_item" s_pitem f fd) : FnOk P w K mg base CX0 1 f fd ["first", "second", "k"] (spPitem K) := by
  refine F.ok sc_pitem (fun vs H Q E h => ?_) (fun cdv A outer s H vs Q E hr h => ?_)
  · obtain ⟨a, b, l, m, k, rfl, _⟩ := h
    rfl
  · obtain ⟨a, b, l, m, k, rfl, ha, hb, few, hw, q⟩ := h
    refine ⟨_, (pss_one (ps_ret (pe_callB (cr_sum rfl) (by rfl) hsum (by decide +kernel) (pa_cons (pe_lc (own := [("i", 3)]) (g := (gName 3)) rfl sc_pitem.nd (pi_range1 rfl T.range (pa_cons (pe_callB call_len_seq (by rfl) T.len PySem.boot_len (pa_cons (pv 0) pa_nil)) pa_nil)) (blkOk_by (N := ["first", "second", "k", "i"]) (sc := defScope s_pitem) (by decide +kernel)) (fun _ _ _ _ _ => (pg_name (i := 3) sc_pitem.nd rfl (Or.inl rfl))) (fun _ _ _ _ _ => (pts_one (pt_chain op_le op_lt pe_int (pe_op op_sub (pv 2) (pv 3)) (pe_callB (call_len_seqK (K := K) rfl) (by rfl) T.len PySem.boot_len (pa_cons (pv 1) pa_nil))))) (fun _ _ _ _ _ => (pe_op op_mulW (pe_ix (r := rIxT K) (by exact ix_tup) (pv 0) (pv 3) (fun _ _ => rfl)) (pe_ix (r := rIxT K) (by exact ix_tup) (pv 1) (pe_op op_sub (pv 2) (pv 3)) (fun _ _ => rfl))))) pa_nil)))), ?_⟩
    refine ⟨_, rfl, a, _, rfl, .inr ha, l.length, (by rw [List.length_map] <;> rfl), (by omega), (by omega), fun D nD => lcW (walk_range (lo := 0) (n := l.length)) (fun i => (cnvL l m k i).map V.int) nD rfl (fun _ _ => trivial) ?_ ?_⟩
    · rintro i x H2 H2' hi s3 hL ⟨rfl, rfl⟩
      have s4 : Same H H2' := s3
      have lt : (cnvL l m k i).length < 1000 := by
        have := cnvL_len l m k i
        omega
      refine ⟨rfl, _, rfl, _, rfl, _, _, rfl, rfl, _, _, rfl, rfl, _, rfl, ?_⟩
      have e0 : (0 : Int) + (i : Int) = (i : Int) := Int.zero_add _
      by_cases c1 : i ≤ k
      · refine if_pos_of (decide_eq_true (by omega)) ?_
        refine ⟨_, rfl, b, _, rfl, .inr (Evl.ex_t s3 hb), _, _, rfl, rfl, _, rfl, ?_⟩
        rw [List.length_map]
        by_cases c2 : k - i < m.length
        · refine if_pos_of (decide_eq_true (by omega)) ?_
          have hl : l[i]? = some (l.getD i 0) := getD_at hi
          have hm : m[k - i]? = some (m.getD (k - i) 0) := getD_at c2
          refine ⟨_, rfl, _, rfl, a, _, _, _, rfl, rfl, Evl.ex_t s3 ha, by rw [e0]; exact atI_nat (map_at hl), _, rfl, _, rfl, _, rfl, _, _, rfl, rfl, b, _, _, _, rfl, rfl, Evl.ex_t s3 hb, by rw [e0, show (k : Int) - (i : Int) = ((k - i : Nat) : Int) by omega]; exact atI_nat (map_at hm), _, _, rfl, rfl, hw _ (List.mem_of_getElem? hl) _ (List.mem_of_getElem? hm), ?_⟩
          refine PvM.push (f := fun i => (cnvL l m k i).map V.int) nD s3 hL (by rw [List.length_map]; exact lt) ?_
          show (cnvL l m k i ++ (if i ≤ k ∧ k - i < m.length then [l.getD i 0 * m.getD (k - i) 0] else [])).map V.int = _
          rw [if_pos ⟨c1, c2⟩, List.map_append]
          rfl
        · refine if_neg_of (decide_eq_false (by omega)) ?_
          refine PvM.skip (f := fun i => (cnvL l m k i).map V.int) s3 hL ?_
          show (cnvL l m k i ++ (if i ≤ k ∧ k - i < m.length then [l.getD i 0 * m.getD (k - i) 0] else [])).map V.int = _
          rw [if_neg fun h => c2 h.2, List.append_nil]
      · refine if_neg_of (decide_eq_false (by omega)) ?_
        refine ⟨_, rfl, if_neg_of rfl ?_⟩
        refine PvM.skip (f := fun i => (cnvL l m k i).map V.int) s3 hL ?_
        show (cnvL l m k i ++ (if i ≤ k ∧ k - i < m.length then [l.getD i 0 * m.getD (k - i) 0] else [])).map V.int = _
        rw [if_neg fun h => c1 h.1, List.append_nil]
    · intro H2 s3 hL
      refine ⟨D, _, rfl, SqL.of hL, ?_⟩
      rw [cnvL_sum]
      exact q H2 s3
abbrev s_pmulm : Stmt := inClass (top 22) 7
theorem sc_pmulm : FnScope ["self", "other", "size", "k"] ["self", "other"] (defScope s_pmulm) := ⟨rfl, rfl, rfl, by decide +kernel, rfl, by decide +kernel, by decide +kernel⟩
def spPmul (C : Addr) (K : PySem.W.Frag) : Sp := fun vs H Q _ => ∃ (a b : Addr) (l m : List Int), vs = [.ref a, .ref b] ∧ PolyAt K C H a l ∧ PolyAt K C H b m ∧ l.length + m.length ≤ 200 ∧ (∀ x ∈ l, ∀ y ∈ m, CMulW x y) ∧ ∀ r H', PolyAt K C H' r (pmul l m) → Same H H' → Q (.ref r) H'
theorem pmul_short {l m : List Int} {n : Nat} (h : l.length + m.length ≤ n + 1) : trim (rngN n (cnv l m)) = pmul l m := by
  refine (trim_trim _).ext (trim_trim _) fun i => ?_
  have := pmul_get l m i
  rw [this, trim_get, rngN_get]
  split
  · rfl
  · exact (cnv_far (by omega)).symm
theorem ok_pmul {f C : Addr} {fd : FuncData} (TT : Txt mg) (T : PoT K mg C) (F : Fun K "__mul__" "Poly.__mul__" s_pmulm f fd) (c_pil : Ma P w K mg base 2 C (spPI C false K)) (c_deg : Me P w K mg base 1 C "degree" (spPdeg C K)) (c_item : Cl P w K mg base CX0 1 "_product_item" (spPitem K)) : FnOk P w K mg base CX0 4 f fd ["self", "other"] (spPmul C K) := by
  refine F.ok sc_pmulm (fun vs H Q E h => ?_) (fun cdv A outer s H vs Q E hr h => ?_)
  · obtain ⟨a, b, _, _, rfl, _⟩ := h
    rfl
  · obtain ⟨a, b, l, m, rfl, po, po', few, hw, q⟩ := h
    obtain ⟨dx, t, h1, h2⟩ := po.ob
    obtain ⟨dy, u, g1, g2⟩ := po'.ob
    have f1 := po.few
    refine ⟨_, (pss_cons (ps_set (i := 2) sc_pmulm.nd rfl (Or.inl rfl) (pe_op op_add (pe_op op_add (pe_me0 c_deg T.cl hr (pv 0) ) (pe_me0 c_deg T.cl hr (pv 1) )) pe_int))
 (pss_one (ps_ret (pe_ma c_pil hr T.g (pa_cons (pe_lc (own := [("k", 3)]) (g := (gName 3)) (tt := tYes) rfl sc_pmulm.nd (pi_range1 rfl TT.range (pa_cons (pv 2) pa_nil)) (blkOk_by (N := ["self", "other", "size", "k"]) (sc := defScope s_pmulm) (by decide +kernel)) (fun _ _ _ _ _ => (pg_name (i := 3) sc_pmulm.nd rfl (Or.inl rfl))) (fun _ _ _ _ _ => pts_nil) (fun _ _ _ _ _ => (pe_cl c_item (by exact hr) (pa_cons (pe_fldK (K := K) rfl (pv 0) rfl) (pa_cons (pe_fldK (K := K) rfl (pv 1) rfl) (pa_cons (pv 3) pa_nil)))))) pa_nil))))), ?_⟩
    refine ⟨_, rfl, a, dx, _, rfl, h1, pyF_no _ (by decide +kernel), a, l, rfl, po, _, rfl, b, dy, _, rfl, g1, pyF_no _ (by decide +kernel), b, m, rfl, po', _, _, rfl, rfl, _, _, rfl, rfl, ?_⟩
    obtain ⟨n, hn⟩ : ∃ n : Int, (l.length : Int) - 1 + ((m.length : Int) - 1) + 1 = n := ⟨_, rfl⟩
    show gName 2 (V.int ((l.length : Int) - 1 + ((m.length : Int) - 1) + 1)) _ _ _
    rw [hn]
    refine ⟨_, rfl, n, rfl, (by omega), (by omega), fun D nD => lcW walk_range0 (tkV ((rngN n.toNat (cnv l m)).map V.int)) nD rfl (fun _ _ => trivial) ?_ ?_⟩
    · rintro i x H2 H2' hi s3 hL ⟨rfl, rfl⟩
      refine ⟨rfl, _, rfl, a, C, dx, _, _, rfl, s3 _ _ h1, T.cl, T.nC, pyF_c _, _, rfl, b, C, dy, _, _, rfl, s3 _ _ g1, T.cl, T.nC, pyF_c _, _, rfl, t, u, l, m, i, rfl, Evl.ex_t s3 h2, Evl.ex_t s3 g2, f1, hw, fun H' s' => ?_⟩
      exact mapEnd nD (by rw [List.length_map, rngN_len]; omega) (s3.trans s') (s' _ _ hL) (map_at (rngN_at hi))
    · intro H2 s3 hL
      have len : ((rngN n.toNat (cnv l m)).map V.int).length = n.toNat := by rw [List.length_map, rngN_len]
      have e : tkV ((rngN n.toNat (cnv l m)).map V.int) n.toNat = (rngN n.toNat (cnv l m)).map V.int := by
        have := tkV_all ((rngN n.toNat (cnv l m)).map V.int)
        rw [len] at this
        exact this
      rw [e] at hL
      refine make_po (tup := false) (ns := rngN n.toNat (cnv l m)) (SqL.of hL) (by rw [rngN_len]; omega) fun r H' po3 s' => q r H' ?_ (s3.trans s')
      rw [pmul_short (by omega)] at po3
      exact po3
abbrev s_pcall : Stmt := inClass (top 22) 9
theorem sc_pcall : FnScope ["self", "x", "value", "n"] ["self", "x"] (defScope s_pcall) := ⟨rfl, rfl, rfl, by decide +kernel, rfl, by decide +kernel, by decide +kernel⟩
def spPcall (C : Addr) (K : PySem.W.Frag) : Sp := fun vs H Q _ => ∃ (a : Addr) (l : List Int) (x : Int), vs = [.ref a, .int x] ∧ PolyAt K C H a l ∧ -(2 ^ 64) < x ∧ x < 2 ^ 64 ∧ Q (.int (pev l x)) H
theorem ok_pcall {f C : Addr} {fd : FuncData} (hrev : mg "reversed" = none) (T : PoT K mg C) (F : Fun K "__call__" "Poly.__call__" s_pcall f fd) : FnOk P w K mg base CX0 1 f fd ["self", "x"] (spPcall C K) := by
  refine F.ok sc_pcall (fun vs H Q E h => ?_) (fun cdv A outer s H vs Q E hr h => ?_)
  · obtain ⟨a, l, x, rfl, _⟩ := h
    rfl
  · obtain ⟨a, l, x, rfl, po, x1, x2, q⟩ := h
    obtain ⟨dx, t, h1, h2⟩ := po.ob
    refine ⟨_, (pss_cons (ps_set (i := 2) sc_pcall.nd rfl (Or.inl rfl) pe_int)
 (pss_cons (ps_for PassesOwn.never rfl (RT.pi_revA rfl hrev (pe_fld (pv 0) rfl)) (pg_name (i := 3) sc_pcall.nd rfl (Or.inl rfl)) (pss_one (ps_set (i := 2) sc_pcall.nd rfl (Or.inl rfl) (pe_op op_add (pe_op op_mul (pv 2) (pv 1)) (pv 3)))))
 (pss_one (ps_ret (pv 2))))), ?_⟩
    refine ⟨_, rfl, a, C, dx, _, _, rfl, h1, T.cl, T.nC, pyF_c _, t, l.map V.int, rfl, .inr ⟨h2, ?_⟩⟩
    refine RT.for_ItvT (xs := l.map V.int) (fun i σ H' => H' = H ∧ ∃ x3, σ = [some (.ref a), some (.int x), some (.int (pev (l.drop (l.length - i)) x)), x3]) ⟨rfl, none, by rw [Nat.sub_zero, List.drop_length] <;> rfl⟩ (fun i σ H' h => by rw [h.1]; exact h2) ?_ ?_
    · rintro i y σ _ hi hy ⟨rfl, x3, rfl⟩
      obtain ⟨z, rfl, hz⟩ := item_int hy
      rw [List.length_map] at hi hz
      refine ⟨_, rfl, _, rfl, _, _, rfl, rfl, .inr ⟨x1, x2⟩, _, rfl, _, _, rfl, rfl, ?_⟩
      refine ⟨rfl, some (.int z), ?_⟩
      have e := pev_drop hz x
      rw [show l.length - 1 - i + 1 = l.length - i by omega] at e
      rw [show l.length - (i + 1) = l.length - 1 - i by omega, e, Int.mul_comm, Int.add_comm]
      rfl
    · rintro σ _ ⟨rfl, x3, rfl⟩
      rw [List.length_map, Nat.sub_self, List.drop_zero]
      exact ⟨_, rfl, q⟩
-- part lplain
abbrev s_lplain : Stmt := top 35
theorem sc_lplain : FnScope ["_law_row_here"] ["_law_row_here"] (defScope s_lplain) := ⟨rfl, rfl, rfl, by decide +kernel, rfl, by decide +kernel, by decide +kernel⟩
def spPlain (K : PySem.W.Frag) : Sp := fun vs H Q _ => ∃ (a : Addr) (ns : List Int), vs = [.ref a] ∧ (SqL K H a (ns.map V.int) ∨ SqT K H a (ns.map V.int)) ∧ ns.length ≤ 300 ∧
  ∀ p H', H p = none → Same H H' → H' p = some (.lst ((trim ns).map V.int)) → Q (.ref p) H'
theorem none_of {H H' : Hp} {p : Addr} (s : Same H H') (n : H' p = none) : H p = none := by
  cases h : H p with
  | none => rfl
  | some o => rw [s _ _ h] at n; cases n
theorem map_nil_iff {l : List Int} : decide (l = []) = l.isEmpty := by cases l <;> rfl
theorem take_last {l : List Int} {k : Nat} (h0 : 0 < k) (h : k ≤ l.length) : (l.take k).map V.int = (l.take (k - 1)).map V.int ++ [V.int (l.getD (k - 1) 0)] := by
  obtain ⟨n, rfl⟩ : ∃ n, k = n + 1 := ⟨k - 1, by omega⟩
  rw [Nat.add_sub_cancel, List.take_add_one, getD_at (show n < l.length by omega), List.map_append]
  rfl
theorem cut_last {xs : List V} : cutV xs none (some (-1)) = xs.take (xs.length - 1) := by
  show (xs.drop 0).take (HT.sIx xs.length xs.length (some (-1)) - 0) = _
  have e : HT.sIx xs.length xs.length (some (-1)) = xs.length - 1 := by
    show (if (-1 : Int) < 0 then (-1 + (xs.length : Int)).toNat else min (-1 : Int).toNat xs.length) = _
    rw [if_pos (by decide)]
    omega
  rw [e, List.drop_zero, Nat.sub_zero]
theorem ok_lplain {f : Addr} {fd : FuncData} (T : Txt mg) (F : Fun K "_law_plain" "_law_plain" s_lplain f fd) : FnOk P w K mg base CX0 1 f fd ["_law_row_here"] (spPlain K) := by
  refine F.ok sc_lplain (fun vs H Q E h => ?_) (fun cdv A outer s H vs Q E hr h => ?_)
  · obtain ⟨a, ns, rfl, _⟩ := h
    rfl
  · obtain ⟨a, ns, rfl, hS, few, q⟩ := h
    refine ⟨_, (pss_cons (ps_set (i := 0) sc_lplain.nd rfl (Or.inl rfl) (pe_callTy call_list_of (by rfl) T.list boot_list (pa_cons (pv 0) pa_nil)))
 (pss_cons (ps_while PassesOwn.never (pw_and (pt_cmpR (op_neD (hu64 hr)) (pv 0) (pe_lst pa_nil) (nomark _)) (pw_and1 (pt_cmpR op_eq (pe_ix ix_list (pv 0) (pe_un un_neg pe_int) (fun _ _ => rfl)) pe_int (nomark _)))).pt (pss_one (ps_set (i := 0) sc_lplain.nd rfl (Or.inl rfl) (pe_slice sl_list (pv 0) po_none (po_some (pe_un un_neg pe_int))))))
 (pss_one (ps_ret (pv 0))))), ?_⟩
    refine ⟨_, rfl, a, _, rfl, hS, fun p np => ?_⟩
    refine while_by (fun σ H' => ∃ (r : Addr) (k : Nat), σ = [some (.ref r)] ∧ Same H H' ∧ H r = none ∧ H' r = some (.lst ((ns.take k).map V.int)) ∧ k ≤ ns.length ∧ tsz ns k = tsz ns ns.length)
      (fun σ H' => match σ[0]? with | some (some (V.ref r)) => (match H' r with | some (.lst xs) => xs.length | _ => 0) | _ => 0)
      ⟨p, ns.length, rfl, same_upd np, np, by rw [List.take_length]; exact upd_same, Nat.le_refl _, rfl⟩ ?_ ?_
    · rintro σ H1 ⟨r, k, rfl, s1, nr, hr1, hk, ht⟩
      refine ⟨_, rfl, (by show 0 ≤ sizeLine; decide), fun b nb => ?_⟩
      have g2 := same_upd (o := .lst []) nb
      have hr2 := g2 _ _ hr1
      refine ⟨_, _, dp_lst (SqL.of hr2), dp_lst (l := []) (SqL.of upd_same), shaped_ints _, shaped_ints [], _, rfl, ?_⟩
      rw [eqv_ints]
      by_cases c0 : 0 < k
      · have ne : ns.take k ≠ [] := fun e => by
          have := congrArg List.length e
          rw [List.length_take] at this
          have h0 : ([] : List Int).length = 0 := rfl
          omega
        refine if_pos_of (by rw [decide_eq_false ne]; rfl) ?_
        refine ⟨_, rfl, _, rfl, r, _, _, _, rfl, rfl, SqL.of hr2, (by rw [take_last c0 hk]; exact atI_last _ _), rfl, _, rfl, ?_⟩
        by_cases c1 : ns.getD (k - 1) 0 = 0
        · refine if_pos_of (decide_eq_true (by rw [c1])) ?_
          refine ⟨_, rfl, _, rfl, _, rfl, r, _, rfl, SqL.of hr2, fun c nc => ?_⟩
          have e : cutV ((ns.take k).map V.int) none (some (-1)) = (ns.take (k - 1)).map V.int := by
            rw [cut_last, List.length_map, List.length_take, ← List.map_take, List.take_take]
            congr 2
            omega
          refine ⟨⟨c, k - 1, rfl, (s1.trans g2).trans (same_upd nc), none_of (s1.trans g2) nc, (by rw [← e]; exact upd_same), by omega, tsz_turn ht c1 c0⟩, ?_⟩
          show (match (upd (upd H1 b (.lst [])) c (.lst (cutV ((ns.take k).map V.int) none (some (-1))))) c with | some (.lst xs) => xs.length | _ => 0) < (match H1 r with | some (.lst xs) => xs.length | _ => 0)
          rw [upd_same, hr1, e]
          show ((ns.take (k - 1)).map V.int).length < ((ns.take k).map V.int).length
          rw [List.length_map, List.length_map, List.length_take, List.length_take]
          omega
        · refine if_neg_of (decide_eq_false fun e => c1 (V.int.inj e)) ?_
          refine ⟨_, rfl, q r _ nr (s1.trans g2) ?_⟩
          rw [← tsz_stop ht fun _ => c1]
          exact hr2
      · have e0 : k = 0 := by omega
        subst e0
        refine if_neg_of (by rw [List.take_zero] <;> rfl) ?_
        refine ⟨_, rfl, q r _ nr (s1.trans g2) ?_⟩
        rw [← tsz_stop ht fun h => absurd h c0]
        exact hr2
    · rintro σ H1 Q1 Q2 h ⟨v, e1, e2, z⟩
      refine ⟨v, e1, e2, fun b nb => ?_⟩
      obtain ⟨d, e, f1, f2, f3, f4, k, f5, z⟩ := z b nb
      refine ⟨d, e, f1, f2, f3, f4, k, f5, ?_⟩
      cases k with
      | false => exact h _ _ z
      | true =>
        obtain ⟨v1, g1, v2, g2, p1, xs1, i2, y1, g5, g6, g7, g8, g9, k2, g10, z⟩ := z
        exact ⟨v1, g1, v2, g2, p1, xs1, i2, y1, g5, g6, g7, g8, g9, k2, g10, h _ _ z⟩
-- part polybd
/-! sizes of coefficients -/
def Bd (b : Nat) (l : List Int) : Prop := ∀ z ∈ l, z.natAbs < 2 ^ b
theorem Bd.get {b : Nat} {l : List Int} (h : Bd b l) (i : Nat) : (l.getD i 0).natAbs < 2 ^ b := by
  by_cases c : i < l.length
  · exact h _ (List.mem_of_getElem? (getD_at c))
  · rw [getD_ge (by omega)]
    exact Nat.two_pow_pos b
theorem Bd.mono {a b : Nat} {l : List Int} (h : Bd a l) (hab : a ≤ b) : Bd b l := fun z hz => pow_small (h z hz) hab
theorem Bd.trim {b : Nat} {l : List Int} (h : Bd b l) : Bd b (trim l) := fun z hz => h z (trim_mem hz)
theorem Bd.rng {b n : Nat} {f : Nat → Int} (h : ∀ i, (f i).natAbs < 2 ^ b) : Bd b (rngN n f) := fun z hz => by
  obtain ⟨i, _, rfl⟩ := List.mem_map.mp hz
  exact h i
theorem Bd.neg {b : Nat} {l : List Int} (h : Bd b l) : Bd b (pneg l) := fun z hz => by
  obtain ⟨y, hy, rfl⟩ := List.mem_map.mp hz
  have := h y hy
  show (-y).natAbs < 2 ^ b
  rw [Int.natAbs_neg]
  exact this
theorem Bd.plus {b : Nat} {l m : List Int} {s : Int} (hl : Bd b l) (hm : Bd b m) (hs : s = 1 ∨ s = -1) : Bd (b + 1) (pplus s l m) := by
  refine Bd.trim (Bd.rng fun i => ?_)
  have h1 := hl.get i
  have h2 := hm.get i
  rw [Nat.pow_succ]
  rcases hs with rfl | rfl <;> omega
theorem sumN_bd {f : Nat → Int} {B : Nat} (h : ∀ i, (f i).natAbs ≤ B) : ∀ n, (sumN f n).natAbs ≤ n * B
  | 0 => by rw [Nat.zero_mul]; exact Nat.le_refl 0
  | n + 1 => by
    have ih := sumN_bd h n
    have := h n
    show (sumN f n + f n).natAbs ≤ _
    rw [Nat.succ_mul]
    omega
theorem Bd.mul {a b : Nat} {l m : List Int} (hl : Bd a l) (hm : Bd b m) (few : l.length ≤ 200) : Bd (a + b + 8) (pmul l m) := by
  refine Bd.trim (Bd.rng fun k => ?_)
  have := sumN_bd (B := 2 ^ (a + b)) (f := fun i => l.getD i 0 * (if i ≤ k then m.getD (k - i) 0 else 0)) (fun i => by
    have h1 := hl.get i
    by_cases c : i ≤ k
    · have h2 := hm.get (k - i)
      show (l.getD i 0 * (if i ≤ k then m.getD (k - i) 0 else 0)).natAbs ≤ _
      rw [if_pos c]
      exact Nat.le_of_lt (wide_lt h1 h2)
    · show (l.getD i 0 * (if i ≤ k then m.getD (k - i) 0 else 0)).natAbs ≤ _
      rw [if_neg c, Int.mul_zero]
      exact Nat.zero_le _) l.length
  show (cnv l m k).natAbs < _
  unfold cnv
  refine Nat.lt_of_le_of_lt this ?_
  rw [Nat.pow_add _ (a + b) 8, Nat.mul_comm]
  exact Nat.mul_lt_mul_of_pos_left (by show l.length < 256; omega) (Nat.two_pow_pos _)
theorem Bd.wide {a b : Nat} {l m : List Int} (hl : Bd a l) (hm : Bd b m) (ha : 0 < a) (hb : 0 < b) (h : a + b ≤ 1000000) : ∀ x ∈ l, ∀ y ∈ m, CMulW x y := fun x hx y hy => wide_mul (hl x hx) (hm y hy) ha hb h
theorem Bd.app {b : Nat} {l m : List Int} (hl : Bd b l) (hm : Bd b m) : Bd b (l ++ m) := fun z hz => (List.mem_append.mp hz).elim (hl z) (hm z)
theorem Bd.zeros (b n : Nat) : Bd b (List.replicate n 0) := fun z hz => by
  rw [(List.mem_replicate.mp hz).2]
  exact Nat.two_pow_pos b
theorem Bd.range {r : Int} {b : Nat} {l : List Int} (h : ∀ z ∈ l, -r ≤ z ∧ z ≤ r) (hr : r.natAbs < 2 ^ b) : Bd b l := fun z hz => by
  have := h z hz
  omega
theorem PolyAt.putL {C : Addr} {H : Hp} {a b : Addr} {l : List Int} {xs : List V} {o : HO} (h : PolyAt K C H a l) (hb : H b = some (.lst xs)) : PolyAt K C (upd H b o) a l := by
  obtain ⟨dx, t, h1, h2⟩ := h.ob
  refine ⟨⟨dx, t, by rw [upd_ne (fun e => by rw [e, hb] at h1; cases h1)]; exact h1, ?_⟩, h.trm, h.few⟩
  rcases h2 with (h | ⟨o', h⟩) | h
  · exact .inl (.inl (by rw [upd_ne (fun e => by rw [e, hb] at h; cases h)]; exact h))
  · exact .inl (.inr ⟨o', by rw [upd_ne (fun e => by rw [e, hb] at h; cases h)]; exact h⟩)
  · exact .inr h
theorem useP2 {C : Addr} {H : Hp} {a b : Addr} {l m : List Int} {sp : Sp} {Q : VK} (po : PolyAt K C H a l) (po' : PolyAt K C H b m) (h : sp [.ref a, .ref b] H Q E0) : rOwn2 C sp (.ref a) (.ref b) H Q := by
  obtain ⟨dx, t, h1, _⟩ := po.ob
  obtain ⟨dy, u, g1, _⟩ := po'.ob
  exact ⟨a, b, _, _, _, _, rfl, rfl, h1, g1, h⟩
theorem useP1 {C : Addr} {H : Hp} {a : Addr} {l : List Int} {sp : Sp} {Q : VK} (po : PolyAt K C H a l) (h : sp [.ref a] H Q E0) : rOwn1 C sp (.ref a) H Q := by
  obtain ⟨dx, t, h1, _⟩ := po.ob
  exact ⟨a, dx, _, rfl, h1, h⟩
theorem useEqP {C : Addr} {H : Hp} {a b : Addr} {l m : List Int} {Q : VK} (po : PolyAt K C H a l) (po' : PolyAt K C H b m) (h : Q (.bl (decide (l = m))) H) : rOwn2 C (spPeq C K) (.ref a) (.ref b) H Q :=
  useP2 po po' ⟨a, b, l, m, rfl, po, po', h⟩
theorem useEqX {C : Addr} {H : Hp} {a : Addr} {l : List Int} {y : V} {t : String} {Q : VK} (ic : PySem.W.isClsIn K C = true) (ty : PySem.W.typeIn K (.ref C) = some (.type "type")) (po : PolyAt K C H a l) (ho : OthT H y t) (nf : PySem.W.subIn K (.type t) (.ref C) = some false) (h : Q (.bl false) H) : rOwnX K C (spPeqX C K) (.ref a) y H Q := by
  obtain ⟨dx, u, h1, _⟩ := po.ob
  exact ⟨a, dx, _, t, rfl, h1, ho, nf, a, y, t, rfl, ho, kit_ownF ic ty nf, h⟩
theorem Drawn.cons {z : Int} {zs ds : List Int} (h : Drawn (z :: zs) ds) : ∃ (d : Int) (ds' : List Int), ds = d :: ds' ∧ (0 ≤ d ∧ d < z) ∧ Drawn zs ds' := by
  cases ds with
  | nil => exact absurd h.1 (by simp)
  | cons d ds => exact ⟨d, ds, rfl, h.2 0 d z rfl rfl, by have := h.1; simpa using this, fun i d' z' h1 h2 => h.2 (i + 1) d' z' h1 h2⟩
theorem Drawn.nil {ds : List Int} (h : Drawn [] ds) : ds = [] := List.length_eq_zero_iff.mp h.1
theorem same_put {H H' : Hp} {p : Addr} {o : HO} (s : Same H H') (n : H p = none) : Same H (upd H' p o) := fun b u e => by
  rw [upd_ne (ne_of_none e n)]
  exact s b u e
-- part comb
abbrev s_comb : Stmt := top 8
theorem sc_comb : FnScope ["a", "b", "d", "rest", "u", "next_u", "times"] ["a", "b"] (defScope s_comb) := ⟨rfl, rfl, rfl, by decide +kernel, rfl, by decide +kernel, by decide +kernel⟩
def CDivNW (_ j : Int) : Prop := j ≠ 0 ∧ j.natAbs.log2 < 9000
theorem op_fdivNW {X : Cx} : OpR X (binaryOp .FloorDiv) (rI CDivNW fun i j => .int (i.fdiv j)) := opI fun i j _ _ _ _ _ hc q => floordiv_int hc.1 q (.inl (PyProof.noPylong_of_log2 hc.2))
def BigL : Nat := 2 ^ 300
theorem bigL_lt {x : Nat} {a b : Int} (ha : a.natAbs < BigL) (hb : b.natAbs < BigL) (h : x ≤ a.natAbs + b.natAbs + 1) : x < 2 ^ 302 := by
  have e : (2 : Nat) ^ 302 = 4 * BigL := by decide
  have e2 : 2 ≤ BigL := by decide
  omega
def spComb : Sp := fun vs H Q _ => ∃ (a b : Int), vs = [.int a, .int b] ∧ a.natAbs < BigL ∧ b.natAbs < BigL ∧
  ∀ u v t H', u * a + v * b = ((a.gcd b : Nat) : Int) → u.natAbs < 2 ^ 302 → v.natAbs < 2 ^ 700 → Same H H' → H' t = some (.tup [.int ((a.gcd b : Nat) : Int), .int u, .int v]) → Q (.ref t) H'
theorem ok_comb {f : Addr} {fd : FuncData} (F : Fun K "combination" "combination" s_comb f fd) : FnOk P w K mg base CX0 1 f fd ["a", "b"] spComb := by
  refine F.ok sc_comb (fun vs H Q E h => ?_) (fun cdv A outer s H vs Q E hr h => ?_)
  · obtain ⟨a, b, rfl, _⟩ := h
    rfl
  · obtain ⟨a, b, rfl, ha, hb, q⟩ := h
    refine ⟨_, (pss_cons (ps_par (i := 2) (j := 3) rfl sc_comb.nd rfl rfl (by decide) rfl rfl (pa_cons (pv 0) (pa_cons (pv 1) pa_nil)) rfl)
 (pss_cons (ps_asg (pe_tup (pa_cons pe_int (pa_cons pe_int pa_nil))) (pg_tup rfl (pgs_cons (pg_name (i := 4) sc_comb.nd rfl (Or.inl rfl)) (pgs_cons (pg_name (i := 5) sc_comb.nd rfl (Or.inl rfl)) pgs_nil))))
 (pss_cons (ps_while PassesOwn.never (pt_cmpR op_ne (pv 3) pe_int (nomark _)) (pss_cons (ps_set (i := 6) sc_comb.nd rfl (Or.inl rfl) (pe_op op_fdivNW (pv 2) (pv 3)))
 (pss_cons (ps_par (i := 2) (j := 3) rfl sc_comb.nd rfl rfl (by decide) rfl rfl (pa_cons (pv 3) (pa_cons (pe_op op_sub (pv 2) (pe_op op_mulW (pv 6) (pv 3))) pa_nil)) rfl)
 (pss_one (ps_par (i := 4) (j := 5) rfl sc_comb.nd rfl rfl (by decide) rfl rfl (pa_cons (pv 5) (pa_cons (pe_op op_sub (pv 4) (pe_op op_mulW (pv 6) (pv 5))) pa_nil)) rfl)))))
 (pss_cons (ps_if (pt_cmpR op_lt (pv 2) pe_int (nomark _)) (pss_one (ps_par (i := 2) (j := 4) rfl sc_comb.nd rfl rfl (by decide) rfl rfl (pa_cons (pe_un un_neg (pv 2)) (pa_cons (pe_un un_neg (pv 4)) pa_nil)) rfl)) pss_nil)
 (pss_cons (ps_if (pt_cmpR op_eq (pv 1) pe_int (nomark _)) (pss_one (ps_ret (pe_tup (pa_cons (pv 2) (pa_cons (pv 4) (pa_cons pe_int pa_nil)))))) pss_nil)
 (pss_one (ps_ret (pe_tup (pa_cons (pv 2) (pa_cons (pv 4) (pa_cons (pe_op op_fdivNW (pe_op op_sub (pv 2) (pe_op op_mulW (pv 4) (pv 0))) (pv 1)) pa_nil))))))))))), ?_⟩
    refine ⟨_, rfl, _, rfl, _, _, rfl, ?_⟩
    refine ⟨(by show 2 ≤ sizeLine; decide), fun p0 hp0 => ⟨p0, _, rfl, .inl (.inl upd_same), rfl, _, _, rfl, _, _, rfl, rfl, ?_⟩⟩
    refine while_by (fun σ H' => H' = _ ∧ ∃ d r u u' x, σ = [some (.int a), some (.int b), some (.int d), some (.int r), some (.int u), some (.int u'), x] ∧ Euc a b d r u u')
      (fun σ _ => match σ[3]? with | some (some (V.int r)) => r.natAbs | _ => 0) ⟨rfl, _, _, _, _, _, rfl, euc0 a b⟩ ?_ ?_
    · rintro σ _ ⟨rfl, d, r, u, u', x, rfl, I⟩
      refine ⟨_, rfl, rfl, _, rfl, ?_⟩
      by_cases c : r = 0
      · refine if_neg_of (by simp [c]) ?_
        subst c
        have eg := euc_end I
        have bu := bigL_lt (x := u.natAbs) ha hb (by have := I.bu; omega)
        have ba : a.natAbs < 2 ^ 302 := bigL_lt ha hb (by omega)
        have s1 : Same H (upd H p0 (.tup [.int 1, .int 0])) := same_upd hp0
        obtain ⟨v, cv⟩ := I.c1
        obtain ⟨d', u', v', h1, h2, h3, h4, h5⟩ : ∃ d' u' v' : Int, (d < 0 → d' = -d ∧ u' = -u) ∧ (¬ d < 0 → d' = d ∧ u' = u) ∧ d' = ((a.gcd b : Nat) : Int) ∧ d' = u' * a + v' * b ∧ u'.natAbs < 2 ^ 302 := by
          by_cases hd : d < 0
          · refine ⟨-d, -u, -v, fun _ => ⟨rfl, rfl⟩, fun h => absurd hd h, by omega, ?_, by omega⟩
            rw [cv, Int.neg_mul, Int.neg_mul]
            omega
          · exact ⟨d, u, v, fun h => absurd h hd, fun _ => ⟨rfl, rfl⟩, by omega, cv, bu⟩
        refine ⟨_, rfl, _, _, rfl, rfl, _, rfl, ?_⟩
        by_cases hd : d < 0
        · refine if_pos_of (decide_eq_true hd) ?_
          refine ⟨_, rfl, _, rfl, _, rfl, _, rfl, V.int d', V.int u', (by rw [(h1 hd).1, (h1 hd).2] <;> rfl), ?_⟩
          refine ⟨_, rfl, rfl, _, rfl, ?_⟩
          by_cases hb0 : b = 0
          · refine if_pos_of (by simp [hb0]) ?_
            refine ⟨_, rfl, _, rfl, (by show 3 ≤ sizeLine; decide), fun t ht => ?_⟩
            subst hb0
            exact q u' 0 t _ (by omega) h5 (by decide) (s1.trans (same_upd ht)) (by rw [← h3]; exact upd_same)
          · refine if_neg_of (by simp [hb0]) ?_
            have m : (u' * a).natAbs < 2 ^ (302 + 302) := wide_lt h5 ba
            have bb : b.natAbs < 2 ^ 302 := bigL_lt (x := b.natAbs) ha hb (by omega)
            have bv : v'.natAbs < 2 ^ 700 := by
              have z := natAbs_le_mul (v := v') hb0
              have bd : d'.natAbs < 2 ^ 302 := bigL_lt ha hb (by have := I.bd; omega)
              have z2 : v' * b = d' - u' * a := by omega
              rw [z2] at z
              have z3 := Int.natAbs_sub_le d' (u' * a)
              have e1 : (2 : Nat) ^ 302 ≤ 2 ^ 604 := by decide
              have e2 : (2 : Nat) ^ 604 + 2 ^ 604 ≤ 2 ^ 700 := by decide
              have m' : (u' * a).natAbs < 2 ^ 604 := m
              generalize (2 : Nat) ^ 700 = T7 at *
              generalize (2 : Nat) ^ 604 = T6 at *
              generalize (2 : Nat) ^ 302 = T3 at *
              omega
            refine ⟨_, rfl, _, rfl, _, rfl, _, rfl, _, rfl, _, _, rfl, rfl, wide_mul h5 ba (by decide) (by decide) (by decide), _, _, rfl, rfl, _, rfl, _, _, rfl, rfl, ⟨hb0, PySem.Flt.log2_lt_of (by decide) (Nat.lt_of_lt_of_le bb (by decide))⟩, (by show 3 ≤ sizeLine; decide), fun t ht => ?_⟩
            show Q (V.ref t) (upd (upd H p0 (HO.tup [V.int 1, V.int 0])) t (HO.tup [V.int d', V.int u', V.int ((d' - u' * a).fdiv b)]))
            rw [euc_last hb0 h4]
            exact q u' v' t _ (by omega) h5 bv (s1.trans (same_upd ht)) (by rw [← h3]; exact upd_same)
        · refine if_neg_of (decide_eq_false hd) ?_
          rw [← (h2 hd).1, ← (h2 hd).2]
          refine ⟨_, rfl, rfl, _, rfl, ?_⟩
          by_cases hb0 : b = 0
          · refine if_pos_of (by simp [hb0]) ?_
            refine ⟨_, rfl, _, rfl, (by show 3 ≤ sizeLine; decide), fun t ht => ?_⟩
            subst hb0
            exact q u' 0 t _ (by omega) h5 (by decide) (s1.trans (same_upd ht)) (by rw [← h3]; exact upd_same)
          · refine if_neg_of (by simp [hb0]) ?_
            have m : (u' * a).natAbs < 2 ^ (302 + 302) := wide_lt h5 ba
            have bb : b.natAbs < 2 ^ 302 := bigL_lt (x := b.natAbs) ha hb (by omega)
            have bv : v'.natAbs < 2 ^ 700 := by
              have z := natAbs_le_mul (v := v') hb0
              have bd : d'.natAbs < 2 ^ 302 := bigL_lt ha hb (by have := I.bd; omega)
              have z2 : v' * b = d' - u' * a := by omega
              rw [z2] at z
              have z3 := Int.natAbs_sub_le d' (u' * a)
              have e1 : (2 : Nat) ^ 302 ≤ 2 ^ 604 := by decide
              have e2 : (2 : Nat) ^ 604 + 2 ^ 604 ≤ 2 ^ 700 := by decide
              have m' : (u' * a).natAbs < 2 ^ 604 := m
              generalize (2 : Nat) ^ 700 = T7 at *
              generalize (2 : Nat) ^ 604 = T6 at *
              generalize (2 : Nat) ^ 302 = T3 at *
              omega
            refine ⟨_, rfl, _, rfl, _, rfl, _, rfl, _, rfl, _, _, rfl, rfl, wide_mul h5 ba (by decide) (by decide) (by decide), _, _, rfl, rfl, _, rfl, _, _, rfl, rfl, ⟨hb0, PySem.Flt.log2_lt_of (by decide) (Nat.lt_of_lt_of_le bb (by decide))⟩, (by show 3 ≤ sizeLine; decide), fun t ht => ?_⟩
            show Q (V.ref t) (upd (upd H p0 (HO.tup [V.int 1, V.int 0])) t (HO.tup [V.int d', V.int u', V.int ((d' - u' * a).fdiv b)]))
            rw [euc_last hb0 h4]
            exact q u' v' t _ (by omega) h5 bv (s1.trans (same_upd ht)) (by rw [← h3]; exact upd_same)
      · refine if_pos_of (by simp [c]) ?_
        have br := bigL_lt (x := r.natAbs) ha hb (by have := I.br; omega)
        have bd := bigL_lt (x := d.natAbs) ha hb (by have := I.bd; omega)
        have bu := bigL_lt (x := u'.natAbs) ha hb (by have := I.bu'; omega)
        have bq : (d.fdiv r).natAbs < 2 ^ 302 := by
          obtain ⟨_, _, _, _, h4, _⟩ := fd_parts d r c
          omega
        have st := euc_step I c
        refine ⟨_, rfl, _, rfl, _, _, rfl, rfl, ⟨c, PySem.Flt.log2_lt_of (by decide) (Nat.lt_of_lt_of_le br (by decide))⟩, ?_⟩
        refine ⟨_, rfl, _, rfl, _, rfl, _, rfl, _, _, rfl, rfl, wide_mul bq br (by decide) (by decide) (by decide), _, _, rfl, rfl, _, _, rfl, ?_⟩
        refine ⟨_, rfl, _, rfl, _, rfl, _, rfl, _, _, rfl, rfl, wide_mul bq bu (by decide) (by decide) (by decide), _, _, rfl, rfl, _, _, rfl, ?_⟩
        exact ⟨⟨rfl, _, _, _, _, _, rfl, st.1⟩, st.2⟩
    · intro σ H1 Q1 Q2 h ⟨v, e, s, k, e2, q⟩
      exact ⟨v, e, s, k, e2, h _ _ q⟩
-- part prime_prog
def rIsqrt : List V → Hp → VK → Prop := fun vs H Q => ∃ a : Int, vs = [.int a] ∧ 0 ≤ a ∧ a < 2 ^ 64 ∧ ∀ r : Int, 0 ≤ r → r * r ≤ a → a < (r + 1) * (r + 1) → Q (.int r) H
theorem cr_isqrt {X : Cx} : CallR X (.builtin "math.isqrt") rIsqrt := by
  intro pins s σ H vs us Q I r h
  obtain ⟨a, rfl, h0, h1, q⟩ := h
  cases r with
  | cons r1 r2 =>
    cases r2
    obtain ⟨t, rfl⟩ := r1
    obtain ⟨s1, s2⟩ := Float64.isqrt_spec a.toNat
    refine PySem.W.mg_isqrt h0 h1 ⟨.int _, H, I.tok _, ⟨_, rfl⟩, q _ (Int.natCast_nonneg _) ?_ ?_⟩
    · have : ((Float64.isqrt a.toNat * Float64.isqrt a.toNat : Nat) : Int) ≤ ((a.toNat : Nat) : Int) := Int.ofNat_le.mpr s1
      rw [Int.natCast_mul, Int.toNat_of_nonneg h0] at this
      exact this
    · have : ((a.toNat : Nat) : Int) < (((Float64.isqrt a.toNat + 1) * (Float64.isqrt a.toNat + 1) : Nat) : Int) := Int.ofNat_lt.mpr s2
      rw [Int.natCast_mul, Int.natCast_add, Int.toNat_of_nonneg h0] at this
      exact this
abbrev s_least : Stmt := top 9
theorem sc_least : FnScope ["n", "d"] ["n"] (defScope s_least) := ⟨rfl, rfl, rfl, by decide +kernel, rfl, by decide +kernel, by decide +kernel⟩
def spLeast : Sp := fun vs H Q _ => ∃ n : Int, vs = [.int n] ∧ 2 ≤ n ∧ n < 2 ^ 62 ∧ ∀ r, Least n r → Q (.int r) H
theorem rgc_two {j : Int} (h0 : 0 ≤ j) (h1 : j < 2 ^ 62) : RgC 3 j 2 (if 3 < j then ((j - 3 - 1) / 2 + 1).toNat else 0) := by
  refine ⟨by decide, by decide, ?_, ?_⟩
  · unfold Builtin.Range.small Builtin.Range.rangeSize
    simp only [Builtin.Range.rangeFitsLong, Bool.and_eq_true, Bool.or_eq_true, decide_eq_true_eq, beq_iff_eq, show ((2 : Int) > 0) by decide, if_true]
    split <;> omega
  · unfold Builtin.Range.rangeSize
    rw [if_pos (by decide)]
    split <;> omega
theorem root_lt {r n : Int} (h0 : 0 ≤ r) (h : r * r ≤ n) (hn : n < 2 ^ 62) : r + 1 < 2 ^ 62 := by
  by_cases c : r < 2 ^ 32
  · omega
  · have : (2 ^ 32 : Int) * 2 ^ 32 ≤ r * r := Int.mul_le_mul (by omega) (by omega) (by decide) h0
    omega
theorem ok_least {f : Addr} {fd : FuncData} (T : Txt mg) (hsq : mg "isqrt" = some (.builtin "math.isqrt")) (F : Fun K "_least_divisor" "_least_divisor" s_least f fd) : FnOk P w K mg base CX0 1 f fd ["n"] spLeast := by
  refine F.ok sc_least (fun vs H Q E h => ?_) (fun cdv A outer s H vs Q E hr h => ?_)
  · obtain ⟨n, rfl, _⟩ := h
    rfl
  · obtain ⟨n, rfl, h2, hb, q⟩ := h
    refine ⟨_, (pss_cons (ps_if (pt_cmpR op_eq (pe_op op_mod (pv 0) pe_int) pe_int (nomark _)) (pss_one (ps_ret pe_int)) pss_nil)
 (pss_cons (ps_for PassesOwn.never rfl (pi_range3 rfl T.range (pa_cons pe_int (pa_cons (pe_op op_add (pe_callBfun cr_isqrt (by rfl) hsq (pa_cons (pv 0) pa_nil)) pe_int) (pa_cons pe_int pa_nil)))) (pg_name (i := 1) sc_least.nd rfl (Or.inl rfl)) (pss_one (ps_if (pt_cmpR op_eq (pe_op op_mod (pv 0) (pv 1)) pe_int (nomark _)) (pss_one (ps_ret (pv 1))) pss_nil)))
 (pss_one (ps_ret (pv 0))))), ?_⟩
    refine ⟨_, rfl, _, _, rfl, rfl, (by show (0 : Int) < 2; decide), rfl, _, rfl, ?_⟩
    by_cases c : (2 : Int) ∣ n
    · refine if_pos_of (decide_eq_true (congrArg V.int (Int.emod_eq_zero_of_dvd c))) ?_
      exact q _ (least_two c)
    · refine if_neg_of (decide_eq_false fun e => c (Int.dvd_of_emod_eq_zero (V.int.inj e))) ?_
      refine ⟨_, rfl, n, rfl, by omega, by omega, fun r r0 r1 r2 => ⟨_, _, rfl, rfl, 3, r + 1, 2, _, rfl, rgc_two (by omega) (root_lt r0 r1 hb), ?_⟩⟩
      refine for_rangeC (lo := 3) (c := 2) (fun i σ H' => H' = H ∧ ∃ x, σ = [some (.int n), x] ∧ ∀ j : Nat, j < i → ¬ (3 + (j : Int) * 2) ∣ n) ⟨rfl, _, rfl, fun j hj => absurd hj (Nat.not_lt_zero j)⟩ ?_ ?_
      · rintro i σ _ hi ⟨rfl, x, rfl, hx⟩
        refine ⟨_, rfl, _, rfl, _, _, rfl, rfl, (by show (0 : Int) < 3 + ((i : Nat) : Int) * 2; omega), rfl, _, rfl, ?_⟩
        by_cases c3 : (3 + (i : Int) * 2) ∣ n
        · refine if_pos_of (decide_eq_true (congrArg V.int (Int.emod_eq_zero_of_dvd c3))) ?_
          exact ⟨_, rfl, q _ (least_at c c3 hx)⟩
        · refine if_neg_of (decide_eq_false fun e => c3 (Int.dvd_of_emod_eq_zero (V.int.inj e))) ?_
          refine ⟨rfl, _, rfl, fun j hj => ?_⟩
          by_cases e : j = i
          · rw [e]
            exact c3
          · exact hx j (by omega)
      · rintro σ _ ⟨rfl, x, rfl, hx⟩
        refine ⟨_, rfl, q _ (least_of_odd h2 c r0 r2 fun i hi => hx i ?_)⟩
        split <;> omega
abbrev s_prime : Stmt := top 10
theorem sc_prime : FnScope ["n"] ["n"] (defScope s_prime) := ⟨rfl, rfl, rfl, by decide +kernel, rfl, by decide +kernel, by decide +kernel⟩
def spPrime : Sp := fun vs H Q _ => ∃ n : Int, vs = [.int n] ∧ n < 2 ^ 62 ∧ Q (.bl (prB n)) H
theorem ok_prime {f : Addr} {fd : FuncData} (F : Fun K "is_prime" "is_prime" s_prime f fd) (c_least : Cl P w K mg base CX0 1 "_least_divisor" spLeast) : FnOk P w K mg base CX0 2 f fd ["n"] spPrime := by
  refine F.ok sc_prime (fun vs H Q E h => ?_) (fun cdv A outer s H vs Q E hr h => ?_)
  · obtain ⟨n, rfl, _⟩ := h
    rfl
  · obtain ⟨n, rfl, hb, q⟩ := h
    refine ⟨_, (pss_one (ps_ret (pe_and (pe_cmpR op_gt (pv 0) pe_int (nomark _)) (pe_one (pe_cmpR op_eq (pe_cl c_least hr (pa_cons (pv 0) pa_nil)) (pv 0) (nomark _)))))), ?_⟩
    refine ⟨_, rfl, _, _, rfl, rfl, _, rfl, ?_⟩
    by_cases c : 1 < n
    · refine if_pos_of (decide_eq_true c) ?_
      refine ⟨_, rfl, n, rfl, by omega, hb, fun r hl => ⟨_, rfl, rfl, ?_⟩⟩
      have e : decide (V.int r = V.int n) = prB n := by
        by_cases p : Pr n
        · rw [prB_true p, (hl.self (by omega)).mpr p]
          exact decide_eq_true rfl
        · rw [prB_false p]
          exact decide_eq_false fun e => p ((hl.self (by omega)).mp (V.int.inj e))
      show Q (.bl (decide (V.int r = V.int n))) H
      rw [e]
      exact q
    · refine if_neg_of (decide_eq_false c) ?_
      have e : prB n = false := prB_false fun p => c (by have := p.1; omega)
      rw [e] at q
      exact q
-- part ibc
abbrev s_ibc : Stmt := inClass (top 4) 0
theorem sc_ibc : FnScope ["self", "p"] ["self", "p"] (defScope s_ibc) := ⟨rfl, rfl, rfl, by decide +kernel, rfl, by decide +kernel, by decide +kernel⟩
theorem ok_ibc {f C CF : Addr} {fd : FuncData} (TF : FErr K mg CF) (hC : OexC K C) (hno : PySem.W.findIn K (.ref C) "p" = some none) (F : Fun K "__init__" "BadCharacteristic.__init__" s_ibc f fd) : FnOk P w K mg base CX0 1 f fd ["self", "p"] (spInit C "p") := by
  refine F.ok sc_ibc (fun vs H Q E h => ?_) (fun cdv A outer s H vs Q E hr h => ?_)
  · obtain ⟨a, v, rfl, _⟩ := h
    rfl
  · obtain ⟨a, v, rfl, ha, q⟩ := h
    refine ⟨_, (pss_cons (ps_expr (pe_feinit TF (pa_cons (pv 0) (pa_cons pe_str pa_nil))))
 (pss_one (ps_ost (pv 0) (pv 1)))), ?_⟩
    refine ⟨_, rfl, a, C, _, rfl, (by show 1 ≤ 1000; decide), hC, ha, ?_⟩
    exact ⟨_, rfl, _, rfl, a, C, rfl, hC, hno, .inl ⟨ha, fun dx hn hne => q dx hn hne⟩⟩
-- part chkn
/-! characteristics, in the layer L2N -/
/-- a characteristic: 0 or a prime -/
def Chr (p : Int) : Prop := p = 0 ∨ Pr p
abbrev s_chkp : Stmt := top 11
theorem sc_chkp : FnScope ["p"] ["p"] (defScope s_chkp) := ⟨rfl, rfl, rfl, by decide +kernel, rfl, by decide +kernel, by decide +kernel⟩
def spChkp (C : Addr) : Sp := fun vs H Q E => ∃ p : Int, vs = [.int p] ∧ p < 2 ^ 62 ∧ (Pr p → Q (.int p) H) ∧ (¬ Pr p → ∀ d H', Same H H' → H' d = some (.xd [("p", .int p)]) → E (.ref C) (some d) H')
theorem ok_chkp {f C : Addr} {fd : FuncData} (F : Fun K "checked_prime" "checked_prime" s_chkp f fd) (c_prime : Cl P w K mg base CX0 2 "is_prime" spPrime) (x_bc : Er P w K mg base "BadCharacteristic" "p" C) : FnOk P w K mg base (L2N.CX P w) 3 f fd ["p"] (spChkp C) := by
  refine okN F sc_chkp (fun vs H Q E h => ?_) (fun cdv A outer s H vs Q E hr h => ?_)
  · obtain ⟨n, rfl, _⟩ := h
    rfl
  · obtain ⟨p, rfl, hb, q, e⟩ := h
    refine ⟨_, (pss_cons (ps_if (pt_not (pt_val (pe_cl c_prime hr (pa_cons (pv 0) pa_nil)))) (pss_one (ps_raise1N x_bc hr (L2N.takes_of rfl rfl rfl rfl) (pa_cons (pv 0) pa_nil))) pss_nil)
 (pss_one (ps_ret (pv 0)))), ?_⟩
    refine ⟨_, rfl, p, rfl, hb, _, rfl, ?_⟩
    by_cases c2 : Pr p
    · refine if_neg_of (by rw [prB_true c2]; rfl) ?_
      exact ⟨_, rfl, q c2⟩
    · refine if_pos_of (by rw [prB_false c2]; rfl) ?_
      refine ⟨_, rfl, ?_⟩
      exact mk1 fun d H2 s _ hd => e c2 d H2 s hd
abbrev s_checked : Stmt := top 12
theorem sc_checked : FnScope ["p"] ["p"] (defScope s_checked) := ⟨rfl, rfl, rfl, by decide +kernel, rfl, by decide +kernel, by decide +kernel⟩
def spChecked (C : Addr) : Sp := fun vs H Q E => ∃ p : Int, vs = [.int p] ∧ p < 2 ^ 62 ∧ (Chr p → Q (.int p) H) ∧ (¬ Chr p → ∀ d H', Same H H' → H' d = some (.xd [("p", .int p)]) → E (.ref C) (some d) H')
theorem ok_checked {f C : Addr} {fd : FuncData} (F : Fun K "checked" "checked" s_checked f fd) (c_chkp : Cl P w K mg base (L2N.CX P w) 3 "checked_prime" (spChkp C)) : FnOk P w K mg base (L2N.CX P w) 4 f fd ["p"] (spChecked C) := by
  refine okN F sc_checked (fun vs H Q E h => ?_) (fun cdv A outer s H vs Q E hr h => ?_)
  · obtain ⟨n, rfl, _⟩ := h
    rfl
  · obtain ⟨p, rfl, hb, q, e⟩ := h
    refine ⟨_, (pss_cons (ps_if (pt_cmpR op_eq (pv 0) pe_int (nomark _)) (pss_one (ps_ret (pv 0))) pss_nil)
 (pss_one (ps_ret (pe_clNX c_chkp hr (L2N.takes_of rfl rfl rfl rfl) (pa_cons (pv 0) pa_nil))))), ?_⟩
    refine ⟨_, rfl, rfl, _, rfl, ?_⟩
    by_cases c : p = 0
    · subst c
      refine if_pos_of rfl ?_
      exact ⟨_, rfl, q (.inl rfl)⟩
    · refine if_neg_of (by simp [c]) ?_
      refine ⟨_, rfl, p, rfl, hb, fun hp => q (.inr hp), fun hp d H' s hd => e (fun h => h.elim c hp) d H' s hd⟩
abbrev s_rem : Stmt := top 13
theorem sc_rem : FnScope ["n", "p"] ["n", "p"] (defScope s_rem) := ⟨rfl, rfl, rfl, by decide +kernel, rfl, by decide +kernel, by decide +kernel⟩
def spRem : Sp := fun vs H Q _ => ∃ n p : Int, vs = [.int n, .int p] ∧ 0 < p ∧ Q (.int (n % p)) H
theorem ok_rem {f : Addr} {fd : FuncData} (F : Fun K "remainder" "remainder" s_rem f fd) : FnOk P w K mg base CX0 1 f fd ["n", "p"] spRem := by
  refine F.ok sc_rem (fun vs H Q E h => ?_) (fun cdv A outer s H vs Q E hr h => ?_)
  · obtain ⟨n, p, rfl, _⟩ := h
    rfl
  · obtain ⟨n, p, rfl, hp, q⟩ := h
    refine ⟨_, (pss_cons (ps_if (pt_cmpR op_eq (pv 1) pe_int (nomark _)) (pss_one (ps_ret (pv 0))) pss_nil)
 (pss_one (ps_ret (pe_op op_mod (pv 0) (pv 1))))), ?_⟩
    refine ⟨_, rfl, rfl, _, rfl, if_neg_of (decide_eq_false fun e => by have := V.int.inj e; omega) ?_⟩
    exact ⟨_, rfl, _, rfl, _, _, rfl, rfl, hp, q⟩
abbrev s_recip : Stmt := top 14
theorem sc_recip : FnScope ["n", "p"] ["n", "p"] (defScope s_recip) := ⟨rfl, rfl, rfl, by decide +kernel, rfl, by decide +kernel, by decide +kernel⟩
def spRecip : Sp := fun vs H Q _ => ∃ n p : Int, vs = [.int n, .int p] ∧ Pr p ∧ p < 2 ^ 62 ∧ 0 < n ∧ n < p ∧ ∀ b H', 0 ≤ b → b < p → p ∣ b * n - 1 → Same H H' → Q (.int b) H'
theorem ok_recip {f : Addr} {fd : FuncData} (F : Fun K "reciprocal" "reciprocal" s_recip f fd) (c_comb : Cl P w K mg base CX0 1 "combination" spComb) : FnOk P w K mg base CX0 2 f fd ["n", "p"] spRecip := by
  refine F.ok sc_recip (fun vs H Q E h => ?_) (fun cdv A outer s H vs Q E hr h => ?_)
  · obtain ⟨n, p, rfl, _⟩ := h
    rfl
  · obtain ⟨n, p, rfl, hp, hb, n0, n1, q⟩ := h
    have e62 : (2 : Nat) ^ 62 ≤ BigL := by decide
    have p2 := hp.1
    refine ⟨_, (pss_one (ps_ret (pe_op op_mod (pe_ix ix_tup (pe_cl c_comb hr (pa_cons (pv 0) (pa_cons (pv 1) pa_nil))) pe_int (fun _ _ => rfl)) (pv 1)))), ?_⟩
    refine ⟨_, rfl, _, rfl, n, p, rfl, by omega, by omega, fun u v t H1 huv _ _ s1 ht => ?_⟩
    rw [gcd_one hp n0 n1] at huv ht
    refine ⟨t, _, _, _, rfl, rfl, SqT.of ht, rfl, _, rfl, _, _, rfl, rfl, (by omega), ?_⟩
    exact q (u % p) H1 (Int.emod_nonneg _ (by omega)) (Int.emod_lt_of_pos _ (by omega)) (recip_ok huv (by omega)) s1
abbrev s_red : Stmt := top 23
theorem sc_red : FnScope ["poly", "p", "n"] ["poly", "p"] (defScope s_red) := ⟨rfl, rfl, rfl, by decide +kernel, rfl, by decide +kernel, by decide +kernel⟩
def spRed (C : Addr) (K : PySem.W.Frag) : Sp := fun vs H Q _ => ∃ (a : Addr) (l : List Int) (p : Int), vs = [.ref a, .int p] ∧ PolyAt K C H a l ∧ 0 < p ∧ ∀ r H', PolyAt K C H' r (prem p l) → Same H H' → Q (.ref r) H'
theorem ok_red {f C : Addr} {fd : FuncData} (TT : Txt mg) (T : PoT K mg C) (F : Fun K "_reduced" "_reduced" s_red f fd) (c_rem : Cl P w K mg base CX0 1 "remainder" spRem) (c_pil : Ma P w K mg base 2 C (spPI C false K)) : FnOk P w K mg base CX0 4 f fd ["poly", "p"] (spRed C K) := by
  refine F.ok sc_red (fun vs H Q E h => ?_) (fun cdv A outer s H vs Q E hr h => ?_)
  · obtain ⟨a, l, p, rfl, _⟩ := h
    rfl
  · obtain ⟨a, l, p, rfl, po, hp, q⟩ := h
    obtain ⟨dx, t, h1, h2⟩ := po.ob
    have few := po.few
    refine ⟨_, (pss_one (ps_ret (pe_ma c_pil hr T.g (pa_cons (pe_lc (own := [("n", 2)]) (g := (gName 2)) (tt := tYes) rfl sc_red.nd (pi_tup (pe_fld (pv 0) rfl)) (blkOk_by (N := ["poly", "p", "n"]) (sc := defScope s_red) (by decide +kernel)) (fun _ _ _ _ _ => (pg_name (i := 2) sc_red.nd rfl (Or.inl rfl))) (fun _ _ _ _ _ => pts_nil) (fun _ _ _ _ _ => (pe_cl c_rem (by exact hr) (pa_cons (pv 2) (pa_cons (pv 1) pa_nil))))) pa_nil)))), ?_⟩
    refine ⟨_, rfl, a, C, dx, _, _, rfl, h1, T.cl, T.nC, pyF_c _, t, rfl, ⟨_, h2⟩, fun D nD => lcMap walk_tup ((l.map (· % p)).map V.int) (by rw [List.length_map, List.length_map, List.length_map]) nD (fun H s => Evl.ex_t s h2) ?_ ?_⟩
    · rintro i x H2 _ hi s2 hL ⟨rfl, hx⟩
      obtain ⟨z, rfl, hz⟩ := item_int hx
      refine ⟨rfl, _, rfl, _, rfl, z, p, rfl, hp, ?_⟩
      exact mapEnd nD (by rw [List.length_map, List.length_map]; omega) s2 hL (map_at (f := V.int) (by rw [List.getElem?_map, hz] <;> rfl))
    · intro H2 s2 hL
      exact fun x dx nx ndx _ => make_poA (tup := false) (ns := l.map (· % p)) nx ndx (SqL.of hL) (by rw [List.length_map]; omega) fun H3 pr s3 => ⟨rfl, q x H3 pr (s2.trans s3)⟩
abbrev s_inch : Stmt := top 24
theorem sc_inch : FnScope ["poly", "p"] ["poly", "p"] (defScope s_inch) := ⟨rfl, rfl, rfl, by decide +kernel, rfl, by decide +kernel, by decide +kernel⟩
def spInch (C : Addr) (K : PySem.W.Frag) : Sp := fun vs H Q _ => ∃ (a : Addr) (l : List Int) (p : Int), vs = [.ref a, .int p] ∧ PolyAt K C H a l ∧ Pr p ∧ p < 2 ^ 62 ∧ ∀ r H', PolyAt K C H' r (prem p l) → Same H H' → Q (.ref r) H'
theorem ok_inch {f C CB : Addr} {fd : FuncData} (F : Fun K "in_char" "in_char" s_inch f fd) (c_checked : Cl P w K mg base (L2N.CX P w) 4 "checked" (spChecked CB)) (c_red : Cl P w K mg base CX0 4 "_reduced" (spRed C K)) : FnOk P w K mg base CX0 5 f fd ["poly", "p"] (spInch C K) := by
  refine F.ok sc_inch (fun vs H Q E h => ?_) (fun cdv A outer s H vs Q E hr h => ?_)
  · obtain ⟨a, l, p, rfl, _⟩ := h
    rfl
  · obtain ⟨a, l, p, rfl, po, hp, hb, q⟩ := h
    refine ⟨_, (pss_one (ps_ret (pe_cl c_red hr (pa_cons (pv 0) (pa_cons (pe_clN0 c_checked hr (pa_cons (pv 1) pa_nil)) pa_nil))))), ?_⟩
    have p2 := hp.1
    exact ⟨_, rfl, _, rfl, p, rfl, hb, fun _ => ⟨a, l, p, rfl, po, by omega, q⟩, fun h => absurd (.inr hp) h⟩
abbrev s_term : Stmt := top 25
theorem sc_term : FnScope ["n", "exponent"] ["n", "exponent"] (defScope s_term) := ⟨rfl, rfl, rfl, by decide +kernel, rfl, by decide +kernel, by decide +kernel⟩
def spTerm (C : Addr) (K : PySem.W.Frag) : Sp := fun vs H Q _ => ∃ (c : Int) (e : Nat), vs = [.int c, .int (e : Int)] ∧ e ≤ 100 ∧ ∀ r H', PolyAt K C H' r (trm c e) → Same H H' → Q (.ref r) H'
theorem ok_term {f C : Addr} {fd : FuncData} (T : PoT K mg C) (F : Fun K "_term" "_term" s_term f fd) (c_pil : Ma P w K mg base 2 C (spPI C false K)) : FnOk P w K mg base CX0 4 f fd ["n", "exponent"] (spTerm C K) := by
  refine F.ok sc_term (fun vs H Q E h => ?_) (fun cdv A outer s H vs Q E hr h => ?_)
  · obtain ⟨c, e, rfl, _⟩ := h
    rfl
  · obtain ⟨c, e, rfl, he, q⟩ := h
    refine ⟨_, (pss_one (ps_ret (pe_ma c_pil hr T.g (pa_cons (pe_op op_cat (pe_op op_rep (pe_lst (pa_cons pe_int pa_nil)) (pv 1)) (pe_lst (pa_cons (pv 0) pa_nil))) pa_nil)))), ?_⟩
    have z1000 : 1000 ≤ sizeLine := by rw [sizeLine_eq]; decide
    refine ⟨(by show 1 ≤ sizeLine; decide), fun b nb => ?_⟩
    refine ⟨_, rfl, b, _, _, rfl, rfl, upd_same, by omega, by omega, (by show 1 * (e : Int).toNat ≤ sizeLine; omega), fun c1 nc => ?_⟩
    rw [flat_rep]
    have g1 := same_upd (o := .lst [.int 0]) nb
    have g2 := same_upd (o := .lst (List.replicate (e : Int).toNat (V.int 0))) nc
    refine ⟨_, rfl, (by show 1 ≤ sizeLine; decide), fun d nd => ?_⟩
    have g3 := same_upd (o := .lst [.int c]) nd
    refine ⟨c1, d, _, _, rfl, rfl, g3 _ _ upd_same, upd_same, (by rw [List.length_replicate]; show _ + 1 ≤ sizeLine; omega), fun r nr => ?_⟩
    have g4 := same_upd (o := .lst (List.replicate (e : Int).toNat (V.int 0) ++ [.int c])) nr
    have el : List.replicate (e : Int).toNat (V.int 0) ++ [.int c] = (List.replicate e 0 ++ [c]).map V.int := by
      rw [List.map_append, List.map_replicate, Int.toNat_natCast] <;> rfl
    exact fun x dx nx ndx _ => make_poA (tup := false) (ns := List.replicate e 0 ++ [c]) nx ndx (SqL.of (by rw [← el]; exact upd_same)) (by rw [List.length_append, List.length_replicate]; show e + 1 ≤ 200; omega) fun H3 pr s3 => ⟨rfl, q x H3 pr ((g1.trans g2).trans ((g3.trans g4).trans s3))⟩
-- part divp
theorem last_int {l : List Int} (h : 0 < l.length) : atI (l.map V.int) (-1) = some (V.int (l.getD (l.length - 1) 0)) := by
  have h1 : l.length - 1 < l.length := by omega
  have hl := getD_at h1
  have e : l = l.take (l.length - 1) ++ [l.getD (l.length - 1) 0] := by
    have := List.take_add_one (l := l) (i := l.length - 1)
    rw [hl, show l.length - 1 + 1 = l.length by omega, List.take_length] at this
    exact this
  have := atI_last ((l.take (l.length - 1)).map V.int) (V.int (l.getD (l.length - 1) 0))
  rw [show (l.take (l.length - 1)).map V.int ++ [V.int (l.getD (l.length - 1) 0)] = l.map V.int by
    conv => rhs; rw [e]
    rw [List.map_append]; rfl] at this
  exact this
theorem rem_last {p : Int} {l : List Int} (ht : Trim l) (hb : ∀ z ∈ l, 0 ≤ z ∧ z < p) (h : 0 < l.length) : 0 < l.getD (l.length - 1) 0 ∧ l.getD (l.length - 1) 0 < p := by
  have h1 := ht (l.length - 1) (by omega)
  have h2 := hb _ (List.mem_of_getElem? (getD_at (show l.length - 1 < l.length by omega)))
  omega
theorem pplus_few (s : Int) (a b : List Int) : (pplus s a b).length ≤ max a.length b.length := by
  have := trim_few (rngN (max a.length b.length) fun i => a.getD i 0 + s * b.getD i 0)
  rw [rngN_len] at this
  exact this
abbrev s_part : Stmt := top 26
theorem sc_part : FnScope ["first", "second", "p", "divisor", "rest", "last", "by", "quotient", "step"] ["first", "second", "p"] (defScope s_part) := ⟨rfl, rfl, rfl, by decide +kernel, rfl, by decide +kernel, by decide +kernel⟩
def spPart (C : Addr) (K : PySem.W.Frag) : Sp := fun vs H Q _ => ∃ (a b : Addr) (l m : List Int) (p : Int), vs = [.ref a, .ref b, .int p] ∧ PolyAt K C H a l ∧ PolyAt K C H b m ∧ l.length ≤ 20 ∧ m.length ≤ 20 ∧ p < 2 ^ 20 ∧ Pr p ∧ prem p m ≠ [] ∧
  ∀ t qa ra by_ q r H', DivM p by_ l (prem p m) q r → q.length ≤ 20 → r.length < (prem p m).length → Bd 20 q → PolyAt K C H' qa q → PolyAt K C H' ra r → Same H H' → H' t = some (.tup [.int by_, .ref qa, .ref ra]) → Q (.ref t) H'
theorem ok_part {f C : Addr} {fd : FuncData} (TT : Txt mg) (T : PoT K mg C) (F : Fun K "parted" "parted" s_part f fd) (c_red : Cl P w K mg base CX0 4 "_reduced" (spRed C K)) (c_rem : Cl P w K mg base CX0 1 "remainder" spRem) (c_term : Cl P w K mg base CX0 4 "_term" (spTerm C K))
    (c_pil : Ma P w K mg base 2 C (spPI C false K)) (c_whole : Cm P w K mg base 4 C "whole" (spPwhole C K)) (c_deg : Me P w K mg base 1 C "degree" (spPdeg C K)) (c_add : Me P w K mg base 4 C "__add__" (spPadd C K 1)) (c_sub : Me P w K mg base 5 C "__sub__" (spPadd C K (-1))) (c_mul : Me P w K mg base 4 C "__mul__" (spPmul C K)) :
    FnOk P w K mg base CX0 6 f fd ["first", "second", "p"] (spPart C K) := by
  refine F.ok sc_part (fun vs H Q E h => ?_) (fun cdv A outer s H vs Q E hr h => ?_)
  · obtain ⟨a, b, l, m, p, rfl, _⟩ := h
    rfl
  · obtain ⟨a, b, l, m, p, rfl, po, po', fl, fm, hb, hp, c, q⟩ := h
    refine ⟨_, (pss_cons (ps_par (i := 3) (j := 4) rfl sc_part.nd rfl rfl (by decide) rfl rfl (pa_cons (pe_cl c_red hr (pa_cons (pv 1) (pa_cons (pv 2) pa_nil))) (pa_cons (pe_cl c_red hr (pa_cons (pv 0) (pa_cons (pv 2) pa_nil))) pa_nil)) rfl)
 (pss_cons (ps_set (i := 5) sc_part.nd rfl (Or.inl rfl) (pe_ix ix_tup (pe_fld (pv 3) rfl) (pe_un un_neg pe_int) (fun _ _ => rfl)))
 (pss_cons (ps_par (i := 6) (j := 7) rfl sc_part.nd rfl rfl (by decide) rfl rfl (pa_cons pe_int (pa_cons (pe_ma c_pil hr T.g (pa_cons (pe_lst pa_nil) pa_nil)) pa_nil)) rfl)
 (Evl.pss_cut (ps_while PassesOwn.never (pt_cmpR op_ge (pe_me0 c_deg T.cl hr (pv 4) ) (pe_me0 c_deg T.cl hr (pv 3) ) (nomark _)) (Evl.pss_cut (ps_set (i := 8) sc_part.nd rfl (Or.inl rfl) (pe_cl c_term hr (pa_cons (pe_ix ix_tup (pe_fld (pv 4) rfl) (pe_un un_neg pe_int) (fun _ _ => rfl)) (pa_cons (pe_op op_sub (pe_me0 c_deg T.cl hr (pv 4) ) (pe_me0 c_deg T.cl hr (pv 3) )) pa_nil))))
 (Evl.pss_cut (ps_set (i := 6) sc_part.nd rfl (Or.inl rfl) (pe_cl c_rem hr (pa_cons (pe_op op_mul (pv 6) (pv 5)) (pa_cons (pv 2) pa_nil))))
 (Evl.pss_cut (ps_set (i := 7) sc_part.nd rfl (Or.inl rfl) (pe_cl c_red hr (pa_cons (pe_op (op_own2 c_add hr T.sf) (pe_op (op_own2 c_mul hr T.sf) (pv 7) (pe_cm c_whole hr (pe_glob (v := .ref C) (by rfl) T.g rfl) (pa_cons (pv 5) pa_nil))) (pv 8)) (pa_cons (pv 2) pa_nil))))
 (pss_one (ps_set (i := 4) sc_part.nd rfl (Or.inl rfl) (pe_cl c_red hr (pa_cons (pe_op (op_own2 c_sub hr T.sf) (pe_op (op_own2 c_mul hr T.sf) (pv 4) (pe_cm c_whole hr (pe_glob (v := .ref C) (by rfl) T.g rfl) (pa_cons (pv 5) pa_nil))) (pe_op (op_own2 c_mul hr T.sf) (pv 8) (pv 3))) (pa_cons (pv 2) pa_nil)))))))))
 (pss_one (ps_ret (pe_tup (pa_cons (pv 6) (pa_cons (pv 7) (pa_cons (pv 4) pa_nil)))))))))), ?_⟩
    have p62 : p < 2 ^ 62 := by omega
    have p2 := hp.1
    -- divisor, rest
    refine ⟨_, rfl, _, rfl, b, m, p, rfl, po', by omega, fun dv H1 pd s1 => ?_⟩
    refine ⟨_, rfl, _, rfl, a, l, p, rfl, po.same s1, by omega, fun ra0 H2 pr0 s2 => ⟨.ref dv, .ref ra0, rfl, ?_⟩⟩
    have pd2 := pd.same s2
    obtain ⟨dx, t, d1, d2⟩ := pd2.ob
    have fD : (prem p m).length ≤ 20 := Nat.le_trans (prem_few p m) fm
    have dn : 0 < (prem p m).length := List.length_pos_iff.mpr c
    have db := rem_last pd.trm (prem_bd (by omega)) dn
    -- last
    refine ⟨_, rfl, dv, C, dx, _, _, rfl, d1, T.cl, T.nC, pyF_c _, _, rfl, t, _, _, _, rfl, rfl, d2, last_int dn, ?_⟩
    -- by, quotient
    refine ⟨(by show 0 ≤ sizeLine; decide), fun e ne => ?_⟩
    have g2 := same_upd (o := .lst []) ne
    refine fun qa0 qx nx ndx _ => make_poA (tup := false) (ns := []) nx ndx (SqL.of upd_same) (by decide) fun H3 pq0 s3 => ⟨rfl, .int 1, .ref qa0, rfl, ?_⟩
    have s23 := g2.trans s3
    have s13 := s2.trans s23
    have fr0 : (prem p l).length ≤ 20 := Nat.le_trans (prem_few p l) fl
    have pd_bd : ∀ z ∈ prem p m, 0 ≤ z ∧ z < p := prem_bd (by omega)
    have rb0 : ∀ z ∈ prem p l, 0 ≤ z ∧ z < p := prem_bd (by omega)
    have pr3 := pr0.same s23
    have pd3 := pd.same s13
    replace d1 := s23 _ _ d1
    obtain ⟨last, hlast⟩ : ∃ z : Int, z = (prem p m).getD ((prem p m).length - 1) 0 := ⟨_, rfl⟩
    rw [← hlast] at db ⊢
    generalize prem p m = D at *
    -- the loop
    refine ⟨fun σ H' => ∃ (qa ra : Addr) (by_ : Int) (q r : List Int) (x8 : Option V), DivM p by_ l D q r ∧ q.length ≤ 20 ∧ Bd 20 q ∧ r.length < D.length ∧ PolyAt K C H' qa q ∧ PolyAt K C H' ra r ∧ Same H1 H' ∧ σ = [some (.ref a), some (.ref b), some (.int p), some (.ref dv), some (.ref ra), some (.int last), some (.int by_), some (.ref qa), x8], ?_, ?_⟩
    · refine ⟨fun mm σ H' => ∃ (qa ra : Addr) (by_ : Int) (q r : List Int) (x8 : Option V), mm = r.length ∧ r.length ≤ 20 ∧ DivM p by_ l D q r ∧ q.length ≤ 20 ∧ Bd 20 q ∧ PolyAt K C H' qa q ∧ PolyAt K C H' ra r ∧ Same H1 H' ∧ σ = [some (.ref a), some (.ref b), some (.int p), some (.ref dv), some (.ref ra), some (.int last), some (.int by_), some (.ref qa), x8],
        ⟨_, qa0, ra0, 1, [], prem p l, none, rfl, fr0, divM0 p2 l D, Nat.zero_le _, fun _ h => (nomatch h), pq0, pr3, s13, rfl⟩, ?_⟩
      rintro mm σ H5 ⟨qa, ra, by_, q', r, x8, rfl, fr, dvs, fq, bq, pq, pr, s5, rfl⟩
      have pd5 := pd.same s5
      obtain ⟨rdx, rt, r1, r2⟩ := pr.ob
      obtain ⟨ddx, dt, e1, e2⟩ := pd5.ob
      refine ⟨_, rfl, ra, rdx, _, rfl, r1, pyF_no _ (by decide +kernel), ra, _, rfl, pr, _, rfl, dv, ddx, _, rfl, e1, pyF_no _ (by decide +kernel), dv, _, rfl, pd5, _, _, rfl, rfl, _, rfl, ?_⟩
      by_cases cl : D.length ≤ r.length
      · refine if_pos_of (decide_eq_true (by omega)) ⟨fun σ' H' => ∃ m', m' < r.length ∧ ∃ (qa ra : Addr) (by_ : Int) (q r : List Int) (x8 : Option V), m' = r.length ∧ r.length ≤ 20 ∧ DivM p by_ l D q r ∧ q.length ≤ 20 ∧ Bd 20 q ∧ PolyAt K C H' qa q ∧ PolyAt K C H' ra r ∧ Same H1 H' ∧ σ' = [some (.ref a), some (.ref b), some (.int p), some (.ref dv), some (.ref ra), some (.int last), some (.int by_), some (.ref qa), x8], fun _ _ h => h, ?_⟩
        have rbd := rem_last dvs.rt dvs.rb (by omega)
        obtain ⟨cc, hcc⟩ : ∃ cc : Int, cc = r.getD (r.length - 1) 0 := ⟨_, rfl⟩
        obtain ⟨e, he⟩ : ∃ e : Nat, e = r.length - D.length := ⟨_, rfl⟩
        have bcc : cc.natAbs < 2 ^ 20 := by omega
        -- step
        refine ⟨fun σ H' => Same H5 H' ∧ ∃ st : Addr, PolyAt K C H' st (trm cc e) ∧ σ = [some (.ref a), some (.ref b), some (.int p), some (.ref dv), some (.ref ra), some (.int last), some (.int by_), some (.ref qa), some (.ref st)], ?_, ?_⟩
        · refine ⟨_, rfl, ra, C, rdx, _, _, rfl, r1, T.cl, T.nC, pyF_c _, _, rfl, rt, _, _, _, rfl, rfl, r2, last_int (by omega), ?_⟩
          refine ⟨_, rfl, ra, rdx, _, rfl, r1, pyF_no _ (by decide +kernel), ra, _, rfl, pr, _, rfl, dv, ddx, _, rfl, e1, pyF_no _ (by decide +kernel), dv, _, rfl, pd5, _, _, rfl, rfl, cc, e, ?_, by omega, fun st H6 ps s6 => ⟨s6, st, ps, rfl⟩⟩
          rw [hcc, he]
          show [V.int (r.getD (r.length - 1) 0), V.int (((r.length : Int) - 1) - ((D.length : Int) - 1))] = _
          rw [show ((r.length : Int) - 1) - ((D.length : Int) - 1) = ((r.length - D.length : Nat) : Int) by omega]
        rintro σ H6 ⟨s6, st, ps, rfl⟩
        -- by
        refine ⟨fun σ H' => H6 = H' ∧ σ = [some (.ref a), some (.ref b), some (.int p), some (.ref dv), some (.ref ra), some (.int last), some (.int (by_ * last % p)), some (.ref qa), some (.ref st)], ?_, ?_⟩
        · have b0 := dvs.b0
          have b1 := dvs.b1
          exact ⟨_, rfl, _, rfl, _, _, rfl, rfl, .inr ⟨by omega, by omega⟩, _, rfl, _, p, rfl, by omega, rfl, rfl⟩
        rintro σ _ ⟨rfl, rfl⟩
        obtain ⟨ok, less⟩ := divM_step hp dvs cl dn hlast db.1 db.2 hcc he
        have fst : (trm cc e).length ≤ e + 1 := by
          refine Nat.le_trans (trim_few _) ?_
          rw [List.length_append, List.length_replicate]
          exact Nat.le_refl _
        have flast : (trim [last]).length ≤ 1 := trim_few _
        have blast : Bd 20 (trim [last]) := Bd.trim fun z hz => by
          rw [List.mem_singleton.mp hz]
          omega
        have bst : Bd 20 (trm cc e) := Bd.trim (Bd.app (Bd.zeros 20 e) fun z hz => by rw [List.mem_singleton.mp hz]; exact bcc)
        have bD : Bd 20 D := fun z hz => by
          have := pd_bd z hz
          omega
        have br : Bd 20 r := fun z hz => by
          have := dvs.rb z hz
          omega
        -- quotient
        refine ⟨fun σ H' => Same H6 H' ∧ ∃ qb : Addr, PolyAt K C H' qb (prem p (pplus 1 (pmul q' (trim [last])) (trm cc e))) ∧ σ = [some (.ref a), some (.ref b), some (.int p), some (.ref dv), some (.ref ra), some (.int last), some (.int (by_ * last % p)), some (.ref qb), some (.ref st)], ?_, ?_⟩
        · refine ⟨_, rfl, rfl, _, rfl, last, rfl, fun w7 H7 pw s7 => ?_⟩
          have pq7 := (pq.same s6).same s7
          refine useP2 pq7 pw ⟨qa, w7, _, _, rfl, pq7, pw, by omega, bq.wide blast (by decide) (by decide) (by decide), fun m8 H8 pm s8 => ?_⟩
          have ps8 := ps.same (s7.trans s8)
          refine ⟨_, rfl, useP2 pm ps8 ⟨m8, st, _, _, rfl, pm, ps8, fun su H9 psu s9 => ?_⟩⟩
          exact ⟨_, rfl, su, _, p, rfl, psu, by omega, fun qb H10 pqb s10 => ⟨s7.trans (s8.trans (s9.trans s10)), qb, pqb, rfl⟩⟩
        rintro σ H7 ⟨s7, qb, pqb, rfl⟩
        have ps7 := ps.same s7
        have pr7 := pr.same (s6.trans s7)
        have pd7 := pd5.same (s6.trans s7)
        refine ⟨_, rfl, rfl, _, rfl, last, rfl, fun w8 H8 pw s8 => ?_⟩
        refine useP2 (pr7.same s8) pw ⟨ra, w8, _, _, rfl, pr7.same s8, pw, by omega, br.wide blast (by decide) (by decide) (by decide), fun m9 H9 pm s9 => ?_⟩
        have ps9 := ps7.same (s8.trans s9)
        have pd9 := pd7.same (s8.trans s9)
        refine ⟨_, rfl, _, rfl, useP2 ps9 pd9 ⟨st, dv, _, _, rfl, ps9, pd9, by omega, bst.wide bD (by decide) (by decide) (by decide), fun mu H10 pm2 s10 => ?_⟩⟩
        refine useP2 (pm.same s10) pm2 ⟨m9, mu, _, _, rfl, pm.same s10, pm2, fun su H11 psu s11 => ?_⟩
        refine ⟨_, rfl, su, _, p, rfl, psu, by omega, fun rb H12 prb s12 => ?_⟩
        have s7' := s8.trans (s9.trans (s10.trans (s11.trans s12)))
        refine ⟨_, less, qb, rb, _, _, _, _, rfl, by omega, ok, ?_, fun z hz => ?_, pqb.same s7', prb, s5.trans ((s6.trans s7).trans s7'), rfl⟩
        · have a1 := prem_few p (pplus 1 (pmul q' (trim [last])) (trm cc e))
          have a2 := pplus_few 1 (pmul q' (trim [last])) (trm cc e)
          have a3 := pmul_const_few q' last
          omega
        · have := prem_bd (p := p) (by omega) z hz
          omega
      · exact if_neg_of (decide_eq_false (by omega)) ⟨qa, ra, by_, q', r, x8, dvs, fq, bq, by omega, pq, pr, s5, rfl⟩
    rintro σ H5 ⟨qa, ra, by_, q', r, x8, dvs, fq, bq, less, pq, pr, s5, rfl⟩
    refine ⟨_, rfl, _, rfl, _, rfl, (by show 3 ≤ sizeLine; decide), fun tt ntt => ?_⟩
    have g := same_upd (o := .tup [.int by_, .ref qa, .ref ra]) ntt
    exact q tt qa ra by_ q' r _ dvs fq less bq (pq.same g) (pr.same g) (s1.trans (s5.trans g)) upd_same
abbrev s_div : Stmt := top 27
theorem sc_div : FnScope ["first", "second", "p", "by", "quotient", "rest", "back"] ["first", "second", "p"] (defScope s_div) := ⟨rfl, rfl, rfl, by decide +kernel, rfl, by decide +kernel, by decide +kernel⟩
def spDiv (C CB CI : Addr) (K : PySem.W.Frag) : Sp := fun vs H Q E => ∃ (a b : Addr) (l m : List Int) (p : Int), vs = [.ref a, .ref b, .int p] ∧ PolyAt K C H a l ∧ PolyAt K C H b m ∧ l.length ≤ 20 ∧ m.length ≤ 20 ∧ p < 2 ^ 20 ∧
  (¬ Pr p → ∀ d H', Same H H' → H' d = some (.xd [("p", .int p)]) → E (.ref CB) (some d) H') ∧
  (Pr p → prem p m = [] → ∀ H', Same H H' → E (.ref CI) none H') ∧
  (Pr p → prem p m ≠ [] → ∀ t qa ra q r H', DivS p l (prem p m) q r → q.length ≤ 20 → r.length < (prem p m).length → PolyAt K C H' qa (prem p q) → PolyAt K C H' ra r → Same H H' → H' t = some (.tup [.ref qa, .ref ra]) → Q (.ref t) H')
theorem ok_div {f C CB CI : Addr} {fd : FuncData} (TT : Txt mg) (T : PoT K mg C) (F : Fun K "divided_in" "divided_in" s_div f fd) (c_chkp : Cl P w K mg base (L2N.CX P w) 3 "checked_prime" (spChkp CB)) (c_red : Cl P w K mg base CX0 4 "_reduced" (spRed C K)) (c_recip : Cl P w K mg base CX0 2 "reciprocal" spRecip) (c_part : Cl P w K mg base CX0 6 "parted" (spPart C K))
    (x_ni : ErG P w K mg base "NoInverse" CI (spInit0 CI)) (c_whole : Cm P w K mg base 4 C "whole" (spPwhole C K)) (c_mul : Me P w K mg base 4 C "__mul__" (spPmul C K)) :
    FnOk P w K mg base (L2N.CX P w) 7 f fd ["first", "second", "p"] (spDiv C CB CI K) := by
  refine okN F sc_div (fun vs H Q E h => ?_) (fun cdv A outer s H vs Q E hr h => ?_)
  · obtain ⟨a, b, l, m, p, rfl, _⟩ := h
    rfl
  · obtain ⟨a, b, l, m, p, rfl, po, po', fl, fm, hb, eb, ei, q⟩ := h
    refine ⟨_, (pss_cons (ps_expr (pe_clNX c_chkp hr (L2N.takes_of rfl rfl rfl rfl) (pa_cons (pv 2) pa_nil)))
 (pss_cons (ps_if (pt_not (pt_truth (pe_fld (pe_cl c_red hr (pa_cons (pv 1) (pa_cons (pv 2) pa_nil))) rfl) (by intro _; rfl))) (pss_one (ps_raiseZ x_ni hr (L2N.takes_of rfl rfl rfl rfl))) pss_nil)
 (Evl.pss_cut (ps_asg (pe_cl c_part hr (pa_cons (pv 0) (pa_cons (pv 1) (pa_cons (pv 2) pa_nil)))) (pg_tup rfl (pgs_cons (pg_name (i := 3) sc_div.nd rfl (Or.inl rfl)) (pgs_cons (pg_name (i := 4) sc_div.nd rfl (Or.inl rfl)) (pgs_cons (pg_name (i := 5) sc_div.nd rfl (Or.inl rfl)) pgs_nil)))))
 (pss_cons (ps_set (i := 6) sc_div.nd rfl (Or.inl rfl) (pe_cm c_whole hr (pe_glob (v := .ref C) (by rfl) T.g rfl) (pa_cons (pe_cl c_recip hr (pa_cons (pv 3) (pa_cons (pv 2) pa_nil))) pa_nil)))
 (pss_one (ps_ret (pe_tup (pa_cons (pe_cl c_red hr (pa_cons (pe_op (op_own2 c_mul hr T.sf) (pv 4) (pv 6)) (pa_cons (pv 2) pa_nil))) (pa_cons (pe_cl c_red hr (pa_cons (pe_op (op_own2 c_mul hr T.sf) (pv 5) (pv 6)) (pa_cons (pv 2) pa_nil))) pa_nil))))))))), ?_⟩
    have p62 : p < 2 ^ 62 := by omega
    refine ⟨_, rfl, p, rfl, p62, fun hp => ?_, fun hn d H' s hd => eb hn d H' s hd⟩
    have p2 := hp.1
    refine ⟨_, rfl, _, rfl, b, m, p, rfl, po', by omega, fun dv H1 pd s1 => ?_⟩
    obtain ⟨dx, t, d1, d2⟩ := pd.ob
    refine ⟨dv, C, dx, _, _, rfl, d1, T.cl, T.nC, pyF_c _, _, .inr (.inl ⟨_, d2, rfl⟩), ?_⟩
    by_cases c : prem p m = []
    · exact if_pos_of (by rw [c] <;> rfl) (mk0 fun H2 s2 => ei hp c H2 (s1.trans s2))
    refine if_neg_of (by cases hh : prem p m with | nil => exact absurd hh c | cons x xs => rfl) ?_
    have q := q hp c
    refine ⟨fun σ H' => Same H H' ∧ ∃ (qa ra : Addr) (by_ : Int) (q r : List Int), DivM p by_ l (prem p m) q r ∧ q.length ≤ 20 ∧ r.length < (prem p m).length ∧ Bd 20 q ∧ PolyAt K C H' qa q ∧ PolyAt K C H' ra r ∧ σ = [some (.ref a), some (.ref b), some (.int p), some (.int by_), some (.ref qa), some (.ref ra), none], ?_, ?_⟩
    · refine ⟨_, rfl, _, rfl, _, rfl, a, b, l, m, p, rfl, po.same s1, po'.same s1, fl, fm, hb, hp, c, fun t qa ra by_ q r H2 dv fq fr bq pq pr s2 ht => ?_⟩
      exact ⟨t, _, rfl, SqT.of ht, rfl, _, _, rfl, _, _, rfl, _, _, rfl, rfl, s1.trans s2, qa, ra, by_, q, r, dv, fq, fr, bq, pq, pr, rfl⟩
    rintro σ H2 ⟨s2, qa, ra, by_, q', r, dv, fq, fr, bq, pq, pr, rfl⟩
    refine ⟨rfl, _, rfl, _, rfl, _, p, rfl, hp, p62, dv.b0, dv.b1, fun u H3 u0 u1 hu s3 => ⟨u, rfl, fun ba H4 pb s4 => ?_⟩⟩
    have fu : (trim [u]).length ≤ 1 := trim_few _
    have bu : Bd 20 (trim [u]) := Bd.trim fun z hz => by
      rw [List.mem_singleton.mp hz]
      omega
    have fD : (prem p m).length ≤ 20 := Nat.le_trans (prem_few p m) fm
    have br : Bd 20 r := fun z hz => by
      have := dv.rb z hz
      omega
    have s34 := s3.trans s4
    have pq4 := pq.same s34
    refine ⟨_, rfl, _, rfl, useP2 pq4 pb ⟨qa, ba, _, _, rfl, pq4, pb, by omega, bq.wide bu (by decide) (by decide) (by decide), fun m5 H5 pm s5 => ?_⟩⟩
    refine ⟨_, rfl, m5, _, p, rfl, pm, by omega, fun qb H6 pqb s6 => ?_⟩
    have s36 := s34.trans (s5.trans s6)
    have pr6 := pr.same s36
    have pb6 := pb.same (s5.trans s6)
    refine ⟨_, rfl, _, rfl, useP2 pr6 pb6 ⟨ra, ba, _, _, rfl, pr6, pb6, by omega, br.wide bu (by decide) (by decide) (by decide), fun m7 H7 pm7 s7 => ?_⟩⟩
    refine ⟨_, rfl, m7, _, p, rfl, pm7, by omega, fun rb H8 prb s8 => ?_⟩
    refine ⟨(by show 2 ≤ sizeLine; decide), fun tt ntt => ?_⟩
    have g := same_upd (o := .tup [.ref qb, .ref rb]) ntt
    have l1 := pmul_const_few q' u
    have l2 := pmul_const_few r u
    have l3 := prem_few p (pmul r (trim [u]))
    exact q tt qb rb (pmul q' (trim [u])) (prem p (pmul r (trim [u]))) _ (divM_back (by omega) dv hu) (by omega) (by omega) (pqb.same ((s7.trans s8).trans g)) (prb.same g) (s2.trans (s36.trans ((s7.trans s8).trans g))) upd_same
abbrev s_roots : Stmt := top 28
theorem sc_roots : FnScope ["poly", "p", "found", "x"] ["poly", "p"] (defScope s_roots) := ⟨rfl, rfl, rfl, by decide +kernel, rfl, by decide +kernel, by decide +kernel⟩
/-- the numbers from 0 for which b says yes -/
def selN (b : Int → Bool) (n : Nat) : List Int := ((List.range n).map fun (k : Nat) => (k : Int)).filter b
theorem selN_succ (b : Int → Bool) (n : Nat) : selN b (n + 1) = selN b n ++ (if b (n : Int) = true then [(n : Int)] else []) := by
  unfold selN
  rw [List.range_succ, List.map_append, List.filter_append]
  congr 1
  show List.filter b [(n : Int)] = _
  rw [List.filter_cons]
  rfl
theorem selN_few (b : Int → Bool) : ∀ n, (selN b n).length ≤ n
  | 0 => Nat.le_refl 0
  | n + 1 => by
    rw [selN_succ, List.length_append]
    have := selN_few b n
    split
    · exact Nat.succ_le_succ this
    · exact Nat.le_succ_of_le this
theorem PvM.pushL {H1 H4 : Hp} {D : Addr} {f : Nat → List V} {i : Nat} {y : V} (hD : H1 D = none) (s : Same H1 H4) (hd : H4 D = some (.lst (f i))) (few : (f i).length < 100000) (hf : f (i + 1) = f i ++ [y]) :
    ∃ acc, H4 D = some (.lst acc) ∧ acc.length < sizeLine ∧ PvM H1 D f (i + 1) (upd H4 D (.lst (acc ++ [y]))) :=
  ⟨f i, hd, by rw [sizeLine_eq]; omega, fun b o eb => by
    rw [upd_ne (ne_of_none eb hD)]
    exact s b o eb, by rw [hf]; exact upd_same⟩
/-- the end of a turn that keeps x where b says so -/
theorem selEnd {H1 H4 : Hp} {D : Addr} {b : Int → Bool} {i : Nat} {bb : Bool} (hD : H1 D = none) (few : i < 90000) (s : Same H1 H4) (hd : H4 D = some (.lst ((selN b i).map V.int))) (hb : bb = b (i : Int)) :
    if bb = true then ∃ acc, H4 D = some (.lst acc) ∧ acc.length < sizeLine ∧ PvM H1 D (fun i => (selN b i).map V.int) (i + 1) (upd H4 D (.lst (acc ++ [.int (i : Int)]))) else PvM H1 D (fun i => (selN b i).map V.int) (i + 1) H4 := by
  cases e : bb with
  | true =>
    rw [if_pos rfl]
    refine PvM.pushL hD s hd (by have := selN_few b i; rw [List.length_map]; omega) ?_
    show (selN b (i + 1)).map V.int = _
    rw [selN_succ, if_pos (by rw [← hb, e]), List.map_append]
    rfl
  | false =>
    rw [if_neg Bool.false_ne_true]
    refine PvM.skip s hd ?_
    show (selN b (i + 1)).map V.int = _
    rw [selN_succ, if_neg (by rw [← hb, e]; exact Bool.false_ne_true), List.append_nil]
theorem iteS {b : Bool} {A B C : Prop} (h : if b = true then A else B) (k : A → C) : if b = true then C else B := by
  cases b with
  | true => rw [if_pos rfl] at h ⊢; exact k h
  | false => rw [if_neg Bool.false_ne_true] at h ⊢; exact h
theorem bl_int (x y : Int) : decide (V.int x = V.int y) = decide (x = y) := by
  by_cases c : x = y
  · rw [decide_eq_true c, decide_eq_true (by rw [c])]
  · rw [decide_eq_false c, decide_eq_false fun e => c (V.int.inj e)]
def zeroB (p : Int) (l : List Int) (x : Int) : Bool := decide (pev l x % p = 0)
theorem pev_map (p : Int) (x : Int) : ∀ l : List Int, p ∣ pev l x - pev (l.map (· % p)) x
  | [] => ⟨0, by rw [Int.mul_zero] <;> rfl⟩
  | c :: l => by
    obtain ⟨k, hk⟩ := pev_map p x l
    refine ⟨c / p + x * k, ?_⟩
    show c + x * pev l x - (c % p + x * pev (l.map (· % p)) x) = _
    have a := Int.emod_add_mul_ediv c p
    have : x * pev l x = x * pev (l.map (· % p)) x + x * (p * k) := by rw [← Int.mul_add, ← hk]; congr 1; omega
    rw [this, Int.mul_add, Int.mul_left_comm x p k]
    omega
theorem pev_prem (p x : Int) (l : List Int) : pev (prem p l) x % p = pev l x % p := by
  unfold prem
  rw [pev_trim]
  refine (Int.emod_eq_emod_iff_emod_sub_eq_zero.mpr (Int.emod_eq_zero_of_dvd ?_)).symm
  exact pev_map p x l
def spRoots (C CB : Addr) (K : PySem.W.Frag) : Sp := fun vs H Q E => ∃ (a : Addr) (l : List Int) (p : Int), vs = [.ref a, .int p] ∧ PolyAt K C H a l ∧ l.length ≤ 20 ∧ p < 2000 ∧
  (¬ Pr p → ∀ d H', Same H H' → H' d = some (.xd [("p", .int p)]) → E (.ref CB) (some d) H') ∧
  (Pr p → ∀ r H', Same H H' → H' r = some (.lst ((selN (zeroB p l) p.toNat).map V.int)) → Q (.ref r) H')
theorem ok_roots {f C CB : Addr} {fd : FuncData} (TT : Txt mg) (T : PoT K mg C) (F : Fun K "roots_in" "roots_in" s_roots f fd) (c_chkp : Cl P w K mg base (L2N.CX P w) 3 "checked_prime" (spChkp CB)) (c_red : Cl P w K mg base CX0 4 "_reduced" (spRed C K)) (c_call : Co P w K mg base 1 C (spPcall C K)) :
    FnOk P w K mg base (L2N.CX P w) 5 f fd ["poly", "p"] (spRoots C CB K) := by
  refine okN F sc_roots (fun vs H Q E h => ?_) (fun cdv A outer s H vs Q E hr h => ?_)
  · obtain ⟨a, l, p, rfl, _⟩ := h
    rfl
  · obtain ⟨a, l, p, rfl, po, fl, hb, eb, q⟩ := h
    refine ⟨_, (pss_cons (ps_set (i := 2) sc_roots.nd rfl (Or.inr rfl) (pe_cl c_red hr (pa_cons (pv 0) (pa_cons (pe_clNX c_chkp hr (L2N.takes_of rfl rfl rfl rfl) (pa_cons (pv 1) pa_nil)) pa_nil))))
 (pss_one (ps_ret (pe_lc (own := [("x", 3)]) (g := (gName 3)) rfl sc_roots.nd (pi_range1 rfl TT.range (pa_cons (pv 1) pa_nil)) (blkOk_by (N := ["poly", "p", "found", "x"]) (sc := defScope s_roots) (by decide +kernel)) (fun _ _ _ _ _ => (pg_name (i := 3) sc_roots.nd rfl (Or.inl rfl))) (fun _ _ _ _ _ => (pts_one (pt_cmpR op_eq (pe_op op_mod (pe_inst c_call (by exact hr) (pv 2) (pa_cons (pv 3) pa_nil)) (pv 1)) pe_int (nomark _)))) (fun _ _ _ _ _ => (pv 3)))))), ?_⟩
    refine ⟨_, rfl, _, rfl, p, rfl, by omega, fun hp => ?_, fun hn d H' s hd => eb hn d H' s hd⟩
    have p2 := hp.1
    refine ⟨a, l, p, rfl, po, by omega, fun fa H1 pf s1 => ?_⟩
    obtain ⟨dx, t, f1, f2⟩ := pf.ob
    refine ⟨_, rfl, p, rfl, by omega, by omega, fun D nD => lcW walk_range0 (fun i => (selN (zeroB p l) i).map V.int) nD rfl (fun _ _ => trivial) ?_ ?_⟩
    · rintro i x H2 H2' hi s2 hL ⟨rfl, rfl⟩
      refine ⟨rfl, _, rfl, fa, rfl, _, rfl, .inr ⟨dx, _, s2 _ _ f1⟩, fa, _, (i : Int), rfl, pf.same s2, by omega, by omega, _, rfl, _, _, rfl, rfl, (by show 0 < p; omega), rfl, _, rfl, ?_⟩
      refine iteS (selEnd nD (by omega) s2 hL (b := zeroB p l) (bb := decide (V.int (pev (prem p l) (i : Int) % p) = V.int 0)) ?_) fun h => ⟨_, rfl, h⟩
      unfold zeroB
      rw [pev_prem]
      exact bl_int _ _
    · intro H2 s2 hL
      exact q hp D H2 (s1.trans s2) hL
-- part k35h
theorem pr_of_trials {n k : Int} (hn : 2 ≤ n) (hk : 2 ≤ k) (hs : n < k * k) (hm : ∀ m : Int, 2 ≤ m → m < k → ¬ m ∣ n) : Pr n := by
  refine ⟨hn, fun m h1 h2 h3 => ?_⟩
  obtain ⟨d, d2, ds, _, dn⟩ := small_div (n := n) (s := k - 1) hn h1 h2 h3 (by omega) (by rw [Int.sub_add_cancel]; exact hs)
  exact hm d d2 (by omega) dn
theorem root_le {k n : Int} (hk : 2 ≤ k) (h : k * k ≤ n) : k < n ∧ 2 * k ≤ n := by
  have : 2 * k ≤ k * k := Int.mul_le_mul_of_nonneg_right hk (by omega)
  omega
abbrev s_lprime : Stmt := top 33
theorem sc_lprime : FnScope ["_law_n", "_law_k"] ["_law_n"] (defScope s_lprime) := ⟨rfl, rfl, rfl, by decide +kernel, rfl, by decide +kernel, by decide +kernel⟩
/-- of an odd integer from 3 on -/
def spOddPr : Sp := fun vs H Q _ => ∃ n : Int, vs = [.int n] ∧ 3 ≤ n ∧ n % 2 = 1 ∧ n < 2 ^ 60 ∧ Q (.bl (prB n)) H
theorem ok_lprime {f : Addr} {fd : FuncData} (F : Fun K "_law_is_prime" "_law_is_prime" s_lprime f fd) : FnOk P w K mg base CX0 1 f fd ["_law_n"] spOddPr := by
  refine F.ok sc_lprime (fun vs H Q E h => ?_) (fun cdv A outer s H vs Q E hr h => ?_)
  · obtain ⟨n, rfl, _⟩ := h
    rfl
  · obtain ⟨n, rfl, n3, odd, hb, q⟩ := h
    refine ⟨_, (pss_cons (ps_if (pw_or (pt_cmpR op_lt (pv 0) pe_int (nomark _)) (pw_or1 (pt_cmpR op_eq (pe_op op_mod (pv 0) pe_int) pe_int (nomark _)))).pt (pss_one (ps_ret pe_bl)) pss_nil)
 (pss_cons (ps_set (i := 1) sc_lprime.nd rfl (Or.inl rfl) pe_int)
 (pss_cons (ps_while PassesOwn.never (pt_cmpR op_le (pe_op op_mul (pv 1) (pv 1)) (pv 0) (nomark _)) (pss_cons (ps_if (pt_cmpR op_eq (pe_op op_mod (pv 0) (pv 1)) pe_int (nomark _)) (pss_one (ps_ret pe_bl)) pss_nil)
 (pss_one (ps_set (i := 1) sc_lprime.nd rfl (Or.inl rfl) (pe_op op_add (pv 1) pe_int)))))
 (pss_one (ps_ret pe_bl))))), ?_⟩
    refine ⟨_, rfl, _, _, rfl, rfl, _, rfl, if_neg_of (decide_eq_false (by omega)) ?_⟩
    refine ⟨_, rfl, _, _, rfl, rfl, (by show (0 : Int) < 2; decide), rfl, _, rfl, if_neg_of (decide_eq_false fun e => by have := V.int.inj e; omega) ?_⟩
    refine ⟨fun mm σ H' => H' = H ∧ ∃ k : Int, mm = (n + 2 - k).toNat ∧ σ = [some (.int n), some (.int k)] ∧ 3 ≤ k ∧ k ≤ n ∧ k % 2 = 1 ∧ ∀ m : Int, 2 ≤ m → m < k → ¬ m ∣ n, ⟨_, rfl, 3, rfl, rfl, by omega, by omega, by omega, fun m h1 h2 h3 => ?_⟩, ?_⟩
    · have : m = 2 := by omega
      rw [this] at h3
      omega
    rintro mm σ _ ⟨rfl, k, rfl, rfl, k3, kn, ko, hm⟩
    refine ⟨_, rfl, _, rfl, _, _, rfl, rfl, .inl ⟨by omega, by omega⟩, _, rfl, _, _, rfl, rfl, _, rfl, ?_⟩
    by_cases c2 : k * k ≤ n
    · have kl := root_le (show 2 ≤ k by omega) c2
      refine if_pos_of (decide_eq_true c2) ⟨fun σ' H' => ∃ m', m' < (n + 2 - k).toNat ∧ H' = _ ∧ ∃ k : Int, m' = (n + 2 - k).toNat ∧ σ' = [some (.int n), some (.int k)] ∧ 3 ≤ k ∧ k ≤ n ∧ k % 2 = 1 ∧ ∀ m : Int, 2 ≤ m → m < k → ¬ m ∣ n, fun _ _ h => h, ?_⟩
      refine ⟨_, rfl, _, rfl, _, _, rfl, rfl, (by show 0 < k; omega), rfl, _, rfl, ?_⟩
      by_cases c3 : k ∣ n
      · refine if_pos_of (decide_eq_true (congrArg V.int (Int.emod_eq_zero_of_dvd c3))) ?_
        rw [prB_false fun p => p.2 k (by omega) (by omega) c3] at q
        exact q
      · refine if_neg_of (decide_eq_false fun e => c3 (Int.dvd_of_emod_eq_zero (V.int.inj e))) ?_
        have c4 : ¬ (k + 1) ∣ n := fun ⟨z, hz⟩ => by
          obtain ⟨y, hy⟩ : ∃ y, k + 1 = 2 * y := ⟨(k + 1) / 2, by omega⟩
          rw [hy, Int.mul_assoc] at hz
          omega
        have kn2 : k + 2 ≤ n := by omega
        refine ⟨_, rfl, _, _, rfl, rfl, _, ?_, rfl, k + 2, rfl, rfl, by omega, kn2, by omega, fun m h1 h2 => ?_⟩
        · omega
        · by_cases e : m < k
          · exact hm m h1 e
          · have : m = k ∨ m = k + 1 := by omega
            rcases this with rfl | rfl
            · exact c3
            · exact c4
    · refine if_neg_of (decide_eq_false c2) ?_
      rw [prB_true (pr_of_trials (by omega) (show 2 ≤ k by omega) (by omega) hm)] at q
      exact q
abbrev s_lpf : Stmt := top 34
theorem sc_lpf : FnScope ["_law_n"] ["_law_n"] (defScope s_lpf) := ⟨rfl, rfl, rfl, by decide +kernel, rfl, by decide +kernel, by decide +kernel⟩
theorem pr_1993 : Pr 1993 := pr_of_trial (n := 1993) 60 (by decide +kernel)
def spLpf : Sp := fun vs H Q _ => ∃ n : Int, vs = [.int n] ∧ n < 1990 ∧ ∀ p : Int, Pr p → p ≤ 1993 → Q (.int p) H
theorem ok_lpf {f : Addr} {fd : FuncData} (T : Txt mg) (F : Fun K "_law_prime_from" "_law_prime_from" s_lpf f fd) (c_lprime : Cl P w K mg base CX0 1 "_law_is_prime" spOddPr) : FnOk P w K mg base CX0 2 f fd ["_law_n"] spLpf := by
  refine F.ok sc_lpf (fun vs H Q E h => ?_) (fun cdv A outer s H vs Q E hr h => ?_)
  · obtain ⟨n, rfl, _⟩ := h
    rfl
  · obtain ⟨n, rfl, hn, q⟩ := h
    refine ⟨_, (pss_cons (ps_set (i := 0) sc_lpf.nd rfl (Or.inl rfl) (pe_callB (call_max2 rfl) (by rfl) T.max boot_max (pa_cons (pv 0) (pa_cons pe_int pa_nil))))
 (pss_cons (ps_set (i := 0) sc_lpf.nd rfl (Or.inl rfl) (pe_op op_sub (pe_op op_add (pv 0) pe_int) (pe_op op_mod (pv 0) pe_int)))
 (pss_cons (ps_while PassesOwn.never (pt_not (pt_val (pe_cl c_lprime hr (pa_cons (pv 0) pa_nil)))) (pss_one (ps_set (i := 0) sc_lpf.nd rfl (Or.inl rfl) (pe_op op_add (pv 0) pe_int))))
 (pss_one (ps_ret (pv 0)))))), ?_⟩
    refine ⟨_, rfl, _, _, rfl, ?_⟩
    have m3 : 3 ≤ (if 3 > n then 3 else n) ∧ (if 3 > n then 3 else n) < 1990 := by
      split <;> omega
    generalize (if 3 > n then 3 else n) = m at m3 ⊢
    refine ⟨_, rfl, _, _, rfl, rfl, _, rfl, _, _, rfl, rfl, (by show (0 : Int) < 2; decide), _, _, rfl, rfl, ?_⟩
    refine ⟨fun mm σ H' => H' = H ∧ ∃ k : Int, mm = (1993 - k).toNat ∧ σ = [some (.int k)] ∧ 3 ≤ k ∧ k ≤ 1993 ∧ k % 2 = 1, ⟨_, rfl, m + 1 - m % 2, rfl, rfl, by omega, by omega, by omega⟩, ?_⟩
    rintro mm σ _ ⟨rfl, k, rfl, rfl, k3, kn, ko⟩
    refine ⟨_, rfl, k, rfl, k3, ko, by omega, _, rfl, ?_⟩
    by_cases c : Pr k
    · refine if_neg_of (by rw [prB_true c]; rfl) ?_
      exact ⟨_, rfl, q k c kn⟩
    · have ne : k ≠ 1993 := fun e => c (e ▸ pr_1993)
      refine if_pos_of (by rw [prB_false c]; rfl) ⟨fun σ' H' => ∃ m', m' < (1993 - k).toNat ∧ H' = _ ∧ ∃ k : Int, m' = (1993 - k).toNat ∧ σ' = [some (.int k)] ∧ 3 ≤ k ∧ k ≤ 1993 ∧ k % 2 = 1, fun _ _ h => h, ?_⟩
      exact ⟨_, rfl, _, _, rfl, rfl, _, by omega, rfl, k + 2, rfl, rfl, by omega, by omega, by omega⟩
abbrev s_ldiv : Stmt := top 37
theorem sc_ldiv : FnScope ["_law_first", "_law_second", "_law_p", "e"] ["_law_first", "_law_second", "_law_p"] (defScope s_ldiv) := ⟨rfl, rfl, rfl, by decide +kernel, rfl, by decide +kernel, by decide +kernel⟩
def spLdiv (C : Addr) (K : PySem.W.Frag) : Sp := fun vs H Q _ => ∃ (a b : Addr) (l m : List Int) (p : Int), vs = [.ref a, .ref b, .int p] ∧ PolyAt K C H a l ∧ PolyAt K C H b m ∧ l.length ≤ 20 ∧ m.length ≤ 20 ∧ p < 2 ^ 20 ∧
  (¬ Pr p → ∀ r H', Same H H' → H' r = some (.lst [.str "bad", .int p]) → Q (.ref r) H') ∧
  (Pr p → prem p m = [] → ∀ H', Same H H' → Q (.str "none") H') ∧
  (Pr p → prem p m ≠ [] → ∀ t qa ra q r H', DivS p l (prem p m) q r → q.length ≤ 20 → r.length < (prem p m).length → PolyAt K C H' qa (prem p q) → PolyAt K C H' ra r → Same H H' → H' t = some (.tup [.ref qa, .ref ra]) → Q (.ref t) H')
structure ExN (K : PySem.W.Frag) (mg : Str → Option Value) (x : Str) (C : Addr) : Prop where
  g : mg x = some (.ref C)
  te : PySem.W.exmOne K (.ref C) (.ref C) = some true
theorem ok_ldiv {f C CB CI fB : Addr} {fd : FuncData} (TB : ErrC K mg "BadCharacteristic" "p" CB fB) (TI : ExN K mg "NoInverse" CI) (ex : PySem.W.exmOne K (.ref CB) (.ref CI) = some false) (F : Fun K "_law_divided" "_law_divided" s_ldiv f fd) (c_div : Cl P w K mg base (L2N.CX P w) 7 "divided_in" (spDiv C CB CI K)) :
    FnOk P w K mg base CX0 8 f fd ["_law_first", "_law_second", "_law_p"] (spLdiv C K) := by
  refine F.ok sc_ldiv (fun vs H Q E h => ?_) (fun cdv A outer s H vs Q E hr h => ?_)
  · obtain ⟨a, b, l, m, p, rfl, _⟩ := h
    rfl
  · obtain ⟨a, b, l, m, p, rfl, po, po', fl, fm, hb, qb, qi, q⟩ := h
    refine ⟨_, (pss_one (ps_try_ms rfl rfl sc_ldiv.nd takes0N
  (fun W pn xe tk _ => (pss_one (ps_ret (pe_clNX c_div hr tk (pa_cons (pv 0) (pa_cons (pv 1) (pa_cons (pv 2) pa_nil)))))))
  (.plain ⟨rfl, by decide, Or.inl TI.g⟩ (fun a oe cls d pn hz hf => (pss_one (ps_ret pe_str)))
   (.more (i := 3) rfl rfl ⟨rfl, by decide, Or.inl TB.g⟩ (fun a oe cls d pn hz hf => (pss_one (ps_ret (pe_lst (pa_cons pe_str (pa_cons (pe_xf TB.xf TB.no hz.zc hf (pv 3)) pa_nil))))))
   .none)))), ?_⟩
    refine ⟨_, rfl, _, rfl, _, rfl, a, b, l, m, p, rfl, po, po', fl, fm, hb, fun hn d H' s1 hd => ?_, fun hp e H' s1 => ?_, q⟩
    · exact ⟨false, ex, (fun z => Bool.noConfusion z), fun _ => ⟨true, TB.te, fun _ y ny => ⟨_, rfl, rfl, rfl, d, _, _, rfl, hd, rfl, (by show 2 ≤ sizeLine; decide), fun r nr => qb hn r _ (s1.trans (same_upd nr)) upd_same⟩, fun z => Bool.noConfusion z⟩⟩
    · exact ⟨true, TI.te, fun _ y ny => qi hp e H' s1, fun z => Bool.noConfusion z⟩
abbrev s_lref : Stmt := top 38
theorem sc_lref : FnScope ["_law_poly", "_law_p", "e"] ["_law_poly", "_law_p"] (defScope s_lref) := ⟨rfl, rfl, rfl, by decide +kernel, rfl, by decide +kernel, by decide +kernel⟩
def spLref (C : Addr) (K : PySem.W.Frag) : Sp := fun vs H Q _ => ∃ (a : Addr) (l : List Int) (p : Int), vs = [.ref a, .int p] ∧ PolyAt K C H a l ∧ l.length ≤ 20 ∧ p < 2000 ∧ ¬ Pr p ∧ ∀ H', Same H H' → Q (.bl true) H'
theorem ok_lref {f C CB fB : Addr} {fd : FuncData} (TB : ErrC K mg "BadCharacteristic" "p" CB fB) (F : Fun K "_law_refused" "_law_refused" s_lref f fd) (c_roots : Cl P w K mg base (L2N.CX P w) 5 "roots_in" (spRoots C CB K)) :
    FnOk P w K mg base CX0 6 f fd ["_law_poly", "_law_p"] (spLref C K) := by
  refine F.ok sc_lref (fun vs H Q E h => ?_) (fun cdv A outer s H vs Q E hr h => ?_)
  · obtain ⟨a, l, p, rfl, _⟩ := h
    rfl
  · obtain ⟨a, l, p, rfl, po, fl, hb, hn, q⟩ := h
    refine ⟨_, (pss_cons (L2N.ps_try_as (i := 2) rfl rfl sc_lref.nd rfl rfl ⟨rfl, by decide, Or.inl TB.g⟩ takes0N
  (fun W pn xe tk _ => (pss_one (ps_expr (pe_clNX c_roots hr tk (pa_cons (pv 0) (pa_cons (pv 1) pa_nil))))))
  (fun a oe cls d pn hz hf => (pss_one (ps_ret (pe_cmpR op_eq (pe_xf TB.xf TB.no hz.zc hf (pv 2)) (pv 1) (nomark _))))))
 (pss_one (ps_ret pe_bl))), ?_⟩
    refine ⟨_, rfl, _, rfl, a, l, p, rfl, po, fl, hb, fun _ d H' s1 hd => ?_, fun hp => absurd hp hn⟩
    refine ⟨true, TB.te, fun _ y ny => ?_, fun z => Bool.noConfusion z⟩
    refine ⟨_, rfl, rfl, rfl, d, _, _, rfl, hd, rfl, _, rfl, rfl, ?_⟩
    have := q H' s1
    rw [← decide_eq_true (rfl : V.int p = V.int p)] at this
    exact this
abbrev s_lvalp : Stmt := top 40
theorem sc_lvalp : FnScope ["_law_row_here", "_law_x", "_law_p", "_law_value_here", "_law_coefficient"] ["_law_row_here", "_law_x", "_law_p"] (defScope s_lvalp) := ⟨rfl, rfl, rfl, by decide +kernel, rfl, by decide +kernel, by decide +kernel⟩
def spLvalp (K : PySem.W.Frag) : Sp := fun vs H Q _ => ∃ (a : Addr) (l : List Int) (x p : Int), vs = [.ref a, .int x, .int p] ∧ SqL K H a (l.map V.int) ∧ l.length ≤ 200 ∧ 0 ≤ x ∧ x < 2 ^ 60 ∧ 0 < p ∧ ∀ H', Same H H' → Q (.int (pev l x % p)) H'
theorem horner (P x c p : Int) : (P % p * x + c) % p = (c + x * P) % p := by
  have a := Int.emod_add_mul_ediv P p
  have b : P % p * x = P * x - p * (P / p) * x := by rw [← Int.sub_mul]; congr 1; omega
  refine Int.emod_eq_emod_iff_emod_sub_eq_zero.mpr (Int.emod_eq_zero_of_dvd ⟨-(P / p * x), ?_⟩)
  rw [b, Int.mul_comm x P, Int.mul_neg, Int.mul_assoc]
  omega
theorem ok_lvalp {f : Addr} {fd : FuncData} (T : Txt mg) (F : Fun K "_law_value" "_law_value" s_lvalp f fd) : FnOk P w K mg base CX0 1 f fd ["_law_row_here", "_law_x", "_law_p"] (spLvalp K) := by
  refine F.ok sc_lvalp (fun vs H Q E h => ?_) (fun cdv A outer s H vs Q E hr h => ?_)
  · obtain ⟨a, l, x, p, rfl, _⟩ := h
    rfl
  · obtain ⟨a, l, x, p, rfl, hS, few, x0, x1, hp, q⟩ := h
    refine ⟨_, (pss_cons (ps_set (i := 3) sc_lvalp.nd rfl (Or.inl rfl) pe_int)
 (pss_cons (ps_for PassesOwn.never rfl (pi_list (pe_revL (pv 0))) (pg_name (i := 4) sc_lvalp.nd rfl (Or.inl rfl)) (pss_one (ps_set (i := 3) sc_lvalp.nd rfl (Or.inl rfl) (pe_op op_mod (pe_callTy call_int1 (by rfl) T.int boot_int (pa_cons (pe_op op_add (pe_op op_mul (pv 3) (pv 1)) (pv 4)) pa_nil)) (pv 2)))))
 (pss_one (ps_ret (pe_op op_mod (pe_callTy call_int1 (by rfl) T.int boot_int (pa_cons (pv 3) pa_nil)) (pv 2)))))), ?_⟩
    refine ⟨_, rfl, a, _, rfl, hS, fun r nr => ?_⟩
    have g1 := same_upd (o := .lst (l.map V.int).reverse) nr
    rw [← List.map_reverse] at g1 ⊢
    have hr1 : upd H r (.lst (l.reverse.map V.int)) r = some (.lst (l.reverse.map V.int)) := upd_same
    refine ⟨r, rfl, ⟨_, SqL.of hr1⟩, for_list (K := K) (a := r) (xs := l.reverse.map V.int) (fun i σ H' => H' = upd H r (.lst (l.reverse.map V.int)) ∧ ∃ x4, σ = [some (.ref a), some (.int x), some (.int p), some (.int (pev (l.drop (l.length - i)) x % p)), x4])
      ⟨rfl, none, by rw [Nat.sub_zero, List.drop_length, show pev [] x = 0 from rfl, Int.zero_emod] <;> rfl⟩ (fun i σ H' _ h => by rw [h.1]; exact SqL.of hr1) ?_ ?_⟩
    · rintro i y σ _ hi ⟨rfl, x4, rfl⟩
      obtain ⟨z, rfl, hz⟩ := item_int hi
      have hil := (List.getElem?_eq_some_iff.mp hz).1
      rw [List.length_reverse] at hil
      rw [List.getElem?_reverse hil] at hz
      refine ⟨_, rfl, _, rfl, _, _, rfl, rfl, .inr ⟨by omega, by omega⟩, _, rfl, _, _, rfl, rfl, .inl ⟨_, rfl, _, rfl, _, _, rfl, rfl, hp, rfl, some (.int z), ?_⟩⟩
      have e := pev_drop hz x
      rw [show l.length - 1 - i + 1 = l.length - i by omega] at e
      show [some (V.ref a), some (V.int x), some (V.int p), some (V.int ((pev (l.drop (l.length - i)) x % p * x + z) % p)), some (V.int z)] = _
      rw [horner, ← e, show l.length - 1 - i = l.length - (i + 1) by omega]
    · rintro σ _ ⟨rfl, x4, rfl⟩
      rw [List.length_map, List.length_reverse, Nat.sub_self, List.drop_zero]
      refine ⟨_, rfl, .inl ⟨_, rfl, _, rfl, _, _, rfl, rfl, hp, ?_⟩⟩
      show Q (.int (pev l x % p % p)) _
      rw [Int.emod_emod_of_dvd _ (Int.dvd_refl p)]
      exact q _ g1
theorem tyx_tup {K : PySem.W.Frag} {H : Hp} {a : Addr} {xs : List V} (h : SqT K H a xs) : TyX K H (.ref a) (.type "tuple") := by
  rcases h with (h | ⟨o, h⟩) | ⟨o, its, n, h, hc, _⟩
  · exact .base (.tup h)
  · exact .fTuple h
  · exact .kTuple h hc
theorem all_true (n : Nat) : (List.replicate n true).all id = true := by
  induction n with
  | zero => rfl
  | succ n ih => rw [List.replicate_succ, List.all_cons, ih]; rfl
abbrev s_lright : Stmt := top 39
theorem sc_lright : FnScope ["_law_first", "_law_second", "_law_p", "_law_told", "_law_k", "_law_poly"] ["_law_first", "_law_second", "_law_p"] (defScope s_lright) := ⟨rfl, rfl, rfl, by decide +kernel, rfl, by decide +kernel, by decide +kernel⟩
def spLright (C : Addr) (K : PySem.W.Frag) : Sp := fun vs H Q _ => ∃ (a b : Addr) (l m : List Int) (p : Int), vs = [.ref a, .ref b, .int p] ∧ PolyAt K C H a l ∧ PolyAt K C H b m ∧ l.length ≤ 20 ∧ m.length ≤ 20 ∧ Bd 100 m ∧ Pr p ∧ p < 2000 ∧ ∀ H', Same H H' → Q (.bl true) H'
theorem ok_lright {f C : Addr} {fd : FuncData} (TT : Txt mg) (hall : mg "all" = none) (T : PoT K mg C) (F : Fun K "_law_right" "_law_right" s_lright f fd) (c_ldiv : Cl P w K mg base CX0 8 "_law_divided" (spLdiv C K)) (c_inch : Cl P w K mg base CX0 5 "in_char" (spInch C K))
    (c_deg : Me P w K mg base 1 C "degree" (spPdeg C K)) (c_add : Me P w K mg base 4 C "__add__" (spPadd C K 1)) (c_mul : Me P w K mg base 4 C "__mul__" (spPmul C K)) (c_eq : Me P w K mg base 1 C "__eq__" (spPeq C K)) :
    FnOk P w K mg base CX0 9 f fd ["_law_first", "_law_second", "_law_p"] (spLright C K) := by
  refine F.ok sc_lright (fun vs H Q E h => ?_) (fun cdv A outer s H vs Q E hr h => ?_)
  · obtain ⟨a, b, l, m, p, rfl, _⟩ := h
    rfl
  · obtain ⟨a, b, l, m, p, rfl, po, po', fl, fm, bm, hp, hb, q⟩ := h
    refine ⟨_, (Evl.pss_cut (ps_set (i := 3) sc_lright.nd rfl (Or.inl rfl) (pe_cl c_ldiv hr (pa_cons (pv 0) (pa_cons (pv 1) (pa_cons (pv 2) pa_nil)))))
 (Evl.pss_cut (ps_if (pt_val (pe_callB (cr_all rfl) (by rfl) hall (by decide +kernel) (pa_cons (pe_lc (own := [("_law_k", 4)]) (g := (gName 4)) (tt := tYes) rfl sc_lright.nd (pi_tup (pe_fld (pv 1) rfl)) (blkOk_by (N := ["_law_first", "_law_second", "_law_p", "_law_told", "_law_k", "_law_poly"]) (sc := defScope s_lright) (by decide +kernel)) (fun _ _ _ _ _ => (pg_name (i := 4) sc_lright.nd rfl (Or.inl rfl))) (fun _ _ _ _ _ => pts_nil) (fun _ _ _ _ _ => (pe_cmpR op_eq (pe_op op_mod (pe_callTy call_int1 (by rfl) TT.int boot_int (pa_cons (pv 4) pa_nil)) (pv 2)) pe_int (nomark _)))) pa_nil))) (pss_one (ps_ret (pe_cmpR op_eq (pv 3) pe_str (nomark _)))) pss_nil)
 (Evl.pss_cut (ps_if (pw_or (pt_not (pt_val (pe_callB call_isi (by rfl) TT.isinstance boot_isinstance (pa_cons (pv 3) (pa_cons (pe_bltn (v := .ty "tuple") (by rfl) TT.tuple boot_tuple rfl) pa_nil))))) (pw_or1 (pt_cmpR op_ne (pe_callB call_len_seq (by rfl) TT.len PySem.boot_len (pa_cons (pv 3) pa_nil)) pe_int (nomark _)))).pt (pss_one (ps_ret pe_bl)) pss_nil)
 (Evl.pss_cut (ps_for PassesOwn.never rfl (pi_tup (pv 3)) (pg_name (i := 5) sc_lright.nd rfl (Or.inl rfl)) (pss_one (ps_if (pw_or (pt_not (pt_val (pe_callB (C8.call_isC T.isC) (by rfl) TT.isinstance boot_isinstance (pa_cons (pv 5) (pa_cons (pe_glob (v := .ref C) (by rfl) T.g rfl) pa_nil))))) (pw_or1 (pt_not (pt_val (pe_callB (cr_all rfl) (by rfl) hall (by decide +kernel) (pa_cons (pe_lc (own := [("_law_k", 4)]) (g := (gName 4)) (tt := tYes) rfl sc_lright.nd (pi_tup (pe_fld (pv 5) rfl)) (blkOk_by (N := ["_law_first", "_law_second", "_law_p", "_law_told", "_law_k", "_law_poly"]) (sc := defScope s_lright) (by decide +kernel)) (fun _ _ _ _ _ => (pg_name (i := 4) sc_lright.nd rfl (Or.inl rfl))) (fun _ _ _ _ _ => pts_nil) (fun _ _ _ _ _ => (pe_chain op_le op_lt pe_int (pv 4) (pv 2)))) pa_nil)))))).pt (pss_one (ps_ret pe_bl)) pss_nil)))
 (Evl.pss_cut (ps_if (pt_cmpR op_ge (pe_me0 c_deg T.cl hr (pe_ix ix_tup (pv 3) pe_int (fun _ _ => rfl)) ) (pe_me0 c_deg T.cl hr (pe_cl c_inch hr (pa_cons (pv 1) (pa_cons (pv 2) pa_nil))) ) (nomark _)) (pss_one (ps_ret pe_bl)) pss_nil)
 (pss_one (ps_ret (pe_cmpR (op_eq_own c_eq hr) (pe_cl c_inch hr (pa_cons (pe_op (op_own2 c_add hr T.sf) (pe_op (op_own2 c_mul hr T.sf) (pe_ix ix_tup (pv 3) pe_int (fun _ _ => rfl)) (pv 1)) (pe_ix ix_tup (pv 3) pe_int (fun _ _ => rfl))) (pa_cons (pv 2) pa_nil))) (pe_cl c_inch hr (pa_cons (pv 0) (pa_cons (pv 2) pa_nil))) (nomark _))))))))), ?_⟩
    have p2 := hp.1
    obtain ⟨mx, mt, m1, m2⟩ := po'.ob
    have hall0 : (m.map fun z => decide (V.int (z % p) = V.int 0)).all id = decide (prem p m = []) := by
      by_cases c : prem p m = []
      · rw [decide_eq_true c, List.all_map, List.all_eq_true]
        intro z hz
        obtain ⟨i, hi⟩ := List.getElem?_of_mem hz
        have e := prem_get p m i
        rw [c, getD_of hi] at e
        show decide (V.int (z % p) = V.int 0) = true
        rw [bl_int]
        exact decide_eq_true e.symm
      · rw [decide_eq_false c]
        cases e : (m.map fun z => decide (V.int (z % p) = V.int 0)).all id with
        | false => rfl
        | true =>
          rw [List.all_map, List.all_eq_true] at e
          refine absurd (List.length_eq_zero_iff.mp (Nat.le_zero.mp (trim_short (show Trim (prem p m) from trim_trim _) fun i _ => ?_))) c
          rw [prem_get]
          by_cases hi : i < m.length
          · have := e _ (List.mem_of_getElem? (getD_at hi))
            have : decide (V.int (m.getD i 0 % p) = V.int 0) = true := this
            rw [bl_int] at this
            exact of_decide_eq_true this
          · rw [getD_ge (by omega)]
            exact Int.zero_emod p
    by_cases cz : prem p m = []
    · refine ⟨fun σ H' => Same H H' ∧ σ = [some (.ref a), some (.ref b), some (.int p), some (.str "none"), none, none], ?_, ?_⟩
      · exact ⟨_, rfl, _, rfl, _, rfl, a, b, l, m, p, rfl, po, po', fl, fm, by omega, fun hn => absurd hp hn, fun _ _ H' s1 => ⟨s1, rfl⟩, fun _ hne => absurd cz hne⟩
      rintro σ H1 ⟨s1, rfl⟩
      refine ⟨fun σ H' => False, ?_, fun σ H' h => h.elim⟩
      refine ⟨_, rfl, b, C, mx, _, _, rfl, s1 _ _ m1, T.cl, T.nC, pyF_c _, mt, rfl, ⟨_, Evl.ex_t s1 m2⟩, fun D nD => lcMap walk_tup ((m.map fun z => decide (V.int (z % p) = V.int 0)).map V.bl) (by rw [List.length_map, List.length_map, List.length_map]) nD (fun H s => Evl.ex_t (s1.trans s) m2) ?_ ?_⟩
      · rintro i x H2 _ hi s2 hL ⟨rfl, hx⟩
        obtain ⟨z, rfl, hz⟩ := item_int hx
        refine ⟨rfl, _, rfl, .inl ⟨_, rfl, _, rfl, _, _, rfl, rfl, (by show 0 < p; omega), rfl, ?_⟩⟩
        exact mapEnd nD (by rw [List.length_map, List.length_map]; omega) s2 hL (map_at (f := V.bl) (by rw [List.getElem?_map, hz] <;> rfl))
      · intro H2 s2 hL
        refine ⟨D, _, rfl, SqL.of hL, _, rfl, if_pos_of (by rw [hall0, decide_eq_true cz]) ?_⟩
        refine ⟨_, rfl, rfl, ?_⟩
        have := q H2 (s1.trans s2)
        rw [← decide_eq_true (rfl : V.str "none" = V.str "none")] at this
        exact this
    · refine ⟨fun σ H' => Same H H' ∧ ∃ (t qa ra : Addr) (q r : List Int), DivS p l (prem p m) q r ∧ q.length ≤ 20 ∧ r.length < (prem p m).length ∧ PolyAt K C H' qa (prem p q) ∧ PolyAt K C H' ra r ∧ H' t = some (.tup [.ref qa, .ref ra]) ∧ σ = [some (.ref a), some (.ref b), some (.int p), some (.ref t), none, none], ?_, ?_⟩
      · exact ⟨_, rfl, _, rfl, _, rfl, a, b, l, m, p, rfl, po, po', fl, fm, by omega, fun hn => absurd hp hn, fun _ h => absurd h cz, fun _ _ t qa ra q r H' dvs fq less pq pr s1 ht => ⟨s1, t, qa, ra, q, r, dvs, fq, less, pq, pr, ht, rfl⟩⟩
      rintro σ H1 ⟨s1, t, qa, ra, q', r, dvs, fq, less, pq, pr, ht, rfl⟩
      refine ⟨fun σ H' => Same H1 H' ∧ ∃ x4, σ = [some (.ref a), some (.ref b), some (.int p), some (.ref t), x4, none], ?_, ?_⟩
      · refine ⟨_, rfl, b, C, mx, _, _, rfl, s1 _ _ m1, T.cl, T.nC, pyF_c _, mt, rfl, ⟨_, Evl.ex_t s1 m2⟩, fun D nD => lcMap walk_tup ((m.map fun z => decide (V.int (z % p) = V.int 0)).map V.bl) (by rw [List.length_map, List.length_map, List.length_map]) nD (fun H s => Evl.ex_t (s1.trans s) m2) ?_ ?_⟩
        · rintro i x H2 _ hi s2 hL ⟨rfl, hx⟩
          obtain ⟨z, rfl, hz⟩ := item_int hx
          refine ⟨rfl, _, rfl, .inl ⟨_, rfl, _, rfl, _, _, rfl, rfl, (by show 0 < p; omega), rfl, ?_⟩⟩
          exact mapEnd nD (by rw [List.length_map, List.length_map]; omega) s2 hL (map_at (f := V.bl) (by rw [List.getElem?_map, hz] <;> rfl))
        · intro H2 s2 hL
          exact ⟨D, _, rfl, SqL.of hL, _, rfl, if_neg_of (by rw [hall0, decide_eq_false cz]) ⟨s2, _, rfl⟩⟩
      rintro σ H2 ⟨s2, x4, rfl⟩
      have ht2 := s2 _ _ ht
      have pq2 := pq.same s2
      have pr2 := pr.same s2
      refine ⟨fun σ H' => H2 = H' ∧ σ = [some (.ref a), some (.ref b), some (.int p), some (.ref t), x4, none], ?_, ?_⟩
      · refine ⟨_, rfl, _, _, _, _, true, rfl, .ty _, tyx_tup (K := K) (H := H2) (xs := [.ref qa, .ref ra]) (SqT.of ht2), kit_ty (by decide +kernel), _, rfl, iteF ?_⟩
        exact ⟨_, rfl, t, _, rfl, .inr (SqT.of ht2), rfl, _, rfl, if_neg_of rfl ⟨rfl, rfl⟩⟩
      rintro σ _ ⟨rfl, rfl⟩
      -- the two
      refine ⟨fun σ H' => Same H2 H' ∧ ∃ x4 x5, σ = [some (.ref a), some (.ref b), some (.int p), some (.ref t), x4, x5], ?_, ?_⟩
      · refine ⟨_, rfl, t, rfl, ⟨_, SqT.of ht2⟩, for_it walk_tup (fun i σ H' => Same H2 H' ∧ ∃ x4 x5, σ = [some (.ref a), some (.ref b), some (.int p), some (.ref t), x4, x5]) ⟨Same.refl _, x4, none, rfl⟩ (fun i σ H' _ h => SqT.of (h.1 _ _ ht2)) ?_ ?_⟩
        · rintro i x σ H3 _ hi ⟨s3, x4', x5, rfl⟩ ⟨rfl, hx⟩
          have pick : ∃ (pa : Addr) (pl : List Int), x = .ref pa ∧ PolyAt K C H2 pa pl ∧ ∀ z ∈ pl, 0 ≤ z ∧ z < p := by
            match i, hx with
            | 0, hx => exact ⟨qa, _, (Option.some.inj hx).symm, pq2, prem_bd (by omega)⟩
            | 1, hx => exact ⟨ra, _, (Option.some.inj hx).symm, pr2, dvs.rb⟩
          obtain ⟨pa, pl, rfl, pp, bd⟩ := pick
          have few := pp.few
          obtain ⟨px, pt, u1, u2⟩ := pp.ob
          refine ⟨_, rfl, pa, px, _, rfl, s3 _ _ u1, _, rfl, iteF ?_⟩
          refine ⟨_, rfl, pa, C, px, _, _, rfl, s3 _ _ u1, T.cl, T.nC, pyF_c _, pt, rfl, ⟨_, Evl.ex_t s3 u2⟩, fun D nD => lcMap walk_tup ((List.replicate pl.length true).map V.bl) (by rw [List.length_map, List.length_map, List.length_replicate]) nD (fun H s => Evl.ex_t (s3.trans s) u2) ?_ ?_⟩
          · rintro j y H4 _ hj s4 hL ⟨rfl, hy⟩
            obtain ⟨z, rfl, hz⟩ := item_int hy
            rw [List.length_map] at hj
            have bz := bd z (List.mem_of_getElem? hz)
            refine ⟨rfl, _, rfl, _, _, rfl, rfl, _, rfl, if_pos_of (decide_eq_true bz.1) ⟨_, rfl, _, _, rfl, rfl, ?_⟩⟩
            exact mapEnd nD (by rw [List.length_map, List.length_replicate]; omega) s4 hL (by show _ = some (V.bl (decide (z < p))); rw [decide_eq_true bz.2]; exact map_at (f := V.bl) (by rw [List.getElem?_replicate, if_pos hj]))
          · intro H4 s4 hL
            exact ⟨D, _, rfl, SqL.of hL, _, rfl, if_neg_of (by rw [all_true] <;> rfl) ⟨s3.trans s4, _, _, rfl⟩⟩
        · rintro σ H3 ⟨s3, x4', x5, rfl⟩
          exact ⟨s3, _, _, rfl⟩
      rintro σ H3 ⟨s3, x4', x5, rfl⟩
      have ht3 := s3 _ _ ht2
      have pq3 := pq2.same s3
      have pr3 := pr2.same s3
      have s13 := s1.trans (s2.trans s3)
      -- the degrees
      refine ⟨fun σ H' => Same H3 H' ∧ σ = [some (.ref a), some (.ref b), some (.int p), some (.ref t), x4', x5], ?_, ?_⟩
      · obtain ⟨rx, rt, r1, r2⟩ := pr3.ob
        refine ⟨_, rfl, t, _, _, _, rfl, rfl, SqT.of ht3, rfl, ra, rx, _, rfl, r1, pyF_no _ (by decide +kernel), ra, _, rfl, pr3, _, rfl, _, rfl, b, m, p, rfl, po'.same s13, hp, by omega, fun ic H4 pi s4 => ?_⟩
        obtain ⟨ix, it, i1, i2⟩ := pi.ob
        exact ⟨ic, ix, _, rfl, i1, pyF_no _ (by decide +kernel), ic, _, rfl, pi, _, _, rfl, rfl, _, rfl, if_neg_of (decide_eq_false (by omega)) ⟨s4, rfl⟩⟩
      rintro σ H4 ⟨s4, rfl⟩
      have ht4 := s4 _ _ ht3
      have pq4 := pq3.same s4
      have pr4 := pr3.same s4
      have s14 := s13.trans s4
      have bq : Bd 20 (prem p q') := fun z hz => by
        have := prem_bd (l := q') (show 0 < p by omega) z hz
        omega
      have fq2 := prem_few p q'
      refine ⟨_, rfl, t, _, _, _, rfl, rfl, SqT.of ht4, rfl, _, rfl, useP2 pq4 (po'.same s14) ⟨qa, b, _, _, rfl, pq4, po'.same s14, by omega, bq.wide bm (by decide) (by decide) (by decide), fun mu H5 pm s5 => ?_⟩⟩
      refine ⟨_, rfl, t, _, _, _, rfl, rfl, SqT.of (s5 _ _ ht4), rfl, useP2 pm (pr4.same s5) ⟨mu, ra, _, _, rfl, pm, pr4.same s5, fun su H6 psu s6 => ?_⟩⟩
      refine ⟨_, rfl, su, _, p, rfl, psu, hp, by omega, fun ia H7 pia s7 => ?_⟩
      have s17 := s14.trans (s5.trans (s6.trans s7))
      refine ⟨_, rfl, _, rfl, a, l, p, rfl, po.same s17, hp, by omega, fun ib H8 pib s8 => ?_⟩
      refine useEqP (pia.same s8) pib ?_
      have z := q H8 (s17.trans s8)
      rw [← decide_eq_true (div_fits dvs)] at z
      exact z
-- part law_k35
theorem call_list_ofK {X : Cx} {K : PySem.W.Frag} (hK : X.K = K) : CallR X (.type "list") (fun xs H Q => ∃ p ys, xs = [.ref p] ∧ (SqL K H p ys ∨ SqT K H p ys) ∧ ∀ l, H l = none → Q (.ref l) (upd H l (.lst ys))) := by
  subst hK
  exact call_list_of
abbrev s_law : Stmt := top 41
theorem sc_law : FnScope ["_law_script", "_law_head", "_law_reach", "_law_first", "_law_second", "_law_k", "_law_large", "_law_p", "_law_due", "_law_x", "_law_told", "_law_bad"] ["_law_script"] (defScope s_law) := ⟨rfl, rfl, rfl, by decide +kernel, rfl, by decide +kernel, by decide +kernel⟩
theorem ok_law {f C CB : Addr} {fd : FuncData} (TT : Txt mg) (T : PoT K mg C) (F : Fun K "law" "law" s_law f fd) (c_cell : Cl P w K mg base CX0 1 "_law_cell" (spCellL K)) (c_draws : Cl P w K mg base CX0 1 "_law_draws" (spDraws K)) (c_row : Cl P w K mg base CX0 2 "_law_row" spRow) (c_lpf : Cl P w K mg base CX0 2 "_law_prime_from" spLpf)
    (c_right : Cl P w K mg base CX0 9 "_law_right" (spLright C K)) (c_ldiv : Cl P w K mg base CX0 8 "_law_divided" (spLdiv C K)) (c_lref : Cl P w K mg base CX0 6 "_law_refused" (spLref C K)) (c_value : Cl P w K mg base CX0 1 "_law_value" (spLvalp K)) (c_roots : Cl P w K mg base (L2N.CX P w) 5 "roots_in" (spRoots C CB K)) (c_pil : Ma P w K mg base 2 C (spPI C false K)) :
    FnOk P w K mg base CX0 10 f fd ["_law_script"] (spLaw K) := by
  refine F.ok sc_law (fun vs H Q E h => ?_) (fun cdv A outer s H vs Q E hr h => ?_)
  · obtain ⟨a, ns, rfl, _⟩ := h
    rfl
  · obtain ⟨sc, ns, rfl, hS, hlen, q⟩ := h
    refine ⟨_, (Evl.pss_cut (ps_set (i := 1) sc_law.nd rfl (Or.inl rfl) (pe_cl c_draws hr (pa_cons (pe_cl c_cell hr (pa_cons (pv 0) (pa_cons pe_int pa_nil))) (pa_cons (pe_lst (pa_cons pe_int (pa_cons pe_int (pa_cons pe_int (pa_cons pe_int (pa_cons pe_int (pa_cons pe_int pa_nil))))))) pa_nil))))
 (Evl.pss_cut (ps_set (i := 2) sc_law.nd rfl (Or.inl rfl) (pe_ix ix_list (pe_lst (pa_cons (pe_op op_pow pe_int pe_int) (pa_cons pe_int (pa_cons pe_int (pa_cons pe_int pa_nil))))) (pe_ix ix_list (pv 1) pe_int (fun _ _ => rfl)) (fun _ _ => rfl)))
 (Evl.pss_cut (ps_set (i := 3) sc_law.nd rfl (Or.inr rfl) (pe_ma c_pil hr T.g (pa_cons (pe_cl c_row hr (pa_cons (pe_cl c_cell hr (pa_cons (pv 0) (pa_cons pe_int pa_nil))) (pa_cons (pe_ix ix_list (pv 1) pe_int (fun _ _ => rfl)) (pa_cons (pv 2) pa_nil)))) pa_nil)))
 (Evl.pss_cut (ps_set (i := 4) sc_law.nd rfl (Or.inl rfl) (pe_ma c_pil hr T.g (pa_cons (pe_cl c_row hr (pa_cons (pe_cl c_cell hr (pa_cons (pv 0) (pa_cons pe_int pa_nil))) (pa_cons (pe_ix ix_list (pv 1) pe_int (fun _ _ => rfl)) (pa_cons (pv 2) pa_nil)))) pa_nil)))
 (Evl.pss_cut (ps_if (pt_cmpR op_eq (pe_ix ix_list (pv 1) pe_int (fun _ _ => rfl)) pe_int (nomark _)) (pss_one (ps_set (i := 4) sc_law.nd rfl (Or.inl rfl) (pe_ma c_pil hr T.g (pa_cons (pe_lc (own := [("_law_k", 5)]) (g := (gName 5)) (tt := tYes) rfl sc_law.nd (pi_tup (pe_fld (pv 4) rfl)) (blkOk_by (N := ["_law_script", "_law_head", "_law_reach", "_law_first", "_law_second", "_law_k", "_law_large", "_law_p", "_law_due", "_law_x", "_law_told", "_law_bad"]) (sc := defScope s_law) (by decide +kernel)) (fun _ _ _ _ _ => (pg_name (i := 5) sc_law.nd rfl (Or.inl rfl))) (fun _ _ _ _ _ => pts_nil) (fun _ _ _ _ _ => (pe_op op_mul pe_int (pv 5)))) pa_nil)))) pss_nil)
 (Evl.pss_cut (ps_set (i := 6) sc_law.nd rfl (Or.inl rfl) (pe_cl c_lpf hr (pa_cons (pe_ix ix_list (pv 1) pe_int (fun _ _ => rfl)) pa_nil)))
 (Evl.pss_cut (ps_for PassesOwn.never rfl (pi_list (pe_lst (pa_cons pe_int (pa_cons pe_int (pa_cons pe_int (pa_cons pe_int (pa_cons (pv 6) (pa_cons pe_int pa_nil)))))))) (pg_name (i := 7) sc_law.nd rfl (Or.inr rfl)) (Evl.pss_cut (ps_if (pw_or (pt_not (pt_val (pe_cl c_right hr (pa_cons (pv 3) (pa_cons (pv 4) (pa_cons (pv 7) pa_nil)))))) (pw_or1 (pt_not (pt_val (pe_cl c_right hr (pa_cons (pv 4) (pa_cons (pv 3) (pa_cons (pv 7) pa_nil)))))))).pt (pss_one (ps_ret pe_bl)) pss_nil)
 (Evl.pss_cut (ps_setLc (i := 8) (own := [("_law_x", 9)]) (g := (gName 9)) rfl sc_law.nd rfl rfl (sw_true rfl rfl rfl (by decide +kernel)) (pi_range1 rfl TT.range (pa_cons (pv 7) pa_nil)) (blkOk_by (N := ["_law_script", "_law_head", "_law_reach", "_law_first", "_law_second", "_law_k", "_law_large", "_law_p", "_law_due", "_law_x", "_law_told", "_law_bad"]) (sc := defScope s_law) (by decide +kernel)) (fun _ _ _ _ _ => (pg_name (i := 9) sc_law.nd rfl (Or.inl rfl))) (fun _ _ _ _ _ => (pts_one (pt_cmpR op_eq (pe_cl c_value (by exact hr) (pa_cons (pe_callTy (call_list_ofK (K := K) rfl) (by rfl) TT.list boot_list (pa_cons (pe_fldK (K := K) rfl (pv 3) rfl) pa_nil)) (pa_cons (pv 9) (pa_cons (pv 7) pa_nil)))) pe_int (nomark _)))) (fun _ _ _ _ _ => (pv 9)))
 (Evl.pss_cut (ps_set (i := 10) sc_law.nd rfl (Or.inl rfl) (pe_clN0 c_roots hr (pa_cons (pv 3) (pa_cons (pv 7) pa_nil))))
 (pss_one (ps_if (pw_or (pt_not (pt_val (pe_callB call_isi (by rfl) TT.isinstance boot_isinstance (pa_cons (pv 10) (pa_cons (pe_bltn (v := .ty "list") (by rfl) TT.list boot_list rfl) pa_nil))))) (pw_or1 (pt_cmpR (op_neD (hu64 hr)) (pv 10) (pv 8) (nomark _)))).pt (pss_one (ps_ret pe_bl)) pss_nil))))))
 (Evl.pss_cut (ps_set (i := 11) sc_law.nd rfl (Or.inl rfl) (pe_ix ix_list (pe_lst (pa_cons pe_int (pa_cons pe_int (pa_cons pe_int (pa_cons (pe_un un_neg pe_int) (pa_cons pe_int (pa_cons pe_int (pa_cons pe_int pa_nil)))))))) (pe_ix ix_list (pv 1) pe_int (fun _ _ => rfl)) (fun _ _ => rfl)))
 (Evl.pss_cut (ps_if (pw_or (pt_not (pt_val (pe_cl c_lref hr (pa_cons (pv 3) (pa_cons (pv 11) pa_nil))))) (pw_or1 (pt_cmpR (op_neD (hu64 hr)) (pe_cl c_ldiv hr (pa_cons (pv 3) (pa_cons (pe_ma c_pil hr T.g (pa_cons (pe_lst pa_nil) pa_nil)) (pa_cons (pv 11) pa_nil)))) (pe_lst (pa_cons pe_str (pa_cons (pv 11) pa_nil))) (nomark _)))).pt (pss_one (ps_ret pe_bl)) pss_nil)
 (pss_one (ps_ret (pe_and (pe_cmpR (op_eqD (hu64 hr)) (pe_cl c_ldiv hr (pa_cons (pv 3) (pa_cons (pv 4) (pa_cons (pv 11) pa_nil)))) (pe_lst (pa_cons pe_str (pa_cons (pv 11) pa_nil))) (nomark _)) (pe_one (pe_cmpR op_eq (pe_cl c_ldiv hr (pa_cons (pv 3) (pa_cons (pe_ma c_pil hr T.g (pa_cons (pe_lst pa_nil) pa_nil)) (pa_cons pe_int pa_nil)))) pe_str (nomark _))))))))))))))), ?_⟩
    have e20 : (10 : Int) ^ (20 : Int).toNat = 100000000000000000000 := by decide
    -- head
    refine ⟨fun σ H' => Same H H' ∧ ∃ (hd : Addr) (d0 d1 d2 d3 d4 d5 : Int), H' hd = some (.lst [.int d0, .int d1, .int d2, .int d3, .int d4, .int d5]) ∧ (0 ≤ d0 ∧ d0 < 14) ∧ (0 ≤ d1 ∧ d1 < 9) ∧ (0 ≤ d2 ∧ d2 < 1990) ∧ (0 ≤ d3 ∧ d3 < 6) ∧ (0 ≤ d4 ∧ d4 < 7) ∧ (0 ≤ d5 ∧ d5 < 4) ∧
      σ = [some (.ref sc), some (.ref hd), none, none, none, none, none, none, none, none, none, none], ?_, ?_⟩
    · refine ⟨_, rfl, sc, ns, 0, rfl, hS, fun c => ⟨(by show 6 ≤ sizeLine; decide), fun z nz => ?_⟩⟩
      refine ⟨c, z, [14, 9, 1990, 6, 7, 4], rfl, SqL.of upd_same, by decide, by decide +kernel, fun p ds H' np dr s' hp => ?_⟩
      obtain ⟨d0, ds, rfl, b0, dr⟩ := dr.cons
      obtain ⟨d1, ds, rfl, b1, dr⟩ := dr.cons
      obtain ⟨d2, ds, rfl, b2, dr⟩ := dr.cons
      obtain ⟨d3, ds, rfl, b3, dr⟩ := dr.cons
      obtain ⟨d4, ds, rfl, b4, dr⟩ := dr.cons
      obtain ⟨d5, ds, rfl, b5, dr⟩ := dr.cons
      obtain rfl := dr.nil
      exact ⟨(same_upd nz).trans s', p, d0, d1, d2, d3, d4, d5, hp, b0, b1, b2, b3, b4, b5, rfl⟩
    rintro σ H1 ⟨s1, hd, d0, d1, d2, d3, d4, d5, hhd, b0, b1, b2, b3, b4, b5, rfl⟩
    -- reach
    refine ⟨fun σ H' => Same H1 H' ∧ ∃ r : Int, (0 ≤ r ∧ r ≤ 100000000000000000000) ∧ σ = [some (.ref sc), some (.ref hd), some (.int r), none, none, none, none, none, none, none, none, none], ?_, ?_⟩
    · refine ⟨_, _, rfl, rfl, ⟨by decide, by decide, by decide⟩, (by show 4 ≤ sizeLine; decide), fun p np => ?_⟩
      have g1 := same_upd (o := .lst [.int (10 ^ (20 : Int).toNat), .int 40, .int 40, .int 40]) np
      have pick : ∃ u : Int, atI ([.int (10 ^ (20 : Int).toNat), .int 40, .int 40, .int 40] : List V) d5 = some (.int u) ∧ (0 ≤ u ∧ u ≤ 100000000000000000000) := by
        have : d5 = 0 ∨ d5 = 1 ∨ d5 = 2 ∨ d5 = 3 := by omega
        rcases this with rfl | rfl | rfl | rfl
        · exact ⟨_, rfl, by decide⟩
        · exact ⟨40, rfl, by decide⟩
        · exact ⟨40, rfl, by decide⟩
        · exact ⟨40, rfl, by decide⟩
      obtain ⟨u, hu, bu⟩ := pick
      exact ⟨_, rfl, hd, _, _, _, rfl, rfl, SqL.of (g1 _ _ hhd), rfl, p, _, _, _, rfl, rfl, SqL.of upd_same, hu, g1, u, bu, rfl⟩
    rintro σ H2 ⟨s2, r, br, rfl⟩
    have hhd := s2 _ _ hhd
    have hS2 := (s1.trans s2).seq hS
    have rowB : ∀ {n1 : List Int}, (∀ z ∈ n1, -r ≤ z ∧ z ≤ r) → Bd 70 n1 := fun h => Bd.range h (by omega)
    -- first
    refine ⟨fun σ H' => Same H2 H' ∧ ∃ (o1 : Addr) (l : List Int), PolyAt K C H' o1 l ∧ l.length ≤ 20 ∧ Bd 70 l ∧ σ = [some (.ref sc), some (.ref hd), some (.int r), some (.ref o1), none, none, none, none, none, none, none, none], ?_, ?_⟩
    · refine ⟨_, rfl, sc, ns, 1, rfl, hS2, fun c => ⟨_, rfl, hd, _, _, _, rfl, rfl, SqL.of hhd, rfl, _, rfl, c, d0.toNat, r, by rw [Int.toNat_of_nonneg b0.1] <;> rfl, by omega, br.1, by omega, fun p n1 H3 np len bd s3 hp => ?_⟩⟩
      refine fun o1 dx nx ndx _ => make_poA (tup := false) (ns := n1) nx ndx (SqL.of hp) (by omega) fun H' pa s' => ⟨rfl, s3.trans s', o1, trim n1, pa, ?_, (rowB bd).trim, rfl⟩
      have := trim_few n1
      omega
    rintro σ H3 ⟨s3, o1, l, po, fl, bl, rfl⟩
    have hhd := s3 _ _ hhd
    have hS3 := s3.seq hS2
    -- second
    refine ⟨fun σ H' => Same H3 H' ∧ ∃ (o2 : Addr) (m : List Int), PolyAt K C H' o2 m ∧ m.length ≤ 20 ∧ Bd 70 m ∧ σ = [some (.ref sc), some (.ref hd), some (.int r), some (.ref o1), some (.ref o2), none, none, none, none, none, none, none], ?_, ?_⟩
    · refine ⟨_, rfl, sc, ns, 2, rfl, hS3, fun c => ⟨_, rfl, hd, _, _, _, rfl, rfl, SqL.of hhd, rfl, _, rfl, c, d1.toNat, r, by rw [Int.toNat_of_nonneg b1.1] <;> rfl, by omega, br.1, by omega, fun p n1 H4 np len bd s4 hp => ?_⟩⟩
      refine fun o2 dx nx ndx _ => make_poA (tup := false) (ns := n1) nx ndx (SqL.of hp) (by omega) fun H' pa s' => ⟨rfl, s4.trans s', o2, trim n1, pa, ?_, (rowB bd).trim, rfl⟩
      have := trim_few n1
      omega
    rintro σ H4 ⟨s4, o2, m, po2, fm, bm, rfl⟩
    have hhd := s4 _ _ hhd
    have po := po.same s4
    -- thirty times
    refine ⟨fun σ H' => Same H4 H' ∧ ∃ (o2 : Addr) (m : List Int) (x5 : Option V), PolyAt K C H' o2 m ∧ m.length ≤ 20 ∧ Bd 80 m ∧ σ = [some (.ref sc), some (.ref hd), some (.int r), some (.ref o1), some (.ref o2), x5, none, none, none, none, none, none], ?_, ?_⟩
    · refine ⟨_, rfl, hd, _, _, _, rfl, rfl, SqL.of hhd, rfl, rfl, _, rfl, ?_⟩
      by_cases c : d3 = 0
      · refine if_pos_of (decide_eq_true (by rw [c])) ?_
        obtain ⟨dx, t, u1, u2⟩ := po2.ob
        refine ⟨_, rfl, o2, C, dx, _, _, rfl, u1, T.cl, T.nC, pyF_c _, t, rfl, ⟨_, u2⟩, fun D nD => lcMap walk_tup ((m.map (30 * ·)).map V.int) (by rw [List.length_map, List.length_map, List.length_map]) nD (fun H s => Evl.ex_t s u2) ?_ ?_⟩
        · rintro i x H5 _ hi s5 hL ⟨rfl, hx⟩
          obtain ⟨z, rfl, hz⟩ := item_int hx
          refine ⟨rfl, _, rfl, _, _, rfl, rfl, .inl ⟨by decide, by decide⟩, ?_⟩
          exact mapEnd nD (by rw [List.length_map, List.length_map]; omega) s5 hL (map_at (f := V.int) (by rw [List.getElem?_map, hz] <;> rfl))
        · intro H5 s5 hL
          refine fun o3 dx nx ndx _ => make_poA (tup := false) (ns := m.map (30 * ·)) nx ndx (SqL.of hL) (by rw [List.length_map]; omega) fun H' pa s' => ⟨rfl, s5.trans s', o3, _, _, pa, ?_, Bd.trim fun z hz => ?_, rfl⟩
          · have := trim_few (m.map (30 * ·))
            rw [List.length_map] at this
            omega
          · obtain ⟨y, hy, rfl⟩ := List.mem_map.mp hz
            exact Nat.lt_of_lt_of_le (wide_lt (a := 6) (b := 70) (show (30 : Int).natAbs < 2 ^ 6 by decide) (bm y hy)) (by decide)
      · refine if_neg_of (decide_eq_false fun h => c (V.int.inj h)) ⟨Same.refl _, o2, m, none, po2, fm, bm.mono (by decide), rfl⟩
    rintro σ H5 ⟨s5, o3, m', x5, po3, fm3, bm3, rfl⟩
    have hhd := s5 _ _ hhd
    have po := po.same s5
    -- large
    refine ⟨fun σ H' => H5 = H' ∧ ∃ g : Int, Pr g ∧ g ≤ 1993 ∧ σ = [some (.ref sc), some (.ref hd), some (.int r), some (.ref o1), some (.ref o3), x5, some (.int g), none, none, none, none, none], ?_, ?_⟩
    · exact ⟨_, rfl, hd, _, _, _, rfl, rfl, SqL.of hhd, rfl, d2, rfl, b2.2, fun p hp hle => ⟨rfl, p, hp, hle, rfl⟩⟩
    rintro σ _ ⟨rfl, g, hg, gle, rfl⟩
    -- the primes
    refine ⟨fun σ H' => Same H5 H' ∧ ∃ x7 x8 x9 x10, σ = [some (.ref sc), some (.ref hd), some (.int r), some (.ref o1), some (.ref o3), x5, some (.int g), x7, x8, x9, x10, none], ?_, ?_⟩
    · refine ⟨_, rfl, (by show 6 ≤ sizeLine; decide), fun pa npa => ?_⟩
      have g0 := same_upd (o := .lst [.int 2, .int 3, .int 5, .int 7, .int g, .int 2]) npa
      have hpa : upd H5 pa (.lst [.int 2, .int 3, .int 5, .int 7, .int g, .int 2]) pa = some (.lst ([2, 3, 5, 7, g, 2].map V.int)) := upd_same
      generalize upd H5 pa (.lst [.int 2, .int 3, .int 5, .int 7, .int g, .int 2]) = G at g0 hpa ⊢
      have poG := po.same g0
      have po3G := po3.same g0
      refine ⟨pa, rfl, ⟨_, SqL.of hpa⟩, for_list (K := K) (a := pa) (xs := [2, 3, 5, 7, g, 2].map V.int) (fun i σ H' => Same G H' ∧ ∃ x7 x8 x9 x10, σ = [some (.ref sc), some (.ref hd), some (.int r), some (.ref o1), some (.ref o3), x5, some (.int g), x7, x8, x9, x10, none])
        ⟨Same.refl _, none, none, none, none, rfl⟩ (fun i σ H' _ h => SqL.of (h.1 _ _ hpa)) ?_ ?_⟩
      · rintro i y σ H6 hi ⟨s6, x7, x8, x9, x10, rfl⟩
        obtain ⟨p, rfl, hpi⟩ := item_int hi
        have hp : Pr p ∧ p < 2000 := by
          have mem := List.mem_of_getElem? hpi
          simp only [List.mem_cons, List.not_mem_nil, or_false] at mem
          rcases mem with rfl | rfl | rfl | rfl | rfl | rfl
          · exact ⟨pr_of_trial (n := 2) 10 (by decide +kernel), by decide⟩
          · exact ⟨pr_of_trial (n := 3) 10 (by decide +kernel), by decide⟩
          · exact ⟨pr_of_trial (n := 5) 10 (by decide +kernel), by decide⟩
          · exact ⟨pr_of_trial (n := 7) 10 (by decide +kernel), by decide⟩
          · exact ⟨hg, by omega⟩
          · exact ⟨pr_of_trial (n := 2) 10 (by decide +kernel), by decide⟩
        obtain ⟨hp, pb⟩ := hp
        have p2 := hp.1
        -- right
        refine ⟨fun σ H' => Same H6 H' ∧ σ = [some (.ref sc), some (.ref hd), some (.int r), some (.ref o1), some (.ref o3), x5, some (.int g), some (.int p), x8, x9, x10, none], ?_, ?_⟩
        · refine ⟨_, rfl, _, rfl, _, rfl, o1, o3, l, m', p, rfl, poG.same s6, po3G.same s6, fl, fm3, bm3.mono (by decide), hp, pb, fun H7 s7 => ⟨_, rfl, iteF ?_⟩⟩
          exact ⟨_, rfl, _, rfl, _, rfl, o3, o1, m', l, p, rfl, po3G.same (s6.trans s7), poG.same (s6.trans s7), fm3, fl, bl.mono (by decide), hp, pb, fun H8 s8 => ⟨_, rfl, if_neg_of rfl ⟨s7.trans s8, rfl⟩⟩⟩
        rintro σ H7 ⟨s7, rfl⟩
        have po7 := poG.same (s6.trans s7)
        -- due
        refine ⟨fun σ H' => Same H7 H' ∧ ∃ (da : Addr) (x9 : Option V), H' da = some (.lst ((selN (zeroB p l) p.toNat).map V.int)) ∧ σ = [some (.ref sc), some (.ref hd), some (.int r), some (.ref o1), some (.ref o3), x5, some (.int g), some (.int p), some (.ref da), x9, x10, none], ?_, ?_⟩
        · obtain ⟨dx, t, u1, u2⟩ := po7.ob
          refine ⟨_, rfl, p, rfl, by omega, by omega, fun D nD => lcW walk_range0 (fun i => (selN (zeroB p l) i).map V.int) nD rfl (fun _ _ => trivial) ?_ ?_⟩
          · rintro i x H8 H8' hi s8 hL ⟨rfl, rfl⟩
            refine ⟨rfl, _, rfl, o1, C, dx, _, _, rfl, s8 _ _ u1, T.cl, T.nC, pyF_c _, t, _, rfl, .inr (Evl.ex_t s8 u2), fun L nL => ?_⟩
            have k1 := same_upd (o := .lst (l.map V.int)) nL
            refine ⟨_, rfl, _, rfl, L, l, (i : Int), p, rfl, SqL.of upd_same, by omega, by omega, by omega, by omega, fun H9 k2 => ⟨rfl, _, rfl, ?_⟩⟩
            exact iteS (selEnd nD (by omega) (s8.trans (k1.trans k2)) (k2 _ _ (k1 _ _ hL)) (b := zeroB p l) (bb := decide (V.int (pev l (i : Int) % p) = V.int 0)) (bl_int _ _)) fun h => ⟨_, rfl, h⟩
          · intro H8 s8 hL
            exact ⟨s8, D, _, hL, rfl⟩
        rintro σ H8 ⟨s8, da, x9, hda, rfl⟩
        -- told
        refine ⟨fun σ H' => Same H8 H' ∧ ∃ ta : Addr, H' ta = some (.lst ((selN (zeroB p l) p.toNat).map V.int)) ∧ σ = [some (.ref sc), some (.ref hd), some (.int r), some (.ref o1), some (.ref o3), x5, some (.int g), some (.int p), some (.ref da), x9, some (.ref ta), none], ?_, ?_⟩
        · exact ⟨_, rfl, _, rfl, o1, l, p, rfl, po7.same s8, fl, pb, fun hn => absurd hp hn, fun _ ta H9 s9 hta => ⟨s9, ta, hta, rfl⟩⟩
        rintro σ H9 ⟨s9, ta, hta, rfl⟩
        refine ⟨_, rfl, _, _, _, _, true, rfl, .ty _, .base (.lst hta), kit_ty (by decide +kernel), _, rfl, iteF ?_⟩
        refine ⟨_, rfl, _, rfl, _, _, dp_lst (SqL.of hta), dp_lst (SqL.of (s9 _ _ hda)), shaped_ints _, shaped_ints _, _, rfl, ?_⟩
        rw [eqv_ints]
        exact if_neg_of (by simp) ⟨s6.trans (s7.trans (s8.trans s9)), _, _, _, _, rfl⟩
      · rintro σ H6 ⟨s6, x7, x8, x9, x10, rfl⟩
        exact ⟨g0.trans s6, x7, x8, x9, x10, rfl⟩
    rintro σ H6 ⟨s6, x7, x8, x9, x10, rfl⟩
    have hhd := s6 _ _ hhd
    have po := po.same s6
    have po3 := po3.same s6
    have s56 := s6
    -- bad
    refine ⟨fun σ H' => Same H6 H' ∧ ∃ bd : Int, ¬ Pr bd ∧ bd < 2000 ∧ σ = [some (.ref sc), some (.ref hd), some (.int r), some (.ref o1), some (.ref o3), x5, some (.int g), x7, x8, x9, x10, some (.int bd)], ?_, ?_⟩
    · refine ⟨_, rfl, (by show 7 ≤ sizeLine; decide), fun pl npl => ?_⟩
      have g1 := same_upd (o := .lst [.int 0, .int 1, .int 4, .int (-3), .int 9, .int 15, .int 25]) npl
      have pick : ∃ u : Int, atI ([.int 0, .int 1, .int 4, .int (-3), .int 9, .int 15, .int 25] : List V) d4 = some (.int u) ∧ ¬ Pr u ∧ u < 2000 := by
        have : d4 = 0 ∨ d4 = 1 ∨ d4 = 2 ∨ d4 = 3 ∨ d4 = 4 ∨ d4 = 5 ∨ d4 = 6 := by omega
        rcases this with rfl | rfl | rfl | rfl | rfl | rfl | rfl
        · exact ⟨0, rfl, fun h => by have := h.1; omega, by decide⟩
        · exact ⟨1, rfl, fun h => by have := h.1; omega, by decide⟩
        · exact ⟨4, rfl, fun h => h.2 2 (by decide) (by decide) (by decide), by decide⟩
        · exact ⟨-3, rfl, fun h => by have := h.1; omega, by decide⟩
        · exact ⟨9, rfl, fun h => h.2 3 (by decide) (by decide) (by decide), by decide⟩
        · exact ⟨15, rfl, fun h => h.2 3 (by decide) (by decide) (by decide), by decide⟩
        · exact ⟨25, rfl, fun h => h.2 5 (by decide) (by decide) (by decide), by decide⟩
      obtain ⟨u, hu, nu, bu⟩ := pick
      exact ⟨_, rfl, hd, _, _, _, rfl, rfl, SqL.of (g1 _ _ hhd), rfl, pl, _, _, _, rfl, rfl, SqL.of upd_same, hu, g1, u, nu, bu, rfl⟩
    rintro σ H7 ⟨s7, bd, nbd, bbd, rfl⟩
    have po7 := po.same s7
    have po37 := po3.same s7
    have two : SeqAt.shaped (.list [.str "bad", .int bd]) = true := by
      have o : PyData.strOk "bad" = true := by decide +kernel
      simp [SeqAt.shaped, PyData.canLay0, PyData.canLayAll0, PyData.depth, PyData.depthAll, o]
    have refl := SeqAt.eqv_refl _ (Bool.and_eq_true_iff.mp two).1
    have dpb : ∀ {G : Hp} {a : Addr}, G a = some (.lst [.str "bad", .int bd]) → Dp K G (.ref a) (.list [.str "bad", .int bd]) := fun h => .lst (SqL.of h) (.cons (.str _) (.cons (.int _) .nil))
    -- refused
    refine ⟨fun σ H' => Same H7 H' ∧ σ = [some (.ref sc), some (.ref hd), some (.int r), some (.ref o1), some (.ref o3), x5, some (.int g), x7, x8, x9, x10, some (.int bd)], ?_, ?_⟩
    · refine ⟨_, rfl, _, rfl, o1, l, bd, rfl, po7, fl, bbd, nbd, fun H8 s8 => ⟨_, rfl, iteF ?_⟩⟩
      refine ⟨_, rfl, (by show 0 ≤ sizeLine; decide), fun e ne => ?_⟩
      have g1 := same_upd (o := .lst []) ne
      refine fun oe dx nx ndx _ => make_poA (tup := false) (ns := []) nx ndx (SqL.of upd_same) (by decide) fun H9 pe s9 => ⟨rfl, ?_⟩
      have k9 := s8.trans (g1.trans s9)
      refine ⟨_, rfl, o1, oe, l, _, bd, rfl, po7.same k9, pe, fl, by decide, by omega, fun _ ra H10 s10 hra => ?_, fun h => absurd h nbd, fun h => absurd h nbd⟩
      refine ⟨_, rfl, (by show 2 ≤ sizeLine; decide), fun rb nrb => ?_⟩
      have g2 := same_upd (o := .lst [.str "bad", .int bd]) nrb
      refine ⟨_, _, dpb (g2 _ _ hra), dpb upd_same, two, two, _, rfl, if_neg_of (by rw [refl]; rfl) ⟨k9.trans (s10.trans g2), rfl⟩⟩
    rintro σ H8 ⟨s8, rfl⟩
    -- the end
    have po8 := po7.same s8
    have po38 := po37.same s8
    refine ⟨_, rfl, _, rfl, _, rfl, o1, o3, l, m', bd, rfl, po8, po38, fl, fm3, by omega, fun _ ra H9 s9 hra => ?_, fun h => absurd h nbd, fun h => absurd h nbd⟩
    refine ⟨_, rfl, (by show 2 ≤ sizeLine; decide), fun rb nrb => ?_⟩
    have g2 := same_upd (o := .lst [.str "bad", .int bd]) nrb
    refine ⟨_, _, dpb (g2 _ _ hra), dpb upd_same, two, two, _, rfl, if_pos_of refl ?_⟩
    refine ⟨_, rfl, (by show 0 ≤ sizeLine; decide), fun e ne => ?_⟩
    have g3 := same_upd (o := .lst []) ne
    refine fun oe dx nx ndx _ => make_poA (tup := false) (ns := []) nx ndx (SqL.of upd_same) (by decide) fun H10 pe s10 => ⟨rfl, ?_⟩
    have pr2 : Pr 2 := pr_of_trial (n := 2) 10 (by decide +kernel)
    refine ⟨o1, oe, l, _, 2, rfl, po8.same (s9.trans (g2.trans (g3.trans s10))), pe, fl, by decide, by decide, fun h => absurd pr2 h, fun _ _ H11 s11 => ?_, fun _ h => absurd (by decide +kernel) h⟩
    refine ⟨rfl, ?_⟩
    have z := q H11
    rw [← decide_eq_true (rfl : V.str "none" = V.str "none")] at z
    exact z
-- part exct
/-! what is told of an own error class that stands directly below FieldError -/
structure ExcT (K : PySem.W.Frag) (CF C : Addr) : Prop where
  xC : ∃ nm q N bs sn sb ab co dd x0 x1 x2 x3 x5, K.lookup C = some (excClassObj nm q C N bs [.ref CF, .type "ValueError", .type "Exception", .type "BaseException", .type "object"] true sn sb ab co dd x0 x1 x2 x3 x5 "ValueError.__new__")
  sa : PySem.W.findIn K (.ref C) "__setattr__" = some (some (.builtin "object.__setattr__"))
  ga : PySem.W.findIn K (.ref C) "__getattribute__" = some (some (.builtin "BaseException.__getattribute__"))
  gg : PySem.W.findIn K (.ref C) "__getattr__" = some none
  kc : PySem.W.keepIn K (.ref C) = true
  tc : PySem.W.typeIn K (.ref C) = some (.type "type")
  ha : PySem.W.findIn K (.ref C) "__class__" = some (some (.builtin "object.__class__"))
  hn : PySem.W.specialIn K (.builtin "object.__class__") "__get__" = some (some (.builtin "getset_descriptor.__get__"))
  ht : PySem.W.takesIn K (.builtin "object.__class__") = some true
namespace ExcT
variable {K : PySem.W.Frag} {CF C D : Addr}
theorem cls (T : ExcT K CF C) : ∃ cd, PySem.W.clsIn K C = some cd ∧ cd.hasDict = true ∧ cd.mro = [.ref C, .ref CF, .type "ValueError", .type "Exception", .type "BaseException", .type "object"] := by
  obtain ⟨nm, q, N, bs, sn, sb, ab, co, dd, x0, x1, x2, x3, x5, h⟩ := T.xC
  refine ⟨{ name := nm, bases := bs, mro := .ref C :: [.ref CF, .type "ValueError", .type "Exception", .type "BaseException", .type "object"], ns := N, qualname := q, hasDict := true, slotNames := sn, subclasses := sb, abstract := ab, collection := co, hasDel := false }, ?_, rfl, rfl⟩
  unfold PySem.W.clsIn
  rw [h] <;> rfl
theorem sub (T : ExcT K CF C) (v : Value) : PySem.W.subIn K (.ref C) v = some (([.ref C, .ref CF, .type "ValueError", .type "Exception", .type "BaseException", .type "object"] : List Value).contains v) := by
  obtain ⟨cd, h1, _, h3⟩ := T.cls
  show PySem.W.mroIn K C v = _
  unfold PySem.W.mroIn
  rw [h1, Option.bind_some, h3]
  rfl
theorem ec (T : ExcT K CF C) : PySem.W.subIn K (.ref C) (.type "BaseException") = some true := by
  rw [T.sub]
  simp
theorem hd (T : ExcT K CF C) : PySem.W.hasDictIn K C = true := by
  obtain ⟨cd, h1, h2, _⟩ := T.cls
  unfold PySem.W.hasDictIn
  rw [h1]
  exact h2
theorem is (T : ExcT K CF C) : PySem.W.isClsIn K C = true := by
  obtain ⟨cd, h1, _⟩ := T.cls
  show (PySem.W.clsIn K C).isSome = true
  rw [h1] <;> rfl
theorem oex (T : ExcT K CF C) : OexC K C := by
  obtain ⟨nm, q, N, bs, sn, sb, ab, co, dd, x0, x1, x2, x3, x5, h⟩ := T.xC
  exact ⟨⟨_, _, _, _, _, _, _, _, _, _, _, _, _, _, _, h, rfl⟩, T.sa, T.ec, T.tc, T.kc⟩
theorem xf (T : ExcT K CF C) : XfC K C := ⟨T.ga, T.gg, T.ec, T.hd⟩
theorem exc (T : ExcT K CF C) : ExcC K C := ⟨T.ga, T.gg, T.ec, T.hd, T.ha, T.hn, T.ht, by
  have := T.sub (.type "object")
  rw [show PySem.W.subIn K (.ref C) (.type "object") = PySem.W.mroIn K C (.type "object") from rfl] at this
  rw [this]
  simp⟩
theorem kit_self (T : ExcT K CF C) : PySem.W.kitOne K (.ref C) (.ref C) = some true := by
  unfold PySem.W.kitOne
  exact if_pos (beq_self_eq_true _)
theorem kit_no (T : ExcT K CF C) (U : ExcT K CF D) (h1 : C ≠ D) (h2 : CF ≠ D) : PySem.W.kitOne K (.ref C) (.ref D) = some false := by
  have e2 : ((PySem.W.clsIn K D).isSome && PySem.W.typeIn K (.ref D) == some (.type "type")) = true := by
    rw [show (PySem.W.clsIn K D).isSome = true from U.is, U.tc] <;> rfl
  unfold PySem.W.kitOne
  rw [if_neg (by simp [h1])]
  show (if ((PySem.W.clsIn K D).isSome && PySem.W.typeIn K (.ref D) == some (.type "type")) = true then PySem.W.subIn K (.ref C) (.ref D) else none) = some false
  rw [if_pos e2, T.sub]
  have a : D ≠ C := h1.symm
  have b : D ≠ CF := h2.symm
  simp [a, b]
theorem kit_ve (T : ExcT K CF C) : PySem.W.kitOne K (.ref C) (.type "ValueError") = some true := by
  unfold PySem.W.kitOne
  rw [if_neg (by simp)]
  show (if PySem.W.kitMeta "ValueError" = true then PySem.W.subIn K (.ref C) (.type "ValueError") else none) = some true
  rw [if_pos (by decide +kernel), T.sub]
  simp
theorem exm_fe (T : ExcT K CF C) (h1 : PySem.W.subIn K (.ref CF) (.type "BaseException") = some true) (h2 : PySem.W.isClsIn K CF = true) (h3 : PySem.W.typeIn K (.ref CF) = some (.type "type")) : PySem.W.exmOne K (.ref C) (.ref CF) = some true := by
  have e2 : ((PySem.W.clsIn K CF).isSome && PySem.W.typeIn K (.ref CF) == some (.type "type")) = true := by
    rw [show (PySem.W.clsIn K CF).isSome = true from h2, h3] <;> rfl
  unfold PySem.W.exmOne
  rw [if_pos (by rw [h1]; rfl)]
  show (if ((PySem.W.clsIn K CF).isSome && PySem.W.typeIn K (.ref CF) == some (.type "type")) = true then PySem.W.subIn K (.ref C) (.ref CF) else none) = some true
  rw [if_pos e2, T.sub]
  simp
end ExcT
end
theorem all_mk {P : Program} {w : World} {K : PySem.W.Frag} {h : Heap} {mg : Str → Option Value} {fa : Addr} (X : K.In h) (G : h.Ns mainGlobals mg) (hfa : mg "law" = some (.ref fa))
    {f_padded : Addr} {od_padded an_padded : Option Addr} {sl_padded : Array (Option Value)} {oc_padded kV_padded dc_padded pm_padded cd_padded ct_padded : Value}
    {f_pitem : Addr} {od_pitem an_pitem : Option Addr} {sl_pitem : Array (Option Value)} {oc_pitem kV_pitem dc_pitem pm_pitem cd_pitem ct_pitem : Value}
    {f_comb : Addr} {od_comb an_comb : Option Addr} {sl_comb : Array (Option Value)} {oc_comb kV_comb dc_comb pm_comb cd_comb ct_comb : Value}
    {f_least : Addr} {od_least an_least : Option Addr} {sl_least : Array (Option Value)} {oc_least kV_least dc_least pm_least cd_least ct_least : Value}
    {f_prime : Addr} {od_prime an_prime : Option Addr} {sl_prime : Array (Option Value)} {oc_prime kV_prime dc_prime pm_prime cd_prime ct_prime : Value}
    {f_chkp : Addr} {od_chkp an_chkp : Option Addr} {sl_chkp : Array (Option Value)} {oc_chkp kV_chkp dc_chkp pm_chkp cd_chkp ct_chkp : Value}
    {f_checked : Addr} {od_checked an_checked : Option Addr} {sl_checked : Array (Option Value)} {oc_checked kV_checked dc_checked pm_checked cd_checked ct_checked : Value}
    {f_rem : Addr} {od_rem an_rem : Option Addr} {sl_rem : Array (Option Value)} {oc_rem kV_rem dc_rem pm_rem cd_rem ct_rem : Value}
    {f_recip : Addr} {od_recip an_recip : Option Addr} {sl_recip : Array (Option Value)} {oc_recip kV_recip dc_recip pm_recip cd_recip ct_recip : Value}
    {f_red : Addr} {od_red an_red : Option Addr} {sl_red : Array (Option Value)} {oc_red kV_red dc_red pm_red cd_red ct_red : Value}
    {f_inch : Addr} {od_inch an_inch : Option Addr} {sl_inch : Array (Option Value)} {oc_inch kV_inch dc_inch pm_inch cd_inch ct_inch : Value}
    {f_term : Addr} {od_term an_term : Option Addr} {sl_term : Array (Option Value)} {oc_term kV_term dc_term pm_term cd_term ct_term : Value}
    {f_part : Addr} {od_part an_part : Option Addr} {sl_part : Array (Option Value)} {oc_part kV_part dc_part pm_part cd_part ct_part : Value}
    {f_div : Addr} {od_div an_div : Option Addr} {sl_div : Array (Option Value)} {oc_div kV_div dc_div pm_div cd_div ct_div : Value}
    {f_roots : Addr} {od_roots an_roots : Option Addr} {sl_roots : Array (Option Value)} {oc_roots kV_roots dc_roots pm_roots cd_roots ct_roots : Value}
    {f_cell : Addr} {od_cell an_cell : Option Addr} {sl_cell : Array (Option Value)} {oc_cell kV_cell dc_cell pm_cell cd_cell ct_cell : Value}
    {f_draws : Addr} {od_draws an_draws : Option Addr} {sl_draws : Array (Option Value)} {oc_draws kV_draws dc_draws pm_draws cd_draws ct_draws : Value}
    {f_lrow : Addr} {od_lrow an_lrow : Option Addr} {sl_lrow : Array (Option Value)} {oc_lrow kV_lrow dc_lrow pm_lrow cd_lrow ct_lrow : Value}
    {f_lprime : Addr} {od_lprime an_lprime : Option Addr} {sl_lprime : Array (Option Value)} {oc_lprime kV_lprime dc_lprime pm_lprime cd_lprime ct_lprime : Value}
    {f_lpf : Addr} {od_lpf an_lpf : Option Addr} {sl_lpf : Array (Option Value)} {oc_lpf kV_lpf dc_lpf pm_lpf cd_lpf ct_lpf : Value}
    {f_lvalp : Addr} {od_lvalp an_lvalp : Option Addr} {sl_lvalp : Array (Option Value)} {oc_lvalp kV_lvalp dc_lvalp pm_lvalp cd_lvalp ct_lvalp : Value}
    {f_ldiv : Addr} {od_ldiv an_ldiv : Option Addr} {sl_ldiv : Array (Option Value)} {oc_ldiv kV_ldiv dc_ldiv pm_ldiv cd_ldiv ct_ldiv : Value}
    {f_lref : Addr} {od_lref an_lref : Option Addr} {sl_lref : Array (Option Value)} {oc_lref kV_lref dc_lref pm_lref cd_lref ct_lref : Value}
    {f_lright : Addr} {od_lright an_lright : Option Addr} {sl_lright : Array (Option Value)} {oc_lright kV_lright dc_lright pm_lright cd_lright ct_lright : Value}
    {f_law : Addr} {od_law an_law : Option Addr} {sl_law : Array (Option Value)} {oc_law kV_law dc_law pm_law cd_law ct_law : Value}
    {CF : Addr}
    {C_ibc f_ibc : Addr} {nm_ibc q_ibc : Str} {N_ibc : Addr} {bs_ibc sb_ibc : List Value} {sn_ibc : List Str} {ab_ibc : Bool} {co_ibc : Option Bool} {dd_ibc : Option Addr} {x0_ibc x1_ibc x2_ibc x3_ibc x5_ibc : Option Value} {od_ibc an_ibc : Option Addr} {sl_ibc : Array (Option Value)} {oc_ibc kV_ibc dc_ibc pm_ibc cd_ibc ct_ibc : Value}
    {C_ni f_ni : Addr} {nm_ni q_ni : Str} {N_ni : Addr} {bs_ni sb_ni : List Value} {sn_ni : List Str} {ab_ni : Bool} {co_ni : Option Bool} {dd_ni : Option Addr} {x0_ni x1_ni x2_ni x3_ni x5_ni : Option Value} {od_ni an_ni : Option Addr} {sl_ni : Array (Option Value)} {oc_ni kV_ni dc_ni pm_ni cd_ni ct_ni : Value}
    {C_po : Addr}
    {f_pinit : Addr} {od_pinit an_pinit : Option Addr} {sl_pinit : Array (Option Value)} {oc_pinit kV_pinit dc_pinit pm_pinit cd_pinit ct_pinit : Value}
    {f_pdeg : Addr} {od_pdeg an_pdeg : Option Addr} {sl_pdeg : Array (Option Value)} {oc_pdeg kV_pdeg dc_pdeg pm_pdeg cd_pdeg ct_pdeg : Value}
    {f_pneg : Addr} {od_pneg an_pneg : Option Addr} {sl_pneg : Array (Option Value)} {oc_pneg kV_pneg dc_pneg pm_pneg cd_pneg ct_pneg : Value}
    {f_padd : Addr} {od_padd an_padd : Option Addr} {sl_padd : Array (Option Value)} {oc_padd kV_padd dc_padd pm_padd cd_padd ct_padd : Value}
    {f_psub : Addr} {od_psub an_psub : Option Addr} {sl_psub : Array (Option Value)} {oc_psub kV_psub dc_psub pm_psub cd_psub ct_psub : Value}
    {f_pmulm : Addr} {od_pmulm an_pmulm : Option Addr} {sl_pmulm : Array (Option Value)} {oc_pmulm kV_pmulm dc_pmulm pm_pmulm cd_pmulm ct_pmulm : Value}
    {f_peq : Addr} {od_peq an_peq : Option Addr} {sl_peq : Array (Option Value)} {oc_peq kV_peq dc_peq pm_peq cd_peq ct_peq : Value}
    {f_pcall : Addr} {od_pcall an_pcall : Option Addr} {sl_pcall : Array (Option Value)} {oc_pcall kV_pcall dc_pcall pm_pcall cd_pcall ct_pcall : Value}
    {f_pwhole : Addr} {od_pwhole an_pwhole : Option Addr} {sl_pwhole : Array (Option Value)} {oc_pwhole kV_pwhole dc_pwhole pm_pwhole cd_pwhole ct_pwhole : Value}
    {p_pwhole : Addr} {r_pwhole : List Value}
    (a_padded : PySem.W.nsIn K mainGlobals "padded" = some (some (.ref f_padded))) (l_padded : K.lookup f_padded = some ⟨oc_padded, od_padded, .func (PySem.W.fnOf "padded" "padded" (defArgs s_padded) (defBody s_padded) (defScope s_padded) .none kV_padded dc_padded pm_padded an_padded cd_padded ct_padded), sl_padded⟩) (c_padded : PySem.W.codeIn K cd_padded "padded" = true) (k_padded : PySem.W.keepIn K (.ref f_padded) = true)
    (a_pitem : PySem.W.nsIn K mainGlobals "_product_item" = some (some (.ref f_pitem))) (l_pitem : K.lookup f_pitem = some ⟨oc_pitem, od_pitem, .func (PySem.W.fnOf "_product_item" "_product_item" (defArgs s_pitem) (defBody s_pitem) (defScope s_pitem) .none kV_pitem dc_pitem pm_pitem an_pitem cd_pitem ct_pitem), sl_pitem⟩) (c_pitem : PySem.W.codeIn K cd_pitem "_product_item" = true) (k_pitem : PySem.W.keepIn K (.ref f_pitem) = true)
    (a_comb : PySem.W.nsIn K mainGlobals "combination" = some (some (.ref f_comb))) (l_comb : K.lookup f_comb = some ⟨oc_comb, od_comb, .func (PySem.W.fnOf "combination" "combination" (defArgs s_comb) (defBody s_comb) (defScope s_comb) .none kV_comb dc_comb pm_comb an_comb cd_comb ct_comb), sl_comb⟩) (c_comb : PySem.W.codeIn K cd_comb "combination" = true) (k_comb : PySem.W.keepIn K (.ref f_comb) = true)
    (a_least : PySem.W.nsIn K mainGlobals "_least_divisor" = some (some (.ref f_least))) (l_least : K.lookup f_least = some ⟨oc_least, od_least, .func (PySem.W.fnOf "_least_divisor" "_least_divisor" (defArgs s_least) (defBody s_least) (defScope s_least) .none kV_least dc_least pm_least an_least cd_least ct_least), sl_least⟩) (c_least : PySem.W.codeIn K cd_least "_least_divisor" = true) (k_least : PySem.W.keepIn K (.ref f_least) = true)
    (a_prime : PySem.W.nsIn K mainGlobals "is_prime" = some (some (.ref f_prime))) (l_prime : K.lookup f_prime = some ⟨oc_prime, od_prime, .func (PySem.W.fnOf "is_prime" "is_prime" (defArgs s_prime) (defBody s_prime) (defScope s_prime) .none kV_prime dc_prime pm_prime an_prime cd_prime ct_prime), sl_prime⟩) (c_prime : PySem.W.codeIn K cd_prime "is_prime" = true) (k_prime : PySem.W.keepIn K (.ref f_prime) = true)
    (a_chkp : PySem.W.nsIn K mainGlobals "checked_prime" = some (some (.ref f_chkp))) (l_chkp : K.lookup f_chkp = some ⟨oc_chkp, od_chkp, .func (PySem.W.fnOf "checked_prime" "checked_prime" (defArgs s_chkp) (defBody s_chkp) (defScope s_chkp) .none kV_chkp dc_chkp pm_chkp an_chkp cd_chkp ct_chkp), sl_chkp⟩) (c_chkp : PySem.W.codeIn K cd_chkp "checked_prime" = true) (k_chkp : PySem.W.keepIn K (.ref f_chkp) = true)
    (a_checked : PySem.W.nsIn K mainGlobals "checked" = some (some (.ref f_checked))) (l_checked : K.lookup f_checked = some ⟨oc_checked, od_checked, .func (PySem.W.fnOf "checked" "checked" (defArgs s_checked) (defBody s_checked) (defScope s_checked) .none kV_checked dc_checked pm_checked an_checked cd_checked ct_checked), sl_checked⟩) (c_checked : PySem.W.codeIn K cd_checked "checked" = true) (k_checked : PySem.W.keepIn K (.ref f_checked) = true)
    (a_rem : PySem.W.nsIn K mainGlobals "remainder" = some (some (.ref f_rem))) (l_rem : K.lookup f_rem = some ⟨oc_rem, od_rem, .func (PySem.W.fnOf "remainder" "remainder" (defArgs s_rem) (defBody s_rem) (defScope s_rem) .none kV_rem dc_rem pm_rem an_rem cd_rem ct_rem), sl_rem⟩) (c_rem : PySem.W.codeIn K cd_rem "remainder" = true) (k_rem : PySem.W.keepIn K (.ref f_rem) = true)
    (a_recip : PySem.W.nsIn K mainGlobals "reciprocal" = some (some (.ref f_recip))) (l_recip : K.lookup f_recip = some ⟨oc_recip, od_recip, .func (PySem.W.fnOf "reciprocal" "reciprocal" (defArgs s_recip) (defBody s_recip) (defScope s_recip) .none kV_recip dc_recip pm_recip an_recip cd_recip ct_recip), sl_recip⟩) (c_recip : PySem.W.codeIn K cd_recip "reciprocal" = true) (k_recip : PySem.W.keepIn K (.ref f_recip) = true)
    (a_red : PySem.W.nsIn K mainGlobals "_reduced" = some (some (.ref f_red))) (l_red : K.lookup f_red = some ⟨oc_red, od_red, .func (PySem.W.fnOf "_reduced" "_reduced" (defArgs s_red) (defBody s_red) (defScope s_red) .none kV_red dc_red pm_red an_red cd_red ct_red), sl_red⟩) (c_red : PySem.W.codeIn K cd_red "_reduced" = true) (k_red : PySem.W.keepIn K (.ref f_red) = true)
    (a_inch : PySem.W.nsIn K mainGlobals "in_char" = some (some (.ref f_inch))) (l_inch : K.lookup f_inch = some ⟨oc_inch, od_inch, .func (PySem.W.fnOf "in_char" "in_char" (defArgs s_inch) (defBody s_inch) (defScope s_inch) .none kV_inch dc_inch pm_inch an_inch cd_inch ct_inch), sl_inch⟩) (c_inch : PySem.W.codeIn K cd_inch "in_char" = true) (k_inch : PySem.W.keepIn K (.ref f_inch) = true)
    (a_term : PySem.W.nsIn K mainGlobals "_term" = some (some (.ref f_term))) (l_term : K.lookup f_term = some ⟨oc_term, od_term, .func (PySem.W.fnOf "_term" "_term" (defArgs s_term) (defBody s_term) (defScope s_term) .none kV_term dc_term pm_term an_term cd_term ct_term), sl_term⟩) (c_term : PySem.W.codeIn K cd_term "_term" = true) (k_term : PySem.W.keepIn K (.ref f_term) = true)
    (a_part : PySem.W.nsIn K mainGlobals "parted" = some (some (.ref f_part))) (l_part : K.lookup f_part = some ⟨oc_part, od_part, .func (PySem.W.fnOf "parted" "parted" (defArgs s_part) (defBody s_part) (defScope s_part) .none kV_part dc_part pm_part an_part cd_part ct_part), sl_part⟩) (c_part : PySem.W.codeIn K cd_part "parted" = true) (k_part : PySem.W.keepIn K (.ref f_part) = true)
    (a_div : PySem.W.nsIn K mainGlobals "divided_in" = some (some (.ref f_div))) (l_div : K.lookup f_div = some ⟨oc_div, od_div, .func (PySem.W.fnOf "divided_in" "divided_in" (defArgs s_div) (defBody s_div) (defScope s_div) .none kV_div dc_div pm_div an_div cd_div ct_div), sl_div⟩) (c_div : PySem.W.codeIn K cd_div "divided_in" = true) (k_div : PySem.W.keepIn K (.ref f_div) = true)
    (a_roots : PySem.W.nsIn K mainGlobals "roots_in" = some (some (.ref f_roots))) (l_roots : K.lookup f_roots = some ⟨oc_roots, od_roots, .func (PySem.W.fnOf "roots_in" "roots_in" (defArgs s_roots) (defBody s_roots) (defScope s_roots) .none kV_roots dc_roots pm_roots an_roots cd_roots ct_roots), sl_roots⟩) (c_roots : PySem.W.codeIn K cd_roots "roots_in" = true) (k_roots : PySem.W.keepIn K (.ref f_roots) = true)
    (a_cell : PySem.W.nsIn K mainGlobals "_law_cell" = some (some (.ref f_cell))) (l_cell : K.lookup f_cell = some ⟨oc_cell, od_cell, .func (PySem.W.fnOf "_law_cell" "_law_cell" (defArgs s_cell) (defBody s_cell) (defScope s_cell) .none kV_cell dc_cell pm_cell an_cell cd_cell ct_cell), sl_cell⟩) (c_cell : PySem.W.codeIn K cd_cell "_law_cell" = true) (k_cell : PySem.W.keepIn K (.ref f_cell) = true)
    (a_draws : PySem.W.nsIn K mainGlobals "_law_draws" = some (some (.ref f_draws))) (l_draws : K.lookup f_draws = some ⟨oc_draws, od_draws, .func (PySem.W.fnOf "_law_draws" "_law_draws" (defArgs s_draws) (defBody s_draws) (defScope s_draws) .none kV_draws dc_draws pm_draws an_draws cd_draws ct_draws), sl_draws⟩) (c_draws : PySem.W.codeIn K cd_draws "_law_draws" = true) (k_draws : PySem.W.keepIn K (.ref f_draws) = true)
    (a_lrow : PySem.W.nsIn K mainGlobals "_law_row" = some (some (.ref f_lrow))) (l_lrow : K.lookup f_lrow = some ⟨oc_lrow, od_lrow, .func (PySem.W.fnOf "_law_row" "_law_row" (defArgs s_lrow) (defBody s_lrow) (defScope s_lrow) .none kV_lrow dc_lrow pm_lrow an_lrow cd_lrow ct_lrow), sl_lrow⟩) (c_lrow : PySem.W.codeIn K cd_lrow "_law_row" = true) (k_lrow : PySem.W.keepIn K (.ref f_lrow) = true)
    (a_lprime : PySem.W.nsIn K mainGlobals "_law_is_prime" = some (some (.ref f_lprime))) (l_lprime : K.lookup f_lprime = some ⟨oc_lprime, od_lprime, .func (PySem.W.fnOf "_law_is_prime" "_law_is_prime" (defArgs s_lprime) (defBody s_lprime) (defScope s_lprime) .none kV_lprime dc_lprime pm_lprime an_lprime cd_lprime ct_lprime), sl_lprime⟩) (c_lprime : PySem.W.codeIn K cd_lprime "_law_is_prime" = true) (k_lprime : PySem.W.keepIn K (.ref f_lprime) = true)
    (a_lpf : PySem.W.nsIn K mainGlobals "_law_prime_from" = some (some (.ref f_lpf))) (l_lpf : K.lookup f_lpf = some ⟨oc_lpf, od_lpf, .func (PySem.W.fnOf "_law_prime_from" "_law_prime_from" (defArgs s_lpf) (defBody s_lpf) (defScope s_lpf) .none kV_lpf dc_lpf pm_lpf an_lpf cd_lpf ct_lpf), sl_lpf⟩) (c_lpf : PySem.W.codeIn K cd_lpf "_law_prime_from" = true) (k_lpf : PySem.W.keepIn K (.ref f_lpf) = true)
    (a_lvalp : PySem.W.nsIn K mainGlobals "_law_value" = some (some (.ref f_lvalp))) (l_lvalp : K.lookup f_lvalp = some ⟨oc_lvalp, od_lvalp, .func (PySem.W.fnOf "_law_value" "_law_value" (defArgs s_lvalp) (defBody s_lvalp) (defScope s_lvalp) .none kV_lvalp dc_lvalp pm_lvalp an_lvalp cd_lvalp ct_lvalp), sl_lvalp⟩) (c_lvalp : PySem.W.codeIn K cd_lvalp "_law_value" = true) (k_lvalp : PySem.W.keepIn K (.ref f_lvalp) = true)
    (a_ldiv : PySem.W.nsIn K mainGlobals "_law_divided" = some (some (.ref f_ldiv))) (l_ldiv : K.lookup f_ldiv = some ⟨oc_ldiv, od_ldiv, .func (PySem.W.fnOf "_law_divided" "_law_divided" (defArgs s_ldiv) (defBody s_ldiv) (defScope s_ldiv) .none kV_ldiv dc_ldiv pm_ldiv an_ldiv cd_ldiv ct_ldiv), sl_ldiv⟩) (c_ldiv : PySem.W.codeIn K cd_ldiv "_law_divided" = true) (k_ldiv : PySem.W.keepIn K (.ref f_ldiv) = true)
    (a_lref : PySem.W.nsIn K mainGlobals "_law_refused" = some (some (.ref f_lref))) (l_lref : K.lookup f_lref = some ⟨oc_lref, od_lref, .func (PySem.W.fnOf "_law_refused" "_law_refused" (defArgs s_lref) (defBody s_lref) (defScope s_lref) .none kV_lref dc_lref pm_lref an_lref cd_lref ct_lref), sl_lref⟩) (c_lref : PySem.W.codeIn K cd_lref "_law_refused" = true) (k_lref : PySem.W.keepIn K (.ref f_lref) = true)
    (a_lright : PySem.W.nsIn K mainGlobals "_law_right" = some (some (.ref f_lright))) (l_lright : K.lookup f_lright = some ⟨oc_lright, od_lright, .func (PySem.W.fnOf "_law_right" "_law_right" (defArgs s_lright) (defBody s_lright) (defScope s_lright) .none kV_lright dc_lright pm_lright an_lright cd_lright ct_lright), sl_lright⟩) (c_lright : PySem.W.codeIn K cd_lright "_law_right" = true) (k_lright : PySem.W.keepIn K (.ref f_lright) = true)
    (a_law : PySem.W.nsIn K mainGlobals "law" = some (some (.ref f_law))) (l_law : K.lookup f_law = some ⟨oc_law, od_law, .func (PySem.W.fnOf "law" "law" (defArgs s_law) (defBody s_law) (defScope s_law) .none kV_law dc_law pm_law an_law cd_law ct_law), sl_law⟩) (c_law : PySem.W.codeIn K cd_law "law" = true) (k_law : PySem.W.keepIn K (.ref f_law) = true)
    (aF : PySem.W.nsIn K mainGlobals "FieldError" = some (some (.ref CF))) (rF : PySem.W.readsIn K CF (.type "type") = true) (gF : PySem.W.specialIn K (.ref CF) "__getattribute__" = some (some (.builtin "type.__getattribute__"))) (iF : PySem.W.findCls K (.ref CF) (.type "type") "__init__" = some (.val (.builtin "ValueError.__init__")))
    (aC_ibc : PySem.W.nsIn K mainGlobals "BadCharacteristic" = some (some (.ref C_ibc))) (xC_ibc : K.lookup C_ibc = some (excClassObj nm_ibc q_ibc C_ibc N_ibc bs_ibc [.ref CF, .type "ValueError", .type "Exception", .type "BaseException", .type "object"] true sn_ibc sb_ibc ab_ibc co_ibc dd_ibc x0_ibc x1_ibc x2_ibc x3_ibc x5_ibc "ValueError.__new__")) (sa_ibc : PySem.W.findIn K (.ref C_ibc) "__setattr__" = some (some (.builtin "object.__setattr__"))) (ga_ibc : PySem.W.findIn K (.ref C_ibc) "__getattribute__" = some (some (.builtin "BaseException.__getattribute__"))) (gg_ibc : PySem.W.findIn K (.ref C_ibc) "__getattr__" = some none) (no_ibc : PySem.W.findIn K (.ref C_ibc) "p" = some none) (ic_ibc : PySem.W.findIn K (.ref C_ibc) "__init__" = some (some (.ref f_ibc))) (ti_ibc : PySem.W.typeIn K (.ref f_ibc) = some (.type "function")) (kc_ibc : PySem.W.keepIn K (.ref C_ibc) = true) (ec_ibc : PySem.W.subIn K (.ref C_ibc) (.type "BaseException") = some true) (tc_ibc : PySem.W.typeIn K (.ref C_ibc) = some (.type "type")) (hd_ibc : PySem.W.hasDictIn K C_ibc = true) (is_ibc : PySem.W.isClsIn K C_ibc = true) (sc_ibc : PySem.W.subIn K (.ref C_ibc) (.ref C_ibc) = some true) (l_ibc : K.lookup f_ibc = some ⟨oc_ibc, od_ibc, .func (PySem.W.fnOf "__init__" "BadCharacteristic.__init__" (defArgs s_ibc) (defBody s_ibc) (defScope s_ibc) .none kV_ibc dc_ibc pm_ibc an_ibc cd_ibc ct_ibc), sl_ibc⟩) (c_ibc : PySem.W.codeIn K cd_ibc "BadCharacteristic.__init__" = true) (k_ibc : PySem.W.keepIn K (.ref f_ibc) = true)
    (ecF : PySem.W.subIn K (.ref CF) (.type "BaseException") = some true) (isF : PySem.W.isClsIn K CF = true) (tcF : PySem.W.typeIn K (.ref CF) = some (.type "type")) (hnE : PySem.W.specialIn K (.builtin "object.__class__") "__get__" = some (some (.builtin "getset_descriptor.__get__"))) (htE : PySem.W.takesIn K (.builtin "object.__class__") = some true)
    (aC_ni : PySem.W.nsIn K mainGlobals "NoInverse" = some (some (.ref C_ni))) (xC_ni : K.lookup C_ni = some (excClassObj nm_ni q_ni C_ni N_ni bs_ni [.ref CF, .type "ValueError", .type "Exception", .type "BaseException", .type "object"] true sn_ni sb_ni ab_ni co_ni dd_ni x0_ni x1_ni x2_ni x3_ni x5_ni "ValueError.__new__")) (sa_ni : PySem.W.findIn K (.ref C_ni) "__setattr__" = some (some (.builtin "object.__setattr__"))) (ga_ni : PySem.W.findIn K (.ref C_ni) "__getattribute__" = some (some (.builtin "BaseException.__getattribute__"))) (gg_ni : PySem.W.findIn K (.ref C_ni) "__getattr__" = some none) (ha_ni : PySem.W.findIn K (.ref C_ni) "__class__" = some (some (.builtin "object.__class__"))) (ic_ni : PySem.W.findIn K (.ref C_ni) "__init__" = some (some (.ref f_ni))) (ti_ni : PySem.W.typeIn K (.ref f_ni) = some (.type "function")) (kc_ni : PySem.W.keepIn K (.ref C_ni) = true) (tc_ni : PySem.W.typeIn K (.ref C_ni) = some (.type "type")) (l_ni : K.lookup f_ni = some ⟨oc_ni, od_ni, .func (PySem.W.fnOf "__init__" "NoInverse.__init__" (defArgs s_ini) (defBody s_ini) (defScope s_ini) .none kV_ni dc_ni pm_ni an_ni cd_ni ct_ni), sl_ni⟩) (c_ni : PySem.W.codeIn K cd_ni "NoInverse.__init__" = true) (k_ni : PySem.W.keepIn K (.ref f_ni) = true)
    (K_aK : PySem.W.nsIn K mainGlobals "Poly" = some (some (.ref C_po)))
    (K_pg : PySem.W.plainGet K C_po Str.empty = true)
    (K_hd : PySem.W.hasDictIn K C_po = true)
    (K_po : PySem.W.plainOver K C_po = true)
    (K_sa : PySem.W.findIn K (.ref C_po) "__setattr__" = some (some (.builtin "object.__setattr__")))
    (K_sf : PySem.W.selfFirst K C_po = true)
    (K_ha : PySem.W.findIn K (.ref C_po) "__class__" = some (some (.builtin "object.__class__")))
    (K_hn : PySem.W.specialIn K (.builtin "object.__class__") "__get__" = some (some (.builtin "getset_descriptor.__get__")))
    (K_htk : PySem.W.takesIn K (.builtin "object.__class__") = some true)
    (K_hm : PySem.W.mroIn K C_po (.type "object") = some true)
    (K_mk : PySem.W.makesIn K C_po = true)
    (K_kp : PySem.W.keepIn K (.ref C_po) = true)
    (K_no_coefficients : PySem.W.findIn K (.ref C_po) "coefficients" = some none)
    (K_rd : PySem.W.readsIn K C_po (.type "type") = true)
    (K_sg : PySem.W.specialIn K (.ref C_po) "__getattribute__" = some (some (.builtin "type.__getattribute__")))
    (K_at_pinit : PySem.W.findIn K (.ref C_po) "__init__" = some (some (.ref f_pinit)))
    (K_fn_pinit : PySem.W.isFn K (.ref f_pinit) = true)
    (K_l_pinit : K.lookup f_pinit = some ⟨oc_pinit, od_pinit, .func (PySem.W.fnOf "__init__" "Poly.__init__" (defArgs s_pinit) (defBody s_pinit) (defScope s_pinit) .none kV_pinit dc_pinit pm_pinit an_pinit cd_pinit ct_pinit), sl_pinit⟩)
    (K_c_pinit : PySem.W.codeIn K cd_pinit "Poly.__init__" = true)
    (K_k_pinit : PySem.W.keepIn K (.ref f_pinit) = true)
    (K_at_pdeg : PySem.W.findIn K (.ref C_po) "degree" = some (some (.ref f_pdeg)))
    (K_fn_pdeg : PySem.W.isFn K (.ref f_pdeg) = true)
    (K_l_pdeg : K.lookup f_pdeg = some ⟨oc_pdeg, od_pdeg, .func (PySem.W.fnOf "degree" "Poly.degree" (defArgs s_pdeg) (defBody s_pdeg) (defScope s_pdeg) .none kV_pdeg dc_pdeg pm_pdeg an_pdeg cd_pdeg ct_pdeg), sl_pdeg⟩)
    (K_c_pdeg : PySem.W.codeIn K cd_pdeg "Poly.degree" = true)
    (K_k_pdeg : PySem.W.keepIn K (.ref f_pdeg) = true)
    (K_at_pneg : PySem.W.findIn K (.ref C_po) "__neg__" = some (some (.ref f_pneg)))
    (K_fn_pneg : PySem.W.isFn K (.ref f_pneg) = true)
    (K_l_pneg : K.lookup f_pneg = some ⟨oc_pneg, od_pneg, .func (PySem.W.fnOf "__neg__" "Poly.__neg__" (defArgs s_pneg) (defBody s_pneg) (defScope s_pneg) .none kV_pneg dc_pneg pm_pneg an_pneg cd_pneg ct_pneg), sl_pneg⟩)
    (K_c_pneg : PySem.W.codeIn K cd_pneg "Poly.__neg__" = true)
    (K_k_pneg : PySem.W.keepIn K (.ref f_pneg) = true)
    (K_at_padd : PySem.W.findIn K (.ref C_po) "__add__" = some (some (.ref f_padd)))
    (K_fn_padd : PySem.W.isFn K (.ref f_padd) = true)
    (K_l_padd : K.lookup f_padd = some ⟨oc_padd, od_padd, .func (PySem.W.fnOf "__add__" "Poly.__add__" (defArgs s_padd) (defBody s_padd) (defScope s_padd) .none kV_padd dc_padd pm_padd an_padd cd_padd ct_padd), sl_padd⟩)
    (K_c_padd : PySem.W.codeIn K cd_padd "Poly.__add__" = true)
    (K_k_padd : PySem.W.keepIn K (.ref f_padd) = true)
    (K_at_psub : PySem.W.findIn K (.ref C_po) "__sub__" = some (some (.ref f_psub)))
    (K_fn_psub : PySem.W.isFn K (.ref f_psub) = true)
    (K_l_psub : K.lookup f_psub = some ⟨oc_psub, od_psub, .func (PySem.W.fnOf "__sub__" "Poly.__sub__" (defArgs s_psub) (defBody s_psub) (defScope s_psub) .none kV_psub dc_psub pm_psub an_psub cd_psub ct_psub), sl_psub⟩)
    (K_c_psub : PySem.W.codeIn K cd_psub "Poly.__sub__" = true)
    (K_k_psub : PySem.W.keepIn K (.ref f_psub) = true)
    (K_at_pmulm : PySem.W.findIn K (.ref C_po) "__mul__" = some (some (.ref f_pmulm)))
    (K_fn_pmulm : PySem.W.isFn K (.ref f_pmulm) = true)
    (K_l_pmulm : K.lookup f_pmulm = some ⟨oc_pmulm, od_pmulm, .func (PySem.W.fnOf "__mul__" "Poly.__mul__" (defArgs s_pmulm) (defBody s_pmulm) (defScope s_pmulm) .none kV_pmulm dc_pmulm pm_pmulm an_pmulm cd_pmulm ct_pmulm), sl_pmulm⟩)
    (K_c_pmulm : PySem.W.codeIn K cd_pmulm "Poly.__mul__" = true)
    (K_k_pmulm : PySem.W.keepIn K (.ref f_pmulm) = true)
    (K_at_peq : PySem.W.findIn K (.ref C_po) "__eq__" = some (some (.ref f_peq)))
    (K_fn_peq : PySem.W.isFn K (.ref f_peq) = true)
    (K_l_peq : K.lookup f_peq = some ⟨oc_peq, od_peq, .func (PySem.W.fnOf "__eq__" "Poly.__eq__" (defArgs s_peq) (defBody s_peq) (defScope s_peq) .none kV_peq dc_peq pm_peq an_peq cd_peq ct_peq), sl_peq⟩)
    (K_c_peq : PySem.W.codeIn K cd_peq "Poly.__eq__" = true)
    (K_k_peq : PySem.W.keepIn K (.ref f_peq) = true)
    (K_at_pcall : PySem.W.findIn K (.ref C_po) "__call__" = some (some (.ref f_pcall)))
    (K_fn_pcall : PySem.W.isFn K (.ref f_pcall) = true)
    (K_fi_pcall : PySem.W.fnIn K f_pcall = true)
    (K_l_pcall : K.lookup f_pcall = some ⟨oc_pcall, od_pcall, .func (PySem.W.fnOf "__call__" "Poly.__call__" (defArgs s_pcall) (defBody s_pcall) (defScope s_pcall) .none kV_pcall dc_pcall pm_pcall an_pcall cd_pcall ct_pcall), sl_pcall⟩)
    (K_c_pcall : PySem.W.codeIn K cd_pcall "Poly.__call__" = true)
    (K_k_pcall : PySem.W.keepIn K (.ref f_pcall) = true)
    (K_at_pwhole : PySem.W.findCls K (.ref C_po) (.type "type") "whole" = some (.get (.builtin "classmethod.__get__") (.ref p_pwhole) .none (.ref C_po)))
    (K_rc_pwhole : PySem.W.recIn K p_pwhole "classmethod" = some (.ref f_pwhole :: r_pwhole))
    (K_fi_pwhole : PySem.W.fnIn K f_pwhole = true)
    (K_l_pwhole : K.lookup f_pwhole = some ⟨oc_pwhole, od_pwhole, .func (PySem.W.fnOf "whole" "Poly.whole" (defArgs s_pwhole) (defBody s_pwhole) (defScope s_pwhole) .none kV_pwhole dc_pwhole pm_pwhole an_pwhole cd_pwhole ct_pwhole), sl_pwhole⟩)
    (K_c_pwhole : PySem.W.codeIn K cd_pwhole "Poly.whole" = true)
    (K_k_pwhole : PySem.W.keepIn K (.ref f_pwhole) = true)
    (is_ni : PySem.W.isClsIn K C_ni = true)
    (sc_ni : PySem.W.subIn K (.ref C_ni) (.ref C_ni) = some true)
    (s_bc_ni : PySem.W.subIn K (.ref C_ibc) (.ref C_ni) = some false)
    (z_int : PySem.W.nsIn K mainGlobals "int" = some none)
    (z_len : PySem.W.nsIn K mainGlobals "len" = some none)
    (z_abs : PySem.W.nsIn K mainGlobals "abs" = some none)
    (z_isinstance : PySem.W.nsIn K mainGlobals "isinstance" = some none)
    (z_bool : PySem.W.nsIn K mainGlobals "bool" = some none)
    (z_tuple : PySem.W.nsIn K mainGlobals "tuple" = some none)
    (z_list : PySem.W.nsIn K mainGlobals "list" = some none)
    (z_str : PySem.W.nsIn K mainGlobals "str" = some none)
    (z_range : PySem.W.nsIn K mainGlobals "range" = some none)
    (z_max : PySem.W.nsIn K mainGlobals "max" = some none)
    (z_min : PySem.W.nsIn K mainGlobals "min" = some none)
    (z_sorted : PySem.W.nsIn K mainGlobals "sorted" = some none)
    (z_set : PySem.W.nsIn K mainGlobals "set" = some none)
    (z_zip : PySem.W.nsIn K mainGlobals "zip" = some none)
    (z_sum : PySem.W.nsIn K mainGlobals "sum" = some none)
    (z_reversed : PySem.W.nsIn K mainGlobals "reversed" = some none)
    (z_all : PySem.W.nsIn K mainGlobals "all" = some none)
    (g_isqrt : PySem.W.nsIn K mainGlobals "isqrt" = some (some (.builtin "math.isqrt"))) :
    ∃ fd : FuncData, (∀ (s : Shared) (v : Value), BindsTo s fd ⟨[v], []⟩ [("_law_script", v)]) ∧ ∀ base : Heap, K.In base → base.Ns mainGlobals mg → FnOk P w K mg base CX0 10 fa fd ["_law_script"] (spLaw K) := by
  have e := hfa.symm.trans (PySem.W.mg_of X G a_law)
  cases e
  have T : Txt mg := ⟨PySem.W.mg_none_of X G z_int, PySem.W.mg_none_of X G z_len, PySem.W.mg_none_of X G z_abs, PySem.W.mg_none_of X G z_isinstance, PySem.W.mg_none_of X G z_bool, PySem.W.mg_none_of X G z_tuple, PySem.W.mg_none_of X G z_list, PySem.W.mg_none_of X G z_str, PySem.W.mg_none_of X G z_range, PySem.W.mg_none_of X G z_max, PySem.W.mg_none_of X G z_min, PySem.W.mg_none_of X G z_sorted, PySem.W.mg_none_of X G z_set⟩
  have n_zip := PySem.W.mg_none_of X G z_zip
  have n_sum := PySem.W.mg_none_of X G z_sum
  have n_reversed := PySem.W.mg_none_of X G z_reversed
  have n_all := PySem.W.mg_none_of X G z_all
  have TF : FErr K mg CF := ⟨PySem.W.mg_of X G aF, rF, gF, iF⟩
  have F_ibc := fun_mk (st := s_ibc) l_ibc c_ibc k_ibc
  have b_ibc := F_ibc.binds (ps := ["self", "p"]) fun _ _ _ _ _ _ us hl => match us, hl with | [_, _], _ => rfl
  have E_ibc : ErrC K mg "BadCharacteristic" "p" C_ibc f_ibc := ⟨PySem.W.mg_of X G aC_ibc, ⟨⟨_, _, _, _, _, _, _, _, _, _, _, _, _, _, _, xC_ibc, rfl⟩, sa_ibc, ec_ibc, tc_ibc, kc_ibc⟩, no_ibc, ic_ibc, ti_ibc, ⟨ga_ibc, gg_ibc, ec_ibc, hd_ibc⟩, exm_me ec_ibc is_ibc tc_ibc sc_ibc⟩
  have F_ni := fun_mk (st := s_ini) l_ni c_ni k_ni
  have b_ni := F_ni.binds (ps := ["self"]) fun _ _ _ _ _ _ us hl => match us, hl with | [_], _ => rfl
  have X_ni : ExcT K CF C_ni := ⟨⟨_, _, _, _, _, _, _, _, _, _, _, _, _, _, xC_ni⟩, sa_ni, ga_ni, gg_ni, kc_ni, tc_ni, ha_ni, hnE, htE⟩
  have TC : PoT K mg C_po := ⟨PySem.W.mg_of X G K_aK, ⟨K_pg, K_hd, K_po, K_sa⟩, K_no_coefficients, K_sf, ⟨⟨K_pg, K_hd, K_po, K_sa⟩, K_ha, K_hn, K_htk, K_hm, if_pos (beq_self_eq_true _)⟩⟩
  have F_pinit := fun_mk (st := s_pinit) K_l_pinit K_c_pinit K_k_pinit
  have b_pinit := F_pinit.binds (ps := ["self", "coefficients"]) fun _ _ _ _ _ _ us hl => match us, hl with | [_, _], _ => rfl
  have F_pdeg := fun_mk (st := s_pdeg) K_l_pdeg K_c_pdeg K_k_pdeg
  have b_pdeg := F_pdeg.binds (ps := ["self"]) fun _ _ _ _ _ _ us hl => match us, hl with | [_], _ => rfl
  have M_pdeg : Meth K C_po "degree" f_pdeg := ⟨K_at_pdeg, K_fn_pdeg, K_k_pdeg⟩
  have F_pneg := fun_mk (st := s_pneg) K_l_pneg K_c_pneg K_k_pneg
  have b_pneg := F_pneg.binds (ps := ["self"]) fun _ _ _ _ _ _ us hl => match us, hl with | [_], _ => rfl
  have M_pneg : Meth K C_po "__neg__" f_pneg := ⟨K_at_pneg, K_fn_pneg, K_k_pneg⟩
  have F_padd := fun_mk (st := s_padd) K_l_padd K_c_padd K_k_padd
  have b_padd := F_padd.binds (ps := ["self", "other"]) fun _ _ _ _ _ _ us hl => match us, hl with | [_, _], _ => rfl
  have M_padd : Meth K C_po "__add__" f_padd := ⟨K_at_padd, K_fn_padd, K_k_padd⟩
  have F_psub := fun_mk (st := s_psub) K_l_psub K_c_psub K_k_psub
  have b_psub := F_psub.binds (ps := ["self", "other"]) fun _ _ _ _ _ _ us hl => match us, hl with | [_, _], _ => rfl
  have M_psub : Meth K C_po "__sub__" f_psub := ⟨K_at_psub, K_fn_psub, K_k_psub⟩
  have F_pmulm := fun_mk (st := s_pmulm) K_l_pmulm K_c_pmulm K_k_pmulm
  have b_pmulm := F_pmulm.binds (ps := ["self", "other"]) fun _ _ _ _ _ _ us hl => match us, hl with | [_, _], _ => rfl
  have M_pmulm : Meth K C_po "__mul__" f_pmulm := ⟨K_at_pmulm, K_fn_pmulm, K_k_pmulm⟩
  have F_peq := fun_mk (st := s_peq) K_l_peq K_c_peq K_k_peq
  have b_peq := F_peq.binds (ps := ["self", "other"]) fun _ _ _ _ _ _ us hl => match us, hl with | [_, _], _ => rfl
  have M_peq : Meth K C_po "__eq__" f_peq := ⟨K_at_peq, K_fn_peq, K_k_peq⟩
  have F_pcall := fun_mk (st := s_pcall) K_l_pcall K_c_pcall K_k_pcall
  have b_pcall := F_pcall.binds (ps := ["self", "x"]) fun _ _ _ _ _ _ us hl => match us, hl with | [_, _], _ => rfl
  have M_pcall : Meth K C_po "__call__" f_pcall := ⟨K_at_pcall, K_fn_pcall, K_k_pcall⟩
  have F_pwhole := fun_mk (st := s_pwhole) K_l_pwhole K_c_pwhole K_k_pwhole
  have b_pwhole := F_pwhole.binds (ps := ["cls", "n"]) fun _ _ _ _ _ _ us hl => match us, hl with | [_, _], _ => rfl
  have M_pwhole : ClX.CMet K C_po (.type "type") "whole" p_pwhole f_pwhole := ⟨K_at_pwhole, ⟨_, K_rc_pwhole⟩, K_fi_pwhole⟩
  have CR : ClX.CRead K C_po (.type "type") := ⟨K_rd, K_sg⟩
  have F_padded := fun_mk (st := s_padded) l_padded c_padded k_padded
  have b_padded := F_padded.binds (ps := ["numbers", "size"]) fun _ _ _ _ _ _ us hl => match us, hl with | [_, _], _ => rfl
  have F_pitem := fun_mk (st := s_pitem) l_pitem c_pitem k_pitem
  have b_pitem := F_pitem.binds (ps := ["first", "second", "k"]) fun _ _ _ _ _ _ us hl => match us, hl with | [_, _, _], _ => rfl
  have F_comb := fun_mk (st := s_comb) l_comb c_comb k_comb
  have b_comb := F_comb.binds (ps := ["a", "b"]) fun _ _ _ _ _ _ us hl => match us, hl with | [_, _], _ => rfl
  have F_least := fun_mk (st := s_least) l_least c_least k_least
  have b_least := F_least.binds (ps := ["n"]) fun _ _ _ _ _ _ us hl => match us, hl with | [_], _ => rfl
  have F_prime := fun_mk (st := s_prime) l_prime c_prime k_prime
  have b_prime := F_prime.binds (ps := ["n"]) fun _ _ _ _ _ _ us hl => match us, hl with | [_], _ => rfl
  have F_chkp := fun_mk (st := s_chkp) l_chkp c_chkp k_chkp
  have b_chkp := F_chkp.binds (ps := ["p"]) fun _ _ _ _ _ _ us hl => match us, hl with | [_], _ => rfl
  have F_checked := fun_mk (st := s_checked) l_checked c_checked k_checked
  have b_checked := F_checked.binds (ps := ["p"]) fun _ _ _ _ _ _ us hl => match us, hl with | [_], _ => rfl
  have F_rem := fun_mk (st := s_rem) l_rem c_rem k_rem
  have b_rem := F_rem.binds (ps := ["n", "p"]) fun _ _ _ _ _ _ us hl => match us, hl with | [_, _], _ => rfl
  have F_recip := fun_mk (st := s_recip) l_recip c_recip k_recip
  have b_recip := F_recip.binds (ps := ["n", "p"]) fun _ _ _ _ _ _ us hl => match us, hl with | [_, _], _ => rfl
  have F_red := fun_mk (st := s_red) l_red c_red k_red
  have b_red := F_red.binds (ps := ["poly", "p"]) fun _ _ _ _ _ _ us hl => match us, hl with | [_, _], _ => rfl
  have F_inch := fun_mk (st := s_inch) l_inch c_inch k_inch
  have b_inch := F_inch.binds (ps := ["poly", "p"]) fun _ _ _ _ _ _ us hl => match us, hl with | [_, _], _ => rfl
  have F_term := fun_mk (st := s_term) l_term c_term k_term
  have b_term := F_term.binds (ps := ["n", "exponent"]) fun _ _ _ _ _ _ us hl => match us, hl with | [_, _], _ => rfl
  have F_part := fun_mk (st := s_part) l_part c_part k_part
  have b_part := F_part.binds (ps := ["first", "second", "p"]) fun _ _ _ _ _ _ us hl => match us, hl with | [_, _, _], _ => rfl
  have F_div := fun_mk (st := s_div) l_div c_div k_div
  have b_div := F_div.binds (ps := ["first", "second", "p"]) fun _ _ _ _ _ _ us hl => match us, hl with | [_, _, _], _ => rfl
  have F_roots := fun_mk (st := s_roots) l_roots c_roots k_roots
  have b_roots := F_roots.binds (ps := ["poly", "p"]) fun _ _ _ _ _ _ us hl => match us, hl with | [_, _], _ => rfl
  have F_cell := fun_mk (st := s_cell) l_cell c_cell k_cell
  have b_cell := F_cell.binds (ps := ["_law_script", "_law_k"]) fun _ _ _ _ _ _ us hl => match us, hl with | [_, _], _ => rfl
  have F_draws := fun_mk (st := s_draws) l_draws c_draws k_draws
  have b_draws := F_draws.binds (ps := ["_law_cell_here", "_law_sizes"]) fun _ _ _ _ _ _ us hl => match us, hl with | [_, _], _ => rfl
  have F_lrow := fun_mk (st := s_lrow) l_lrow c_lrow k_lrow
  have b_lrow := F_lrow.binds (ps := ["_law_cell_here", "_law_many", "_law_reach"]) fun _ _ _ _ _ _ us hl => match us, hl with | [_, _, _], _ => rfl
  have F_lprime := fun_mk (st := s_lprime) l_lprime c_lprime k_lprime
  have b_lprime := F_lprime.binds (ps := ["_law_n"]) fun _ _ _ _ _ _ us hl => match us, hl with | [_], _ => rfl
  have F_lpf := fun_mk (st := s_lpf) l_lpf c_lpf k_lpf
  have b_lpf := F_lpf.binds (ps := ["_law_n"]) fun _ _ _ _ _ _ us hl => match us, hl with | [_], _ => rfl
  have F_lvalp := fun_mk (st := s_lvalp) l_lvalp c_lvalp k_lvalp
  have b_lvalp := F_lvalp.binds (ps := ["_law_row_here", "_law_x", "_law_p"]) fun _ _ _ _ _ _ us hl => match us, hl with | [_, _, _], _ => rfl
  have F_ldiv := fun_mk (st := s_ldiv) l_ldiv c_ldiv k_ldiv
  have b_ldiv := F_ldiv.binds (ps := ["_law_first", "_law_second", "_law_p"]) fun _ _ _ _ _ _ us hl => match us, hl with | [_, _, _], _ => rfl
  have F_lref := fun_mk (st := s_lref) l_lref c_lref k_lref
  have b_lref := F_lref.binds (ps := ["_law_poly", "_law_p"]) fun _ _ _ _ _ _ us hl => match us, hl with | [_, _], _ => rfl
  have F_lright := fun_mk (st := s_lright) l_lright c_lright k_lright
  have b_lright := F_lright.binds (ps := ["_law_first", "_law_second", "_law_p"]) fun _ _ _ _ _ _ us hl => match us, hl with | [_, _, _], _ => rfl
  have F_law := fun_mk (st := s_law) l_law c_law k_law
  have m_isqrt := PySem.W.mg_of X G g_isqrt
  refine ⟨PySem.W.fnOf "law" "law" (defArgs s_law) (defBody s_law) (defScope s_law) .none kV_law dc_law pm_law an_law cd_law ct_law, fun s v => .of_eq rfl, fun base _ _ => ?_⟩
  have x_ibc : Er P w K mg base "BadCharacteristic" "p" C_ibc := ⟨_, _, _, E_ibc, ok_ibc TF E_ibc.oex E_ibc.no F_ibc, b_ibc⟩
  have d_padded : Cl P w K mg base CX0 1 "padded" (spPadded K) := ⟨_, _, _, ok_padded T F_padded, PySem.W.mg_of X G a_padded, k_padded, b_padded⟩
  have d_pitem : Cl P w K mg base CX0 1 "_product_item" (spPitem K) := ⟨_, _, _, ok_pitem T n_sum F_pitem, PySem.W.mg_of X G a_pitem, k_pitem, b_pitem⟩
  have d_comb : Cl P w K mg base CX0 1 "combination" spComb := ⟨_, _, _, ok_comb F_comb, PySem.W.mg_of X G a_comb, k_comb, b_comb⟩
  have d_least : Cl P w K mg base CX0 1 "_least_divisor" spLeast := ⟨_, _, _, ok_least T m_isqrt F_least, PySem.W.mg_of X G a_least, k_least, b_least⟩
  have d_prime : Cl P w K mg base CX0 2 "is_prime" spPrime := ⟨_, _, _, ok_prime F_prime d_least, PySem.W.mg_of X G a_prime, k_prime, b_prime⟩
  have d_chkp : Cl P w K mg base (L2N.CX P w) 3 "checked_prime" (spChkp C_ibc) := ⟨_, _, _, ok_chkp F_chkp d_prime x_ibc, PySem.W.mg_of X G a_chkp, k_chkp, b_chkp⟩
  have d_checked : Cl P w K mg base (L2N.CX P w) 4 "checked" (spChecked C_ibc) := ⟨_, _, _, ok_checked F_checked d_chkp, PySem.W.mg_of X G a_checked, k_checked, b_checked⟩
  have d_rem : Cl P w K mg base CX0 1 "remainder" spRem := ⟨_, _, _, ok_rem F_rem, PySem.W.mg_of X G a_rem, k_rem, b_rem⟩
  have d_recip : Cl P w K mg base CX0 2 "reciprocal" spRecip := ⟨_, _, _, ok_recip F_recip d_comb, PySem.W.mg_of X G a_recip, k_recip, b_recip⟩
  have d_cell : Cl P w K mg base CX0 1 "_law_cell" (spCellL K) := ⟨_, _, _, ok_cell T F_cell, PySem.W.mg_of X G a_cell, k_cell, b_cell⟩
  have d_draws : Cl P w K mg base CX0 1 "_law_draws" (spDraws K) := ⟨_, _, _, ok_draws T F_draws, PySem.W.mg_of X G a_draws, k_draws, b_draws⟩
  have d_lrow : Cl P w K mg base CX0 2 "_law_row" spRow := ⟨_, _, _, ok_lrow F_lrow d_draws, PySem.W.mg_of X G a_lrow, k_lrow, b_lrow⟩
  have d_lprime : Cl P w K mg base CX0 1 "_law_is_prime" spOddPr := ⟨_, _, _, ok_lprime F_lprime, PySem.W.mg_of X G a_lprime, k_lprime, b_lprime⟩
  have d_lpf : Cl P w K mg base CX0 2 "_law_prime_from" spLpf := ⟨_, _, _, ok_lpf T F_lpf d_lprime, PySem.W.mg_of X G a_lpf, k_lpf, b_lpf⟩
  have d_lvalp : Cl P w K mg base CX0 1 "_law_value" (spLvalp K) := ⟨_, _, _, ok_lvalp T F_lvalp, PySem.W.mg_of X G a_lvalp, k_lvalp, b_lvalp⟩
  have c_pil : Ma P w K mg base 2 C_po (spPI C_po false K) := ⟨_, _, _, ⟨K_mk, K_at_pinit, K_fn_pinit, K_kp⟩, ok_pinit false T TC F_pinit, b_pinit⟩
  have c_pit : Ma P w K mg base 2 C_po (spPI C_po true K) := ⟨_, _, _, ⟨K_mk, K_at_pinit, K_fn_pinit, K_kp⟩, ok_pinit true T TC F_pinit, b_pinit⟩
  have c_whole : Cm P w K mg base 4 C_po "whole" (spPwhole C_po K) := ⟨_, _, _, _, _, CR, M_pwhole, ok_pwhole TC F_pwhole c_pil, b_pwhole⟩
  have c_deg : Me P w K mg base 1 C_po "degree" (spPdeg C_po K) := ⟨_, _, _, M_pdeg, ok_pdeg T TC F_pdeg, b_pdeg⟩
  have c_neg : Me P w K mg base 4 C_po "__neg__" (spPneg C_po K) := ⟨_, _, _, M_pneg, ok_pneg TC F_pneg c_pil, b_pneg⟩
  have c_add : Me P w K mg base 4 C_po "__add__" (spPadd C_po K 1) := ⟨_, _, _, M_padd, ok_padd T n_zip TC F_padd c_pil d_padded, b_padd⟩
  have c_sub : Me P w K mg base 5 C_po "__sub__" (spPadd C_po K (-1)) := ⟨_, _, _, M_psub, ok_psub TC F_psub c_add c_neg, b_psub⟩
  have c_mul : Me P w K mg base 4 C_po "__mul__" (spPmul C_po K) := ⟨_, _, _, M_pmulm, ok_pmul T TC F_pmulm c_pil c_deg d_pitem, b_pmulm⟩
  have c_eq : Me P w K mg base 1 C_po "__eq__" (spPeq C_po K) := ⟨_, _, _, M_peq, ok_peq T TC F_peq, b_peq⟩
  have c_call : Co P w K mg base 1 C_po (spPcall C_po K) := ⟨_, ⟨K_at_pcall, K_fn_pcall, K_fi_pcall⟩, fnR_of (ok_pcall n_reversed TC F_pcall) b_pcall⟩
  have d_red : Cl P w K mg base CX0 4 "_reduced" (spRed C_po K) := ⟨_, _, _, ok_red T TC F_red d_rem c_pil, PySem.W.mg_of X G a_red, k_red, b_red⟩
  have d_inch : Cl P w K mg base CX0 5 "in_char" (spInch C_po K) := ⟨_, _, _, ok_inch F_inch d_checked d_red, PySem.W.mg_of X G a_inch, k_inch, b_inch⟩
  have d_term : Cl P w K mg base CX0 4 "_term" (spTerm C_po K) := ⟨_, _, _, ok_term TC F_term c_pil, PySem.W.mg_of X G a_term, k_term, b_term⟩
  have x_ni : ErG P w K mg base "NoInverse" C_ni (spInit0 C_ni) := ⟨_, _, _, PySem.W.mg_of X G aC_ni, X_ni.oex, ic_ni, ti_ni, ok_ini TF X_ni.oex F_ni, b_ni⟩
  have d_part : Cl P w K mg base CX0 6 "parted" (spPart C_po K) := ⟨_, _, _, ok_part T TC F_part d_red d_rem d_term c_pil c_whole c_deg c_add c_sub c_mul, PySem.W.mg_of X G a_part, k_part, b_part⟩
  have d_div : Cl P w K mg base (L2N.CX P w) 7 "divided_in" (spDiv C_po C_ibc C_ni K) := ⟨_, _, _, ok_div T TC F_div d_chkp d_red d_recip d_part x_ni c_whole c_mul, PySem.W.mg_of X G a_div, k_div, b_div⟩
  have d_roots : Cl P w K mg base (L2N.CX P w) 5 "roots_in" (spRoots C_po C_ibc K) := ⟨_, _, _, ok_roots T TC F_roots d_chkp d_red c_call, PySem.W.mg_of X G a_roots, k_roots, b_roots⟩
  have TI : ExN K mg "NoInverse" C_ni := ⟨PySem.W.mg_of X G aC_ni, exm_me X_ni.ec is_ni X_ni.tc sc_ni⟩
  have exi : PySem.W.exmOne K (.ref C_ibc) (.ref C_ni) = some false := PySem.W.exm_ref X_ni.ec X_ni.hd X_ni.tc s_bc_ni
  have d_ldiv : Cl P w K mg base CX0 8 "_law_divided" (spLdiv C_po K) := ⟨_, _, _, ok_ldiv E_ibc TI exi F_ldiv d_div, PySem.W.mg_of X G a_ldiv, k_ldiv, b_ldiv⟩
  have d_lref : Cl P w K mg base CX0 6 "_law_refused" (spLref C_po K) := ⟨_, _, _, ok_lref E_ibc F_lref d_roots, PySem.W.mg_of X G a_lref, k_lref, b_lref⟩
  have d_lright : Cl P w K mg base CX0 9 "_law_right" (spLright C_po K) := ⟨_, _, _, ok_lright T n_all TC F_lright d_ldiv d_inch c_deg c_add c_mul c_eq, PySem.W.mg_of X G a_lright, k_lright, b_lright⟩
  exact ok_law (CB := C_ibc) T TC F_law d_cell d_draws d_lrow d_lpf d_lright d_ldiv d_lref d_lvalp d_roots c_pil
theorem walk {l : PySem.W.OpenLaw} {q : Program} {loose : List Str} {XP : (Str → Option Value) → Heap → Prop} {YP : World → Heap → Prop} {d : DefRec} {K : Params → PySem.W.Frag} (hn : l.most = some 63) (hdf : d.params.defaults = [])
    (hY : ∀ (w : World) (h : Heap), YP w h → (K w.params).In h)
    (F : ∀ (w : World) (mg : Str → Option Value) (fa : Addr) (h : Heap), (K w.params).In h → h.Ns mainGlobals mg → mg d.name = some (.ref fa) →
      ∃ fd : FuncData, (∀ (s : Shared) (u : Value), BindsTo s fd ⟨[u], []⟩ [("_law_script", u)]) ∧ ∀ base : Heap, (K w.params).In base → base.Ns mainGlobals mg → FnOk l.prog w (K w.params) mg base CX0 10 fa fd ["_law_script"] (spLaw (K w.params))) :
    PySem.W.WalkO q loose XP YP l.row.toRowW d [] (fun f vs => PySem.call f vs) :=
  L2.walk_of (n := 63) (k := 10) (x := "_law_script") (CX := fun _ => CX0) (sp := fun w => spLaw (K w.params)) hn (by decide) hdf ⟨rfl, by decide, by decide⟩ hY F (fun _ _ a ns hl _ hS => ⟨a, ns, rfl, hS, hl, fun _ => rfl⟩) fun _ _ _ _ _ z => z
end My
open PySem PySem.W PyProof.Rows
set_option maxRecDepth 100000 in
set_option maxHeartbeats 0 in
theorem PySem.Challenge.cw_everyfield_k35_divided_in_characteristic_holds : PySem.Challenge.rw_everyfield_k35_divided_in_characteristic.Holds := by
  w_on; o_law; k_head; (case hw => w_witness2)
  k_fill
  refine My.walk (l := PySem.Challenge.rw_everyfield_k35_divided_in_characteristic) rfl rfl (fun w h Y => PySem.W.kIn_of Y) ?F
  case F =>
    intro w mg fa h KX G hmg
    refine' My.all_mk KX G hmg ?a_padded ?l_padded ?c_padded ?k_padded ?a_pitem ?l_pitem ?c_pitem ?k_pitem ?a_comb ?l_comb ?c_comb ?k_comb ?a_least ?l_least ?c_least ?k_least ?a_prime ?l_prime ?c_prime ?k_prime ?a_chkp ?l_chkp ?c_chkp ?k_chkp ?a_checked ?l_checked ?c_checked ?k_checked ?a_rem ?l_rem ?c_rem ?k_rem ?a_recip ?l_recip ?c_recip ?k_recip ?a_red ?l_red ?c_red ?k_red ?a_inch ?l_inch ?c_inch ?k_inch ?a_term ?l_term ?c_term ?k_term ?a_part ?l_part ?c_part ?k_part ?a_div ?l_div ?c_div ?k_div ?a_roots ?l_roots ?c_roots ?k_roots ?a_cell ?l_cell ?c_cell ?k_cell ?a_draws ?l_draws ?c_draws ?k_draws ?a_lrow ?l_lrow ?c_lrow ?k_lrow ?a_lprime ?l_lprime ?c_lprime ?k_lprime ?a_lpf ?l_lpf ?c_lpf ?k_lpf ?a_lvalp ?l_lvalp ?c_lvalp ?k_lvalp ?a_ldiv ?l_ldiv ?c_ldiv ?k_ldiv ?a_lref ?l_lref ?c_lref ?k_lref ?a_lright ?l_lright ?c_lright ?k_lright ?a_law ?l_law ?c_law ?k_law ?aF ?rF ?gF ?iF ?aC_ibc ?xC_ibc ?sa_ibc ?ga_ibc ?gg_ibc ?no_ibc ?ic_ibc ?ti_ibc ?kc_ibc ?ec_ibc ?tc_ibc ?hd_ibc ?is_ibc ?sc_ibc ?l_ibc ?c_ibc ?k_ibc ?ecF ?isF ?tcF ?hnE ?htE ?aC_ni ?xC_ni ?sa_ni ?ga_ni ?gg_ni ?ha_ni ?ic_ni ?ti_ni ?kc_ni ?tc_ni ?l_ni ?c_ni ?k_ni ?K_aK ?K_pg ?K_hd ?K_po ?K_sa ?K_sf ?K_ha ?K_hn ?K_htk ?K_hm ?K_mk ?K_kp ?K_no_coefficients ?K_rd ?K_sg ?K_at_pinit ?K_fn_pinit ?K_l_pinit ?K_c_pinit ?K_k_pinit ?K_at_pdeg ?K_fn_pdeg ?K_l_pdeg ?K_c_pdeg ?K_k_pdeg ?K_at_pneg ?K_fn_pneg ?K_l_pneg ?K_c_pneg ?K_k_pneg ?K_at_padd ?K_fn_padd ?K_l_padd ?K_c_padd ?K_k_padd ?K_at_psub ?K_fn_psub ?K_l_psub ?K_c_psub ?K_k_psub ?K_at_pmulm ?K_fn_pmulm ?K_l_pmulm ?K_c_pmulm ?K_k_pmulm ?K_at_peq ?K_fn_peq ?K_l_peq ?K_c_peq ?K_k_peq ?K_at_pcall ?K_fn_pcall ?K_fi_pcall ?K_l_pcall ?K_c_pcall ?K_k_pcall ?K_at_pwhole ?K_rc_pwhole ?K_fi_pwhole ?K_l_pwhole ?K_c_pwhole ?K_k_pwhole ?is_ni ?sc_ni ?s_bc_ni ?z_int ?z_len ?z_abs ?z_isinstance ?z_bool ?z_tuple ?z_list ?z_str ?z_range ?z_max ?z_min ?z_sorted ?z_set ?z_zip ?z_sum ?z_reversed ?z_all ?g_isqrt
    (case a_padded => k_is)
    (case l_padded => k_is)
    (case c_padded => k_is)
    (case k_padded => k_is)
    (case a_pitem => k_is)
    (case l_pitem => k_is)
    (case c_pitem => k_is)
    (case k_pitem => k_is)
    (case a_comb => k_is)
    (case l_comb => k_is)
    (case c_comb => k_is)
    (case k_comb => k_is)
    (case a_least => k_is)
    (case l_least => k_is)
    (case c_least => k_is)
    (case k_least => k_is)
    (case a_prime => k_is)
    (case l_prime => k_is)
    (case c_prime => k_is)
    (case k_prime => k_is)
    (case a_chkp => k_is)
    (case l_chkp => k_is)
    (case c_chkp => k_is)
    (case k_chkp => k_is)
    (case a_checked => k_is)
    (case l_checked => k_is)
    (case c_checked => k_is)
    (case k_checked => k_is)
    (case a_rem => k_is)
    (case l_rem => k_is)
    (case c_rem => k_is)
    (case k_rem => k_is)
    (case a_recip => k_is)
    (case l_recip => k_is)
    (case c_recip => k_is)
    (case k_recip => k_is)
    (case a_red => k_is)
    (case l_red => k_is)
    (case c_red => k_is)
    (case k_red => k_is)
    (case a_inch => k_is)
    (case l_inch => k_is)
    (case c_inch => k_is)
    (case k_inch => k_is)
    (case a_term => k_is)
    (case l_term => k_is)
    (case c_term => k_is)
    (case k_term => k_is)
    (case a_part => k_is)
    (case l_part => k_is)
    (case c_part => k_is)
    (case k_part => k_is)
    (case a_div => k_is)
    (case l_div => k_is)
    (case c_div => k_is)
    (case k_div => k_is)
    (case a_roots => k_is)
    (case l_roots => k_is)
    (case c_roots => k_is)
    (case k_roots => k_is)
    (case a_cell => k_is)
    (case l_cell => k_is)
    (case c_cell => k_is)
    (case k_cell => k_is)
    (case a_draws => k_is)
    (case l_draws => k_is)
    (case c_draws => k_is)
    (case k_draws => k_is)
    (case a_lrow => k_is)
    (case l_lrow => k_is)
    (case c_lrow => k_is)
    (case k_lrow => k_is)
    (case a_lprime => k_is)
    (case l_lprime => k_is)
    (case c_lprime => k_is)
    (case k_lprime => k_is)
    (case a_lpf => k_is)
    (case l_lpf => k_is)
    (case c_lpf => k_is)
    (case k_lpf => k_is)
    (case a_lvalp => k_is)
    (case l_lvalp => k_is)
    (case c_lvalp => k_is)
    (case k_lvalp => k_is)
    (case a_ldiv => k_is)
    (case l_ldiv => k_is)
    (case c_ldiv => k_is)
    (case k_ldiv => k_is)
    (case a_lref => k_is)
    (case l_lref => k_is)
    (case c_lref => k_is)
    (case k_lref => k_is)
    (case a_lright => k_is)
    (case l_lright => k_is)
    (case c_lright => k_is)
    (case k_lright => k_is)
    (case a_law => k_is)
    (case l_law => k_is)
    (case c_law => k_is)
    (case k_law => k_is)
    (case aF => k_is)
    (case rF => k_is)
    (case gF => k_is)
    (case iF => k_is)
    (case aC_ibc => k_is)
    (case xC_ibc => k_is)
    (case sa_ibc => k_is)
    (case ga_ibc => k_is)
    (case gg_ibc => k_is)
    (case no_ibc => k_is)
    (case ic_ibc => k_is)
    (case ti_ibc => k_is)
    (case kc_ibc => k_is)
    (case ec_ibc => k_is)
    (case tc_ibc => k_is)
    (case hd_ibc => k_is)
    (case is_ibc => k_is)
    (case sc_ibc => k_is)
    (case l_ibc => k_is)
    (case c_ibc => k_is)
    (case k_ibc => k_is)
    (case ecF => k_is)
    (case isF => k_is)
    (case tcF => k_is)
    (case hnE => k_is)
    (case htE => k_is)
    (case aC_ni => k_is)
    (case xC_ni => k_is)
    (case sa_ni => k_is)
    (case ga_ni => k_is)
    (case gg_ni => k_is)
    (case ha_ni => k_is)
    (case ic_ni => k_is)
    (case ti_ni => k_is)
    (case kc_ni => k_is)
    (case tc_ni => k_is)
    (case l_ni => k_is)
    (case c_ni => k_is)
    (case k_ni => k_is)
    (case K_aK => k_is)
    (case K_pg => k_is)
    (case K_hd => k_is)
    (case K_po => k_is)
    (case K_sa => k_is)
    (case K_sf => k_is)
    (case K_ha => k_is)
    (case K_hn => k_is)
    (case K_htk => k_is)
    (case K_hm => k_is)
    (case K_mk => k_is)
    (case K_kp => k_is)
    (case K_no_coefficients => k_is)
    (case K_rd => k_is)
    (case K_sg => k_is)
    (case K_at_pinit => k_is)
    (case K_fn_pinit => k_is)
    (case K_l_pinit => k_is)
    (case K_c_pinit => k_is)
    (case K_k_pinit => k_is)
    (case K_at_pdeg => k_is)
    (case K_fn_pdeg => k_is)
    (case K_l_pdeg => k_is)
    (case K_c_pdeg => k_is)
    (case K_k_pdeg => k_is)
    (case K_at_pneg => k_is)
    (case K_fn_pneg => k_is)
    (case K_l_pneg => k_is)
    (case K_c_pneg => k_is)
    (case K_k_pneg => k_is)
    (case K_at_padd => k_is)
    (case K_fn_padd => k_is)
    (case K_l_padd => k_is)
    (case K_c_padd => k_is)
    (case K_k_padd => k_is)
    (case K_at_psub => k_is)
    (case K_fn_psub => k_is)
    (case K_l_psub => k_is)
    (case K_c_psub => k_is)
    (case K_k_psub => k_is)
    (case K_at_pmulm => k_is)
    (case K_fn_pmulm => k_is)
    (case K_l_pmulm => k_is)
    (case K_c_pmulm => k_is)
    (case K_k_pmulm => k_is)
    (case K_at_peq => k_is)
    (case K_fn_peq => k_is)
    (case K_l_peq => k_is)
    (case K_c_peq => k_is)
    (case K_k_peq => k_is)
    (case K_at_pcall => k_is)
    (case K_fn_pcall => k_is)
    (case K_fi_pcall => k_is)
    (case K_l_pcall => k_is)
    (case K_c_pcall => k_is)
    (case K_k_pcall => k_is)
    (case K_at_pwhole => k_is)
    (case K_rc_pwhole => k_is)
    (case K_fi_pwhole => k_is)
    (case K_l_pwhole => k_is)
    (case K_c_pwhole => k_is)
    (case K_k_pwhole => k_is)
    (case is_ni => k_is)
    (case sc_ni => k_is)
    (case s_bc_ni => k_is)
    (case z_int => k_is)
    (case z_len => k_is)
    (case z_abs => k_is)
    (case z_isinstance => k_is)
    (case z_bool => k_is)
    (case z_tuple => k_is)
    (case z_list => k_is)
    (case z_str => k_is)
    (case z_range => k_is)
    (case z_max => k_is)
    (case z_min => k_is)
    (case z_sorted => k_is)
    (case z_set => k_is)
    (case z_zip => k_is)
    (case z_sum => k_is)
    (case z_reversed => k_is)
    (case z_all => k_is)
    (case g_isqrt => k_is)
