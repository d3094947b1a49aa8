import PyProof.Rows.All
import Wide.All
import OpenK.AllK
import Wide.FinOn
import PyProof.NoPylong
import Flt.Len
import HandS.ForMost
import HandS.ForExc
import HandS.Wide
import HandS.Gcd
import HandS.IsInst
import HandS.Evl
import HandS.Flow
import HandS.Iter
import HandS.ExcInit
import HandS.ExcField
import HandS.ExcCtx
import HandS.HotCalls
import HandS.ExcInitHot
import HandS.TupLe
import HandS.TupAny
import HandS.Conv
import HandS.Strs
import HandS.SetFor
import HandS.Zip
import HandS.Star
import HandS.ClsMeth
import HandS.Codes
import HandS.SlotsOwn
import HandS.Walk
import HandS.StrMore
import HandS.FStr
import HandS.FStrTup
import HandS.Style
import HandS.TryMany
import HandS.ExcIs
import HandS.Rev
import HandS.ListEq
import HandS.Small
import KE.GoesMore
import KE.GoesEnum
import PyProof.Draws
import Flt.RightSqrt
import HandS.GenList
import PyProof.GenComp
import HandS.NoneIn
import HandS.Defaults
import KE.KDictZip
import HandS.CallSlots
import PySem.Challenge.RW_everyfield_k89_best_questions
set_option Elab.async false
set_option linter.all false
set_option maxRecDepth 100000
set_option maxHeartbeats 4000000
set_option exponentiation.threshold 20000
namespace My
open PySem PySem.Spec PyProof.Rows L2
def top (i : Nat) : Stmt := PySem.Challenge.pw_everyfield_k89_best_questions.main.body.getD i (.Pass ⟨0, 0, 0, 0⟩)
-- part prime_math
def Pr (n : Int) : Prop := 2 ≤ n ∧ ∀ m : Int, 2 ≤ m → m < n → ¬ m ∣ n
noncomputable def prB (n : Int) : Bool := @decide (Pr n) (Classical.propDecidable _)
theorem prB_true {n : Int} (h : Pr n) : prB n = true := by unfold prB; exact @decide_eq_true _ (Classical.propDecidable _) h
theorem prB_false {n : Int} (h : ¬ Pr n) : prB n = false := by unfold prB; exact @decide_eq_false _ (Classical.propDecidable _) h
theorem prB_iff {n : Int} : prB n = true ↔ Pr n := by unfold prB; exact @decide_eq_true_iff _ (Classical.propDecidable _)
/-- r is the least divisor of n from 2 on -/
structure Least (n r : Int) : Prop where
  two : 2 ≤ r
  dvd : r ∣ n
  min : ∀ m : Int, 2 ≤ m → m < r → ¬ m ∣ n
theorem Least.le {n r : Int} (h : Least n r) (hn : 2 ≤ n) : r ≤ n := Int.le_of_dvd (by omega) h.dvd
theorem Least.pr {n r : Int} (h : Least n r) : Pr r := ⟨h.two, fun m h1 h2 h3 => h.min m h1 h2 (Int.dvd_trans h3 h.dvd)⟩
theorem Least.uniq {n r r' : Int} (h : Least n r) (h' : Least n r') : r = r' := by
  rcases Int.lt_trichotomy r r' with c | c | c
  · exact absurd h.dvd (h'.min r h.two c)
  · exact c
  · exact absurd h'.dvd (h.min r' h'.two c)
theorem Least.self {n r : Int} (h : Least n r) (hn : 2 ≤ n) : r = n ↔ Pr n := by
  constructor
  · intro e
    rw [e] at h
    exact h.pr
  · intro p
    have := h.le hn
    by_cases c : r = n
    · exact c
    · exact absurd h.dvd (p.2 r h.two (by omega))
/-- a proper divisor: one at most the root -/
theorem small_div {n m s : Int} (hn : 2 ≤ n) (h2 : 2 ≤ m) (hm : m < n) (hd : m ∣ n) (hs0 : 0 ≤ s) (hs : n < (s + 1) * (s + 1)) : ∃ d : Int, 2 ≤ d ∧ d ≤ s ∧ d ≤ m ∧ d ∣ n := by
  obtain ⟨k, e⟩ := hd
  have hk : 2 ≤ k := by
    rcases Int.lt_trichotomy k 1 with c | c | c
    · have : m * k ≤ m * 0 := Int.mul_le_mul_of_nonneg_left (by omega) (by omega)
      omega
    · subst c
      omega
    · omega
  by_cases c : m ≤ s
  · exact ⟨m, h2, c, Int.le_refl _, ⟨k, e⟩⟩
  · refine ⟨k, hk, ?_, ?_, ⟨m, by rw [e, Int.mul_comm]⟩⟩
    · by_cases c2 : k ≤ s
      · exact c2
      · have : (s + 1) * (s + 1) ≤ m * k := Int.mul_le_mul (by omega) (by omega) (by omega) (by omega)
        omega
    · by_cases c2 : k ≤ m
      · exact c2
      · have c3 : k ≤ s := by
          by_cases c4 : k ≤ s
          · exact c4
          · have : (s + 1) * (s + 1) ≤ m * k := Int.mul_le_mul (by omega) (by omega) (by omega) (by omega)
            omega
        omega
/-- the trial over the odd ints: what is left at its end -/
theorem least_of_odd {n s : Int} (hn : 2 ≤ n) (h2 : ¬ (2 : Int) ∣ n) (hs0 : 0 ≤ s) (hs : n < (s + 1) * (s + 1)) (h : ∀ i : Nat, 3 + (i : Int) * 2 ≤ s → ¬ (3 + (i : Int) * 2) ∣ n) : Least n n := by
  refine ⟨hn, Int.dvd_refl n, fun m h1 hm hd => ?_⟩
  obtain ⟨d, d2, ds, _, dn⟩ := small_div hn h1 hm hd hs0 hs
  have odd : d % 2 = 1 := by
    have := Int.emod_two_eq d
    rcases this with e | e
    · exact absurd (Int.dvd_trans (Int.dvd_of_emod_eq_zero e) dn) h2
    · exact e
  have e : d = 3 + ((((d - 3) / 2).toNat : Nat) : Int) * 2 := by omega
  exact h ((d - 3) / 2).toNat (by omega) (e ▸ dn)
theorem least_at {n : Int} {i : Nat} (h2 : ¬ (2 : Int) ∣ n) (hd : (3 + (i : Int) * 2) ∣ n) (h : ∀ j : Nat, j < i → ¬ (3 + (j : Int) * 2) ∣ n) : Least n (3 + (i : Int) * 2) := by
  refine ⟨by omega, hd, fun m h1 hm hdv => ?_⟩
  have odd : m % 2 = 1 := by
    have := Int.emod_two_eq m
    rcases this with e | e
    · exact absurd (Int.dvd_trans (Int.dvd_of_emod_eq_zero e) hdv) h2
    · exact e
  have e : m = 3 + ((((m - 3) / 2).toNat : Nat) : Int) * 2 := by omega
  exact h ((m - 3) / 2).toNat (by omega) (e ▸ hdv)
theorem least_two {n : Int} (h : (2 : Int) ∣ n) : Least n 2 := ⟨by omega, h, fun m h1 h2 => by omega⟩
/-- every int from 2 on has a least divisor -/
theorem least_ex {n : Int} (hn : 2 ≤ n) : ∃ r, Least n r := by
  have key : ∀ (k : Nat) (r : Int), n - r ≤ k → 2 ≤ r → r ≤ n → (∀ m : Int, 2 ≤ m → m < r → ¬ m ∣ n) → ∃ r, Least n r := by
    intro k
    induction k with
    | zero =>
      intro r h1 h2 h3 h4
      have : r = n := by omega
      subst this
      exact ⟨r, h2, Int.dvd_refl r, h4⟩
    | succ k ih =>
      intro r h1 h2 h3 h4
      by_cases c : r ∣ n
      · exact ⟨r, h2, c, h4⟩
      · by_cases e : r = n
        · exact absurd (e ▸ Int.dvd_refl r) c
        · refine ih (r + 1) (by omega) (by omega) (by omega) fun m hm1 hm2 => ?_
          by_cases e2 : m = r
          · rw [e2]
            exact c
          · exact h4 m hm1 (by omega)
  exact key (n - 2).toNat 2 (by omega) (by omega) hn (fun m h1 h2 => by omega)
/-- a check of a prime by trial, for the kernel -/
def trial (n : Nat) : Nat → Nat → Bool
  | 0, _ => false
  | f + 1, k => if n < k * k then true else if n % k = 0 then false else trial n f (k + 1)
theorem trial_ok {n : Nat} (hn : 2 ≤ n) : ∀ (f k : Nat), 2 ≤ k → (∀ m : Nat, 2 ≤ m → m < k → ¬ m ∣ n) → trial n f k = true → Pr (n : Int) := by
  intro f
  induction f with
  | zero => intro k _ _ h; exact absurd h (by simp [trial])
  | succ f ih =>
    intro k hk hm h
    unfold trial at h
    by_cases c : n < k * k
    · refine ⟨by omega, fun m h1 h2 h3 => ?_⟩
      obtain ⟨d, d2, ds, _, dn⟩ := small_div (n := n) (s := (k : Int) - 1) (by omega) h1 h2 h3 (by omega) (by
        rw [Int.sub_add_cancel]
        exact_mod_cast c)
      refine hm d.toNat (by omega) (by omega) ?_
      have : ((d.toNat : Nat) : Int) ∣ (n : Int) := by rw [Int.toNat_of_nonneg (by omega)]; exact dn
      exact Int.natCast_dvd_natCast.mp this
    · rw [if_neg c] at h
      by_cases c2 : n % k = 0
      · rw [if_pos c2] at h
        exact absurd h (by simp)
      · rw [if_neg c2] at h
        refine ih (k + 1) (by omega) (fun m h1 h2 h3 => ?_) h
        by_cases e : m = k
        · subst e
          exact c2 (Nat.mod_eq_zero_of_dvd h3)
        · exact hm m h1 (by omega) h3
theorem pr_of_trial {n : Nat} (f : Nat) (h : (decide (2 ≤ n) && trial n f 2) = true) : Pr (n : Int) := by
  rw [Bool.and_eq_true] at h
  exact trial_ok (of_decide_eq_true h.1) f 2 (by omega) (fun m h1 h2 => by omega) h.2
theorem pr_10007 : Pr 10007 := pr_of_trial (n := 10007) 200 (by decide +kernel)
-- part fact_math
/-- a prime divides a factor -/
theorem pr_mul {q a b : Int} (hq : Pr q) (h : q ∣ a * b) : q ∣ a ∨ q ∣ b := by
  by_cases c : q ∣ a
  · exact .inl c
  · refine .inr ?_
    have hco : Nat.Coprime q.natAbs a.natAbs := by
      have g1 : Nat.gcd q.natAbs a.natAbs ∣ q.natAbs := Nat.gcd_dvd_left _ _
      have g2 : Nat.gcd q.natAbs a.natAbs ∣ a.natAbs := Nat.gcd_dvd_right _ _
      have hq2 := hq.1
      generalize hg : Nat.gcd q.natAbs a.natAbs = g at *
      have gi : (g : Int) ∣ q := Int.natAbs_dvd_natAbs.mp (by rw [Int.natAbs_natCast]; exact g1)
      have ga : (g : Int) ∣ a := Int.natAbs_dvd_natAbs.mp (by rw [Int.natAbs_natCast]; exact g2)
      have gpos : 0 < g := by
        rcases Nat.eq_zero_or_pos g with z | z
        · rw [z] at gi
          have := Int.zero_dvd.mp gi
          omega
        · exact z
      have gle : (g : Int) ≤ q := Int.le_of_dvd (by omega) gi
      by_cases g1' : g = 1
      · unfold Nat.Coprime
        rw [hg, g1']
      · by_cases g2' : (g : Int) = q
        · rw [g2'] at ga
          exact absurd ga c
        · exact absurd gi (hq.2 g (by omega) (by omega))
    have h2 : q.natAbs ∣ a.natAbs * b.natAbs := by
      rw [← Int.natAbs_mul]
      exact Int.natAbs_dvd_natAbs.mpr h
    exact Int.natAbs_dvd_natAbs.mp (Nat.Coprime.dvd_of_dvd_mul_left hco h2)
theorem pr_dvd_pr {p q : Int} (hp : Pr p) (hq : Pr q) (h : q ∣ p) : q = p := by
  have := Int.le_of_dvd (by have := hp.1; omega) h
  by_cases c : q = p
  · exact c
  · exact absurd h (hp.2 q hq.1 (by omega))
/-- l tells the primes that divide n, ascending -/
def PD (n : Int) (l : List Int) : Prop := l.Pairwise (· < ·) ∧ ∀ q, q ∈ l ↔ Pr q ∧ q ∣ n
theorem sorted_uniq : ∀ {l m : List Int}, l.Pairwise (· < ·) → m.Pairwise (· < ·) → (∀ q, q ∈ l ↔ q ∈ m) → l = m
  | [], [], _, _, _ => rfl
  | [], b :: m, _, _, h => absurd ((h b).mpr List.mem_cons_self) (by simp)
  | a :: l, [], _, _, h => absurd ((h a).mp List.mem_cons_self) (by simp)
  | a :: l, b :: m, hl, hm, h => by
    rw [List.pairwise_cons] at hl hm
    have hab : a = b := by
      rcases List.mem_cons.mp ((h a).mp List.mem_cons_self) with e | e
      · exact e
      · rcases List.mem_cons.mp ((h b).mpr List.mem_cons_self) with e2 | e2
        · exact e2.symm
        · have := hm.1 a e
          have := hl.1 b e2
          omega
    subst hab
    rw [sorted_uniq hl.2 hm.2 fun q => ?_]
    constructor
    · intro hq
      have := hl.1 q hq
      rcases List.mem_cons.mp ((h q).mp (List.mem_cons_of_mem _ hq)) with e | e
      · omega
      · exact e
    · intro hq
      have := hm.1 q hq
      rcases List.mem_cons.mp ((h q).mpr (List.mem_cons_of_mem _ hq)) with e | e
      · omega
      · exact e
theorem PD.uniq {n : Int} {l m : List Int} (h : PD n l) (h' : PD n m) : l = m := sorted_uniq h.1 h'.1 fun q => (h.2 q).trans (h'.2 q).symm
/-- what holds between two turns: fs found, r left of n; every prime of r is at least d, those found are less -/
structure Fac (n : Int) (fs : List Int) (r d : Int) : Prop where
  pos : 1 ≤ r
  dv : r ∣ n
  asc : fs.Pairwise (· < ·)
  low : ∀ f ∈ fs, f < d
  mem : ∀ f ∈ fs, Pr f ∧ f ∣ n
  all : ∀ q, Pr q → q ∣ n → q ∣ r ∨ q ∈ fs
  up : ∀ q, Pr q → q ∣ r → d ≤ q
  len : (2 : Int) ^ fs.length * r ≤ n
theorem fac0 {n : Int} (hn : 1 ≤ n) : Fac n [] n 2 := ⟨hn, Int.dvd_refl n, List.Pairwise.nil, (fun _ h => nomatch h), (fun _ h => nomatch h), (fun q _ h => .inl h), (fun q h _ => h.1), by show (2 : Int) ^ 0 * n ≤ n; omega⟩
/-- within the inner loop: r0 at its start, p taken out -/
structure Tak (r0 p r : Int) : Prop where
  pos : 1 ≤ r
  dv : r ∣ r0
  keep : ∀ q, Pr q → q ∣ r0 → q ∣ r ∨ q = p
  half : r = r0 ∨ 2 * r ≤ r0
theorem tak0 {r0 p : Int} (h : 1 ≤ r0) : Tak r0 p r0 := ⟨h, Int.dvd_refl _, fun q _ h => .inl h, .inl rfl⟩
theorem tak_step {r0 p r : Int} (hp : Pr p) (h : Tak r0 p r) (hd : p ∣ r) : Tak r0 p (r / p) ∧ r / p < r := by
  have hp2 := hp.1
  have hpos := h.pos
  obtain ⟨k, e⟩ := hd
  have ek : r / p = k := by rw [e, Int.mul_ediv_cancel_left _ (by omega)]
  rw [ek]
  have k1 : 1 ≤ k := by
    by_cases c : 1 ≤ k
    · exact c
    · have : p * k ≤ p * 0 := Int.mul_le_mul_of_nonneg_left (by omega) (by omega)
      omega
  have k2 : 2 * k ≤ r := by
    have : 2 * k ≤ p * k := Int.mul_le_mul_of_nonneg_right hp2 (by omega)
    omega
  refine ⟨⟨k1, Int.dvd_trans ⟨p, by rw [e, Int.mul_comm]⟩ h.dv, fun q hq hd => ?_, .inr ?_⟩, by omega⟩
  · rcases h.keep q hq hd with c | c
    · rw [e] at c
      rcases pr_mul hq c with c2 | c2
      · exact .inr (pr_dvd_pr hp hq c2)
      · exact .inl c2
    · exact .inr c
  · rcases h.half with c | c <;> omega
/-- behind the inner loop -/
theorem fac_step {n : Int} {fs : List Int} {r0 d p r : Int} (F : Fac n fs r0 d) (hp : Pr p) (hd : p ∣ r0) (T : Tak r0 p r) (hn : ¬ p ∣ r) (hmin : ∀ q, Pr q → q ∣ r0 → p ≤ q) : Fac n (fs ++ [p]) r (p + 1) ∧ r < r0 := by
  have hr : 2 * r ≤ r0 := T.half.resolve_left fun e => hn (e ▸ hd)
  have hdp : d ≤ p := F.up p hp hd
  refine ⟨⟨T.pos, Int.dvd_trans T.dv F.dv, ?_, ?_, ?_, ?_, ?_, ?_⟩, by have := T.pos; omega⟩
  · rw [List.pairwise_append]
    refine ⟨F.asc, List.pairwise_singleton _ _, fun a ha b hb => ?_⟩
    rw [List.mem_singleton.mp hb]
    have := F.low a ha
    omega
  · intro f hf
    rcases List.mem_append.mp hf with h | h
    · have := F.low f h
      omega
    · rw [List.mem_singleton.mp h]
      omega
  · intro f hf
    rcases List.mem_append.mp hf with h | h
    · exact F.mem f h
    · rw [List.mem_singleton.mp h]
      exact ⟨hp, Int.dvd_trans hd F.dv⟩
  · intro q hq h
    rcases F.all q hq h with c | c
    · rcases T.keep q hq c with c2 | c2
      · exact .inl c2
      · exact .inr (List.mem_append_right _ (by rw [c2]; exact List.mem_singleton.mpr rfl))
    · exact .inr (List.mem_append_left _ c)
  · intro q hq h
    have h1 := hmin q hq (Int.dvd_trans h T.dv)
    by_cases c : q = p
    · exact absurd (c ▸ h) hn
    · omega
  · rw [List.length_append]
    show (2 : Int) ^ (fs.length + 1) * r ≤ n
    rw [Int.pow_succ, Int.mul_assoc]
    have h1 : (2 : Int) ^ fs.length * (2 * r) ≤ 2 ^ fs.length * r0 := Int.mul_le_mul_of_nonneg_left hr (Int.pow_nonneg (by decide))
    have := F.len
    omega
theorem fac_end {n : Int} {fs : List Int} {d : Int} (F : Fac n fs 1 d) : PD n fs := by
  refine ⟨F.asc, fun q => ⟨F.mem q, fun ⟨h1, h2⟩ => (F.all q h1 h2).resolve_left fun c => ?_⟩⟩
  have := Int.le_of_dvd (by decide) c
  have := h1.1
  omega
theorem fac_len {n : Int} {fs : List Int} {r d : Int} (F : Fac n fs r d) (hn : n < 2 ^ 62) : fs.length < 62 := by
  by_cases c : fs.length < 62
  · exact c
  · have h1 : (2 : Int) ^ 62 ≤ 2 ^ fs.length := by
      have : (2 : Nat) ^ 62 ≤ 2 ^ fs.length := Nat.pow_le_pow_right (by decide) (by omega)
      have h2 := Int.ofNat_le.mpr this
      rw [Int.natCast_pow, Int.natCast_pow] at h2
      exact h2
    have h2 : (2 : Int) ^ fs.length * 1 ≤ 2 ^ fs.length * r := Int.mul_le_mul_of_nonneg_left F.pos (Int.pow_nonneg (by decide))
    have := F.len
    omega
theorem fac_up {n : Int} {fs : List Int} {r d : Int} (F : Fac n fs r d) (h : ¬ d ∣ r) : Fac n fs r (d + 1) := by
  refine ⟨F.pos, F.dv, F.asc, fun f hf => by have := F.low f hf; omega, F.mem, F.all, fun q h1 h2 => ?_, F.len⟩
  have := F.up q h1 h2
  by_cases c : q = d
  · exact absurd (c ▸ h2) h
  · omega
/-- d divides what is left: it is a prime -/
theorem fac_pr {n : Int} {fs : List Int} {r d : Int} (F : Fac n fs r d) (h2 : 2 ≤ d) (h : d ∣ r) : Pr d := by
  obtain ⟨q, hq⟩ := least_ex h2
  have h1 := F.up q hq.pr (Int.dvd_trans hq.dvd h)
  have := hq.le h2
  have e : q = d := by omega
  exact e ▸ hq.pr
/-- d * d above what is left: that is a prime -/
theorem fac_jump {n : Int} {fs : List Int} {r d : Int} (F : Fac n fs r d) (h2 : 2 ≤ d) (hr : 1 < r) (h : r < d * d) : Pr r ∧ ∀ q, Pr q → q ∣ r → r ≤ q := by
  have hp : Pr r := by
    refine ⟨by omega, fun m h1 h3 h4 => ?_⟩
    obtain ⟨e, e2, es, _, en⟩ := small_div (n := r) (s := d - 1) (by omega) h1 h3 h4 (by omega) (by rw [Int.sub_add_cancel]; exact h)
    obtain ⟨q, hq⟩ := least_ex e2
    have := F.up q hq.pr (Int.dvd_trans hq.dvd en)
    have := hq.le e2
    omega
  exact ⟨hp, fun q hq hd => by have := pr_dvd_pr hp hq hd; omega⟩
-- part trim
/-! rows without zeros at the end -/
def tsz (l : List Int) : Nat → Nat
  | 0 => 0
  | k + 1 => if l.getD k 0 = 0 then tsz l k else k + 1
def trim (l : List Int) : List Int := l.take (tsz l l.length)
/-- the last one is not 0 -/
def Trim (l : List Int) : Prop := ∀ k, l.length = k + 1 → l.getD k 0 ≠ 0
theorem tsz_le (l : List Int) : ∀ k, tsz l k ≤ k
  | 0 => Nat.le_refl _
  | k + 1 => by
    unfold tsz
    split
    · exact Nat.le_succ_of_le (tsz_le l k)
    · exact Nat.le_refl _
theorem tsz_zero (l : List Int) : ∀ k i, tsz l k ≤ i → i < k → l.getD i 0 = 0
  | 0, i, _, h => absurd h (Nat.not_lt_zero i)
  | k + 1, i, h1, h2 => by
    unfold tsz at h1
    split at h1
    · rename_i c
      by_cases e : i = k
      · rw [e]
        exact c
      · exact tsz_zero l k i h1 (by omega)
    · omega
theorem tsz_last (l : List Int) : ∀ k n, tsz l k = n + 1 → l.getD n 0 ≠ 0
  | 0, n, h => by cases h
  | k + 1, n, h => by
    unfold tsz at h
    split at h
    · exact tsz_last l k n h
    · rename_i c
      cases h
      exact c
theorem getD_of {l : List Int} {i : Nat} {z : Int} (h : l[i]? = some z) : l.getD i 0 = z := by
  rw [List.getD_eq_getElem?_getD, h] <;> rfl
theorem getD_ge {l : List Int} {i : Nat} (h : l.length ≤ i) : l.getD i 0 = 0 := by
  rw [List.getD_eq_getElem?_getD, List.getElem?_eq_none h] <;> rfl
theorem getD_at {l : List Int} {i : Nat} (h : i < l.length) : l[i]? = some (l.getD i 0) := by
  rw [List.getD_eq_getElem?_getD, List.getElem?_eq_getElem h] <;> rfl
theorem getD_take (l : List Int) (n i : Nat) : (l.take n).getD i 0 = if i < n then l.getD i 0 else 0 := by
  rw [List.getD_eq_getElem?_getD, List.getElem?_take]
  split
  · rw [List.getD_eq_getElem?_getD]
  · rfl
theorem getD_map {f : Int → Int} (h0 : f 0 = 0) (l : List Int) (i : Nat) : (l.map f).getD i 0 = f (l.getD i 0) := by
  rw [List.getD_eq_getElem?_getD, List.getD_eq_getElem?_getD, List.getElem?_map]
  cases l[i]? with
  | none => exact h0.symm
  | some z => rfl
theorem getD_app0 (l : List Int) (k i : Nat) : (l ++ List.replicate k 0).getD i 0 = l.getD i 0 := by
  rw [List.getD_eq_getElem?_getD, List.getD_eq_getElem?_getD]
  by_cases c : i < l.length
  · rw [List.getElem?_append_left c]
  · rw [List.getElem?_append_right (by omega), List.getElem?_eq_none (show l.length ≤ i by omega), List.getElem?_replicate]
    split <;> rfl
theorem trim_len (l : List Int) : (trim l).length = tsz l l.length := by
  unfold trim
  rw [List.length_take]
  have := tsz_le l l.length
  omega
theorem trim_few (l : List Int) : (trim l).length ≤ l.length := by
  rw [trim_len]
  exact tsz_le l l.length
theorem trim_mem {l : List Int} {z : Int} (h : z ∈ trim l) : z ∈ l := List.mem_of_mem_take h
theorem trim_get (l : List Int) (i : Nat) : (trim l).getD i 0 = l.getD i 0 := by
  unfold trim
  rw [getD_take]
  split
  · rfl
  · rename_i c
    by_cases d : i < l.length
    · exact (tsz_zero l l.length i (by omega) d).symm
    · exact (getD_ge (by omega)).symm
theorem trim_trim (l : List Int) : Trim (trim l) := fun k h => by
  rw [trim_len] at h
  rw [trim_get]
  exact tsz_last l l.length k h
theorem Trim.ext {a b : List Int} (ha : Trim a) (hb : Trim b) (h : ∀ i, a.getD i 0 = b.getD i 0) : a = b := by
  have hl : a.length = b.length := by
    rcases Nat.lt_trichotomy a.length b.length with c | c | c
    · obtain ⟨k, hk⟩ : ∃ k, b.length = k + 1 := ⟨b.length - 1, by omega⟩
      have := hb k hk
      rw [← h k, getD_ge (by omega)] at this
      exact absurd rfl this
    · exact c
    · obtain ⟨k, hk⟩ : ∃ k, a.length = k + 1 := ⟨a.length - 1, by omega⟩
      have := ha k hk
      rw [h k, getD_ge (by omega)] at this
      exact absurd rfl this
  refine List.ext_getElem? fun i => ?_
  by_cases c : i < a.length
  · rw [getD_at c, getD_at (by omega), h i]
  · rw [List.getElem?_eq_none (by omega), List.getElem?_eq_none (by omega)]
theorem trim_ext {a b : List Int} (h : ∀ i, a.getD i 0 = b.getD i 0) : trim a = trim b :=
  (trim_trim a).ext (trim_trim b) fun i => by rw [trim_get, trim_get, h i]
theorem trim_of {l : List Int} (h : Trim l) : trim l = l := (trim_trim l).ext h fun i => trim_get l i
theorem trim_nil : trim [] = [] := rfl
theorem Trim.nil : Trim [] := fun k h => by cases h
theorem Trim.map {l : List Int} {f : Int → Int} (h : Trim l) (h0 : f 0 = 0) (hf : ∀ z, f z = 0 → z = 0) : Trim (l.map f) := fun k hk => by
  rw [List.length_map] at hk
  rw [getD_map h0]
  exact fun e => h k hk (hf _ e)
/-- sums and differences by places -/
theorem getD_zip {f : Int → Int → Int} (a b : List Int) (hl : a.length = b.length) (h0 : f 0 0 = 0) (i : Nat) : (List.zipWith f a b).getD i 0 = f (a.getD i 0) (b.getD i 0) := by
  rw [List.getD_eq_getElem?_getD, List.getElem?_zipWith]
  by_cases c : i < a.length
  · rw [getD_at c, getD_at (show i < b.length by omega)] <;> rfl
  · rw [List.getElem?_eq_none (by omega), List.getElem?_eq_none (show b.length ≤ i by omega), getD_ge (by omega), getD_ge (show b.length ≤ i by omega), h0] <;> rfl
def rngN (n : Nat) (f : Nat → Int) : List Int := (List.range n).map f
theorem rngN_len (n : Nat) (f : Nat → Int) : (rngN n f).length = n := by
  unfold rngN
  rw [List.length_map, List.length_range]
theorem rngN_at {n : Nat} {f : Nat → Int} {i : Nat} (h : i < n) : (rngN n f)[i]? = some (f i) := by
  unfold rngN
  rw [List.getElem?_map, List.getElem?_range h] <;> rfl
theorem rngN_get (n : Nat) (f : Nat → Int) (i : Nat) : (rngN n f).getD i 0 = if i < n then f i else 0 := by
  split
  · rename_i c
    exact getD_of (rngN_at c)
  · rename_i c
    exact getD_ge (by rw [rngN_len]; omega)
/-- the polynomial's rows: sum (sign s), product -/
def pplus (s : Int) (a b : List Int) : List Int := trim (rngN (max a.length b.length) fun i => a.getD i 0 + s * b.getD i 0)
theorem pplus_get (s : Int) (a b : List Int) (i : Nat) : (pplus s a b).getD i 0 = a.getD i 0 + s * b.getD i 0 := by
  unfold pplus
  rw [trim_get, rngN_get]
  split
  · rfl
  · rw [getD_ge (show a.length ≤ i by omega), getD_ge (show b.length ≤ i by omega)]
    simp
/-- the sum of f below n -/
def sumN (f : Nat → Int) : Nat → Int
  | 0 => 0
  | n + 1 => sumN f n + f n
theorem sumN_congr {f g : Nat → Int} : ∀ n, (∀ i, i < n → f i = g i) → sumN f n = sumN g n
  | 0, _ => rfl
  | n + 1, h => by
    unfold sumN
    rw [sumN_congr n fun i hi => h i (by omega), h n (by omega)]
theorem sumN_zero (n : Nat) : sumN (fun _ => 0) n = 0 := by
  induction n with
  | zero => rfl
  | succ n ih => unfold sumN; rw [ih]; rfl
theorem sumN_more {f : Nat → Int} {n : Nat} : ∀ m, (∀ i, n ≤ i → f i = 0) → n ≤ m → sumN f m = sumN f n
  | 0, _, h => by rw [show n = 0 by omega]
  | m + 1, h0, h => by
    by_cases e : n = m + 1
    · rw [e]
    · show sumN f m + f m = sumN f n
      rw [sumN_more m h0 (by omega), h0 m (by omega), Int.add_zero]
/-- the coefficient at k of the product -/
def cnv (a b : List Int) (k : Nat) : Int := sumN (fun i => a.getD i 0 * (if i ≤ k then b.getD (k - i) 0 else 0)) a.length
def pmul (a b : List Int) : List Int := trim (rngN (a.length + b.length) (cnv a b))
theorem cnv_far {a b : List Int} {k : Nat} (h : a.length + b.length ≤ k + 1) : cnv a b k = 0 := by
  unfold cnv
  rw [sumN_congr (g := fun _ => 0) _ fun i hi => ?_, sumN_zero]
  split
  · rw [getD_ge (show b.length ≤ k - i by omega), Int.mul_zero]
  · rw [Int.mul_zero]
theorem pmul_get (a b : List Int) (k : Nat) : (pmul a b).getD k 0 = cnv a b k := by
  unfold pmul
  rw [trim_get, rngN_get]
  split
  · rfl
  · exact (cnv_far (by omega)).symm
/-- the value at x -/
def pev : List Int → Int → Int
  | [], _ => 0
  | c :: l, x => c + x * pev l x
theorem pev_trim (l : List Int) (x : Int) : pev (trim l) x = pev l x := by
  unfold trim
  have key : ∀ (l : List Int) (n : Nat), (∀ i, n ≤ i → l.getD i 0 = 0) → pev (l.take n) x = pev l x := fun l => by
    induction l with
    | nil => intro n _; rw [List.take_nil]
    | cons c l ih =>
      intro n h
      cases n with
      | zero =>
        have hc : c = 0 := h 0 (Nat.le_refl _)
        have hl := ih 0 fun i _ => h (i + 1) (Nat.zero_le _)
        rw [List.take_zero] at hl ⊢
        show 0 = c + x * pev l x
        rw [← hl, hc]
        show (0 : Int) = 0 + x * 0
        rw [Int.mul_zero] <;> rfl
      | succ n =>
        rw [List.take_succ_cons]
        show c + x * pev (l.take n) x = c + x * pev l x
        rw [ih n fun i hi => h (i + 1) (by omega)]
  refine key l _ fun i hi => ?_
  by_cases c : i < l.length
  · exact tsz_zero l _ i hi c
  · exact getD_ge (by omega)
theorem pev_drop {l : List Int} {i : Nat} {c : Int} (h : l[i]? = some c) (x : Int) : pev (l.drop i) x = c + x * pev (l.drop (i + 1)) x := by
  have hi := (List.getElem?_eq_some_iff.mp h).1
  rw [List.drop_eq_getElem_cons hi]
  rw [List.getElem?_eq_getElem hi] at h
  cases h
  rfl
/-- the value, term by term -/
theorem pev_take {l : List Int} {i : Nat} {c : Int} (h : l[i]? = some c) (x : Int) : pev (l.take (i + 1)) x = pev (l.take i) x + c * x ^ i := by
  induction l generalizing i with
  | nil => cases h
  | cons d l ih =>
    cases i with
    | zero =>
      cases h
      rw [List.take_succ_cons, List.take_zero, List.take_zero]
      show c + x * 0 = 0 + c * x ^ 0
      simp
    | succ i =>
      have := ih (i := i) h
      rw [List.take_succ_cons, List.take_succ_cons]
      show d + x * pev (l.take (i + 1)) x = d + x * pev (l.take i) x + c * x ^ (i + 1)
      rw [this, Int.mul_add, Int.pow_succ]
      have e : x * (c * x ^ i) = c * (x ^ i * x) := by rw [Int.mul_left_comm, Int.mul_comm x]
      rw [e]
      omega

structure Cl (P : Program) (w : World) (K : PySem.W.Frag) (mg : Str → Option Value) (base : Heap) (CX : CXT) (k : Nat) (x : Str) (sp : Sp) : Prop where
  ex : ∃ (f : Addr) (fd : FuncData) (ps : List Str), FnOk P w K mg base CX k f fd ps sp ∧ mg x = some (.ref f) ∧ PySem.W.keepIn K (.ref f) = true ∧ Binds K fd ps []
theorem pe_cl {X : Cx} {k j : Nat} {x : Str} {sp : Sp} {p pos : Pos} {e : Expr} {es : List Expr} {t : TA} (c : Cl X.prog X.w X.K X.mg X.base CX0 k x sp) (hr : Room j X.A) (ha : PA X (e :: es) t) (hk : k ≤ j := by decide) (hg : Gl X x := by rfl)
    (hdb : (x == ("__debug__" : Str)) = false := by decide) (he : starEach (e :: es) X.env = (false, eval e X.env) :: starEach es X.env := by rfl) (hpl : (backTo pos (starEach es X.env)).any (·.1) = false := by rfl) :
    PE X (.Call (.Name x p) (e :: es) [] pos) (tCall sp [] E0 t) := by
  obtain ⟨f, fd, ps, F, hm, kp, b⟩ := c.ex
  exact pe_call F (hr.mono hk) hg hm kp b .nil pass0 ha hdb he hpl
structure Txt (mg : Str → Option Value) : Prop where
  int : mg "int" = none
  len : mg "len" = none
  abs : mg "abs" = none
  isinstance : mg "isinstance" = none
  bool : mg "bool" = none
  tuple : mg "tuple" = none
  list : mg "list" = none
  str : mg "str" = none
  range : mg "range" = none
  max : mg "max" = none
  min : mg "min" = none
  sorted : mg "sorted" = none
  set : mg "set" = none
theorem if_pos_of {c : Bool} {A B : Prop} (hc : c = true) (h : A) : if c = true then A else B := by
  rw [if_pos hc]
  exact h
theorem if_neg_of {c : Bool} {A B : Prop} (hc : c = false) (h : B) : if c = true then A else B := by
  rw [hc, if_neg Bool.false_ne_true]
  exact h
theorem same_upd {H : Hp} {p : Addr} {o : HO} (h : H p = none) : Same H (upd H p o) := fun b u e => by
  rw [upd_ne (ne_of_none e h)]
  exact e
/-- a call of a def that may raise, where it doesn't -/
theorem pe_cl0 {X : Cx} {k j : Nat} {x : Str} {sp : Sp} {p pos : Pos} {e : Expr} {es : List Expr} {t : TA} (c : Cl X.prog X.w X.K X.mg X.base (L2.CX X.prog X.w) k x sp) (hr : Room j X.A) (ha : PA X (e :: es) t) (hk : k ≤ j := by decide) (hg : Gl X x := by rfl)
    (hdb : (x == ("__debug__" : Str)) = false := by decide) (he : starEach (e :: es) X.env = (false, eval e X.env) :: starEach es X.env := by rfl) (hpl : (backTo pos (starEach es X.env)).any (·.1) = false := by rfl) :
    PE X (.Call (.Name x p) (e :: es) [] pos) (tCall sp [] E0 t) := by
  obtain ⟨f, fd, ps, F, hm, kp, b⟩ := c.ex
  exact pe_call F (hr.mono hk) hg hm kp b .nil passL ha hdb he hpl
/-- a call of a def that may raise, in a def or try that takes it -/
theorem pe_clX {X : Cx} {W : WX} {k j : Nat} {x : Str} {sp : Sp} {p pos : Pos} {e : Expr} {es : List Expr} {t : TA} (c : Cl X.prog X.w X.K X.mg X.base (L2.CX X.prog X.w) k x sp) (hr : Room j X.A) (tk : Takes X W) (ha : PA X (e :: es) t) (hk : k ≤ j := by decide) (hg : Gl X x := by rfl)
    (hdb : (x == ("__debug__" : Str)) = false := by decide) (he : starEach (e :: es) X.env = (false, eval e X.env) :: starEach es X.env := by rfl) (hpl : (backTo pos (starEach es X.env)).any (·.1) = false := by rfl) :
    PE X (.Call (.Name x p) (e :: es) [] pos) (tCallS sp (WE W) t) := by
  obtain ⟨f, fd, ps, F, hm, kp, b⟩ := c.ex
  exact pe_callS F (hr.mono hk) hg hm kp b (fun σ => passAt tk σ) ha hdb he hpl
/-- FieldError, and what its __init__ is -/
structure FErr (K : PySem.W.Frag) (mg : Str → Option Value) (C : Addr) : Prop where
  g : mg "FieldError" = some (.ref C)
  rd : PySem.W.readsIn K C (.type "type") = true
  ga : PySem.W.specialIn K (.ref C) "__getattribute__" = some (some (.builtin "type.__getattribute__"))
  fi : PySem.W.findCls K (.ref C) (.type "type") "__init__" = some (.val (.builtin "ValueError.__init__"))
theorem pe_feinit {X : Cx} {CF : Addr} {e : Expr} {es : List Expr} {ta : TA} {p1 p2 pos : Pos} {pl : Sem Bool} (F : FErr X.K X.mg CF) (ha : PA X (e :: es) ta) (hg : Gl X "FieldError" := by rfl)
    (hc : eval (.Call (.Attribute (.Name "FieldError" p1) "__init__" p2) (e :: es) [] pos) X.env = (do
      let ov ← eval (.Name "FieldError" p1) X.env
      standAt p2.atName
      let (f, first) ← holding [ov] (getMethod ov "__init__" pl)
      callWith pos f first (backTo pos (starEach (e :: es) X.env)) (backToKw pos (keywordEach [] X.env))) := by rfl)
    (he : starEach (e :: es) X.env = (false, eval e X.env) :: starEach es X.env := by rfl) (hpl : (backTo pos (starEach es X.env)).any (·.1) = false := by rfl) :
    PE X (.Call (.Attribute (.Name "FieldError" p1) "__init__" p2) (e :: es) [] pos) (tVeI X.K ta) := by
  refine ⟨fun pins s σ H Q I h => ?_⟩
  refine PySem.W.methodCall_KW (ld_glob I hg F.g ?_ (by decide)) hc
  refine PySem.W.method_cls I.kIn F.ga (PySem.W.cls_value I.kIn F.rd F.fi (by decide +kernel) ?_)
  show wpAny _ _ (callWith pos (Value.builtin "ValueError.__init__") [] (backTo pos (starEach (e :: es) X.env)) []) _ _ _
  refine PyProof.Rows.callWith_method1 (thn (ha.run pos pins _ σ H _ (I.tok _) h) fun us s1 ⟨vs, H1, I1, r1, a, C, ws, ev, hl, T, ea, q⟩ => ?_) he hpl
  subst ev
  cases r1 with
  | @cons _ u0 _ ur ra rw' =>
    obtain rfl : u0 = Value.ref a := ra
    have hlen : ur.length ≤ sizeLine := by
      rw [← Paired.length rw', sizeLine_eq]
      omega
    exact oinit_ok T I1 ea hlen fun s' J => ⟨.non, H1, J, rfl, q⟩
/-- an own error class with one attribute, and its __init__ by its promise -/
def spInit (C : Addr) (fld : Str) : Sp := fun vs H Q _ => ∃ (a : Addr) (v : V), vs = [.ref a, v] ∧ H a = some (exo a C none) ∧
  ∀ d, H d = none → d ≠ a → Q .non (upd (upd H d (exd d [(fld, v)])) a (exo a C (some d)))
structure ErrC (K : PySem.W.Frag) (mg : Str → Option Value) (nm fld : Str) (C fI : Addr) : Prop where
  g : mg nm = some (.ref C)
  oex : OexC K C
  no : PySem.W.findIn K (.ref C) fld = some none
  iC : PySem.W.findIn K (.ref C) "__init__" = some (some (.ref fI))
  tI : PySem.W.typeIn K (.ref fI) = some (.type "function")
  xf : XfC K C
  te : PySem.W.exmOne K (.ref C) (.ref C) = some true
structure Er (P : Program) (w : World) (K : PySem.W.Frag) (mg : Str → Option Value) (base : Heap) (nm fld : Str) (C : Addr) : Prop where
  ex : ∃ (fI : Addr) (fd : FuncData) (ps : List Str), ErrC K mg nm fld C fI ∧ FnOk P w K mg base CX0 1 fI fd ps (spInit C fld) ∧ Binds K fd ps []
theorem Er.c {P : Program} {w : World} {K : PySem.W.Frag} {mg : Str → Option Value} {base : Heap} {nm fld : Str} {C : Addr} (e : Er P w K mg base nm fld C) : ∃ fI, ErrC K mg nm fld C fI := by
  obtain ⟨fI, _, _, T, _⟩ := e.ex
  exact ⟨fI, T⟩
theorem exm_me {K : PySem.W.Frag} {S : Addr} (h1 : PySem.W.subIn K (.ref S) (.type "BaseException") = some true) (h2 : PySem.W.isClsIn K S = true) (h3 : PySem.W.typeIn K (.ref S) = some (.type "type")) (h4 : PySem.W.subIn K (.ref S) (.ref S) = some true) :
    PySem.W.exmOne K (.ref S) (.ref S) = some true := by
  have e1 : (PySem.W.subIn K (.ref S) (.type "BaseException") == some true) = true := by rw [h1] <;> rfl
  have h2' : (PySem.W.clsIn K S).isSome = true := h2
  have e2 : ((PySem.W.clsIn K S).isSome && PySem.W.typeIn K (.ref S) == some (.type "type")) = true := by rw [h2', h3] <;> rfl
  unfold PySem.W.exmOne
  rw [if_pos e1]
  show (if ((PySem.W.clsIn K S).isSome && PySem.W.typeIn K (.ref S) == some (.type "type")) = true then PySem.W.subIn K (.ref S) (.ref S) else none) = some true
  rw [if_pos e2]
  exact h4
/-- raise C(v): the argument, then what C's own __init__ asks (mk1 answers it) -/
theorem ps_raise1 {X : Cx} {W : WX} {x fld : Str} {C : Addr} {j : Nat} {e : Expr} {ta : TA} {p pos pos' : Pos} (c : Er X.prog X.w X.K X.mg X.base x fld C) (hr : Room j X.A) (tk : Takes X W) (ha : PA X [e] ta) (hj : 2 ≤ j := by decide) (hcalm : X.calm = true := by rfl) (hg : Gl X x := by rfl)
    (hdb : (x == ("__debug__" : Str)) = false := by decide) (he : starEach [e] X.env = (false, eval e X.env) :: starEach [] X.env := by rfl) (hpl : (backTo pos (starEach [] X.env)).any (·.1) = false := by rfl) :
    PS X (.Raise (some (.Call (.Name x p) [e] [] pos)) none pos') (fun _ σ H => tMkO C (spInit C fld) [] ta σ H fun cls d H' => W cls d σ H') := by
  obtain ⟨fI, fd, ps, T, F, b⟩ := c.ex
  exact ps_raise hcalm tk (pmk_oex (X := X) (p := p) (pos := pos) T.oex T.iC T.tI F (hr.mono hj) b .nil (fun _ _ _ _ _ _ _ h => h.elim) hg T.g ha hdb he hpl)
theorem mk1 {C : Addr} {fld : Str} {v : V} {H1 : Hp} {Q : XK} (k : ∀ d H2, Same H1 H2 → H1 d = none → H2 d = some (.xd [(fld, v)]) → Q (.ref C) (some d) H2) :
    ([v] : List V).length ≤ 1000 ∧ ∀ a, H1 a = none → spInit C fld (.ref a :: ([v] ++ [])) (upd H1 a (exo a C none))
      (fun u H2 => u = .non ∧ ∃ (d : Addr) (fs : List (Str × V)), H2 a = some (exo a C (some d)) ∧ H2 d = some (exd d fs) ∧ H1 d = none ∧ Q (.ref C) (some d) (upd (del H2 a) d (.xd fs))) (fun _ _ _ => False) := by
  refine ⟨(by show 1 ≤ 1000; decide), fun a ha => ⟨a, v, rfl, upd_same, fun d hd hda => ⟨rfl, d, [(fld, v)], upd_same, ?_, ?_, ?_⟩⟩⟩
  · rw [upd_ne hda, upd_same]
  · rw [upd_ne hda] at hd
    exact hd
  · rw [upd_ne hda] at hd
    refine k d _ (fun b o e => ?_) hd upd_same
    have hba := ne_of_none e ha
    have hbd := ne_of_none e hd
    rw [upd_ne hbd, del_ne hba, upd_ne hba, upd_ne hbd, upd_ne hba]
    exact e
/-! the same for exceptions whose context is None -/
theorem passN {X : Cx} : Passes (L2N.CX X.prog X.w) X E0 := fun _ _ _ _ _ _ _ ⟨_, _, _, _, _, _, _, _, _, _, _, _, z⟩ => z.elim
theorem takes0N {X : Cx} : L2N.Takes X (fun _ _ _ _ => False) := fun _ _ ⟨_, _, _, _, _, _, _, _, _, _, _, _, _, _, _, _, z⟩ => z.elim
theorem okN {P : Program} {w : World} {K : PySem.W.Frag} {mg : Str → Option Value} {base : Heap} {x qual : Str} {st : Stmt} {f : Addr} {fd : FuncData} {N ps : List Str} {k : Nat} {sp : Sp} (F : Fun K x qual st f fd) (S : FnScope N ps (defScope st)) (len : ∀ vs H Q E, sp vs H Q E → vs.length = ps.length)
    (body : ∀ (cdv : Value) (A : Around) (outer : List Env) (s : Shared) (H : Hp) (vs : List V) (Q : VK) (E : XK), Room k (A.deeper (envOfC qual (defScope st) s.heap.objs.size f cdv)) → sp vs H Q E →
      ∃ t, PSs (cxOf (L2N.CX P w) P w K mg base N qual (defScope st) f cdv A outer s H E) (defBody st) t ∧ t { nx := fun _ H' => Q .non H', rt := Q } (start N vs) H) : FnOk P w K mg base (L2N.CX P w) (k + 1) f fd ps sp := by
  obtain ⟨oc, od, kV, doc, pm, an, cdv, ct, osl, rfl, lk, hcd⟩ := F.ex
  exact fn_of lk hcd S len fun A outer s H vs Q E hr h => body cdv A outer s H vs Q E hr h
/-- a call of such a def, where it doesn't raise -/
theorem pe_clN0 {X : Cx} {k j : Nat} {x : Str} {sp : Sp} {p pos : Pos} {e : Expr} {es : List Expr} {t : TA} (c : Cl X.prog X.w X.K X.mg X.base (L2N.CX X.prog X.w) k x sp) (hr : Room j X.A) (ha : PA X (e :: es) t) (hk : k ≤ j := by decide) (hg : Gl X x := by rfl)
    (hdb : (x == ("__debug__" : Str)) = false := by decide) (he : starEach (e :: es) X.env = (false, eval e X.env) :: starEach es X.env := by rfl) (hpl : (backTo pos (starEach es X.env)).any (·.1) = false := by rfl) :
    PE X (.Call (.Name x p) (e :: es) [] pos) (tCall sp [] E0 t) := by
  obtain ⟨f, fd, ps, F, hm, kp, b⟩ := c.ex
  exact pe_call F (hr.mono hk) hg hm kp b .nil passN ha hdb he hpl
theorem pe_clNX {X : Cx} {W : WX} {k j : Nat} {x : Str} {sp : Sp} {p pos : Pos} {e : Expr} {es : List Expr} {t : TA} (c : Cl X.prog X.w X.K X.mg X.base (L2N.CX X.prog X.w) k x sp) (hr : Room j X.A) (tk : L2N.Takes X W) (ha : PA X (e :: es) t) (hk : k ≤ j := by decide) (hg : Gl X x := by rfl)
    (hdb : (x == ("__debug__" : Str)) = false := by decide) (he : starEach (e :: es) X.env = (false, eval e X.env) :: starEach es X.env := by rfl) (hpl : (backTo pos (starEach es X.env)).any (·.1) = false := by rfl) :
    PE X (.Call (.Name x p) (e :: es) [] pos) (tCallS sp (WE W) t) := by
  obtain ⟨f, fd, ps, F, hm, kp, b⟩ := c.ex
  exact pe_callS F (hr.mono hk) hg hm kp b (fun σ => L2N.passAt tk σ) ha hdb he hpl
theorem pmk_oexN {X : Cx} {e : Expr} {es : List Expr} {ta : TA} {p pos : Pos} {x : Str} {C fI : Addr} {k : Nat} {fd : FuncData} {ps : List Str} {sp : Sp} {ds : List Value} {dvs : List V} (T : OexC X.K C) (iC : PySem.W.findIn X.K (.ref C) "__init__" = some (some (.ref fI))) (tI : PySem.W.typeIn X.K (.ref fI) = some (.type "function"))
    (F1 : FnOk X.prog X.w X.K X.mg X.base CX0 k fI fd ps sp) (hr : Room (k + 1) X.A) (hb : Binds X.K fd ps ds) (hd : Vals dvs ds) (hg : Gl X x) (hm : X.mg x = some (.ref C)) (ha : PA X (e :: es) ta)
    (hdb : (x == ("__debug__" : Str)) = false) (he : starEach (e :: es) X.env = (false, eval e X.env) :: starEach es X.env) (hpl : (backTo pos (starEach es X.env)).any (·.1) = false) :
    L2N.PMk X (.Call (.Name x p) (e :: es) [] pos) (tMkO C sp dvs ta) := by
  intro pins s σ H Q I h
  obtain ⟨nm, q, N, bs, bm, sn, sub, ab, col, dd, k0, k1, k2, k3, k5, hC, hbm⟩ := T.cls
  refine wpAny_Call_Name_kw (ld_glob I hg hm ?_ hdb)
  refine PySem.W.callWith_K (h₀ := X.base) I.ok.mod.kin T.kC (thn (ha.run pos pins s σ H _ I h) fun us st got => ?_) he hpl
  obtain ⟨vs, G1, I1, r1, hz, q1⟩ := got
  refine ⟨I1.kIn, ?_⟩
  show wpAny _ _ (call (.ref C) us) _ _ _
  obtain ⟨hp, g, dr, tk, os⟩ := st
  generalize ex : hp.objs.size + 1 = x1 at *
  have le1 : hp.objs.size ≤ x1 := by omega
  have sp1 := q1 x1 (I1.hok.fresh le1)
  have old : ∀ b o, hp.get? b = some o → ((hp.push (PySem.W.kdv_tup us)).push (PySem.HandSPX.excO C hp.objs.size)).get? b = some o := fun b o z =>
    Heap.get?_push_of_some _ (Heap.get?_push_of_some _ z)
  have new1 : ((hp.push (PySem.W.kdv_tup us)).push (PySem.HandSPX.excO C hp.objs.size)).get? x1 = some (PySem.HandSPX.excO C hp.objs.size) := by
    subst ex
    heap_get
  have I2 := I1.laid (t' := tk) (a := x1) (o := exo x1 C none) old le1 (exo_ok new1)
  have rel : Vals (V.ref x1 :: (vs ++ dvs)) (Value.ref x1 :: (us ++ ds)) := .cons rfl (r1.append hd)
  have few : us.length ≤ sizeLine := by
    have := Paired.length r1
    rw [sizeLine_eq]
    omega
  have many : (Value.ref x1 :: us ++ ds).length = ps.length := by
    have z := rel.length
    rw [F1.len _ _ _ _ sp1] at z
    exact z.symm
  have run := F1.run _ X.stack _ _ ⟨Value.ref x1 :: us, []⟩ (Value.ref x1 :: (us ++ ds)) _ _ (fun _ _ _ => False) (hr.make C us []) (I2.env0.make C us []) (hb _ (Value.ref x1 :: us) I2.kIn many) rel sp1
  refine wpAny_call (PySem.HandSPX.call_own F.excBase_ValueError (fun Y => PySem.HandSPX.refsVE_contains Y bm hbm) (I1.kIn _ _ hC) (PySem.W.looks_findIn I1.kIn iC) (fun self => PySem.W.bind_fn I1.kIn self tI) few ?_)
  subst ex
  refine codeAny_mono run fun r s' back => ?_
  cases r with
  | error er => exact False.elim back
  | ok fl =>
    cases fl with
    | ret u =>
      obtain ⟨v, H2, os2, bare2, un2, hok2, rv, ev, d, fs, ea, ed, hd1, q2⟩ := back
      subst ev
      obtain ⟨h2, g2, d2, t2, os'⟩ := s'
      obtain ⟨t0, G, J, kG, ge, hoe, na⟩ := mk_end0 (d2 := d2) (t2 := t2) I1 le1 old un2 hok2 os2 bare2 ea ed hd1
      exact ⟨rv, _, _, _, ⟨G, g2, d2, t2, os'⟩, _, .ref C, some d, rfl, J, kG, ge, hoe, ⟨rfl, rfl, fun vs z => by cases z; rfl⟩, rfl, rfl, na, rfl, bare2, raises_own T.exC T.tyC, q2⟩
    | next => exact False.elim back
    | brk => exact False.elim back
    | cont => exact False.elim back
theorem ps_raise1N {X : Cx} {W : WX} {x fld : Str} {C : Addr} {j : Nat} {e : Expr} {ta : TA} {p pos pos' : Pos} (c : Er X.prog X.w X.K X.mg X.base x fld C) (hr : Room j X.A) (tk : L2N.Takes X W) (ha : PA X [e] ta) (hj : 2 ≤ j := by decide) (hcalm : X.calm = true := by rfl) (hg : Gl X x := by rfl)
    (hdb : (x == ("__debug__" : Str)) = false := by decide) (he : starEach [e] X.env = (false, eval e X.env) :: starEach [] X.env := by rfl) (hpl : (backTo pos (starEach [] X.env)).any (·.1) = false := by rfl) :
    PS X (.Raise (some (.Call (.Name x p) [e] [] pos)) none pos') (fun _ σ H => tMkO C (spInit C fld) [] ta σ H fun cls d H' => W cls d σ H') := by
  obtain ⟨fI, fd, ps, T, F, b⟩ := c.ex
  exact L2N.ps_raise hcalm tk (pmk_oexN (X := X) (p := p) (pos := pos) T.oex T.iC T.tI F (hr.mono hj) b .nil hg T.g ha hdb he hpl)
section
variable {P : Program} {w : World} {K : PySem.W.Frag} {mg : Str → Option Value} {base : Heap}
-- part gen2
/-- an isinstance of an int -/
theorem isi_int {K : PySem.W.Frag} {i : Int} {T : String} {b : Bool} {H : Hp} {Q : VK} (h : kitB "int" T = some b) (q : Q (.bl b) H) : rIsi K [.int i, .ty T] H Q :=
  ⟨_, _, _, _, b, rfl, .ty T, .base (.int i), kit_ty h, q⟩
theorem isi_tup {K : PySem.W.Frag} {a : Addr} {xs : List V} {T : String} {b : Bool} {H : Hp} {Q : VK} (ha : H a = some (.tup xs)) (h : kitB "tuple" T = some b) (q : Q (.bl b) H) : rIsi K [.ref a, .ty T] H Q :=
  ⟨_, _, _, _, b, rfl, .ty T, .base (.tup ha), kit_ty h, q⟩
theorem isi_bl {K : PySem.W.Frag} {x : Bool} {T : String} {b : Bool} {H : Hp} {Q : VK} (h : kitB "bool" T = some b) (q : Q (.bl b) H) : rIsi K [.bl x, .ty T] H Q :=
  ⟨_, _, _, _, b, rfl, .ty T, .base (.bl x), kit_ty h, q⟩
theorem isi_lst {K : PySem.W.Frag} {a : Addr} {xs : List V} {T : String} {b : Bool} {H : Hp} {Q : VK} (ha : H a = some (.lst xs)) (h : kitB "list" T = some b) (q : Q (.bl b) H) : rIsi K [.ref a, .ty T] H Q :=
  ⟨_, _, _, _, b, rfl, .ty T, .base (.lst ha), kit_ty h, q⟩
/-- the law's own promise -/
def spLaw (K : PySem.W.Frag) : Sp := fun vs H Q _ => ∃ (a : Addr) (ns : List Int), vs = [.ref a] ∧ SqL K H a (ns.map V.int) ∧ ns.length ≤ 63 ∧ ∀ H', Q (.bl true) H'
/-- a test by an own truth -/
theorem pt_own {X : Cx} {a : Expr} {ta : TE} {r : V → Hp → (Bool → Hp → Prop) → Prop} (ha : PE X a ta) (hr : TruR X r) (he : ∀ whole, isTrue a X.env whole = (do let v ← whole; standAt a.pos; holding [v] (truthy v)) := by intro _; rfl) :
    PT X a (fun σ H Q => ta σ H fun x H' => r x H' Q) :=
  ⟨fun pins s σ H Q I h => isTrue_plain (thn (ha.run pins s σ H _ I h) fun v s1 ⟨x, H1, I1, r1, q1⟩ => hr pins s1 σ H1 x v Q I1 r1 q1) (he _)⟩
-- part errgr
/-! own errors whose __init__ keeps any promise; errors without arguments -/
structure ErG (P : Program) (w : World) (K : PySem.W.Frag) (mg : Str → Option Value) (base : Heap) (nm : Str) (C : Addr) (sp : Sp) : Prop where
  ex : ∃ (fI : Addr) (fd : FuncData) (ps : List Str), mg nm = some (.ref C) ∧ OexC K C ∧ PySem.W.findIn K (.ref C) "__init__" = some (some (.ref fI)) ∧ PySem.W.typeIn K (.ref fI) = some (.type "function") ∧ FnOk P w K mg base CX0 1 fI fd ps sp ∧ Binds K fd ps []
theorem ps_raiseG {X : Cx} {W : WX} {x : Str} {C : Addr} {sp : Sp} {j : Nat} {e : Expr} {es : List Expr} {ta : TA} {p pos pos' : Pos} (c : ErG X.prog X.w X.K X.mg X.base x C sp) (hr : Room j X.A) (tk : L2N.Takes X W) (ha : PA X (e :: es) ta) (hj : 2 ≤ j := by decide) (hcalm : X.calm = true := by rfl) (hg : Gl X x := by rfl)
    (hdb : (x == ("__debug__" : Str)) = false := by decide) (he : starEach (e :: es) X.env = (false, eval e X.env) :: starEach es X.env := by rfl) (hpl : (backTo pos (starEach es X.env)).any (·.1) = false := by rfl) :
    PS X (.Raise (some (.Call (.Name x p) (e :: es) [] pos)) none pos') (fun _ σ H => tMkO C sp [] ta σ H fun cls d H' => W cls d σ H') := by
  obtain ⟨fI, fd, ps, g, T, iC, tI, F, b⟩ := c.ex
  exact L2N.ps_raise hcalm tk (pmk_oexN (X := X) (p := p) (pos := pos) T iC tI F (hr.mono hj) b .nil hg g ha hdb he hpl)
-- part errz
/-- the exception is let go; it has no dict -/
theorem let_go {X : Cx} {pins : List (Addr × Obj)} {σ : L2.St} {H1 H2 : Hp} {hp hp2 h2 : Heap} {g1 g2 : Array GenState} {d1 d2 : Drawn} {t1 t2 : Nat} {os1 os2 : OsState} {a C : Addr} (I1 : Inv X pins σ H1 ⟨hp, g1, d1, t1, os1⟩)
    (ha : hp.objs.size ≤ a) (k : ∀ b o, hp.get? b = some o → hp2.get? b = some o) (un : Un (frs X.stack) [] (upd H1 a (exo a C none)) H2 hp2 h2) (hok : HOk X.prog X.w H2 h2) (ho : os2 = os1) (hb : AllBare g2) (ea : H2 a = some (exo a C none)) :
    ∃ (t0 : Addr) (G : Heap), Inv X pins σ (del H2 a) ⟨G, g2, d2, t2, os2⟩ ∧ (∀ b o, G.get? b = some o → h2.get? b = some o) ∧ G.get? a = none ∧
      h2.get? a = some ({ cls := .ref C, dict := none, data := .fields #[.ref t0, .none, .none, .none, .bool false, .none] } : Obj) ∧ del H2 a a = none := by
  obtain ⟨t0, stands⟩ := exo_at hok ea
  have n1 : H1 a = none := I1.hok.fresh ha
  obtain ⟨G, same, gone⟩ := restrict h2 fun b => decide (b ≠ a)
  have at_ : ∀ b, b ≠ a → G.get? b = h2.get? b := fun b q => same b (decide_eq_true q)
  have no : G.get? a = none := gone a (by simp)
  have old : ∀ {b : Addr} {o : Obj}, hp.get? b = some o → b ≠ a := fun {b o} z => Nat.ne_of_lt (Nat.lt_of_lt_of_le (Heap.lt_size z) ha)
  have un1 : ∀ {b : Addr}, b ≠ a → H1 b = none → upd H1 a (exo a C none) b = none := fun {b} q n => by
    rw [upd_ne q]
    exact n
  have U : Un (frs X.stack) [] H1 (del H2 a) hp G := {
    keep := fun b o z n f x => by
      rw [at_ b (old z)]
      exact un.keep b o (k b o z) (un1 (old z) n) f x
    slot := fun b o z n f x => by
      rw [at_ b (old z)]
      exact un.slot b o (k b o z) (un1 (old z) n) f x
    free := fun b o z n x => by
      rw [del_ne (old z)]
      exact un.free b o (k b o z) (un1 (old z) n) x
    there := fun b o z x => by
      rw [at_ b (old z)]
      exact un.there b o (k b o z) x
    tups := fun b xs z => by
      have q := ne_of_none z n1
      rw [del_ne q]
      exact un.tups b xs (by rw [upd_ne q]; exact z)
    frzs := fun b o v z => by
      have q := ne_of_none z n1
      rw [del_ne q]
      exact un.frzs b o v (by rw [upd_ne q]; exact z)
    tbls := fun b ps z => by
      have q := ne_of_none z n1
      rw [del_ne q]
      exact un.tbls b ps (by rw [upd_ne q]; exact z) }
  have good : HOk X.prog X.w (del H2 a) G := fun b o z => by
    have q : b ≠ a := fun e => by
      rw [e, del_same] at z
      cases z
    rw [del_ne q] at z
    have far : ∀ {c : Addr}, H2 c = some (.own b) → c ≠ a := fun {c} y => at_ne ea y exo_own
    exact (hok b o z).stay (fun c v hc y => by
        have q2 : c ≠ a := by
          rcases hc with hc | hc
          · rw [hc]
            exact q
          · exact far hc
        rw [at_ c q2]
        exact y)
      (fun c y => by rw [del_ne (far y)]; exact y) (fun c xs y => by rw [del_ne (at_ne ea y exo_tup)]; exact y)
  refine ⟨t0, G, I1.call' (ch := []) ho U good hb (fun b z => absurd z (by simp)), fun b o z => ?_, no, stands, del_same⟩
  by_cases q : b = a
  · rw [q, no] at z
    cases z
  · exact (at_ b q).symm.trans z
/-- C(), C's own __init__ gives it no field -/
def tMkZ (C : Addr) (sp : Sp) : L2.St → Hp → XK → Prop := fun _ H Q => ∀ a, H a = none → sp [.ref a] (upd H a (exo a C none)) (fun v H2 => v = .non ∧ H2 a = some (exo a C none) ∧ Q (.ref C) none (del H2 a)) (fun _ _ _ => False)
theorem pmk_z {X : Cx} {p pos : Pos} {x : Str} {C : Addr} {sp : Sp} {j : Nat} (c : ErG X.prog X.w X.K X.mg X.base x C sp) (hr : Room j X.A) (hj : 2 ≤ j) (hg : Gl X x) (hdb : (x == ("__debug__" : Str)) = false) : L2N.PMk X (.Call (.Name x p) [] [] pos) (tMkZ C sp) := by
  obtain ⟨fI, fd, ps, hm, T, iC, tI, F1, b⟩ := c.ex
  intro pins s σ H Q I h
  obtain ⟨nm, q, N, bs, bm, sn, sub, ab, col, dd, k0, k1, k2, k3, k5, hC, hbm⟩ := T.cls
  refine wpAny_Call_Name_kw (ld_glob I hg hm ?_ hdb)
  refine PySem.W.callWith_K0 I.kIn T.kC ?_
  obtain ⟨hp, g, dr, tk, os⟩ := s
  generalize ex : hp.objs.size + 1 = x1 at *
  have le1 : hp.objs.size ≤ x1 := by omega
  have sp1 := h x1 (I.hok.fresh le1)
  have old : ∀ b o, hp.get? b = some o → ((hp.push (PySem.W.kdv_tup [])).push (PySem.HandSPX.excO C hp.objs.size)).get? b = some o := fun b o z =>
    Heap.get?_push_of_some _ (Heap.get?_push_of_some _ z)
  have new1 : ((hp.push (PySem.W.kdv_tup [])).push (PySem.HandSPX.excO C hp.objs.size)).get? x1 = some (PySem.HandSPX.excO C hp.objs.size) := by
    subst ex
    heap_get
  have I2 := I.laid (t' := tk) (a := x1) (o := exo x1 C none) old le1 (exo_ok new1)
  have many : ([Value.ref x1] : List Value).length = ps.length := F1.len _ _ _ _ sp1
  have bound := b _ [Value.ref x1] I2.kIn (by rw [List.append_nil]; exact many)
  rw [List.append_nil] at bound
  have run := F1.run _ X.stack _ _ ⟨[Value.ref x1], []⟩ [Value.ref x1] [V.ref x1] _ (fun _ _ _ => False) ((hr.mono hj).make C [] []) (I2.env0.make C [] []) bound (.cons rfl .nil) sp1
  refine wpAny_call (PySem.HandSPX.call_own F.excBase_ValueError (fun Y => PySem.HandSPX.refsVE_contains Y bm hbm) (I.kIn _ _ hC) (PySem.W.looks_findIn I.kIn iC) (fun self => PySem.W.bind_fn I.kIn self tI) (Nat.zero_le _) ?_)
  subst ex
  refine codeAny_mono run fun r s' back => ?_
  cases r with
  | error er => exact False.elim back
  | ok fl =>
    cases fl with
    | ret u =>
      obtain ⟨v, H2, os2, bare2, un2, hok2, rv, ev, ea, q2⟩ := back
      subst ev
      obtain ⟨h2, g2, d2, t2, os'⟩ := s'
      obtain ⟨t0, G, J, kG, ge, hoe, na⟩ := let_go (d2 := d2) (t2 := t2) I le1 old un2 hok2 os2 bare2 ea
      exact ⟨rv, _, _, _, ⟨G, g2, d2, t2, os'⟩, _, .ref C, none, rfl, J, kG, ge, hoe, ⟨rfl, rfl, fun vs z => by cases z; rfl⟩, rfl, rfl, na, rfl, bare2, raises_own T.exC T.tyC, q2⟩
    | next => exact False.elim back
    | brk => exact False.elim back
    | cont => exact False.elim back
theorem ps_raiseZ {X : Cx} {W : WX} {x : Str} {C : Addr} {sp : Sp} {j : Nat} {p pos pos' : Pos} (c : ErG X.prog X.w X.K X.mg X.base x C sp) (hr : Room j X.A) (tk : L2N.Takes X W) (hj : 2 ≤ j := by decide) (hcalm : X.calm = true := by rfl) (hg : Gl X x := by rfl) (hdb : (x == ("__debug__" : Str)) = false := by decide) :
    PS X (.Raise (some (.Call (.Name x p) [] [] pos)) none pos') (fun _ σ H => tMkZ C sp σ H fun cls d H' => W cls d σ H') :=
  L2N.ps_raise hcalm tk (pmk_z c hr hj hg hdb)
/-- no field -/
def spInit0 (C : Addr) : Sp := fun vs H Q _ => ∃ a : Addr, vs = [.ref a] ∧ H a = some (exo a C none) ∧ Q .non H
theorem mk0 {C : Addr} {σ : L2.St} {H1 : Hp} {Q : XK} (k : ∀ H2, Same H1 H2 → Q (.ref C) none H2) : tMkZ C (spInit0 C) σ H1 Q := fun a ha => ⟨a, rfl, upd_same, rfl, upd_same, k _ fun b o e => by
  have hba := ne_of_none e ha
  rw [del_ne hba, upd_ne hba]
  exact e⟩
-- part pool
/-- a pool: three values -/
def PoolAt (H : Hp) (p : Addr) : Prop := ∃ (c n : Int) (b : Bool), H p = some (.lst [.int c, .int n, .bl b])
def spPool : Sp := fun vs H Q _ => ∃ c : Int, vs = [.int c] ∧ ∀ p H', H p = none → Same H H' → PoolAt H' p → Q (.ref p) H'
-- part cell

abbrev s_cell : Stmt := top 28
theorem sc_cell : FnScope ["_law_script", "_law_k"] ["_law_script", "_law_k"] (defScope s_cell) := ⟨rfl, rfl, rfl, by decide +kernel, rfl, by decide +kernel, by decide +kernel⟩
def spCellL (K : PySem.W.Frag) : Sp := fun vs H Q _ => ∃ (a : Addr) (ns : List Int) (k : Nat), vs = [.ref a, .int (k : Int)] ∧ SqL K H a (ns.map V.int) ∧ ∀ v, Q (.int v) H
theorem ok_cell {f : Addr} {fd : FuncData} (T : Txt mg) (F : Fun K "_law_cell" "_law_cell" s_cell f fd) : FnOk P w K mg base CX0 1 f fd ["_law_script", "_law_k"] (spCellL K) := by
  refine F.ok sc_cell (fun vs H Q E h => ?_) (fun cdv A outer s H vs Q E hr h => ?_)
  · obtain ⟨a, ns, k, rfl, _⟩ := h
    rfl
  · obtain ⟨a, ns, k, rfl, hS, q⟩ := h
    refine ⟨_, (pss_cons (ps_if (pt_cmpR op_lt (pv 1) (pe_callB call_len_seq (by rfl) T.len PySem.boot_len (pa_cons (pv 0) pa_nil)) (nomark _)) (pss_one (ps_ret (pe_ix ix_list (pv 0) (pv 1) (fun _ _ => rfl)))) pss_nil)
 (pss_one (ps_ret pe_int))), ?_⟩
    refine ⟨_, rfl, _, rfl, a, _, rfl, .inl hS, _, _, rfl, rfl, _, rfl, ?_⟩
    rw [List.length_map]
    by_cases c : k < ns.length
    · refine if_pos_of (decide_eq_true (by omega)) ?_
      refine ⟨_, rfl, _, rfl, a, _, _, .int ns[k], rfl, rfl, hS, atI_nat (by rw [List.getElem?_map, List.getElem?_eq_getElem c]; rfl), ?_⟩
      exact q _
    · refine if_neg_of (decide_eq_false (by omega)) ?_
      exact q _
-- part maps
/-! comprehensions and loops whose turns leave what stood before as it was -/
/-- the list that a comprehension makes: f i behind i turns -/
def PvM (H1 : Hp) (D : Addr) (f : Nat → List V) (i : Nat) (H : Hp) : Prop := Same H1 H ∧ H D = some (.lst (f i))
theorem PvM.zero {H1 : Hp} {D : Addr} {f : Nat → List V} (hD : H1 D = none) (h0 : f 0 = []) : PvM H1 D f 0 (upd H1 D (.lst [])) := ⟨same_upd hD, by rw [h0]; exact upd_same⟩
theorem PvM.push {H1 H4 : Hp} {D : Addr} {f : Nat → List V} {i : Nat} {y : V} (hD : H1 D = none) (s : Same H1 H4) (hd : H4 D = some (.lst (f i))) (few : (f i).length < 1000) (hf : f (i + 1) = f i ++ [y]) :
    ∃ acc, H4 D = some (.lst acc) ∧ acc.length < sizeLine ∧ PvM H1 D f (i + 1) (upd H4 D (.lst (acc ++ [y]))) :=
  ⟨f i, hd, small1000 (by omega), fun b o eb => by
    rw [upd_ne (ne_of_none eb hD)]
    exact s b o eb, by rw [hf]; exact upd_same⟩
theorem PvM.skip {H1 H4 : Hp} {D : Addr} {f : Nat → List V} {i : Nat} (s : Same H1 H4) (hd : H4 D = some (.lst (f i))) (hf : f (i + 1) = f i) : PvM H1 D f (i + 1) H4 := ⟨s, by rw [hf]; exact hd⟩
section
variable {J : It} {n : Nat} {G : Hp → Prop} {Y : Nat → Hp → V → Hp → Prop}
theorem lcW (w : Walk J n G Y) {g : TG} {tt : TT} {te : TE} {vs : List Nat} {σ : L2.St} {H1 : Hp} {D : Addr} {Qd : Hp → Prop} (f : Nat → List V) (hD : H1 D = none) (h0 : f 0 = []) (hG : ∀ H, Same H1 H → G H)
    (hs : ∀ i x H H', i < n → Same H1 H → H D = some (.lst (f i)) → Y i H x H' → g x (wipe σ vs) H' fun σ2 H2 => wipe σ2 vs = wipe σ vs ∧ tt σ2 H2 fun b H3 =>
      if b = true then te σ2 H3 fun y H4 => ∃ acc, H4 D = some (.lst acc) ∧ acc.length < sizeLine ∧ PvM H1 D f (i + 1) (upd H4 D (.lst (acc ++ [y]))) else PvM H1 D f (i + 1) H3) (hd : ∀ H, Same H1 H → H D = some (.lst (f n)) → Qd H) :
    ∃ W : Nat → Nat → Hp → Prop, (∃ m, W 0 m (upd H1 D (.lst []))) ∧ ∀ i m H, W i m H →
      (J.stop i H ∧ Qd H) ∨ (J.go i H ∧ ∃ Nx : Hp → Prop, (∀ H', Nx H' → ∃ m', m' < m ∧ W (i + 1) m' H') ∧ ∀ x H', J.yld i H x H' → g x (wipe σ vs) H' fun σ2 H2 => wipe σ2 vs = wipe σ vs ∧ tt σ2 H2 fun b H3 =>
        if b = true then te σ2 H3 fun y H4 => ∃ acc, H4 D = some (.lst acc) ∧ acc.length < sizeLine ∧ Nx (upd H4 D (.lst (acc ++ [y]))) else Nx H3) :=
  lc_it w (PvM H1 D f) (PvM.zero hD h0) (fun _ H _ h => hG H h.1) (fun i x H H' hi h y => hs i x H H' hi h.1 h.2 y) fun H h => hd H h.1 h.2
end
/-- the first i of a row -/
abbrev tkV (l : List V) (i : Nat) : List V := l.take i
theorem tkV_succ {l : List V} {i : Nat} {y : V} (h : l[i]? = some y) : tkV l (i + 1) = tkV l i ++ [y] := by
  show l.take (i + 1) = l.take i ++ [y]
  rw [List.take_add_one, h]
  rfl
theorem tkV_len (l : List V) (i : Nat) : (tkV l i).length ≤ l.length := by
  show (l.take i).length ≤ l.length
  rw [List.length_take]
  omega
theorem tkV_all (l : List V) : tkV l l.length = l := List.take_length
/-- the turn of a map ends -/
theorem mapEnd {H1 H4 : Hp} {D : Addr} {ys : List V} {i : Nat} {y : V} (hD : H1 D = none) (few : ys.length < 1000) (s : Same H1 H4) (hd : H4 D = some (.lst (tkV ys i))) (hy : ys[i]? = some y) :
    ∃ acc, H4 D = some (.lst acc) ∧ acc.length < sizeLine ∧ PvM H1 D (tkV ys) (i + 1) (upd H4 D (.lst (acc ++ [y]))) :=
  PvM.push hD s hd (Nat.lt_of_le_of_lt (tkV_len ys i) few) (tkV_succ hy)
theorem map_at {α : Type} {f : α → V} {l : List α} {i : Nat} {z : α} (h : l[i]? = some z) : (l.map f)[i]? = some (f z) := by
  rw [List.getElem?_map, h]
  rfl
theorem pow_small {z : Int} {n m : Nat} (h : z.natAbs < 2 ^ n) (hnm : n ≤ m) : z.natAbs < 2 ^ m := Nat.lt_of_lt_of_le h (Nat.pow_le_pow_right (by decide) hnm)
theorem flat_rep {α : Type} (x : α) : ∀ m : Nat, (List.replicate m [x]).flatten = List.replicate m x
  | 0 => rfl
  | m + 1 => by rw [List.replicate_succ, List.flatten_cons, flat_rep x m, List.replicate_succ, List.singleton_append]
/-- len of a list or tuple, the frame named -/
def rLenS (K : PySem.W.Frag) : List V → Hp → VK → Prop := fun xs H Q => ∃ p ys, xs = [V.ref p] ∧ (SqL K H p ys ∨ SqT K H p ys) ∧ Q (V.int (ys.length : Int)) H
theorem call_len_seqK {X : Cx} {K : PySem.W.Frag} (hK : X.K = K) : CallR X (.builtin "len") (rLenS K) := by
  subst hK
  exact call_len_seq
/-- o.f, the frame named -/
theorem pe_fldK {X : Cx} {K : PySem.W.Frag} {e : Expr} {f : Str} {pos : Pos} {ta : TE} (hK : X.K = K) (he : PE X e ta) (hb : attributeBase e f X.env (eval e X.env) = eval e X.env) : PE X (.Attribute e f pos) (tFld K ta f) := by
  subst hK
  exact pe_fld he hb
/-- range(n): 0, 1, .. -/
theorem walk_range0 {n : Nat} : Walk (Itr 0 n) n (fun _ => True) (YFn fun i => .int (i : Int)) :=
  walk_range.mono (fun _ _ => trivial) fun i H x H' _ _ y => ⟨y.1, y.2.trans (congrArg V.int (Int.zero_add _))⟩
section
variable {J : It} {n : Nat} {G : Hp → Prop} {Y : Nat → Hp → V → Hp → Prop}
/-- a comprehension that makes the row ys -/
theorem lcMap (w : Walk J n G Y) {g : TG} {tt : TT} {te : TE} {vs : List Nat} {σ : L2.St} {H1 : Hp} {D : Addr} {Qd : Hp → Prop} (ys : List V) (hl : ys.length = n) (hD : H1 D = none) (hG : ∀ H, Same H1 H → G H)
    (hs : ∀ i x H H', i < n → Same H1 H → H D = some (.lst (tkV ys i)) → Y i H x H' → g x (wipe σ vs) H' fun σ2 H2 => wipe σ2 vs = wipe σ vs ∧ tt σ2 H2 fun b H3 =>
      if b = true then te σ2 H3 fun y H4 => ∃ acc, H4 D = some (.lst acc) ∧ acc.length < sizeLine ∧ PvM H1 D (tkV ys) (i + 1) (upd H4 D (.lst (acc ++ [y]))) else PvM H1 D (tkV ys) (i + 1) H3) (hd : ∀ H, Same H1 H → H D = some (.lst ys) → Qd H) :
    ∃ W : Nat → Nat → Hp → Prop, (∃ m, W 0 m (upd H1 D (.lst []))) ∧ ∀ i m H, W i m H →
      (J.stop i H ∧ Qd H) ∨ (J.go i H ∧ ∃ Nx : Hp → Prop, (∀ H', Nx H' → ∃ m', m' < m ∧ W (i + 1) m' H') ∧ ∀ x H', J.yld i H x H' → g x (wipe σ vs) H' fun σ2 H2 => wipe σ2 vs = wipe σ vs ∧ tt σ2 H2 fun b H3 =>
        if b = true then te σ2 H3 fun y H4 => ∃ acc, H4 D = some (.lst acc) ∧ acc.length < sizeLine ∧ Nx (upd H4 D (.lst (acc ++ [y]))) else Nx H3) :=
  lcW w (tkV ys) hD rfl hG hs fun H s h => hd H s (by rw [h, ← hl, tkV_all])
end
-- part menu
theorem allN {R : V → Prop} : ∀ x ∈ ([] : List V), R x := fun _ h => nomatch h
theorem allC {R : V → Prop} {a : V} {l : List V} (h : R a) (t : ∀ x ∈ l, R x) : ∀ x ∈ a :: l, R x := fun x hx => by
  rcases List.mem_cons.mp hx with e | e
  · rw [e]
    exact h
  · exact t x e
/-- an item at an open place in bounds -/
theorem at_some {xs : List V} {v : Int} (h0 : 0 ≤ v) (h1 : v < xs.length) : ∃ x, atI xs v = some x ∧ x ∈ xs := by
  have hv : ((v.toNat : Nat) : Int) = v := Int.toNat_of_nonneg h0
  have hl : v.toNat < xs.length := by omega
  have z : atI xs ((v.toNat : Nat) : Int) = some xs[v.toNat] := atI_nat (List.getElem?_eq_getElem hl)
  rw [hv] at z
  exact ⟨xs[v.toNat], z, List.getElem_mem hl⟩
def SameBut (p : Addr) (H H' : Hp) : Prop := ∀ b o, b ≠ p → H b = some o → H' b = some o
theorem SameBut.of {p : Addr} {H H' : Hp} (e : ∀ q, q ≠ p → H' q = H q) : SameBut p H H' := fun b o hb h => by
  rw [e b hb]
  exact h
theorem SameBut.trans {p : Addr} {H H1 H2 : Hp} (a : SameBut p H H1) (b : SameBut p H1 H2) : SameBut p H H2 := fun c o hc h => b c o hc (a c o hc h)
theorem sbut {p : Addr} {H H' : Hp} (s : Same H H') : SameBut p H H' := fun b o _ h => s b o h
/-- what was tracked ahead of the pool -/
theorem SameBut.same {p : Addr} {H0 H H' : Hp} (s : Same H0 H) (np : H0 p = none) (e : SameBut p H H') : Same H0 H' := fun b o h => e b o (ne_of_none h np) (s b o h)
theorem PoolAt.same {H H' : Hp} {p : Addr} (h : PoolAt H p) (s : Same H H') : PoolAt H' p := by
  obtain ⟨x, y, z, e⟩ := h
  exact ⟨x, y, z, s _ _ e⟩
theorem PoolAt.new {H : Hp} {p a : Addr} (h : PoolAt H p) (n : H a = none) : a ≠ p := fun e => by
  obtain ⟨x, y, z, q⟩ := h
  rw [e, q] at n
  cases n
-- part eqints
theorem eqvAll_ints : ∀ l m : List Int, PyData.eqvAll (l.map PyData.int) (m.map PyData.int) = decide (l = m)
  | [], [] => by rw [List.map_nil, PyData.eqvAll]; rfl
  | [], b :: m => by rw [List.map_nil, List.map_cons, PyData.eqvAll] <;> first | (exact (decide_eq_false (by simp)).symm) | skip
  | a :: l, [] => by rw [List.map_nil, List.map_cons, PyData.eqvAll] <;> first | (exact (decide_eq_false (by simp)).symm) | skip
  | a :: l, b :: m => by
    rw [List.map_cons, List.map_cons, PyData.eqvAll, PyData.eqv, eqvAll_ints l m]
    by_cases c : a = b
    · subst c
      by_cases c2 : l = m
      · subst c2
        simp
      · simp [c2]
    · simp [c]
theorem eqv_ints (l m : List Int) : PyData.eqv (.list (l.map PyData.int)) (.list (m.map PyData.int)) = decide (l = m) := by
  rw [PyData.eqv]
  exact eqvAll_ints l m
theorem eqv_intsT (l m : List Int) : PyData.eqv (.tuple (l.map PyData.int)) (.tuple (m.map PyData.int)) = decide (l = m) := by
  rw [PyData.eqv]
  exact eqvAll_ints l m
theorem canLay_ints : ∀ l : List Int, PyData.canLayAll0 (l.map PyData.int) = true
  | [] => by rw [List.map_nil, PyData.canLayAll0]
  | a :: l => by rw [List.map_cons, PyData.canLayAll0, PyData.canLay0, canLay_ints l]; rfl
theorem depth_ints : ∀ l : List Int, PyData.depthAll (l.map PyData.int) = 0
  | [] => by rw [List.map_nil, PyData.depthAll]
  | a :: l => by rw [List.map_cons, PyData.depthAll, PyData.depth, depth_ints l]; rfl
theorem shaped_ints (l : List Int) : SeqAt.shaped (.list (l.map PyData.int)) = true := by
  unfold SeqAt.shaped
  rw [PyData.canLay0, canLay_ints, PyData.depth, depth_ints]
  rfl
theorem shaped_intsT (l : List Int) : SeqAt.shaped (.tuple (l.map PyData.int)) = true := by
  unfold SeqAt.shaped
  rw [PyData.canLay0, canLay_ints, PyData.depth, depth_ints]
  rfl
theorem dpAll_ints {K : PySem.W.Frag} {H : Hp} : ∀ l : List Int, DpAll K H (l.map V.int) (l.map PyData.int)
  | [] => .nil
  | a :: l => .cons (.int a) (dpAll_ints l)
theorem dp_lst {K : PySem.W.Frag} {H : Hp} {a : Addr} {l : List Int} (h : SqL K H a (l.map V.int)) : Dp K H (.ref a) (.list (l.map PyData.int)) := .lst h (dpAll_ints l)
theorem dp_tup {K : PySem.W.Frag} {H : Hp} {a : Addr} {l : List Int} (h : SqT K H a (l.map V.int)) : Dp K H (.ref a) (.tuple (l.map PyData.int)) := .tup h (dpAll_ints l)
theorem hu64 {k : Nat} {A : Around} (hr : Room k A) : A.units + 64 < cLine := by
  have := hr.un
  omega
theorem item_int {l : List Int} {i : Nat} {y : V} (h : (l.map V.int)[i]? = some y) : ∃ z : Int, y = .int z ∧ l[i]? = some z := by
  rw [List.getElem?_map] at h
  cases e : l[i]? with
  | none =>
    rw [e] at h
    cases h
  | some z =>
    rw [e] at h
    exact ⟨z, (Option.some.inj h).symm, rfl⟩
-- part setints
/-! set(xs) of a list of ints; the walk of the list, as for a tuple -/
/-- the empty set as it is made -/
def set0 (w : World) : Obj := { cls := .type "set", dict := none, data := .set #[] 0 (.fresh 0 0 (!w.params.followText "set-order")) }
open PySem.Calls in
theorem set_of_list {P : Program} {w : World} {A : Around} {E : Value → Shared → Prop} {s : Shared} {l : Addr} {items : Array Value} (ns : List Int) {Q : Value → Shared → Prop} (hh : A.handled = none)
    (hl : s.heap.IsList l items) (hit : IntsAre items.toList ns) (hb : ns.length + 1 < scanBound)
    (h : ∀ (h' : Heap) (tk c : Nat), SetR w h' s.heap.objs.size (fun j => decide (j ∈ ns)) c → c ≤ ns.length → (∀ b o, s.heap.get? b = some o → h'.get? b = some o) →
      Q (.ref s.heap.objs.size) { s with heap := h', toks := tk }) :
    wpAny (model P w) A (call (.type "set") [.ref l]) Q E s := by
  have size_eq : items.size = ns.length := by
    have z := IntsAre.length hit
    rwa [Array.length_toList] at z
  obtain ⟨c, tl, hmro⟩ := F.called_set.mro
  have made_set := F.called_set.made
  have sub_set := F.called_set.sub
  refine wpAny_call (codeAny_of_tree ?_)
  show wpAny _ _ (callAny (.type "set") _) _ _ _
  refine wpAny_pure ⟨Code.quiet_builtin _ (by decide +kernel), codeAny_builtin F.entry_type_call ?_⟩
  rw [Around.under_plain (weight_type_call_type "set" [.ref l] []) rfl]
  have not_type := F.called_set.notType
  have can_create := F.called_set.canCreate
  have type_call := F.typeCall_set_1 (.ref l)
  repeat (any_goals (first | assumption | wp_step))
  refine codeAny_mono (code_set_led1 (.ref l) (E := E) (Q₁ := fun obj st => obj = .ref s.heap.objs.size ∧ st = { s with heap := s.heap.push (set0 w) }) ⟨rfl, rfl⟩) fun r st hr => ?_
  cases r with
  | error e => exact hr
  | ok fl =>
    cases fl with
    | ret obj =>
      obtain ⟨rfl, rfl⟩ := hr
      have at_set : (s.heap.push (set0 w)).get? s.heap.objs.size = some (set0 w) := Heap.get?_push_size _ rfl
      have is_set : Shared.TypeIs { s with heap := s.heap.push (set0 w) } (.ref s.heap.objs.size) "set" := ⟨_, at_set, rfl⟩
      have init_look := F.called_set.init.lookup
      have init_bind := F.called_set.init.bind (.ref s.heap.objs.size)
      repeat (any_goals (first | assumption | wp_step))
      refine codeAny_mono (codeAny_call_builtin (R := wants (fun r t => r = .none ∧ ∃ h' tk c, t = { s with heap := h', toks := tk } ∧ SetR w h' s.heap.objs.size (fun j => decide (j ∈ ns)) c ∧
        c ≤ ns.length ∧ (∀ b o, s.heap.get? b = some o → h'.get? b = some o)) E) F.called_set.init.plain F.entry_set_init (check_set_init_1 is_set ?_)) fun r₂ s₂ hr₂ => ?_
      · obtain ⟨ol, hol, hcl, nl, hdl⟩ := hl
        obtain ⟨ocls, odict, odata, oslots⟩ := ol
        simp only at hcl hdl
        subst hcl
        subst hdl
        have hol' : (s.heap.push (set0 w)).get? l = some { cls := .type "list", dict := odict, data := .seq items nl, slots := oslots } := Heap.get?_push_of_some _ hol
        have no_set := F.sub_list_set
        have no_frozen := F.sub_list_frozenset
        have no_dict : (Value.type "list" == Value.type "dict") = false := by decide
        have list1 : (s.heap.push (set0 w)).IsList l items := ⟨_, hol', rfl, nl, rfl⟩
        unfold Builtin.«set.__init__» noKeywords Builtin.Frozenset.updateFrom
        generalize iter_is : pyIter = PI
        wp_walk
        subst iter_is
        refine wpAny_pyIter_list list1 ?_
        refine wpAny_bind (wpAny_runValue ?_)
        have l_old : l < s.heap.objs.size := Heap.lt_size hol
        have calm3 : A.in1.in1.in1.handled = none := by simp [hh]
        have next_is : (s.heap.push (set0 w)).objs.size = s.heap.objs.size + 1 := Heap.size_push ..
        have l_ne : l ≠ (s.heap.push (set0 w)).objs.size := by
          rw [next_is]
          exact Nat.ne_of_lt (Nat.lt_succ_of_lt l_old)
        have off : s.heap.objs.size ∉ [(s.heap.push (set0 w)).objs.size, l] := by
          rw [next_is]
          simp only [List.mem_cons, List.not_mem_nil, or_false, not_or]
          exact ⟨Nat.ne_of_lt (Nat.lt_succ_self _), Nat.ne_of_gt l_old⟩
        have vals : ∀ (i : Nat) (v : Value), items[i]? = some v → ∃ k t, ns[i]? = some k ∧ v = .int k t := fun i v hv => by
          have lt : i < ns.length := by
            rw [← size_eq]
            exact (Array.getElem?_eq_some_iff.mp hv).1
          obtain ⟨t, e⟩ := IntsAre.int_at hit i v (by rw [Array.getElem?_toList]; exact hv)
          refine ⟨ns[i], t, List.getElem?_eq_getElem lt, ?_⟩
          rw [e, List.getD_eq_getElem?_getD, List.getElem?_eq_getElem lt] <;> rfl
        refine set_update_ints ((Walks.list calm3 _ l l_ne items).toS) s.heap.objs.size off ns size_eq hb vals (items.size - 0) 0 _ (by omega) (Nat.zero_le _) ⟨⟨_, Heap.get?_push_size _ rfl, rfl, rfl⟩, (list1.push _)⟩ ?start ?done
        case start =>
          refine ⟨0, Nat.le_refl 0, setR_new_at ?_⟩
          exact Heap.get?_push_of_some _ at_set
        case done =>
          intro s' c' hm hc' hS'
          obtain ⟨h', g2, d', tk', os'⟩ := s'
          have eg : g2 = s.gens := hm.gens
          have ed : d' = s.drawn := hm.drawn
          have eo : os' = s.os := hm.os
          subst eg
          subst ed
          subst eo
          show wpAny _ _ _ _ _ _
          refine wpAny_pure ?_
          show wpAny _ _ (ret Value.none) _ _ _
          rw [size_eq] at hc'
          refine wpAny_pure ⟨rfl, h', tk', c', rfl, hS', hc', fun b o e => ?_⟩
          have old := Heap.lt_size e
          refine hm.heap b o ?_ (Heap.get?_push_of_some _ (Heap.get?_push_of_some _ e))
          rw [next_is]
          simp only [List.mem_cons, List.not_mem_nil, or_false, not_or]
          exact ⟨Nat.ne_of_lt old, Nat.ne_of_lt (Nat.lt_succ_of_lt old)⟩
      · cases r₂ with
        | error e => exact hr₂
        | ok fl₂ =>
          cases fl₂ with
          | ret r =>
            obtain ⟨rfl, h', tk, c', rfl, hS', hc', hk'⟩ := hr₂
            repeat (any_goals (first | assumption | wp_step))
            exact h _ _ _ hS' hc' hk'
          | _ => exact hr₂.elim
    | _ => exact hr.elim
/-- set(xs): xs a list or a tuple of ints -/
def rSetInts (K : PySem.W.Frag) (w : World) : List V → Hp → VK → Prop := fun xs H Q => ∃ (a : Addr) (ns : List Int), xs = [.ref a] ∧ (SqL K H a (ns.map V.int) ∨ SqT K H a (ns.map V.int)) ∧ ns.length ≤ 1000 ∧
  ∀ p c, H p = none → c ≤ ns.length → Q (.ref p) (upd H p (SetO w p (fun j => decide (j ∈ ns)) c))
theorem cr_setInts {X : Cx} (hc : X.calm = true) : CallR X (.type "set") (rSetInts X.K X.w) := by
  intro pins s σ H vs us Q I r h
  obtain ⟨a, ns, rfl, hq, hl, q⟩ := h
  cases r with
  | cons r1 r2 =>
    cases r2
    cases r1
    have few : ns.length + 1 < scanBound := by unfold scanBound; omega
    have fresh : H s.heap.objs.size = none := I.hok.fresh (Nat.le_refl _)
    have fin : ∀ (h' : Heap) (tk c : Nat), SetR X.w h' s.heap.objs.size (fun j => decide (j ∈ ns)) c → c ≤ ns.length → (∀ b o, s.heap.get? b = some o → h'.get? b = some o) →
        EP X pins σ Q (.ref s.heap.objs.size) { s with heap := h', toks := tk } := fun h' tk c hS hle keep =>
      ⟨.ref s.heap.objs.size, upd H s.heap.objs.size (SetO X.w s.heap.objs.size (fun j => decide (j ∈ ns)) c), I.laid (t' := tk) keep (Nat.le_refl _) (setO_new hS), rfl, q _ _ fresh hle⟩
    rcases hq with hq | hq
    · obtain ⟨its, r, pl, hz⟩ := I.list hq
      exact set_of_list ns (I.ok.hd hc) pl.isList (by simpa using RZ.intsAre_vals r) few fin
    · obtain ⟨its, r, pl, hz⟩ := I.tuple hq
      exact call_set_tupI ns (I.ok.hd hc) pl (by simpa using RZ.intsAre_vals r) few fin
-- part draws
abbrev s_draws : Stmt := top 29
theorem sc_draws : FnScope ["_law_cell_here", "_law_sizes", "_law_drawn", "_law_left", "_law_at", "_law_mixed"] ["_law_cell_here", "_law_sizes"] (defScope s_draws) := ⟨rfl, rfl, rfl, by decide +kernel, rfl, by decide +kernel, by decide +kernel⟩
/-- numbers drawn below their sizes -/
def Drawn (zs ds : List Int) : Prop := ds.length = zs.length ∧ ∀ (i : Nat) (d z : Int), ds[i]? = some d → zs[i]? = some z → 0 ≤ d ∧ d < z
def spDraws (K : PySem.W.Frag) : Sp := fun vs H Q _ => ∃ (c : Int) (s : Addr) (zs : List Int), vs = [.int c, .ref s] ∧ SqL K H s (zs.map V.int) ∧ zs.length < 100 ∧ (∀ z ∈ zs, 0 < z ∧ z.natAbs < 2 ^ 300) ∧
  ∀ p ds H', H p = none → Drawn zs ds → Same H H' → H' p = some (.lst (ds.map V.int)) → Q (.ref p) H'
theorem mix_small2 (z : Int) : -(2 ^ 64) < z % 2147483647 ∧ z % 2147483647 < 2 ^ 64 := by
  have h1 := Int.emod_nonneg z (show (2147483647 : Int) ≠ 0 by decide)
  have h2 := Int.emod_lt_of_pos z (show (0 : Int) < 2147483647 by decide)
  omega
theorem ok_draws {f : Addr} {fd : FuncData} (T : Txt mg) (F : Fun K "_law_draws" "_law_draws" s_draws f fd) : FnOk P w K mg base CX0 1 f fd ["_law_cell_here", "_law_sizes"] (spDraws K) := by
  refine F.ok sc_draws (fun vs H Q E h => ?_) (fun cdv A outer s H vs Q E hr h => ?_)
  · obtain ⟨c, s, zs, rfl, _⟩ := h
    rfl
  · obtain ⟨c, s, zs, rfl, hS, few, hz, q⟩ := h
    refine ⟨_, (pss_cons (ps_set (i := 2) sc_draws.nd rfl (Or.inl rfl) (pe_lst pa_nil))
 (pss_cons (ps_set (i := 3) sc_draws.nd rfl (Or.inl rfl) (pe_callB call_abs (by rfl) T.abs boot_abs (pa_cons (pv 0) pa_nil)))
 (pss_cons (ps_for PassesOwn.never rfl (pi_range1 rfl T.range (pa_cons (pe_callB call_len_seq (by rfl) T.len PySem.boot_len (pa_cons (pv 1) pa_nil)) pa_nil)) (pg_name (i := 4) sc_draws.nd rfl (Or.inl rfl)) (pss_one (ps_if (pt_cmpR op_ge (pe_callB call_abs (by rfl) T.abs boot_abs (pa_cons (pv 0) pa_nil)) (pe_op op_pow pe_int pe_int) (nomark _)) (pss_cons (ps_expr (pe_bm PySem.F.plainAttrs_list PySem.F.slot_list_append PySem.F.type_list_append mt_append (pv 2) (pa_cons (pe_op op_mod (pe_callTy call_int1 (by rfl) T.int boot_int (pa_cons (pv 3) pa_nil)) (pe_ix ix_list (pv 1) (pv 4) (fun _ _ => rfl))) pa_nil)))
 (pss_one (ps_set (i := 3) sc_draws.nd rfl (Or.inl rfl) (pe_op op_fdivW (pv 3) (pe_ix ix_list (pv 1) (pv 4) (fun _ _ => rfl)))))) (pss_cons (ps_set (i := 5) sc_draws.nd rfl (Or.inl rfl) (pe_op op_mod (pe_callTy call_int1 (by rfl) T.int boot_int (pa_cons (pe_op op_mul (pe_op op_add (pe_op op_add (pv 3) (pe_op op_mul pe_int (pv 4))) pe_int) pe_int) pa_nil)) pe_int))
 (pss_cons (ps_set (i := 5) sc_draws.nd rfl (Or.inl rfl) (pe_op op_mod (pe_callTy call_int1 (by rfl) T.int boot_int (pa_cons (pe_op op_add (pe_op op_add (pe_op op_mul (pe_op op_mul (pv 5) (pv 5)) pe_int) (pe_op op_mul pe_int (pv 4))) (pv 5)) pa_nil)) pe_int))
 (pss_one (ps_expr (pe_bm PySem.F.plainAttrs_list PySem.F.slot_list_append PySem.F.type_list_append mt_append (pv 2) (pa_cons (pe_op op_mod (pe_op op_fdivW (pv 5) pe_int) (pe_ix ix_list (pv 1) (pv 4) (fun _ _ => rfl))) pa_nil)))))))))
 (pss_one (ps_ret (pv 2)))))), ?_⟩
    refine ⟨(by show 0 ≤ sizeLine; decide), fun D nD => ⟨_, rfl, _, rfl, ?_⟩⟩
    have g1 := same_upd (o := .lst []) nD
    refine ⟨_, rfl, s, _, rfl, .inl (g1.seq hS), _, rfl, (by rw [List.length_map]; omega), (by rw [List.length_map]; omega), ?_⟩
    refine for_range (lo := 0) (n := _) (fun i σ H' => ∃ (ds : List Int) (left : Int) (x4 x5 : Option V), σ = [some (.int c), some (.ref s), some (.ref D), some (.int left), x4, x5] ∧ Same H H' ∧ H' D = some (.lst (ds.map V.int)) ∧ ds.length = i ∧
        ∀ (j : Nat) (d z : Int), ds[j]? = some d → zs[j]? = some z → 0 ≤ d ∧ d < z) ⟨[], _, none, none, rfl, g1, upd_same, rfl, fun j d z h => by cases h⟩ ?_ ?_
    · rintro i σ H' hi ⟨ds, left, x4, x5, rfl, s1, hD, hl, hds⟩
      have hi : i < zs.length := by
        have hi' : i < (zs.map V.int).length := by simpa using hi
        rwa [List.length_map] at hi'
      have hzi : zs[i]? = some zs[i] := List.getElem?_eq_getElem hi
      obtain ⟨zp, zb⟩ := hz _ (List.mem_of_getElem? hzi)
      generalize ez : zs[i] = z at hzi zp zb
      have at_z : atI (zs.map V.int) (0 + (i : Int)) = some (V.int z) := by
        rw [Int.zero_add]
        exact atI_nat (map_at hzi)
      have more : ∀ d : Int, 0 ≤ d → d < z → ∀ (j : Nat) (d' z' : Int), (ds ++ [d])[j]? = some d' → zs[j]? = some z' → 0 ≤ d' ∧ d' < z' := fun d h0 h1 j d' z' hd' hz' => by
        by_cases c : j < ds.length
        · rw [List.getElem?_append_left c] at hd'
          exact hds j d' z' hd' hz'
        · rw [List.getElem?_append_right (by omega)] at hd'
          have e : j = i := by
            by_cases e : j - ds.length = 0
            · omega
            · rw [List.getElem?_eq_none (by show 1 ≤ j - ds.length; omega)] at hd'
              cases hd'
          subst e
          rw [hl, Nat.sub_self] at hd'
          cases hd'
          rw [hzi] at hz'
          cases hz'
          exact ⟨h0, h1⟩
      have fin : ∀ (d left : Int) (x4 x5 : Option V), 0 ≤ d → d < z → ∃ (ds' : List Int) (left' : Int) (y4 y5 : Option V), [some (.int c), some (.ref s), some (.ref D), some (.int left), x4, x5] = [some (.int c), some (.ref s), some (.ref D), some (.int left'), y4, y5] ∧
          Same H (upd H' D (.lst (ds.map V.int ++ [.int d]))) ∧ (upd H' D (.lst (ds.map V.int ++ [.int d]))) D = some (.lst (ds'.map V.int)) ∧ ds'.length = i + 1 ∧ ∀ (j : Nat) (d z : Int), ds'[j]? = some d → zs[j]? = some z → 0 ≤ d ∧ d < z := fun d left x4 x5 h0 h1 =>
        ⟨ds ++ [d], left, x4, x5, rfl, fun b o eb => by
          rw [upd_ne (ne_of_none eb nD)]
          exact s1 b o eb, by rw [List.map_append]; exact upd_same, by rw [List.length_append, hl]; rfl, more d h0 h1⟩
      have few2 : (ds.map V.int).length < sizeLine := by rw [List.length_map]; exact small1000 (by omega)
      refine ⟨_, rfl, _, rfl, _, _, rfl, rfl, ⟨by decide, by decide, by decide⟩, _, _, rfl, rfl, _, rfl, ?_⟩
      by_cases c1 : (10 : Int) ^ 18 ≤ if c < 0 then -c else c
      · refine if_pos_of (decide_eq_true c1) ?_
        refine ⟨_, rfl, .inl ⟨rfl, _, SqL.of hD⟩, _, rfl, .inl ⟨_, rfl, _, rfl, _, rfl, s, _, _, _, rfl, rfl, s1.seq hS, at_z, _, _, rfl, rfl, zp, D, _, _, rfl, rfl, hD, few2, ?_⟩⟩
        have s2 : Same H (upd H' D (.lst (ds.map V.int ++ [.int (left % z)]))) := fun b o eb => by
          rw [upd_ne (ne_of_none eb nD)]
          exact s1 b o eb
        refine ⟨_, rfl, _, rfl, _, rfl, s, _, _, _, rfl, rfl, s2.seq hS, at_z, _, _, rfl, rfl, ⟨zp, PySem.Flt.log2_lt_of (by decide) (pow_small zb (by decide))⟩, ?_⟩
        exact fin _ _ _ _ (Int.emod_nonneg _ (by omega)) (Int.emod_lt_of_pos _ zp)
      · refine if_neg_of (decide_eq_false c1) ?_
        refine ⟨_, rfl, _, rfl, _, _, rfl, rfl, .inl ⟨by decide, by decide⟩, _, _, rfl, rfl, _, _, rfl, rfl, _, _, rfl, rfl, .inr ⟨by decide, by decide⟩, .inl ⟨_, rfl, _, _, rfl, rfl, (by show (0 : Int) < 2147483647; decide), ?_⟩⟩
        refine ⟨_, rfl, _, rfl, _, _, rfl, rfl, .inl (mix_small2 _), _, _, rfl, rfl, .inr ⟨by decide, by decide⟩, _, rfl, _, _, rfl, rfl, .inl ⟨by decide, by decide⟩, _, _, rfl, rfl, _, rfl, _, _, rfl, rfl, .inl ⟨_, rfl, _, _, rfl, rfl, (by show (0 : Int) < 2147483629; decide), ?_⟩⟩
        refine ⟨_, rfl, .inl ⟨rfl, _, SqL.of hD⟩, _, rfl, _, _, rfl, rfl, ⟨by decide, by decide⟩, _, rfl, _, rfl, s, _, _, _, rfl, rfl, s1.seq hS, at_z, _, _, rfl, rfl, zp, D, _, _, rfl, rfl, hD, few2, ?_⟩
        exact fin _ _ _ _ (Int.emod_nonneg _ (by omega)) (Int.emod_lt_of_pos _ zp)
    · rintro σ H' ⟨ds, left, x4, x5, rfl, s1, hD, hl, hds⟩
      have hl' : ds.length = zs.length := by simpa using hl
      exact ⟨_, rfl, q D ds H' nD ⟨hl', hds⟩ s1 hD⟩
-- part prime_prog
def rIsqrt : List V → Hp → VK → Prop := fun vs H Q => ∃ a : Int, vs = [.int a] ∧ 0 ≤ a ∧ a < 2 ^ 64 ∧ ∀ r : Int, 0 ≤ r → r * r ≤ a → a < (r + 1) * (r + 1) → Q (.int r) H
theorem cr_isqrt {X : Cx} : CallR X (.builtin "math.isqrt") rIsqrt := by
  intro pins s σ H vs us Q I r h
  obtain ⟨a, rfl, h0, h1, q⟩ := h
  cases r with
  | cons r1 r2 =>
    cases r2
    obtain ⟨t, rfl⟩ := r1
    obtain ⟨s1, s2⟩ := Float64.isqrt_spec a.toNat
    refine PySem.W.mg_isqrt h0 h1 ⟨.int _, H, I.tok _, ⟨_, rfl⟩, q _ (Int.natCast_nonneg _) ?_ ?_⟩
    · have : ((Float64.isqrt a.toNat * Float64.isqrt a.toNat : Nat) : Int) ≤ ((a.toNat : Nat) : Int) := Int.ofNat_le.mpr s1
      rw [Int.natCast_mul, Int.toNat_of_nonneg h0] at this
      exact this
    · have : ((a.toNat : Nat) : Int) < (((Float64.isqrt a.toNat + 1) * (Float64.isqrt a.toNat + 1) : Nat) : Int) := Int.ofNat_lt.mpr s2
      rw [Int.natCast_mul, Int.natCast_add, Int.toNat_of_nonneg h0] at this
      exact this
abbrev s_least : Stmt := top 11
theorem sc_least : FnScope ["n", "d"] ["n"] (defScope s_least) := ⟨rfl, rfl, rfl, by decide +kernel, rfl, by decide +kernel, by decide +kernel⟩
def spLeast : Sp := fun vs H Q _ => ∃ n : Int, vs = [.int n] ∧ 2 ≤ n ∧ n < 2 ^ 62 ∧ ∀ r, Least n r → Q (.int r) H
theorem rgc_two {j : Int} (h0 : 0 ≤ j) (h1 : j < 2 ^ 62) : RgC 3 j 2 (if 3 < j then ((j - 3 - 1) / 2 + 1).toNat else 0) := by
  refine ⟨by decide, by decide, ?_, ?_⟩
  · unfold Builtin.Range.small Builtin.Range.rangeSize
    simp only [Builtin.Range.rangeFitsLong, Bool.and_eq_true, Bool.or_eq_true, decide_eq_true_eq, beq_iff_eq, show ((2 : Int) > 0) by decide, if_true]
    split <;> omega
  · unfold Builtin.Range.rangeSize
    rw [if_pos (by decide)]
    split <;> omega
theorem root_lt {r n : Int} (h0 : 0 ≤ r) (h : r * r ≤ n) (hn : n < 2 ^ 62) : r + 1 < 2 ^ 62 := by
  by_cases c : r < 2 ^ 32
  · omega
  · have : (2 ^ 32 : Int) * 2 ^ 32 ≤ r * r := Int.mul_le_mul (by omega) (by omega) (by decide) h0
    omega
theorem ok_least {f : Addr} {fd : FuncData} (T : Txt mg) (hsq : mg "isqrt" = some (.builtin "math.isqrt")) (F : Fun K "_least_divisor" "_least_divisor" s_least f fd) : FnOk P w K mg base CX0 1 f fd ["n"] spLeast := by
  refine F.ok sc_least (fun vs H Q E h => ?_) (fun cdv A outer s H vs Q E hr h => ?_)
  · obtain ⟨n, rfl, _⟩ := h
    rfl
  · obtain ⟨n, rfl, h2, hb, q⟩ := h
    refine ⟨_, (pss_cons (ps_if (pt_cmpR op_eq (pe_op op_mod (pv 0) pe_int) pe_int (nomark _)) (pss_one (ps_ret pe_int)) pss_nil)
 (pss_cons (ps_for PassesOwn.never rfl (pi_range3 rfl T.range (pa_cons pe_int (pa_cons (pe_op op_add (pe_callBfun cr_isqrt (by rfl) hsq (pa_cons (pv 0) pa_nil)) pe_int) (pa_cons pe_int pa_nil)))) (pg_name (i := 1) sc_least.nd rfl (Or.inl rfl)) (pss_one (ps_if (pt_cmpR op_eq (pe_op op_mod (pv 0) (pv 1)) pe_int (nomark _)) (pss_one (ps_ret (pv 1))) pss_nil)))
 (pss_one (ps_ret (pv 0))))), ?_⟩
    refine ⟨_, rfl, _, _, rfl, rfl, (by show (0 : Int) < 2; decide), rfl, _, rfl, ?_⟩
    by_cases c : (2 : Int) ∣ n
    · refine if_pos_of (decide_eq_true (congrArg V.int (Int.emod_eq_zero_of_dvd c))) ?_
      exact q _ (least_two c)
    · refine if_neg_of (decide_eq_false fun e => c (Int.dvd_of_emod_eq_zero (V.int.inj e))) ?_
      refine ⟨_, rfl, n, rfl, by omega, by omega, fun r r0 r1 r2 => ⟨_, _, rfl, rfl, 3, r + 1, 2, _, rfl, rgc_two (by omega) (root_lt r0 r1 hb), ?_⟩⟩
      refine for_rangeC (lo := 3) (c := 2) (fun i σ H' => H' = H ∧ ∃ x, σ = [some (.int n), x] ∧ ∀ j : Nat, j < i → ¬ (3 + (j : Int) * 2) ∣ n) ⟨rfl, _, rfl, fun j hj => absurd hj (Nat.not_lt_zero j)⟩ ?_ ?_
      · rintro i σ _ hi ⟨rfl, x, rfl, hx⟩
        refine ⟨_, rfl, _, rfl, _, _, rfl, rfl, (by show (0 : Int) < 3 + ((i : Nat) : Int) * 2; omega), rfl, _, rfl, ?_⟩
        by_cases c3 : (3 + (i : Int) * 2) ∣ n
        · refine if_pos_of (decide_eq_true (congrArg V.int (Int.emod_eq_zero_of_dvd c3))) ?_
          exact ⟨_, rfl, q _ (least_at c c3 hx)⟩
        · refine if_neg_of (decide_eq_false fun e => c3 (Int.dvd_of_emod_eq_zero (V.int.inj e))) ?_
          refine ⟨rfl, _, rfl, fun j hj => ?_⟩
          by_cases e : j = i
          · rw [e]
            exact c3
          · exact hx j (by omega)
      · rintro σ _ ⟨rfl, x, rfl, hx⟩
        refine ⟨_, rfl, q _ (least_of_odd h2 c r0 r2 fun i hi => hx i ?_)⟩
        split <;> omega
abbrev s_prime : Stmt := top 12
theorem sc_prime : FnScope ["n"] ["n"] (defScope s_prime) := ⟨rfl, rfl, rfl, by decide +kernel, rfl, by decide +kernel, by decide +kernel⟩
def spPrime : Sp := fun vs H Q _ => ∃ n : Int, vs = [.int n] ∧ n < 2 ^ 62 ∧ Q (.bl (prB n)) H
theorem ok_prime {f : Addr} {fd : FuncData} (F : Fun K "is_prime" "is_prime" s_prime f fd) (c_least : Cl P w K mg base CX0 1 "_least_divisor" spLeast) : FnOk P w K mg base CX0 2 f fd ["n"] spPrime := by
  refine F.ok sc_prime (fun vs H Q E h => ?_) (fun cdv A outer s H vs Q E hr h => ?_)
  · obtain ⟨n, rfl, _⟩ := h
    rfl
  · obtain ⟨n, rfl, hb, q⟩ := h
    refine ⟨_, (pss_one (ps_ret (pe_and (pe_cmpR op_gt (pv 0) pe_int (nomark _)) (pe_one (pe_cmpR op_eq (pe_cl c_least hr (pa_cons (pv 0) pa_nil)) (pv 0) (nomark _)))))), ?_⟩
    refine ⟨_, rfl, _, _, rfl, rfl, _, rfl, ?_⟩
    by_cases c : 1 < n
    · refine if_pos_of (decide_eq_true c) ?_
      refine ⟨_, rfl, n, rfl, by omega, hb, fun r hl => ⟨_, rfl, rfl, ?_⟩⟩
      have e : decide (V.int r = V.int n) = prB n := by
        by_cases p : Pr n
        · rw [prB_true p, (hl.self (by omega)).mpr p]
          exact decide_eq_true rfl
        · rw [prB_false p]
          exact decide_eq_false fun e => p ((hl.self (by omega)).mp (V.int.inj e))
      show Q (.bl (decide (V.int r = V.int n))) H
      rw [e]
      exact q
    · refine if_neg_of (decide_eq_false c) ?_
      have e : prB n = false := prB_false fun p => c (by have := p.1; omega)
      rw [e] at q
      exact q
-- part ibc
abbrev s_ibc : Stmt := inClass (top 5) 0
theorem sc_ibc : FnScope ["self", "p"] ["self", "p"] (defScope s_ibc) := ⟨rfl, rfl, rfl, by decide +kernel, rfl, by decide +kernel, by decide +kernel⟩
theorem ok_ibc {f C CF : Addr} {fd : FuncData} (TF : FErr K mg CF) (hC : OexC K C) (hno : PySem.W.findIn K (.ref C) "p" = some none) (F : Fun K "__init__" "BadCharacteristic.__init__" s_ibc f fd) : FnOk P w K mg base CX0 1 f fd ["self", "p"] (spInit C "p") := by
  refine F.ok sc_ibc (fun vs H Q E h => ?_) (fun cdv A outer s H vs Q E hr h => ?_)
  · obtain ⟨a, v, rfl, _⟩ := h
    rfl
  · obtain ⟨a, v, rfl, ha, q⟩ := h
    refine ⟨_, (pss_cons (ps_expr (pe_feinit TF (pa_cons (pv 0) (pa_cons pe_str pa_nil))))
 (pss_one (ps_ost (pv 0) (pv 1)))), ?_⟩
    refine ⟨_, rfl, a, C, _, rfl, (by show 1 ≤ 1000; decide), hC, ha, ?_⟩
    exact ⟨_, rfl, _, rfl, a, C, rfl, hC, hno, .inl ⟨ha, fun dx hn hne => q dx hn hne⟩⟩
-- part divs
abbrev s_ibn : Stmt := inClass (top 4) 0
theorem sc_ibn : FnScope ["self", "n"] ["self", "n"] (defScope s_ibn) := ⟨rfl, rfl, rfl, by decide +kernel, rfl, by decide +kernel, by decide +kernel⟩
theorem ok_ibn {f C CF : Addr} {fd : FuncData} (TF : FErr K mg CF) (hC : OexC K C) (hno : PySem.W.findIn K (.ref C) "n" = some none) (F : Fun K "__init__" "BadNumber.__init__" s_ibn f fd) : FnOk P w K mg base CX0 1 f fd ["self", "n"] (spInit C "n") := by
  refine F.ok sc_ibn (fun vs H Q E h => ?_) (fun cdv A outer s H vs Q E hr h => ?_)
  · obtain ⟨a, v, rfl, _⟩ := h
    rfl
  · obtain ⟨a, v, rfl, ha, q⟩ := h
    refine ⟨_, (pss_cons (ps_expr (pe_feinit TF (pa_cons (pv 0) (pa_cons pe_str pa_nil))))
 (pss_one (ps_ost (pv 0) (pv 1)))), ?_⟩
    refine ⟨_, rfl, a, C, _, rfl, (by show 1 ≤ 1000; decide), hC, ha, ?_⟩
    exact ⟨_, rfl, _, rfl, a, C, rfl, hC, hno, .inl ⟨ha, fun dx hn hne => q dx hn hne⟩⟩
abbrev s_divs : Stmt := top 13
theorem sc_divs : FnScope ["n", "found", "rest", "p"] ["n"] (defScope s_divs) := ⟨rfl, rfl, rfl, by decide +kernel, rfl, by decide +kernel, by decide +kernel⟩
def absI (n : Int) : Int := if n < 0 then -n else n
def spDivs (C : Addr) : Sp := fun vs H Q E => ∃ n : Int, vs = [.int n] ∧ absI n < 2 ^ 62 ∧ (n = 0 → ∀ d H', Same H H' → H' d = some (.xd [("n", .int n)]) → E (.ref C) (some d) H') ∧
  (n ≠ 0 → ∀ (l : List Int) (a : Addr) (H' : Hp), PD (absI n) l → l.length < 62 → (2 : Int) ^ l.length ≤ absI n → Same H H' → H a = none → H' a = some (.lst (l.map V.int)) → Q (.ref a) H')
theorem ok_divs {f C : Addr} {fd : FuncData} (T : Txt mg) (F : Fun K "prime_divisors" "prime_divisors" s_divs f fd) (c_least : Cl P w K mg base CX0 1 "_least_divisor" spLeast) (x_bn : Er P w K mg base "BadNumber" "n" C) : FnOk P w K mg base (L2N.CX P w) 3 f fd ["n"] (spDivs C) := by
  refine okN F sc_divs (fun vs H Q E h => ?_) (fun cdv A outer s H vs Q E hr h => ?_)
  · obtain ⟨n, rfl, _⟩ := h
    rfl
  · obtain ⟨n, rfl, hb, e0, q⟩ := h
    refine ⟨_, (pss_cons (ps_if (pt_cmpR op_eq (pv 0) pe_int (nomark _)) (pss_one (ps_raise1N x_bn hr (L2N.takes_of rfl rfl rfl rfl) (pa_cons (pv 0) pa_nil))) pss_nil)
 (pss_cons (ps_set (i := 1) sc_divs.nd rfl (Or.inl rfl) (pe_lst pa_nil))
 (pss_cons (ps_set (i := 2) sc_divs.nd rfl (Or.inl rfl) (pe_callB call_abs (by rfl) T.abs boot_abs (pa_cons (pv 0) pa_nil)))
 (pss_cons (ps_while (passes_of rfl) (pt_cmpR op_gt (pv 2) pe_int (nomark _)) (pss_cons (ps_set (i := 3) sc_divs.nd rfl (Or.inl rfl) (pe_cl c_least hr (pa_cons (pv 2) pa_nil)))
 (pss_cons (ps_expr (pe_bm PySem.F.plainAttrs_list PySem.F.slot_list_append PySem.F.type_list_append mt_append (pv 1) (pa_cons (pv 3) pa_nil)))
 (pss_one (ps_while (passes_of rfl) (pt_cmpR op_eq (pe_op op_mod (pv 2) (pv 3)) pe_int (nomark _)) (pss_one (ps_set (i := 2) sc_divs.nd rfl (Or.inl rfl) (pe_op op_fdivW (pv 2) (pv 3)))))))))
 (pss_one (ps_ret (pv 1))))))), ?_⟩
    refine ⟨_, rfl, rfl, _, rfl, ?_⟩
    by_cases c : n = 0
    · refine if_pos_of (by simp [c]) ?_
      refine ⟨_, rfl, ?_⟩
      exact mk1 fun d H2 s _ hd => e0 c d H2 s hd
    · refine if_neg_of (by simp [c]) ?_
      refine ⟨(by show 0 ≤ sizeLine; decide), fun a ha => ⟨_, rfl, _, rfl, ?_⟩⟩
      have hN : 1 ≤ absI n := by unfold absI; split <;> omega
      have q' := q c
      generalize hM : absI n = m at *
      have hM' : (if n < 0 then -n else n) = m := hM
      refine while_by (fun σ H' => ∃ (fs : List Int) (r d : Int) (x : Option V), σ = [some (.int n), some (.ref a), some (.int r), x] ∧ Fac m fs r d ∧ H' a = some (.lst (fs.map V.int)) ∧ Same H H') (fun σ _ => match σ[2]? with | some (some (V.int r)) => r.toNat | _ => 0)
        ⟨[], m, 2, none, by rw [← hM'] <;> rfl, fac0 hN, upd_same, same_upd ha⟩ ?_ ?_
      · rintro σ H1 ⟨fs, r, d, x, rfl, I, ha1, s1⟩
        have hrm : r ≤ m := Int.le_of_dvd (by omega) I.dv
        refine ⟨_, rfl, _, _, rfl, rfl, _, rfl, ?_⟩
        by_cases c1 : 1 < r
        · refine if_pos_of (decide_eq_true c1) ?_
          refine ⟨_, rfl, r, rfl, by omega, by omega, fun p hp => ?_⟩
          have pp := hp.pr
          have p2 := pp.1
          have pr := hp.le (by omega)
          refine ⟨_, rfl, .inl ⟨rfl, _, SqL.of ha1⟩, _, rfl, a, _, _, rfl, rfl, ha1, (by rw [List.length_map]; exact small1000 (by have := fac_len I hb; omega)), ?_⟩
          refine while_by (fun σ H' => H' = upd H1 a (.lst ((fs ++ [p]).map V.int)) ∧ ∃ r' : Int, σ = [some (.int n), some (.ref a), some (.int r'), some (.int p)] ∧ Tak r p r') (fun σ _ => match σ[2]? with | some (some (V.int r)) => r.toNat | _ => 0)
            ⟨by rw [List.map_append] <;> rfl, r, rfl, tak0 (by omega)⟩ ?_ ?_
          · rintro σ _ ⟨rfl, r', rfl, J⟩
            have jp := J.pos
            refine ⟨_, rfl, _, rfl, _, _, rfl, rfl, (by show 0 < p; omega), rfl, _, rfl, ?_⟩
            by_cases c2 : p ∣ r'
            · refine if_pos_of (decide_eq_true (congrArg V.int (Int.emod_eq_zero_of_dvd c2))) ?_
              have st := tak_step pp J c2
              refine ⟨_, rfl, _, rfl, _, _, rfl, rfl, ⟨by omega, PySem.Flt.log2_lt_of (by decide) (show p.natAbs < 2 ^ 9000 from Nat.lt_of_lt_of_le (show p.natAbs < 2 ^ 62 by omega) (Nat.pow_le_pow_right (by decide) (by decide)))⟩, ⟨rfl, r' / p, rfl, st.1⟩, ?_⟩
              have := st.1.pos
              show (r' / p).toNat < r'.toNat
              omega
            · refine if_neg_of (decide_eq_false fun e => c2 (Int.dvd_of_emod_eq_zero (V.int.inj e))) ?_
              have st := fac_step I pp hp.dvd J c2 fun q hq hd => by
                by_cases z : q < p
                · exact absurd hd (hp.min q hq.1 z)
                · omega
              refine ⟨⟨fs ++ [p], r', p + 1, _, rfl, st.1, upd_same, fun b o e => ?_⟩, ?_⟩
              · rw [upd_ne (ne_of_none e ha)]
                exact s1 b o e
              · show r'.toNat < r.toNat
                have := st.2
                omega
          · rintro σ H1 Q1 Q2 h ⟨v, e1, v2, e2, i, j, e3, e4, hc, e5, k, e6, qq⟩
            exact ⟨v, e1, v2, e2, i, j, e3, e4, hc, e5, k, e6, h _ _ qq⟩
        · refine if_neg_of (decide_eq_false c1) ?_
          have hr1 : r = 1 := by have := I.pos; omega
          subst hr1
          exact ⟨_, rfl, q' fs a H1 (fac_end I) (fac_len I hb) (by have := I.len; omega) s1 ha ha1⟩
      · rintro σ H1 Q1 Q2 h ⟨v, e1, i, j, e3, e4, k, e6, qq⟩
        exact ⟨v, e1, i, j, e3, e4, k, e6, h _ _ qq⟩
/-- within an except suite: of 1 and -1 -/
def spDivs1 : Sp := fun vs H Q _ => ∃ n : Int, vs = [.int n] ∧ (n = 1 ∨ n = -1) ∧ ∀ a H', Same H H' → H a = none → H' a = some (.lst []) → Q (.ref a) H'
theorem hot_divs {f : Addr} {fd : FuncData} (T : Txt mg) (F : Fun K "prime_divisors" "prime_divisors" s_divs f fd) : L2H.FnH P w K mg base CX0 1 f fd ["n"] spDivs1 := by
  obtain ⟨oc, od, kV, doc, pm, an, cdv, ct, osl, rfl, lk, hcd⟩ := F.ex
  refine L2H.fn_ofH lk hcd sc_divs (fun vs H Q E h => ?_) fun A outer s H vs Q E p hot hr h => ?_
  · obtain ⟨n, rfl, _⟩ := h
    rfl
  · obtain ⟨n, rfl, hn, q⟩ := h
    refine ⟨_, (pss_cons (ps_if (pt_cmpR op_eq (pv 0) pe_int (nomark _)) pss_never pss_nil)
      (pss_cons (ps_set (i := 1) sc_divs.nd rfl (Or.inl rfl) (pe_lst pa_nil))
      (pss_cons (ps_set (i := 2) sc_divs.nd rfl (Or.inl rfl) (pe_callB call_abs (by rfl) T.abs boot_abs (pa_cons (pv 0) pa_nil)))
      (pss_cons (ps_while (passes_of rfl) (pt_cmpR op_gt (pv 2) pe_int (nomark _)) pss_never) (pss_one (ps_ret (pv 1))))))), ?_⟩
    refine ⟨_, rfl, rfl, _, rfl, if_neg_of (decide_eq_false fun e => by have := V.int.inj e; omega) ?_⟩
    refine ⟨(by show 0 ≤ sizeLine; decide), fun a ha => ⟨_, rfl, _, rfl, ?_⟩⟩
    have h1 : (if n < 0 then -n else n) = 1 := by split <;> omega
    refine while_by (fun σ H' => σ = [some (.int n), some (.ref a), some (.int 1), none] ∧ H' = upd H a (.lst [])) (fun _ _ => 0) ⟨by rw [← h1] <;> rfl, rfl⟩ ?_ ?_
    · rintro σ _ ⟨rfl, rfl⟩
      refine ⟨_, rfl, _, _, rfl, rfl, _, rfl, if_neg_of rfl ?_⟩
      exact ⟨_, rfl, q a _ (same_upd ha) ha upd_same⟩
    · rintro σ H1 Q1 Q2 h ⟨v, e1, i, j, e3, e4, k, e6, qq⟩
      exact ⟨v, e1, i, j, e3, e4, k, e6, h _ _ qq⟩
-- part ownops
/-! operators of an own class -/
/-- a method of the class at C, by its promise -/
structure Me (P : Program) (w : World) (K : PySem.W.Frag) (mg : Str → Option Value) (base : Heap) (k : Nat) (C : Addr) (m : Str) (sp : Sp) : Prop where
  ex : ∃ (f : Addr) (fd : FuncData) (ps : List Str), Meth K C m f ∧ FnOk P w K mg base CX0 k f fd ps sp ∧ Binds K fd ps []
section
variable {X : Cx} {C : Addr} {m : Str} {sp : Sp} {k j : Nat}
theorem inst_of {pins : List (Addr × Obj)} {σ : L2.St} {H : Hp} {s : Shared} {a dx : Addr} {fs : List (Str × V)} (I : Inv X pins σ H s) (e : H a = some (.ins C dx fs)) : ∃ ox od, PySem.W.InstAt s.heap a ox C od := by
  obtain ⟨mA, O, _⟩ := ins_get I.hok e
  obtain ⟨od, J, _⟩ := O.look
  exact ⟨_, _, J⟩
/-- x op y of two instances -/
def rOwn2 (C : Addr) (sp : Sp) : R2 := fun x y H Q => ∃ a b dx dy fs gs, x = .ref a ∧ y = .ref b ∧ H a = some (.ins C dx fs) ∧ H b = some (.ins C dy gs) ∧ sp [x, y] H Q E0
theorem op_own2 {op : Operator} (c : Me X.prog X.w X.K X.mg X.base k C m sp) (hr : Room j X.A) (sf : PySem.W.selfFirst X.K C = true) (hm : PySem.dunder op.info.2 = m := by decide +kernel) (hk : k ≤ j := by decide) : OpR X (binaryOp op) (rOwn2 C sp) := by
  obtain ⟨f, fd, ps, M, F, b⟩ := c.ex
  intro pins s σ H x y v u Q I rx ry h
  obtain ⟨a, b', dx, dy, fs, gs, rfl, rfl, ha, hb, q⟩ := h
  cases (show v = Value.ref a from rx)
  cases (show u = Value.ref b' from ry)
  obtain ⟨ox, od, J⟩ := inst_of I ha
  obtain ⟨oy, od', J'⟩ := inst_of I hb
  obtain ⟨mm, hF⟩ := I.fr
  refine PySem.W.binop_K hF I.ok.mod.kin J J'.type sf (by rw [hm]; exact M.at_) M.fn ?_
  refine wpAny_mono (run_fn (us := [.ref a, .ref b']) (vs := [.ref a, .ref b']) F (hr.mono hk) b .nil pass0 I (.cons rfl (.cons rfl .nil)) q) (fun u' s' z => ?_) fun _ _ x => x
  obtain ⟨z', H', I', rz, qz⟩ := z
  exact SlX.cmpback rz ⟨z', H', I', rz, qz⟩
/-- op x of an instance -/
def rOwn1 (C : Addr) (sp : Sp) : V → Hp → VK → Prop := fun x H Q => ∃ a dx fs, x = .ref a ∧ H a = some (.ins C dx fs) ∧ sp [x] H Q E0
theorem un_inv1 (c : Me X.prog X.w X.K X.mg X.base k C "__invert__" sp) (hr : Room j X.A) (hk : k ≤ j := by decide) : UnR X (unaryOp .Invert) (rOwn1 C sp) := by
  obtain ⟨f, fd, ps, M, F, b⟩ := c.ex
  intro pins s σ H x v Q I rx h
  obtain ⟨a, dx, fs, rfl, ha, q⟩ := h
  cases (show v = Value.ref a from rx)
  obtain ⟨ox, od, J⟩ := inst_of I ha
  obtain ⟨mm, hF⟩ := I.fr
  exact PySem.W.ksp_inv hF I.ok.mod.kin J M.at_ M.fn (run_fn (us := [.ref a]) (vs := [.ref a]) F (hr.mono hk) b .nil pass0 I (.cons rfl .nil) q)
theorem un_neg1 (c : Me X.prog X.w X.K X.mg X.base k C "__neg__" sp) (hr : Room j X.A) (hk : k ≤ j := by decide) : UnR X (unaryOp .USub) (rOwn1 C sp) := by
  obtain ⟨f, fd, ps, M, F, b⟩ := c.ex
  intro pins s σ H x v Q I rx h
  obtain ⟨a, dx, fs, rfl, ha, q⟩ := h
  cases (show v = Value.ref a from rx)
  obtain ⟨ox, od, J⟩ := inst_of I ha
  obtain ⟨mm, hF⟩ := I.fr
  exact PySem.W.ksp_neg hF I.ok.mod.kin J M.at_ M.fn (run_fn (us := [.ref a]) (vs := [.ref a]) F (hr.mono hk) b .nil pass0 I (.cons rfl .nil) q)
/-- x in y, y an instance: the answer a bool -/
def rOwnIn (neg : Bool) (C : Addr) (sp : Sp) : R2 := fun x y H Q => ∃ b dx fs, y = .ref b ∧ H b = some (.ins C dx fs) ∧ sp [y, x] H (fun v H' => ∃ c : Bool, v = .bl c ∧ Q (.bl (if neg then !c else c)) H') E0
theorem op_in_own (c : Me X.prog X.w X.K X.mg X.base k C "__contains__" sp) (hr : Room j X.A) (hk : k ≤ j := by decide) : OpR X (compareOp .In) (rOwnIn false C sp) := by
  obtain ⟨f, fd, ps, M, F, b⟩ := c.ex
  intro pins s σ H x y v u Q I rx ry h
  obtain ⟨a, dx, fs, rfl, ha, q⟩ := h
  cases (show u = Value.ref a from ry)
  obtain ⟨ox, od, J⟩ := inst_of I ha
  obtain ⟨mm, hF⟩ := I.fr
  refine PySem.W.in_K hF I.ok.mod.kin J M.at_ M.fn (wpAny_mono (run_fn (us := [.ref a, v]) (vs := [.ref a, x]) F (hr.mono hk) b .nil pass0 I (.cons rfl (.cons rx .nil)) q) (fun u' s' z => ?_) fun _ _ x => x)
  obtain ⟨z', H', I', rz, d, ez, qz⟩ := z
  subst ez
  cases (show u' = Value.bool d from rz)
  exact wpAny_truthy_bool ⟨.bl d, H', I', rfl, qz⟩
theorem op_notIn_own (c : Me X.prog X.w X.K X.mg X.base k C "__contains__" sp) (hr : Room j X.A) (hk : k ≤ j := by decide) : OpR X (compareOp .NotIn) (rOwnIn true C sp) := by
  obtain ⟨f, fd, ps, M, F, b⟩ := c.ex
  intro pins s σ H x y v u Q I rx ry h
  obtain ⟨a, dx, fs, rfl, ha, q⟩ := h
  cases (show u = Value.ref a from ry)
  obtain ⟨ox, od, J⟩ := inst_of I ha
  obtain ⟨mm, hF⟩ := I.fr
  refine PySem.W.notIn_K hF I.ok.mod.kin J M.at_ M.fn (wpAny_mono (run_fn (us := [.ref a, v]) (vs := [.ref a, x]) F (hr.mono hk) b .nil pass0 I (.cons rfl (.cons rx .nil)) q) (fun u' s' z => ?_) fun _ _ x => x)
  obtain ⟨z', H', I', rz, d, ez, qz⟩ := z
  subst ez
  cases (show u' = Value.bool d from rz)
  exact wpAny_truthy_bool ⟨.bl (!d), H', I', rfl, qz⟩
/-- x == y of two instances -/
theorem op_eq_own (c : Me X.prog X.w X.K X.mg X.base k C "__eq__" sp) (hr : Room j X.A) (hk : k ≤ j := by decide) : OpR X (compareOp .Eq) (rOwn2 C sp) := by
  obtain ⟨f, fd, ps, M, F, b⟩ := c.ex
  intro pins s σ H x y v u Q I rx ry h
  obtain ⟨a, b', dx, dy, fs, gs, rfl, rfl, ha, hb, q⟩ := h
  cases (show v = Value.ref a from rx)
  cases (show u = Value.ref b' from ry)
  obtain ⟨ox, od, J⟩ := inst_of I ha
  obtain ⟨oy, od', J'⟩ := inst_of I hb
  obtain ⟨mm, hF⟩ := I.fr
  show wpAny _ _ (richCompare .Eq (.ref a) (.ref b')) _ _ _
  refine PySem.W.cmp_K (op := .Eq) (tb := .ref C) hr.units0 hF I.ok.mod.kin J J'.type (by unfold PySem.W.notFirst; simp) M.at_ M.fn ?_
  refine wpAny_mono (run_fn (us := [.ref a, .ref b']) (vs := [.ref a, .ref b']) F (hr.mono hk) b .nil pass0 I (.cons rfl (.cons rfl .nil)) q) (fun u' s' z => ?_) fun _ _ x => x
  obtain ⟨z', H', I', rz, qz⟩ := z
  exact SlX.cmpback rz ⟨z', H', I', rz, qz⟩
/-- the truth of an instance, by its __bool__ -/
def rTruOwn (C : Addr) (sp : Sp) : V → Hp → (Bool → Hp → Prop) → Prop := fun x H Q => ∃ a dx fs, x = .ref a ∧ H a = some (.ins C dx fs) ∧ sp [x] H (fun v H' => ∃ c : Bool, v = .bl c ∧ Q c H') E0
theorem tru_own (c : Me X.prog X.w X.K X.mg X.base k C "__bool__" sp) (hr : Room j X.A) (hk : k ≤ j := by decide) : TruR X (rTruOwn C sp) := by
  obtain ⟨f, fd, ps, M, F, b⟩ := c.ex
  intro pins s σ H x v Q I rx h
  obtain ⟨a, dx, fs, rfl, ha, q⟩ := h
  cases (show v = Value.ref a from rx)
  obtain ⟨ox, od, J⟩ := inst_of I ha
  obtain ⟨mm, hF⟩ := I.fr
  refine PySem.W.truthy_K hF I.ok.mod.kin J M.at_ M.fn (wpAny_mono (run_fn (us := [.ref a]) (vs := [.ref a]) F (hr.mono hk) b .nil pass0 I (.cons rfl .nil) q) (fun u' s' z => ?_) fun _ _ x => x)
  obtain ⟨z', H', I', rz, d, ez, qz⟩ := z
  subst ez
  cases (show u' = Value.bool d from rz)
  exact ⟨H', I', qz⟩
end
/-- a class that makes instances, its __init__ by its promise (it may raise, and here doesn't) -/
structure Ma (P : Program) (w : World) (K : PySem.W.Frag) (mg : Str → Option Value) (base : Heap) (k : Nat) (C : Addr) (sp : Sp) : Prop where
  ex : ∃ (f : Addr) (fd : FuncData) (ps : List Str), Mk K C f ∧ FnOk P w K mg base (L2N.CX P w) k f fd ps sp ∧ Binds K fd ps []
section
variable {X : Cx} {C : Addr} {x : Str} {sp : Sp} {k j i : Nat} {p pos : Pos} {e : Expr} {es : List Expr} {t : TA}
theorem pe_ma (c : Ma X.prog X.w X.K X.mg X.base k C sp) (hr : Room j X.A) (hm : X.mg x = some (.ref C)) (ha : PA X (e :: es) t) (hk : k + 1 ≤ j := by decide) (hg : Gl X x := by rfl)
    (hdb : (x == ("__debug__" : Str)) = false := by decide) (he : starEach (e :: es) X.env = (false, eval e X.env) :: starEach es X.env := by rfl) (hpl : (backTo pos (starEach es X.env)).any (·.1) = false := by rfl) :
    PE X (.Call (.Name x p) (e :: es) [] pos) (tMake C sp [] E0 t) := by
  obtain ⟨f, fd, ps, M, F, b⟩ := c.ex
  exact pe_make M F (hr.mono hk) hg hm b .nil passN ha hdb he hpl
/-- cls(..), cls a parameter that holds the class -/
def tMakeL (i : Nat) (C : Addr) (sp : Sp) (t : TA) : TE := fun σ H Q => σ[i]? = some (some (.ref C)) ∧ tMake C sp [] E0 t σ H Q
theorem pe_maL (c : Ma X.prog X.w X.K X.mg X.base k C sp) (hr : Room j X.A) (hN : X.N[i]? = some x) (ha : PA X (e :: es) t) (hk : k + 1 ≤ j := by decide)
    (hv : Vis X.env.scope x := by first | exact Or.inl rfl | exact Or.inr (Or.inl rfl) | exact Or.inr (Or.inr rfl))
    (hdb : (x == ("__debug__" : Str)) = false := by decide) (hcd : (x == ("__classdict__" : Str)) = false := by decide)
    (he : starEach (e :: es) X.env = (false, eval e X.env) :: starEach es X.env := by rfl) (hpl : (backTo pos (starEach es X.env)).any (·.1) = false := by rfl) :
    PE X (.Call (.Name x p) (e :: es) [] pos) (tMakeL i C sp t) := by
  obtain ⟨f, fd, ps, M, F, b⟩ := c.ex
  refine ⟨fun pins s σ H Q I h => ?_⟩
  obtain ⟨at_i, rest⟩ := h
  refine wpAny_Call_Name_kw (thn ((pe_var (pos := p) hN hv hdb hcd).run pins s σ H (fun v G => v = .ref C ∧ G = H) I ⟨.ref C, at_i, rfl, rfl⟩) fun u s1 ⟨v, G, I1, r1, e1, e2⟩ => ?_)
  subst e1
  subst e2
  cases r1
  refine PySem.W.callWith_K (h₀ := X.base) I.ok.mod.kin M.kp (thn (ha.run pos pins s1 σ _ _ I1 rest) fun us s2 ⟨vs, G2, I2, r, q⟩ => ⟨I2.kIn, ?_⟩) he hpl
  exact run_make M F (hr.mono hk) b .nil passN I2 r q
end
-- part ownops2
/-! bool(x) and x == y, where y is no instance; classmethods by FnR; C(..) in a try -/
section
variable {X : Cx} {C : Addr} {m : Str} {sp : Sp} {k j : Nat}
/-- bool(x) of an instance -/
def rBoolOwn (C : Addr) (sp : Sp) : List V → Hp → VK → Prop := fun xs H Q => ∃ a dx fs, xs = [.ref a] ∧ H a = some (.ins C dx fs) ∧ sp [.ref a] H (fun v H' => ∃ c : Bool, v = .bl c ∧ Q (.bl c) H') E0
theorem new_bool_any {prog : Program} {w : World} (x : Value) : MeetsIn prog w (Builtin.«bool.__new__» ⟨[.type "bool", x], []⟩)
    (fun A R s => wpAny (model prog w) A.in1 (truthy x) (fun b s1 => R (.ok (.ret (.bool b))) s1) (fun e s1 => R (.error e) s1) s) :=
  .of_wp fun A R s h => by
    have no_bool := F.conv_sub_bool
    unfold Builtin.«bool.__new__»
    generalize same : truthy = TX
    wp_walk
    subst same
    refine wpAny_mono h (fun b s1 hR => ?_) fun _ _ z => z
    exact wpAny_pure ⟨_, rfl, hR⟩
theorem cr_boolOwn (c : Me X.prog X.w X.K X.mg X.base k C "__bool__" sp) (hr : Room j X.A) (hk : k + 2 ≤ j := by decide) : CallR X (.type "bool") (rBoolOwn C sp) := by
  obtain ⟨f, fd, ps, M, F, b⟩ := c.ex
  intro pins s σ H xs us Q I r h
  obtain ⟨a, dx, fs, rfl, ha, q⟩ := h
  obtain rfl := Vals.ref1 r
  obtain ⟨ox, od, J⟩ := inst_of I ha
  obtain ⟨mm, hF⟩ := I.fr
  have many : ([Value.ref a] : List Value).length = ps.length := F.len [.ref a] _ _ _ q
  have bound := b s [.ref a] I.kIn (by rw [List.append_nil]; exact many)
  rw [List.append_nil] at bound
  refine callType_newIn PySem.F.called_bool PySem.F.newNe_bool (PySem.F.typeCall_bool_1 _) (PySem.F.newCall_bool_1 _) (fun obj => PySem.F.args_object_init_2 obj _) PySem.F.entry_bool_new (new_bool_any _) ?_
  refine PySem.W.truthy_K hF I.ok.mod.kin J M.at_ M.fn (wpAny_call (codeAny_mono (F.run _ X.stack s H ⟨[.ref a], []⟩ [.ref a] [.ref a] _ E0 ((hr.mono hk).in1.in1) (I.env0.in1.in1) bound (.cons rfl .nil) q) fun r s' hq => ?_))
  cases r with
  | error e => exact False.elim hq
  | ok fl =>
    cases fl with
    | ret u =>
      obtain ⟨z', H', I', rz, d, ez, qz⟩ := I.after hq
      subst ez
      cases (show u = Value.bool d from rz)
      exact ⟨rfl, .bl d, H', I', rfl, qz⟩
    | next => exact False.elim hq
    | brk => exact False.elim hq
    | cont => exact False.elim hq
/-- x == y, y a tuple -/
def rOwnT (C : Addr) (sp : Sp) : R2 := fun x y H Q => ∃ a b dx fs zs, x = .ref a ∧ y = .ref b ∧ H a = some (.ins C dx fs) ∧ H b = some (.tup zs) ∧ sp [x, y] H Q E0
theorem op_eq_ownT (c : Me X.prog X.w X.K X.mg X.base k C "__eq__" sp) (hr : Room j X.A) (nf : PySem.W.subIn X.K (.type "tuple") (.ref C) = some false) (hk : k ≤ j := by decide) : OpR X (compareOp .Eq) (rOwnT C sp) := by
  obtain ⟨f, fd, ps, M, F, b⟩ := c.ex
  intro pins s σ H x y v u Q I rx ry h
  obtain ⟨a, b', dx, fs, zs, rfl, rfl, ha, hb, q⟩ := h
  cases (show v = Value.ref a from rx)
  cases (show u = Value.ref b' from ry)
  obtain ⟨ox, od, J⟩ := inst_of I ha
  obtain ⟨_, _, _, o, h1, h2, _⟩ := (show ObjOk X.prog X.w H s.heap b' (.tup zs) from I.hok b' _ hb)
  obtain ⟨mm, hF⟩ := I.fr
  show wpAny _ _ (richCompare .Eq (.ref a) (.ref b')) _ _ _
  refine PySem.W.cmp_K (op := .Eq) (tb := .type "tuple") hr.units0 hF I.ok.mod.kin J (fun A Q E s k q => wpAny_typeOf_ref (k _ _ h1) (by rw [h2]; exact q)) (by unfold PySem.W.notFirst; rw [nf]; simp) M.at_ M.fn ?_
  refine wpAny_mono (run_fn (us := [.ref a, .ref b']) (vs := [.ref a, .ref b']) F (hr.mono hk) b .nil pass0 I (.cons rfl (.cons rfl .nil)) q) (fun u' s' z => ?_) fun _ _ x => x
  obtain ⟨z', H', I', rz, qz⟩ := z
  exact SlX.cmpback rz ⟨z', H', I', rz, qz⟩
end
/-- a classmethod by what its call does -/
structure CmR (P : Program) (w : World) (K : PySem.W.Frag) (mg : Str → Option Value) (base : Heap) (k : Nat) (C : Addr) (m : Str) (sp : Sp) : Prop where
  ex : ∃ (mc : Value) (p g : Addr), ClX.CRead K C mc ∧ ClX.CMet K C mc m p g ∧ FnR P w K mg base CX0 k g sp
theorem pe_cmR {X : Cx} {C : Addr} {m : Str} {sp : Sp} {k j : Nat} {o e : Expr} {es : List Expr} {ta : TE} {t : TA} {apos pos : Pos} {pl : Sem Bool} (c : CmR X.prog X.w X.K X.mg X.base k C m sp) (hr : Room j X.A) (he : PE X o ta) (ha : PA X (e :: es) t) (hk : k ≤ j := by decide)
    (hst : starEach (e :: es) X.env = (false, eval e X.env) :: starEach es X.env := by rfl) (hpl : (backTo pos (starEach es X.env)).any (·.1) = false := by rfl)
    (ht : eval (.Call (.Attribute o m apos) (e :: es) [] pos) X.env = (do
      let got ← eval o X.env
      standAt apos.atName
      let (fn, fst) ← holding [got] (getMethod got m pl)
      callWith pos fn fst (backTo pos (starEach (e :: es) X.env)) (backToKw pos (keywordEach [] X.env))) := by rfl) :
    PE X (.Call (.Attribute o m apos) (e :: es) [] pos) (ClX.tCMeth C sp E0 ta t) := by
  obtain ⟨mc, p, g, r, c, F⟩ := c.ex
  exact ClX.pe_cmeth he r c F (hr.mono hk) pass0 ha hst hpl ht
theorem pe_cmR0 {X : Cx} {C : Addr} {m : Str} {sp : Sp} {k j : Nat} {o : Expr} {ta : TE} {apos pos : Pos} {pl : Sem Bool} (c : CmR X.prog X.w X.K X.mg X.base k C m sp) (hr : Room j X.A) (he : PE X o ta) (hk : k ≤ j := by decide)
    (ht : eval (.Call (.Attribute o m apos) [] [] pos) X.env = (do
      let got ← eval o X.env
      standAt apos.atName
      let (fn, fst) ← holding [got] (getMethod got m pl)
      callWith pos fn fst (backTo pos (starEach [] X.env)) (backToKw pos (keywordEach [] X.env))) := by rfl) :
    PE X (.Call (.Attribute o m apos) [] [] pos) (ClX.tCMeth C sp E0 ta tNil) := by
  obtain ⟨mc, p, g, r, c, F⟩ := c.ex
  refine ⟨fun pins s σ H Q I h => ?_⟩
  refine PySem.W.methodCall_KW (pl := pl) (thn (he.run pins s σ H _ I h) fun u s1 ⟨x, H1, I1, rx, ex, q⟩ => ?_) ht
  subst ex
  obtain rfl : u = Value.ref C := rx
  refine ClX.getmethcm_ok I1 r c fun s2 I2 => ?_
  have hq := ClX.pin_at I2
  show wpAny _ _ (callWith pos (Value.ref s1.heap.objs.size) [] (backTo pos (starEach [] X.env)) []) _ _ _
  refine PySem.W.callWith_M0 (K := X.K) (g := g) (self := .ref C) ?_ c.fi ?_
  · exact ⟨hq, I2.kIn⟩
  · exact ClX.run_cm (us := []) (vs := []) F (hr.mono hk) pass0 I2 .nil q
/-- C(..) whose __init__ may raise, in a try that takes it -/
def tMakeS (C : Addr) (sp : Sp) (E : L2.St → XK) (t : TA) : TE := fun σ H Q => tMake C sp [] (E σ) t σ H Q
theorem pe_maX {X : Cx} {W : WX} {C : Addr} {x : Str} {sp : Sp} {k j : Nat} {p pos : Pos} {e : Expr} {es : List Expr} {t : TA} (c : Ma X.prog X.w X.K X.mg X.base k C sp) (hr : Room j X.A) (tk : L2N.Takes X W) (hm : X.mg x = some (.ref C)) (ha : PA X (e :: es) t) (hk : k + 1 ≤ j := by decide) (hg : Gl X x := by rfl)
    (hdb : (x == ("__debug__" : Str)) = false := by decide) (he : starEach (e :: es) X.env = (false, eval e X.env) :: starEach es X.env := by rfl) (hpl : (backTo pos (starEach es X.env)).any (·.1) = false := by rfl) :
    PE X (.Call (.Name x p) (e :: es) [] pos) (tMakeS C sp (WE W) t) := by
  obtain ⟨f, fd, ps, M, F, b⟩ := c.ex
  refine ⟨fun pins s σ H Q I h => ?_⟩
  refine wpAny_Call_Name_kw (ld_glob I hg hm ?_ hdb)
  refine PySem.W.callWith_K (h₀ := X.base) I.ok.mod.kin M.kp (thn (ha.run pos pins s σ H _ I h) fun us s1 ⟨vs, H1, I1, r, q⟩ => ⟨I1.kIn, ?_⟩) he hpl
  generalize ez : s1.heap.objs.size = z
  have le0 : s1.heap.objs.size ≤ z := by rw [ez]; exact Nat.le_refl z
  have asks := q (z + 1) z (I1.hok.fresh (Nat.le_succ_of_le le0)) (I1.hok.fresh le0) (Nat.ne_of_lt (Nat.lt_succ_self z))
  have laid := Inv.made (C := C) I1
  rw [ez] at laid
  have rel : Vals (V.ref (z + 1) :: vs) (Value.ref (z + 1) :: us) := .cons rfl r
  rw [List.append_nil] at asks
  have many : (Value.ref (z + 1) :: us).length = ps.length := by
    rw [← rel.length]
    exact F.len _ _ _ _ asks
  have bound := b _ (Value.ref (z + 1) :: us) laid.kIn (by rw [List.append_nil]; exact many)
  rw [List.append_nil] at bound
  have runs := F.run _ X.stack _ _ ⟨Value.ref (z + 1) :: us, []⟩ (Value.ref (z + 1) :: us) _ _ (WE W σ) ((hr.mono hk).make C us []) (laid.env0.make C us []) bound rel asks
  subst ez
  refine wpAny_call (make_map (f := f) I1.kIn M.makes M.init (beq_iff_eq.mp M.fn) (codeAny_mono runs fun r' s' back => ?_))
  cases r' with
  | error er => exact L2N.passAt tk σ pins _ _ er s' laid back
  | ok fl =>
    cases fl with
    | ret u =>
      obtain ⟨v, H', I3, rv, ev, q3⟩ := laid.after back
      subst ev
      cases (show u = Value.none from rv)
      exact ⟨rfl, .ref _, H', I3, rfl, q3⟩
    | next => exact False.elim back
    | brk => exact False.elim back
    | cont => exact False.elim back
theorem kit_ownF {C : Addr} {U : String} (h2 : PySem.W.isClsIn K C = true) (h3 : PySem.W.typeIn K (.ref C) = some (.type "type")) (h : PySem.W.subIn K (.type U) (.ref C) = some false) : PySem.W.kitOne K (.type U) (.ref C) = some false := by
  have h2' : (PySem.W.clsIn K C).isSome = true := h2
  have e2 : ((PySem.W.clsIn K C).isSome && PySem.W.typeIn K (.ref C) == some (.type "type")) = true := by rw [h2', h3] <;> rfl
  unfold PySem.W.kitOne
  rw [if_neg (by simp)]
  show (if ((PySem.W.clsIn K C).isSome && PySem.W.typeIn K (.ref C) == some (.type "type")) = true then PySem.W.subIn K (.type U) (.ref C) else none) = some false
  rw [if_pos e2]
  exact h
-- part clsm
/-- a call of a classmethod without arguments -/
structure Cm (P : Program) (w : World) (K : PySem.W.Frag) (mg : Str → Option Value) (base : Heap) (k : Nat) (C : Addr) (m : Str) (sp : Sp) : Prop where
  ex : ∃ (mc : Value) (p g : Addr) (fd : FuncData) (ps : List Str), ClX.CRead K C mc ∧ ClX.CMet K C mc m p g ∧ FnOk P w K mg base CX0 k g fd ps sp ∧ Binds K fd ps []
theorem fnR_of {P : Program} {w : World} {K : PySem.W.Frag} {mg : Str → Option Value} {base : Heap} {CX : CXT} {k : Nat} {f : Addr} {fd : FuncData} {ps : List Str} {sp : Sp} (F : FnOk P w K mg base CX k f fd ps sp) (b : Binds K fd ps []) : FnR P w K mg base CX k f sp :=
  fun A outer s H us vs Q E hr e0 r h => by
    have hl : us.length = ps.length := by
      rw [← r.length]
      exact F.len _ _ _ _ h
    have z := b s us (e0.mod.kin.keeps fun b o e => (e0.bs b o e).1) (by rw [List.append_nil]; exact hl)
    rw [List.append_nil] at z
    exact F.run A outer s H ⟨us, []⟩ us vs Q E hr e0 z r h
theorem pe_cm {X : Cx} {C : Addr} {m : Str} {sp : Sp} {k j : Nat} {o e : Expr} {es : List Expr} {ta : TE} {t : TA} {apos pos : Pos} {pl : Sem Bool} (c : Cm X.prog X.w X.K X.mg X.base k C m sp) (hr : Room j X.A) (he : PE X o ta) (ha : PA X (e :: es) t) (hk : k ≤ j := by decide)
    (hst : starEach (e :: es) X.env = (false, eval e X.env) :: starEach es X.env := by rfl) (hpl : (backTo pos (starEach es X.env)).any (·.1) = false := by rfl)
    (ht : eval (.Call (.Attribute o m apos) (e :: es) [] pos) X.env = (do
      let got ← eval o X.env
      standAt apos.atName
      let (fn, fst) ← holding [got] (getMethod got m pl)
      callWith pos fn fst (backTo pos (starEach (e :: es) X.env)) (backToKw pos (keywordEach [] X.env))) := by rfl) :
    PE X (.Call (.Attribute o m apos) (e :: es) [] pos) (ClX.tCMeth C sp E0 ta t) := by
  obtain ⟨mc, p, g, fd, ps, r, c, F, b⟩ := c.ex
  exact ClX.pe_cmeth he r c (fnR_of F b) (hr.mono hk) pass0 ha hst hpl ht
theorem pe_cm0 {X : Cx} {C : Addr} {m : Str} {sp : Sp} {k j : Nat} {o : Expr} {ta : TE} {apos pos : Pos} {pl : Sem Bool} (c : Cm X.prog X.w X.K X.mg X.base k C m sp) (hr : Room j X.A) (he : PE X o ta) (hk : k ≤ j := by decide)
    (ht : eval (.Call (.Attribute o m apos) [] [] pos) X.env = (do
      let got ← eval o X.env
      standAt apos.atName
      let (fn, fst) ← holding [got] (getMethod got m pl)
      callWith pos fn fst (backTo pos (starEach [] X.env)) (backToKw pos (keywordEach [] X.env))) := by rfl) :
    PE X (.Call (.Attribute o m apos) [] [] pos) (ClX.tCMeth C sp E0 ta tNil) := by
  obtain ⟨mc, p, g, fd, ps, r, c, F, b⟩ := c.ex
  refine ⟨fun pins s σ H Q I h => ?_⟩
  refine PySem.W.methodCall_KW (pl := pl) (thn (he.run pins s σ H _ I h) fun u s1 ⟨x, H1, I1, rx, ex, q⟩ => ?_) ht
  subst ex
  obtain rfl : u = Value.ref C := rx
  have notin : X.base.get? s1.heap.objs.size = none := by
    cases z : X.base.get? s1.heap.objs.size with
    | none => rfl
    | some o => exact absurd (Heap.lt_size (I1.bk _ o z)) (Nat.lt_irrefl _)
  refine ClX.getmethcm_ok I1 r c fun s2 I2 => ?_
  have hq := ClX.pin_at I2
  have hL : s1.heap.objs.size ≠ X.env.locals := (I2.pin (s1.heap.objs.size, PySem.W.methodObj (.ref g) (.ref C)) (List.mem_append_right _ List.mem_cons_self)).2.2.1
  show wpAny _ _ (callWith pos (Value.ref s1.heap.objs.size) [] (backTo pos (starEach [] X.env)) []) _ _ _
  refine PySem.W.callWith_M0 (K := X.K) (g := g) (self := .ref C) ?_ c.fi ?_
  · exact ⟨hq, I2.kIn⟩
  · have z := ClX.run_cm (us := []) (vs := []) (fnR_of F b) (hr.mono hk) pass0 I2 .nil q
    exact z
-- part meths
/-! o.m(..) of an own class, by its promise -/
section
variable {X : Cx} {C : Addr} {m : Str} {sp : Sp} {k j : Nat} {o e : Expr} {es : List Expr} {ta : TE} {t : TA} {apos pos : Pos} {pl : Sem Bool}
theorem pe_me0 (c : Me X.prog X.w X.K X.mg X.base k C m sp) (cl : Cls X.K C) (hr : Room j X.A) (he : PE X o ta) (hk : k ≤ j := by decide)
    (ht : eval (.Call (.Attribute o m apos) [] [] pos) X.env = (do
      let ov ← eval o X.env
      standAt apos.atName
      let (f, first) ← holding [ov] (getMethod ov m pl)
      callWith pos f first (backTo pos (starEach [] X.env)) (backToKw pos (keywordEach [] X.env))) := by rfl) :
    PE X (.Call (.Attribute o m apos) [] [] pos) (tMeth C m sp [] E0 ta tNil) := by
  obtain ⟨f, fd, ps, M, F, b⟩ := c.ex
  exact pe_meth0 he cl M F (hr.mono hk) b .nil pass0 ht
theorem pe_me (c : Me X.prog X.w X.K X.mg X.base k C m sp) (cl : Cls X.K C) (hr : Room j X.A) (he : PE X o ta) (ha : PA X (e :: es) t) (hk : k ≤ j := by decide)
    (hst : starEach (e :: es) X.env = (false, eval e X.env) :: starEach es X.env := by rfl) (hpl : (backTo pos (starEach es X.env)).any (·.1) = false := by rfl)
    (ht : eval (.Call (.Attribute o m apos) (e :: es) [] pos) X.env = (do
      let ov ← eval o X.env
      standAt apos.atName
      let (f, first) ← holding [ov] (getMethod ov m pl)
      callWith pos f first (backTo pos (starEach (e :: es) X.env)) (backToKw pos (keywordEach [] X.env))) := by rfl) :
    PE X (.Call (.Attribute o m apos) (e :: es) [] pos) (tMeth C m sp [] E0 ta t) := by
  obtain ⟨f, fd, ps, M, F, b⟩ := c.ex
  exact pe_meth he cl M F (hr.mono hk) b .nil pass0 ha hst hpl ht
end
/-- a class whose instances are called, by the promise of its __call__ -/
structure Co (P : Program) (w : World) (K : PySem.W.Frag) (mg : Str → Option Value) (base : Heap) (k : Nat) (C : Addr) (sp : Sp) : Prop where
  ex : ∃ g, StX.CallO K C g ∧ FnR P w K mg base CX0 k g sp
def tCallI (C : Addr) (sp : Sp) (tf : TE) (t : TA) : TE := fun σ H Q => tf σ H fun y H1 => ∃ a, y = V.ref a ∧ t σ H1 fun vs H2 => ((∃ dx vs, SlX.Slt H2 a C dx vs) ∨ ∃ dx fs, H2 a = some (.ins C dx fs)) ∧ sp (V.ref a :: vs) H2 Q E0
theorem pe_inst {X : Cx} {C : Addr} {sp : Sp} {k j : Nat} {fe e : Expr} {es : List Expr} {tf : TE} {t : TA} {pos : Pos} (c : Co X.prog X.w X.K X.mg X.base k C sp) (hr : Room j X.A) (hf : PE X fe tf) (ha : PA X (e :: es) t) (hk : k ≤ j := by decide)
    (ht : eval (.Call fe (e :: es) [] pos) X.env = (do callWith pos (← eval fe X.env) [] (backTo pos (starEach (e :: es) X.env)) (backToKw pos (keywordEach [] X.env))) := by rfl)
    (he : starEach (e :: es) X.env = (false, eval e X.env) :: starEach es X.env := by rfl) (hpl : (backTo pos (starEach es X.env)).any (·.1) = false := by rfl) :
    PE X (.Call fe (e :: es) [] pos) (tCallI C sp tf t) := by
  obtain ⟨g, c, F⟩ := c.ex
  exact StX.pe_callO hf c F (hr.mono hk) pass0 ha ht he hpl
-- part chars1
open PySem.Sem (wp) in
theorem meets_bool_tup (l : Addr) (items : Array Value) (fit : (items.size : Int) < 2 ^ 63) :
    Meets (Builtin.«bool.__new__» ⟨[.type "bool", .ref l], []⟩) (fun _ R s => IsTup s.heap l items ∧ R (.ok (.ret (.bool (!items.isEmpty)))) { s with toks := s.toks + 1 + 1 }) :=
  Meets.of_wp fun prog w A R s hs => by
    obtain ⟨hl, hs⟩ := hs
    obtain ⟨hp, g, d, tk, os⟩ := s
    have no_bool := F.conv_sub_bool
    repeat (any_goals (first | assumption | (with_reducible refine truthy_tuple hl fit ?_) | wp_step))
    all_goals first | exact ⟨_, rfl, hs⟩ | exact hs | skip
/-- bool(x): a bool, or a tuple -/
def rBoolT (K : PySem.W.Frag) : List V → Hp → VK → Prop := fun xs H Q => (∃ k, xs = [.bl k] ∧ Q (.bl k) H) ∨ ∃ (a : Addr) (zs : List V), xs = [.ref a] ∧ SqT K H a zs ∧ Q (.bl (!zs.isEmpty)) H
theorem cr_boolT {X : Cx} : CallR X (.type "bool") (rBoolT X.K) := by
  intro pins s σ H xs us Q I r h
  rcases h with ⟨k, rfl, q⟩ | ⟨a, zs, rfl, hq, q⟩
  · exact call_bool1 pins s σ H _ us Q I r (.inr ⟨k, rfl, q⟩)
  · obtain rfl := Vals.ref1 r
    obtain ⟨its, rv, pl, hz⟩ := I.tuple hq
    have hl := line63
    have hlen := rv.length
    have e : its.toArray.isEmpty = zs.isEmpty := by
      cases zs with
      | nil =>
        cases rv
        rfl
      | cons z zs =>
        cases rv
        rfl
    refine call_bool_1 (meets_bool_tup a its.toArray (by simp only [List.size_toArray]; omega)) ⟨pl, rfl, ?_⟩
    exact ⟨.bl (!zs.isEmpty), H, I.tok _, by rw [e]; rfl, q⟩
-- part chars2
theorem chE : ¬ (("endless" : Str) = "primes") := by decide +kernel
/-- the attributes, in the order in which __init__ stores them -/
def chF (e : Bool) (t : Addr) : List (Str × V) := putF "primes" (.ref t) (putF "endless" (.bl e) [])
theorem chF_e (e : Bool) (t : Addr) : (chF e t).lookup ("endless" : Str) = some (.bl e) := by
  unfold chF
  rw [lookup_putF, if_neg chE, lookup_putF, if_pos rfl]
theorem chF_p (e : Bool) (t : Addr) : (chF e t).lookup ("primes" : Str) = some (.ref t) := by
  unfold chF
  rw [lookup_putF, if_pos rfl]
theorem chF_no (e : Bool) (t : Addr) {m : Str} (h1 : ¬ m = "primes") (h2 : ¬ m = "endless") : (chF e t).lookup m = none := by
  unfold chF
  rw [lookup_putF, if_neg h1, lookup_putF, if_neg h2]
  all_goals rfl
/-- a set of characteristics stands at a -/
structure CharsAt (C : Addr) (H : Hp) (a : Addr) (e : Bool) (l : List Int) : Prop where
  ob : ∃ dx t, H a = some (.ins C dx (chF e t)) ∧ H t = some (.tup (l.map V.int))
  srt : l.Pairwise (· < ·)
  prm : ∀ q ∈ l, Pr q ∧ q < 2 ^ 62
theorem CharsAt.same {C : Addr} {H H' : Hp} {a : Addr} {e : Bool} {l : List Int} (h : CharsAt C H a e l) (s : Same H H') : CharsAt C H' a e l := by
  obtain ⟨dx, t, h1, h2⟩ := h.ob
  exact ⟨⟨dx, t, s _ _ h1, s _ _ h2⟩, h.srt, h.prm⟩
/-- is p in the set -/
def memB (e : Bool) (l : List Int) (p : Int) : Bool := if e = true then !decide (p ∈ l) else decide (p ∈ l)
/-- what is told of the class -/
structure ChT (K : PySem.W.Frag) (mg : Str → Option Value) (C : Addr) : Prop where
  g : mg "Chars" = some (.ref C)
  cl : Cls K C
  nE : NoAttr K C "endless"
  nP : NoAttr K C "primes"
  sf : PySem.W.selfFirst K C = true
  isC : C8.InsC K C
abbrev s_cinit : Stmt := inClass (top 19) 0
theorem sc_cinit : FnScope ["self", "endless", "primes", "p"] ["self", "endless", "primes"] (defScope s_cinit) := ⟨rfl, rfl, rfl, by decide +kernel, rfl, by decide +kernel, by decide +kernel⟩
def spCI (C CB : Addr) (tup : Bool) (K : PySem.W.Frag) : Sp := fun vs H Q E => ∃ (x dx a : Addr) (e : Bool) (ns : List Int), vs = [.ref x, .bl e, .ref a] ∧ H x = some (.ins C dx []) ∧ (if tup = true then SqT K H a (ns.map V.int) else SqL K H a (ns.map V.int)) ∧
  (∀ q ∈ ns, q < 2 ^ 62) ∧ ns.length < 64 ∧
  ((∀ q ∈ ns, Pr q) → ∀ (l : List Int) (H' : Hp), (∀ q, q ∈ l ↔ q ∈ ns) → l.length ≤ ns.length → CharsAt C H' x e l → (∀ b o, H b = some o → b ≠ x → H' b = some o) → Q .non H') ∧
  (∀ (i : Nat) (b : Int), ns[i]? = some b → ¬ Pr b → (∀ (j : Nat) (q : Int), j < i → ns[j]? = some q → Pr q) → ∀ d H', Same H H' → H' d = some (.xd [("p", .int b)]) → E (.ref CB) (some d) H')
theorem cinit_end {C CB : Addr} {mg : Str → Option Value} {K : PySem.W.Frag} (T : ChT K mg C) {H : Hp} {x dx a : Addr} {e : Bool} {ns : List Int} {Q : VK} {y3 : Option V} (hx : H x = some (.ins C dx [])) (hS : SqL K H a (ns.map V.int) ∨ SqT K H a (ns.map V.int)) (few : ns.length < 64) (hp : ∀ q ∈ ns, Pr q ∧ q < 2 ^ 62)
    (q : ∀ (l : List Int) (H' : Hp), (∀ q, q ∈ l ↔ q ∈ ns) → l.length ≤ ns.length → CharsAt C H' x e l → (∀ b o, H b = some o → b ≠ x → H' b = some o) → Q .non H') :
    tSeq (sFld K (tVar 0) (tVar 1) "endless") (sFld K (tVar 0) (tThen (tCB (rSortedSet w) (tCons (tCB (rSetInts K w) (tCons (tVar 2) tNil)) tNil)) (kTup K)) "primes") { nx := fun _ H' => Q .non H', rt := Q } [some (.ref x), some (.bl e), some (.ref a), y3] H := by
  have hxa : x ≠ a ∨ True := .inr trivial
  refine ⟨_, rfl, _, rfl, x, C, dx, [], rfl, hx, T.cl, T.nE, (by show 0 < 1000; decide), ?_⟩
  have hS1 : SqL K (upd H x (.ins C dx (putF "endless" (.bl e) []))) a (ns.map V.int) ∨ SqT K (upd H x (.ins C dx (putF "endless" (.bl e) []))) a (ns.map V.int) := by
    rcases hS with h | h
    · refine .inl ?_
      rcases h with h | h
      · rcases h with h | ⟨o, h⟩
        · exact .inl (.inl (by rw [upd_ne (fun z => by rw [z, hx] at h; cases h)]; exact h))
        · exact .inl (.inr ⟨o, by rw [upd_ne (fun z => by rw [z, hx] at h; cases h)]; exact h⟩)
      · exact .inr h
    · refine .inr ?_
      rcases h with h | h
      · rcases h with h | ⟨o, h⟩
        · exact .inl (.inl (by rw [upd_ne (fun z => by rw [z, hx] at h; cases h)]; exact h))
        · exact .inl (.inr ⟨o, by rw [upd_ne (fun z => by rw [z, hx] at h; cases h)]; exact h⟩)
      · exact .inr h
  refine ⟨_, rfl, a, ns, rfl, hS1, (by omega), fun p c np hc => ?_⟩
  refine ⟨p, _, c, rfl, upd_same, (by omega), fun l p2 srt mem len np2 => ?_⟩
  have npx : p ≠ x := fun z => by
    rw [z, upd_same] at np
    cases np
  refine .inl ⟨p2, _, rfl, SqL.of upd_same, fun t nt => ?_⟩
  have g1 := same_upd (o := SetO w p (fun j => decide (j ∈ ns)) c) np
  have g2 := same_upd (o := .lst (l.map V.int)) np2
  have g3 := same_upd (o := .tup (l.map V.int)) nt
  have hx3 := g3 _ _ (g2 _ _ (g1 _ _ (upd_same (H := H) (a := x) (o := .ins C dx (putF "endless" (.bl e) [])))))
  refine ⟨_, rfl, x, C, dx, _, rfl, hx3, T.cl, T.nP, (by show 1 < 1000; decide), ?_⟩
  have ntx : t ≠ x := fun z => by
    rw [z] at nt
    rw [g2 _ _ (g1 _ _ (upd_same (H := H) (a := x) (o := .ins C dx (putF "endless" (.bl e) []))))] at nt
    cases nt
  refine q l _ (fun z => by rw [mem z]; exact decide_eq_true_iff) (by omega) ⟨⟨dx, t, upd_same, by rw [upd_ne ntx]; exact upd_same⟩, srt, fun z hz => hp z (of_decide_eq_true ((mem z).mp hz))⟩ fun b o hb hbx => ?_
  rw [upd_ne hbx]
  refine g3 _ _ (g2 _ _ (g1 _ _ ?_))
  rw [upd_ne hbx]
  exact hb
theorem ok_cinit {f C CB : Addr} {fd : FuncData} (tup : Bool) (TT : Txt mg) (T : ChT K mg C) (F : Fun K "__init__" "Chars.__init__" s_cinit f fd) (c_prime : Cl P w K mg base CX0 2 "is_prime" spPrime) (x_bc : Er P w K mg base "BadCharacteristic" "p" CB) : FnOk P w K mg base (L2N.CX P w) 3 f fd ["self", "endless", "primes"] (spCI C CB tup K) := by
  refine okN F sc_cinit (fun vs H Q E h => ?_) (fun cdv A outer s H vs Q E hr h => ?_)
  · obtain ⟨x, dx, a, e, ns, rfl, _⟩ := h
    rfl
  · obtain ⟨x, dx, a, e, ns, rfl, hx, hS, hb, few, q, qe⟩ := h
    have turn : ∀ (i : Nat) (y : V), (ns.map V.int)[i]? = some y → ∃ z : Int, y = .int z ∧ ns[i]? = some z ∧ z < 2 ^ 62 := fun i y hi => by
      rw [List.getElem?_map] at hi
      cases e : ns[i]? with
      | none =>
        rw [e] at hi
        cases hi
      | some z =>
        rw [e] at hi
        exact ⟨z, (Option.some.inj hi).symm, rfl, hb z (List.mem_of_getElem? e)⟩
    have all : (∀ (j : Nat) (q : Int), j < (ns.map V.int).length → ns[j]? = some q → Pr q) → ∀ q ∈ ns, Pr q := fun h q hq => by
      obtain ⟨j, hj⟩ := List.mem_iff_getElem?.mp hq
      exact h j q (by rw [List.length_map]; exact (List.getElem?_eq_some_iff.mp hj).1) hj
    cases tup with
    | false =>
      refine ⟨_, (pss_cons (ps_for (passes_of rfl) rfl (pi_list (pv 2)) (pg_name (i := 3) sc_cinit.nd rfl (Or.inl rfl)) (pss_one (ps_if (pt_not (pt_val (pe_cl c_prime hr (pa_cons (pv 3) pa_nil)))) (pss_one (ps_raise1N x_bc hr (L2N.takes_of rfl rfl rfl rfl) (pa_cons (pv 3) pa_nil))) pss_nil)))
 (pss_cons (ps_fld (pv 0) (pv 1) rfl)
 (pss_one (ps_fld (pv 0) (pe_tupleOf (by rfl) TT.tuple (pe_callB (cr_sortedSet rfl) (by rfl) TT.sorted boot_sorted (pa_cons (pe_callTy (cr_setInts rfl) (by rfl) TT.set boot_set (pa_cons (pv 2) pa_nil)) pa_nil))) rfl)))), ?_⟩
      have hS' : SqL K H a (ns.map V.int) := hS
      refine ⟨_, rfl, a, rfl, ⟨_, hS'⟩, for_list (K := K) (a := a) (xs := ns.map V.int) (fun i σ H' => H' = H ∧ (∃ y3, σ = [some (.ref x), some (.bl e), some (.ref a), y3]) ∧ ∀ (j : Nat) (q : Int), j < i → ns[j]? = some q → Pr q)
        ⟨rfl, ⟨none, rfl⟩, fun j q hj => absurd hj (Nat.not_lt_zero j)⟩ (fun i σ H' _ h => by rw [h.1]; exact hS') ?_ ?_⟩
      · rintro i y σ _ hi ⟨rfl, ⟨y3, rfl⟩, hp⟩
        obtain ⟨z, rfl, hz, hzb⟩ := turn i y hi
        refine ⟨_, rfl, z, rfl, hzb, _, rfl, ?_⟩
        by_cases c : Pr z
        · refine if_neg_of (by rw [prB_true c]; rfl) ?_
          refine ⟨rfl, ⟨_, rfl⟩, fun j q hj hq => ?_⟩
          by_cases ej : j = i
          · rw [ej, hz] at hq
            rw [← Option.some.inj hq]
            exact c
          · exact hp j q (by omega) hq
        · refine if_pos_of (by rw [prB_false c]; rfl) ?_
          refine ⟨_, rfl, ?_⟩
          exact mk1 fun d H2 s _ hd => qe i z hz c hp d H2 s hd
      · rintro σ _ ⟨rfl, ⟨y3, rfl⟩, hp⟩
        exact cinit_end (w := w) (CB := CB) T hx (.inl hS') few (fun z hz => ⟨all hp z hz, hb z hz⟩) (q (all hp))
    | true =>
      refine ⟨_, (pss_cons (ps_for (passes_of rfl) rfl (pi_tup (pv 2)) (pg_name (i := 3) sc_cinit.nd rfl (Or.inl rfl)) (pss_one (ps_if (pt_not (pt_val (pe_cl c_prime hr (pa_cons (pv 3) pa_nil)))) (pss_one (ps_raise1N x_bc hr (L2N.takes_of rfl rfl rfl rfl) (pa_cons (pv 3) pa_nil))) pss_nil)))
 (pss_cons (ps_fld (pv 0) (pv 1) rfl)
 (pss_one (ps_fld (pv 0) (pe_tupleOf (by rfl) TT.tuple (pe_callB (cr_sortedSet rfl) (by rfl) TT.sorted boot_sorted (pa_cons (pe_callTy (cr_setInts rfl) (by rfl) TT.set boot_set (pa_cons (pv 2) pa_nil)) pa_nil))) rfl)))), ?_⟩
      have hS' : SqT K H a (ns.map V.int) := hS
      refine ⟨_, rfl, a, rfl, ⟨_, hS'⟩, for_tup (K := K) (a := a) (xs := ns.map V.int) (fun i σ H' => H' = H ∧ (∃ y3, σ = [some (.ref x), some (.bl e), some (.ref a), y3]) ∧ ∀ (j : Nat) (q : Int), j < i → ns[j]? = some q → Pr q)
        ⟨rfl, ⟨none, rfl⟩, fun j q hj => absurd hj (Nat.not_lt_zero j)⟩ (fun i σ H' _ h => by rw [h.1]; exact hS') ?_ ?_⟩
      · rintro i y σ _ hi ⟨rfl, ⟨y3, rfl⟩, hp⟩
        obtain ⟨z, rfl, hz, hzb⟩ := turn i y hi
        refine ⟨_, rfl, z, rfl, hzb, _, rfl, ?_⟩
        by_cases c : Pr z
        · refine if_neg_of (by rw [prB_true c]; rfl) ?_
          refine ⟨rfl, ⟨_, rfl⟩, fun j q hj hq => ?_⟩
          by_cases ej : j = i
          · rw [ej, hz] at hq
            rw [← Option.some.inj hq]
            exact c
          · exact hp j q (by omega) hq
        · refine if_pos_of (by rw [prB_false c]; rfl) ?_
          refine ⟨_, rfl, ?_⟩
          exact mk1 fun d H2 s _ hd => qe i z hz c hp d H2 s hd
      · rintro σ _ ⟨rfl, ⟨y3, rfl⟩, hp⟩
        exact cinit_end (w := w) (CB := CB) T hx (.inr hS') few (fun z hz => ⟨all hp z hz, hb z hz⟩) (q (all hp))
-- part chars3
theorem make_ch {C CB : Addr} {tup : Bool} {H1 : Hp} {e : Bool} {a : Addr} {ns : List Int} {Q : VK} (hS : if tup = true then SqT K H1 a (ns.map V.int) else SqL K H1 a (ns.map V.int)) (hp : ∀ q ∈ ns, Pr q ∧ q < 2 ^ 62) (few : ns.length < 64)
    (k : ∀ (r : Addr) (l : List Int) (H2 : Hp), (∀ q, q ∈ l ↔ q ∈ ns) → l.length ≤ ns.length → CharsAt C H2 r e l → Same H1 H2 → Q (.ref r) H2) :
    ∀ x dx, H1 x = none → H1 dx = none → dx ≠ x → spCI C CB tup K (.ref x :: ([.bl e, .ref a] ++ [])) (upd (upd H1 dx (.own x)) x (.ins C dx [])) (fun v H2 => v = .non ∧ Q (.ref x) H2) E0 := by
  intro x dx hx hdx hne
  have s1 : Same H1 (upd (upd H1 dx (.own x)) x (.ins C dx [])) := fun b o eb => by
    rw [upd_ne (ne_of_none eb hx), upd_ne (ne_of_none eb hdx)]
    exact eb
  refine ⟨x, dx, a, e, ns, rfl, upd_same, ?_, fun q hq => (hp q hq).2, few, fun _ l H' mem len ch keep => ⟨rfl, k x l H' mem len ch fun b o eb => keep b o (s1 b o eb) (ne_of_none eb hx)⟩, fun i b hi hb _ => absurd (hp b (List.mem_of_getElem? hi)).1 hb⟩
  cases tup with
  | true =>
    have h : SqT K H1 a (ns.map V.int) := hS
    show SqT K _ a (ns.map V.int)
    exact Evl.ex_t s1 h
  | false =>
    have h : SqL K H1 a (ns.map V.int) := hS
    exact s1.seq h
theorem all_flat : ∀ l : List Int, (l.map V.int).all flatV = true
  | [] => rfl
  | a :: l => by
    rw [List.map_cons, List.all_cons, all_flat l]
    rfl
theorem inV_ints (p : Int) : ∀ l : List Int, inV (.int p) (l.map V.int) = decide (p ∈ l)
  | [] => by simp [inV]
  | a :: l => by
    have ih := inV_ints p l
    unfold inV at ih ⊢
    rw [List.map_cons, List.any_cons, ih]
    show (a == p || decide (p ∈ l)) = decide (p ∈ a :: l)
    by_cases c : a = p
    · subst c
      simp
    · have c2 : ¬ p = a := fun h => c h.symm
      simp [c, c2]
abbrev s_ccont : Stmt := inClass (top 19) 8
theorem sc_ccont : FnScope ["self", "p"] ["self", "p"] (defScope s_ccont) := ⟨rfl, rfl, rfl, by decide +kernel, rfl, by decide +kernel, by decide +kernel⟩
def spCont (C : Addr) : Sp := fun vs H Q _ => ∃ (a : Addr) (e : Bool) (l : List Int) (p : Int), vs = [.ref a, .int p] ∧ CharsAt C H a e l ∧ Q (.bl (memB e l p)) H
theorem ok_ccont {f C : Addr} {fd : FuncData} (T : ChT K mg C) (F : Fun K "__contains__" "Chars.__contains__" s_ccont f fd) : FnOk P w K mg base CX0 1 f fd ["self", "p"] (spCont C) := by
  refine F.ok sc_ccont (fun vs H Q E h => ?_) (fun cdv A outer s H vs Q E hr h => ?_)
  · obtain ⟨a, e, l, p, rfl, _⟩ := h
    rfl
  · obtain ⟨a, e, l, p, rfl, ch, q⟩ := h
    obtain ⟨dx, t, h1, h2⟩ := ch.ob
    refine ⟨_, (pss_cons (ps_if (pt_val (pe_fld (pv 0) rfl)) (pss_one (ps_ret (pe_cmpR op_notIn_seq (pv 1) (pe_fld (pv 0) rfl) (by with_unfolding_all rfl)))) pss_nil)
 (pss_one (ps_ret (pe_cmpR op_in_seq (pv 1) (pe_fld (pv 0) rfl) (by with_unfolding_all rfl))))), ?_⟩
    refine ⟨_, rfl, a, C, dx, _, _, rfl, h1, T.cl, T.nE, chF_e _ _, _, rfl, ?_⟩
    unfold memB at q
    cases e with
    | true =>
      refine if_pos_of rfl ?_
      rw [if_pos rfl] at q
      refine ⟨_, rfl, _, rfl, a, C, dx, _, _, rfl, h1, T.cl, T.nP, chF_p _ _, t, _, rfl, .inr (.inl (.inl h2)), rfl, all_flat l, ?_⟩
      rw [if_pos rfl, inV_ints]
      exact q
    | false =>
      refine if_neg_of rfl ?_
      rw [if_neg (by decide)] at q
      refine ⟨_, rfl, _, rfl, a, C, dx, _, _, rfl, h1, T.cl, T.nP, chF_p _ _, t, _, rfl, .inr (.inl (.inl h2)), rfl, all_flat l, ?_⟩
      rw [if_neg (by decide), inV_ints]
      exact q
abbrev s_cinv : Stmt := inClass (top 19) 12
theorem sc_cinv : FnScope ["self"] ["self"] (defScope s_cinv) := ⟨rfl, rfl, rfl, by decide +kernel, rfl, by decide +kernel, by decide +kernel⟩
def spInv (C : Addr) : Sp := fun vs H Q _ => ∃ (a : Addr) (e : Bool) (l : List Int), vs = [.ref a] ∧ CharsAt C H a e l ∧ l.length < 64 ∧ ∀ r H', CharsAt C H' r (!e) l → Same H H' → Q (.ref r) H'
theorem ok_cinv {f C CB : Addr} {fd : FuncData} (T : ChT K mg C) (F : Fun K "__invert__" "Chars.__invert__" s_cinv f fd) (c_cit : Ma P w K mg base 3 C (spCI C CB true K)) : FnOk P w K mg base CX0 5 f fd ["self"] (spInv C) := by
  refine F.ok sc_cinv (fun vs H Q E h => ?_) (fun cdv A outer s H vs Q E hr h => ?_)
  · obtain ⟨a, e, l, rfl, _⟩ := h
    rfl
  · obtain ⟨a, e, l, rfl, ch, few, q⟩ := h
    obtain ⟨dx, t, h1, h2⟩ := ch.ob
    refine ⟨_, (pss_one (ps_ret (pe_ma c_cit hr T.g (pa_cons (pe_not (pe_fld (pv 0) rfl)) (pa_cons (pe_fld (pv 0) rfl) pa_nil))))), ?_⟩
    refine ⟨_, rfl, a, C, dx, _, _, rfl, h1, T.cl, T.nE, chF_e _ _, _, rfl, _, rfl, a, C, dx, _, _, rfl, h1, T.cl, T.nP, chF_p _ _, ?_⟩
    refine make_ch (CB := CB) (tup := true) (e := !e) (ns := l) (.inl (.inl h2)) ch.prm few fun r l' H' mem len ch' s' => ?_
    have el : l' = l := sorted_uniq ch'.srt ch.srt mem
    subst el
    exact q r H' ch' s'
abbrev s_cand : Stmt := inClass (top 19) 9
theorem sc_cand : FnScope ["self", "other", "p"] ["self", "other"] (defScope s_cand) := ⟨rfl, rfl, rfl, by decide +kernel, rfl, by decide +kernel, by decide +kernel⟩
theorem cat_use {K : PySem.W.Frag} {a b : Addr} {xs ys : List Int} {H : Hp} {Q : VK} (ha : SqT K H a (xs.map V.int)) (hb : SqT K H b (ys.map V.int)) (few : xs.length + ys.length < 64) (k : ∀ c H', SqT K H' c ((xs ++ ys).map V.int) → Same H H' → Q (.ref c) H') : rCatA K (.ref a) (.ref b) H Q := by
  refine ⟨a, b, _, _, rfl, rfl, ha, hb, ?_, fun e => ?_, fun e1 e2 => ?_, fun e1 e2 p hp => ?_⟩
  · rw [List.length_map, List.length_map]
    exact Nat.le_of_lt (small1000 (by omega))
  · have z : xs = [] := List.map_eq_nil_iff.mp e
    subst z
    exact k b H hb (Same.refl H)
  · have z : ys = [] := List.map_eq_nil_iff.mp e2
    subst z
    refine k a H ?_ (Same.refl H)
    rw [List.append_nil]
    exact ha
  · refine k p _ ?_ (same_upd hp)
    rw [List.map_append]
    exact .inl (.inl upd_same)
theorem filter_take {l : List Int} {g : Int → Bool} {i : Nat} {z : Int} (h : l[i]? = some z) : (l.take (i + 1)).filter g = (l.take i).filter g ++ (if g z = true then [z] else []) := by
  rw [List.take_add_one, h, List.filter_append]
  show (l.take i).filter g ++ List.filter g [z] = _
  rw [List.filter_cons, List.filter_nil]
theorem and_false_l (b : Bool) : (false && b) = false := rfl
def spAnd (C : Addr) (f : Bool → Bool → Bool) : Sp := fun vs H Q _ => ∃ (a b : Addr) (e1 e2 : Bool) (l1 l2 : List Int), vs = [.ref a, .ref b] ∧ CharsAt C H a e1 l1 ∧ CharsAt C H b e2 l2 ∧ l1.length + l2.length < 64 ∧
  ∀ (r : Addr) (l : List Int) (H' : Hp), CharsAt C H' r (f e1 e2) l → l.length ≤ l1.length + l2.length → (∀ p, memB (f e1 e2) l p = f (memB e1 l1 p) (memB e2 l2 p)) → Same H H' → Q (.ref r) H'
theorem ok_cand {f C CB : Addr} {fd : FuncData} (T : ChT K mg C) (F : Fun K "__and__" "Chars.__and__" s_cand f fd) (c_cit : Ma P w K mg base 3 C (spCI C CB true K)) (c_cil : Ma P w K mg base 3 C (spCI C CB false K)) (c_cont : Me P w K mg base 1 C "__contains__" (spCont C)) : FnOk P w K mg base CX0 5 f fd ["self", "other"] (spAnd C and) := by
  refine F.ok sc_cand (fun vs H Q E h => ?_) (fun cdv A outer s H vs Q E hr h => ?_)
  · obtain ⟨a, b, _, _, _, _, rfl, _⟩ := h
    rfl
  · obtain ⟨a, b, e1, e2, l1, l2, rfl, ch1, ch2, few, q⟩ := h
    obtain ⟨dx, t, h1, h2⟩ := ch1.ob
    obtain ⟨dy, u, g1, g2⟩ := ch2.ob
    refine ⟨_, (pss_cons (ps_if (pt_not (pt_val (pe_fld (pv 0) rfl))) (pss_one (ps_ret (pe_ma c_cil hr T.g (pa_cons pe_bl (pa_cons (pe_lc (own := [("p", 2)]) (g := gName 2) rfl sc_cand.nd (pi_tup (pe_fld (pv 0) rfl)) (blkOk_by (N := ["self", "other", "p"]) (sc := defScope s_cand) (by decide +kernel)) (fun _ _ _ _ _ => pg_name (i := 2) sc_cand.nd rfl (Or.inl rfl)) (fun _ _ _ _ _ => pts_one (pt_cmpR (op_in_own c_cont (by exact hr)) (pv 2) (pv 1) (by with_unfolding_all rfl))) (fun _ _ _ _ _ => pv 2)) pa_nil))))) pss_nil)
 (pss_cons (ps_if (pt_not (pt_val (pe_fld (pv 1) rfl))) (pss_one (ps_ret (pe_ma c_cil hr T.g (pa_cons pe_bl (pa_cons (pe_lc (own := [("p", 2)]) (g := gName 2) rfl sc_cand.nd (pi_tup (pe_fld (pv 1) rfl)) (blkOk_by (N := ["self", "other", "p"]) (sc := defScope s_cand) (by decide +kernel)) (fun _ _ _ _ _ => pg_name (i := 2) sc_cand.nd rfl (Or.inl rfl)) (fun _ _ _ _ _ => pts_one (pt_cmpR (op_in_own c_cont (by exact hr)) (pv 2) (pv 0) (by with_unfolding_all rfl))) (fun _ _ _ _ _ => pv 2)) pa_nil))))) pss_nil)
 (pss_one (ps_ret (pe_ma c_cit hr T.g (pa_cons pe_bl (pa_cons (pe_op op_catA (pe_fld (pv 0) rfl) (pe_fld (pv 1) rfl)) pa_nil))))))), ?_⟩
    refine ⟨_, rfl, a, C, dx, _, _, rfl, h1, T.cl, T.nE, chF_e _ _, _, rfl, ?_⟩
    cases e1 with
    | false =>
      refine if_pos_of rfl ?_
      refine ⟨_, rfl, a, C, dx, _, _, rfl, h1, T.cl, T.nP, chF_p _ _, t, rfl, ⟨_, .inl (.inl h2)⟩, fun D hD => lc_tup (K := K) (a := t) (xs := l1.map V.int) (fun i H' => Same H H' ∧ H' D = some (.lst (((l1.take i).filter (memB e2 l2)).map V.int)))
        ⟨same_upd hD, upd_same⟩ (fun i H' _ h => Evl.ex_t h.1 (.inl (.inl h2))) ?_ ?_⟩
      · rintro i y H' hi ⟨s', hD'⟩
        obtain ⟨z, rfl, hz⟩ := item_int hi
        refine ⟨rfl, _, rfl, _, rfl, _, _, _, rfl, s' _ _ g1, ?_⟩
        refine ⟨_, e2, l2, z, rfl, ch2.same s', _, rfl, _, rfl, ?_⟩
        have ft := filter_take (g := memB e2 l2) hz
        cases hm : memB e2 l2 z with
        | true =>
          rw [hm, if_pos rfl] at ft
          refine if_pos_of rfl ?_
          refine ⟨_, rfl, _, hD', ?_, fun b o eb => ?_, ?_⟩
          · rw [List.length_map]
            have h3 := List.length_filter_le (memB e2 l2) (l1.take i)
            have h4 : (l1.take i).length ≤ l1.length := by rw [List.length_take]; omega
            exact small1000 (by omega)
          · rw [upd_ne (ne_of_none eb hD)]
            exact s' b o eb
          · rw [ft, List.map_append]
            exact upd_same
        | false =>
          rw [hm, if_neg (by decide), List.append_nil] at ft
          refine if_neg_of rfl ?_
          exact ⟨s', by rw [ft]; exact hD'⟩
      · rintro H' ⟨s', hD'⟩
        rw [List.length_map, List.take_length] at hD'
        refine make_ch (CB := CB) (tup := false) (e := false) (ns := l1.filter (memB e2 l2)) (SqL.of hD') (fun z hz => ch1.prm z (List.mem_filter.mp hz).1) (by have := List.length_filter_le (memB e2 l2) l1; omega) fun r l' H2 mem len ch' s2 => ?_
        have hl := List.length_filter_le (memB e2 l2) l1
        have mem2 : ∀ z, z ∈ l' ↔ z ∈ l1 ∧ memB e2 l2 z = true := fun z => (mem z).trans List.mem_filter
        exact q r l' H2 ch' (by omega) (fun z => by
          rw [and_false_l]
          have := mem2 z
          unfold memB at this ⊢
          by_cases c : z ∈ l1 <;> simp_all) (s'.trans s2)
    | true =>
      refine if_neg_of rfl ?_
      refine ⟨_, rfl, b, C, dy, _, _, rfl, g1, T.cl, T.nE, chF_e _ _, _, rfl, ?_⟩
      cases e2 with
      | false =>
        refine if_pos_of rfl ?_
        refine ⟨_, rfl, b, C, dy, _, _, rfl, g1, T.cl, T.nP, chF_p _ _, u, rfl, ⟨_, .inl (.inl g2)⟩, fun D hD => lc_tup (K := K) (a := u) (xs := l2.map V.int) (fun i H' => Same H H' ∧ H' D = some (.lst (((l2.take i).filter (memB true l1)).map V.int)))
          ⟨same_upd hD, upd_same⟩ (fun i H' _ h => Evl.ex_t h.1 (.inl (.inl g2))) ?_ ?_⟩
        · rintro i y H' hi ⟨s', hD'⟩
          obtain ⟨z, rfl, hz⟩ := item_int hi
          refine ⟨rfl, _, rfl, _, rfl, _, _, _, rfl, s' _ _ h1, ?_⟩
          refine ⟨_, true, l1, z, rfl, ch1.same s', _, rfl, _, rfl, ?_⟩
          have ft := filter_take (g := memB true l1) hz
          cases hm : memB true l1 z with
          | true =>
            rw [hm, if_pos rfl] at ft
            refine if_pos_of rfl ?_
            refine ⟨_, rfl, _, hD', ?_, fun b o eb => ?_, ?_⟩
            · rw [List.length_map]
              have h3 := List.length_filter_le (memB true l1) (l2.take i)
              have h4 : (l2.take i).length ≤ l2.length := by rw [List.length_take]; omega
              exact small1000 (by omega)
            · rw [upd_ne (ne_of_none eb hD)]
              exact s' b o eb
            · rw [ft, List.map_append]
              exact upd_same
          | false =>
            rw [hm, if_neg (by decide), List.append_nil] at ft
            refine if_neg_of rfl ?_
            exact ⟨s', by rw [ft]; exact hD'⟩
        · rintro H' ⟨s', hD'⟩
          rw [List.length_map, List.take_length] at hD'
          refine make_ch (CB := CB) (tup := false) (e := false) (ns := l2.filter (memB true l1)) (SqL.of hD') (fun z hz => ch2.prm z (List.mem_filter.mp hz).1) (by have := List.length_filter_le (memB true l1) l2; omega) fun r l' H2 mem len ch' s2 => ?_
          have hl := List.length_filter_le (memB true l1) l2
          have mem2 : ∀ z, z ∈ l' ↔ z ∈ l2 ∧ memB true l1 z = true := fun z => (mem z).trans List.mem_filter
          exact q r l' H2 ch' (by omega) (fun z => by
            have := mem2 z
            unfold memB at this ⊢
            by_cases c : z ∈ l2 <;> simp_all) (s'.trans s2)
      | true =>
        refine if_neg_of rfl ?_
        refine ⟨_, rfl, a, C, dx, _, _, rfl, h1, T.cl, T.nP, chF_p _ _, _, rfl, b, C, dy, _, _, rfl, g1, T.cl, T.nP, chF_p _ _, ?_⟩
        refine cat_use (xs := l1) (ys := l2) (.inl (.inl h2)) (.inl (.inl g2)) few fun c H' hc s' => ?_
        refine make_ch (CB := CB) (tup := true) (e := true) (ns := l1 ++ l2) hc (fun z hz => (List.mem_append.mp hz).elim (ch1.prm z) (ch2.prm z)) (by rw [List.length_append]; exact few) fun r l' H2 mem len ch' s2 => ?_
        rw [List.length_append] at len
        exact q r l' H2 ch' len (fun z => by
          have := mem z
          rw [List.mem_append] at this
          unfold memB
          by_cases c1 : z ∈ l1 <;> by_cases c2 : z ∈ l2 <;> simp_all) (s'.trans s2)
-- part chars4
abbrev s_cor : Stmt := inClass (top 19) 10
theorem sc_cor : FnScope ["self", "other", "p"] ["self", "other"] (defScope s_cor) := ⟨rfl, rfl, rfl, by decide +kernel, rfl, by decide +kernel, by decide +kernel⟩
theorem true_or_l (b : Bool) : (true || b) = true := rfl
theorem ok_cor {f C CB : Addr} {fd : FuncData} (T : ChT K mg C) (F : Fun K "__or__" "Chars.__or__" s_cor f fd) (c_cit : Ma P w K mg base 3 C (spCI C CB true K)) (c_cil : Ma P w K mg base 3 C (spCI C CB false K)) (c_cont : Me P w K mg base 1 C "__contains__" (spCont C)) : FnOk P w K mg base CX0 5 f fd ["self", "other"] (spAnd C or) := by
  refine F.ok sc_cor (fun vs H Q E h => ?_) (fun cdv A outer s H vs Q E hr h => ?_)
  · obtain ⟨a, b, _, _, _, _, rfl, _⟩ := h
    rfl
  · obtain ⟨a, b, e1, e2, l1, l2, rfl, ch1, ch2, few, q⟩ := h
    obtain ⟨dx, t, h1, h2⟩ := ch1.ob
    obtain ⟨dy, u, g1, g2⟩ := ch2.ob
    refine ⟨_, (pss_cons (ps_if (pt_val (pe_fld (pv 0) rfl)) (pss_one (ps_ret (pe_ma c_cil hr T.g (pa_cons pe_bl (pa_cons (pe_lc (own := [("p", 2)]) (g := gName 2) rfl sc_cor.nd (pi_tup (pe_fld (pv 0) rfl)) (blkOk_by (N := ["self", "other", "p"]) (sc := defScope s_cor) (by decide +kernel)) (fun _ _ _ _ _ => pg_name (i := 2) sc_cor.nd rfl (Or.inl rfl)) (fun _ _ _ _ _ => pts_one (pt_cmpR (op_notIn_own c_cont (by exact hr)) (pv 2) (pv 1) (by with_unfolding_all rfl))) (fun _ _ _ _ _ => pv 2)) pa_nil))))) pss_nil)
 (pss_cons (ps_if (pt_val (pe_fld (pv 1) rfl)) (pss_one (ps_ret (pe_ma c_cil hr T.g (pa_cons pe_bl (pa_cons (pe_lc (own := [("p", 2)]) (g := gName 2) rfl sc_cor.nd (pi_tup (pe_fld (pv 1) rfl)) (blkOk_by (N := ["self", "other", "p"]) (sc := defScope s_cor) (by decide +kernel)) (fun _ _ _ _ _ => pg_name (i := 2) sc_cor.nd rfl (Or.inl rfl)) (fun _ _ _ _ _ => pts_one (pt_cmpR (op_notIn_own c_cont (by exact hr)) (pv 2) (pv 0) (by with_unfolding_all rfl))) (fun _ _ _ _ _ => pv 2)) pa_nil))))) pss_nil)
 (pss_one (ps_ret (pe_ma c_cit hr T.g (pa_cons pe_bl (pa_cons (pe_op op_catA (pe_fld (pv 0) rfl) (pe_fld (pv 1) rfl)) pa_nil))))))), ?_⟩
    refine ⟨_, rfl, a, C, dx, _, _, rfl, h1, T.cl, T.nE, chF_e _ _, _, rfl, ?_⟩
    cases e1 with
    | true =>
      refine if_pos_of rfl ?_
      refine ⟨_, rfl, a, C, dx, _, _, rfl, h1, T.cl, T.nP, chF_p _ _, t, rfl, ⟨_, .inl (.inl h2)⟩, fun D hD => lc_tup (K := K) (a := t) (xs := l1.map V.int) (fun i H' => Same H H' ∧ H' D = some (.lst (((l1.take i).filter (fun z => !memB e2 l2 z)).map V.int)))
        ⟨same_upd hD, upd_same⟩ (fun i H' _ h => Evl.ex_t h.1 (.inl (.inl h2))) ?_ ?_⟩
      · rintro i y H' hi ⟨s', hD'⟩
        obtain ⟨z, rfl, hz⟩ := item_int hi
        refine ⟨rfl, _, rfl, _, rfl, _, _, _, rfl, s' _ _ g1, ?_⟩
        refine ⟨_, e2, l2, z, rfl, ch2.same s', _, rfl, _, rfl, ?_⟩
        have ft := filter_take (g := fun z => !memB e2 l2 z) hz
        cases hm : (!memB e2 l2 z) with
        | true =>
          rw [hm, if_pos rfl] at ft
          refine if_pos_of rfl ?_
          refine ⟨_, rfl, _, hD', ?_, fun b o eb => ?_, ?_⟩
          · rw [List.length_map]
            have h3 := List.length_filter_le (fun z => !memB e2 l2 z) (l1.take i)
            have h4 : (l1.take i).length ≤ l1.length := by rw [List.length_take]; omega
            exact small1000 (by omega)
          · rw [upd_ne (ne_of_none eb hD)]
            exact s' b o eb
          · rw [ft, List.map_append]
            exact upd_same
        | false =>
          rw [hm, if_neg (by decide), List.append_nil] at ft
          refine if_neg_of rfl ?_
          exact ⟨s', by rw [ft]; exact hD'⟩
      · rintro H' ⟨s', hD'⟩
        rw [List.length_map, List.take_length] at hD'
        refine make_ch (CB := CB) (tup := false) (e := true) (ns := l1.filter (fun z => !memB e2 l2 z)) (SqL.of hD') (fun z hz => ch1.prm z (List.mem_filter.mp hz).1) (by have := List.length_filter_le (fun z => !memB e2 l2 z) l1; omega) fun r l' H2 mem len ch' s2 => ?_
        have hl := List.length_filter_le (fun z => !memB e2 l2 z) l1
        have mem2 : ∀ z, z ∈ l' ↔ z ∈ l1 ∧ (!memB e2 l2 z) = true := fun z => (mem z).trans List.mem_filter
        exact q r l' H2 ch' (by omega) (fun z => by
          rw [true_or_l]
          have := mem2 z
          unfold memB at this ⊢
          cases e2 <;> by_cases c : z ∈ l1 <;> by_cases c2 : z ∈ l2 <;> simp_all) (s'.trans s2)
    | false =>
      refine if_neg_of rfl ?_
      refine ⟨_, rfl, b, C, dy, _, _, rfl, g1, T.cl, T.nE, chF_e _ _, _, rfl, ?_⟩
      cases e2 with
      | true =>
        refine if_pos_of rfl ?_
        refine ⟨_, rfl, b, C, dy, _, _, rfl, g1, T.cl, T.nP, chF_p _ _, u, rfl, ⟨_, .inl (.inl g2)⟩, fun D hD => lc_tup (K := K) (a := u) (xs := l2.map V.int) (fun i H' => Same H H' ∧ H' D = some (.lst (((l2.take i).filter (fun z => !memB false l1 z)).map V.int)))
          ⟨same_upd hD, upd_same⟩ (fun i H' _ h => Evl.ex_t h.1 (.inl (.inl g2))) ?_ ?_⟩
        · rintro i y H' hi ⟨s', hD'⟩
          obtain ⟨z, rfl, hz⟩ := item_int hi
          refine ⟨rfl, _, rfl, _, rfl, _, _, _, rfl, s' _ _ h1, ?_⟩
          refine ⟨_, false, l1, z, rfl, ch1.same s', _, rfl, _, rfl, ?_⟩
          have ft := filter_take (g := fun z => !memB false l1 z) hz
          cases hm : (!memB false l1 z) with
          | true =>
            rw [hm, if_pos rfl] at ft
            refine if_pos_of rfl ?_
            refine ⟨_, rfl, _, hD', ?_, fun b o eb => ?_, ?_⟩
            · rw [List.length_map]
              have h3 := List.length_filter_le (fun z => !memB false l1 z) (l2.take i)
              have h4 : (l2.take i).length ≤ l2.length := by rw [List.length_take]; omega
              exact small1000 (by omega)
            · rw [upd_ne (ne_of_none eb hD)]
              exact s' b o eb
            · rw [ft, List.map_append]
              exact upd_same
          | false =>
            rw [hm, if_neg (by decide), List.append_nil] at ft
            refine if_neg_of rfl ?_
            exact ⟨s', by rw [ft]; exact hD'⟩
        · rintro H' ⟨s', hD'⟩
          rw [List.length_map, List.take_length] at hD'
          refine make_ch (CB := CB) (tup := false) (e := true) (ns := l2.filter (fun z => !memB false l1 z)) (SqL.of hD') (fun z hz => ch2.prm z (List.mem_filter.mp hz).1) (by have := List.length_filter_le (fun z => !memB false l1 z) l2; omega) fun r l' H2 mem len ch' s2 => ?_
          have hl := List.length_filter_le (fun z => !memB false l1 z) l2
          have mem2 : ∀ z, z ∈ l' ↔ z ∈ l2 ∧ (!memB false l1 z) = true := fun z => (mem z).trans List.mem_filter
          exact q r l' H2 ch' (by omega) (fun z => by
            have := mem2 z
            unfold memB at this ⊢
            by_cases c : z ∈ l2 <;> by_cases c2 : z ∈ l1 <;> simp_all) (s'.trans s2)
      | false =>
        refine if_neg_of rfl ?_
        refine ⟨_, rfl, a, C, dx, _, _, rfl, h1, T.cl, T.nP, chF_p _ _, _, rfl, b, C, dy, _, _, rfl, g1, T.cl, T.nP, chF_p _ _, ?_⟩
        refine cat_use (xs := l1) (ys := l2) (.inl (.inl h2)) (.inl (.inl g2)) few fun c H' hc s' => ?_
        refine make_ch (CB := CB) (tup := true) (e := false) (ns := l1 ++ l2) hc (fun z hz => (List.mem_append.mp hz).elim (ch1.prm z) (ch2.prm z)) (by rw [List.length_append]; exact few) fun r l' H2 mem len ch' s2 => ?_
        rw [List.length_append] at len
        exact q r l' H2 ch' len (fun z => by
          have := mem z
          rw [List.mem_append] at this
          unfold memB
          by_cases c1 : z ∈ l1 <;> by_cases c2 : z ∈ l2 <;> simp_all) (s'.trans s2)
-- part chars5
abbrev s_ceq : Stmt := inClass (top 19) 13
theorem sc_ceq : FnScope ["self", "other"] ["self", "other"] (defScope s_ceq) := ⟨rfl, rfl, rfl, by decide +kernel, rfl, by decide +kernel, by decide +kernel⟩
def spCeq (C : Addr) : Sp := fun vs H Q _ => ∃ (a b : Addr) (e1 e2 : Bool) (l1 l2 : List Int), vs = [.ref a, .ref b] ∧ CharsAt C H a e1 l1 ∧ CharsAt C H b e2 l2 ∧ Q (.bl (decide (e1 = e2 ∧ l1 = l2))) H
theorem ok_ceq {f C : Addr} {fd : FuncData} (TT : Txt mg) (T : ChT K mg C) (F : Fun K "__eq__" "Chars.__eq__" s_ceq f fd) : FnOk P w K mg base CX0 1 f fd ["self", "other"] (spCeq C) := by
  refine F.ok sc_ceq (fun vs H Q E h => ?_) (fun cdv A outer s H vs Q E hr h => ?_)
  · obtain ⟨a, b, _, _, _, _, rfl, _⟩ := h
    rfl
  · obtain ⟨a, b, e1, e2, l1, l2, rfl, ch1, ch2, q⟩ := h
    obtain ⟨dx, t, h1, h2⟩ := ch1.ob
    obtain ⟨dy, u, g1, g2⟩ := ch2.ob
    refine ⟨_, (pss_one (ps_ret (pe_and (pe_callB (C8.call_isC T.isC) (by rfl) TT.isinstance boot_isinstance (pa_cons (pv 1) (pa_cons (pe_glob (v := .ref C) (by rfl) T.g rfl) pa_nil))) (pe_and (pe_cmpR op_eq (pe_fld (pv 0) rfl) (pe_fld (pv 1) rfl) (nomark _)) (pe_one (pe_cmpR (op_eqD (hu64 hr)) (pe_fld (pv 0) rfl) (pe_fld (pv 1) rfl) (nomark _))))))), ?_⟩
    refine ⟨_, rfl, b, dy, _, rfl, g1, _, rfl, if_pos_of rfl ?_⟩
    refine ⟨_, rfl, a, C, dx, _, _, rfl, h1, T.cl, T.nE, chF_e _ _, _, rfl, b, C, dy, _, _, rfl, g1, T.cl, T.nE, chF_e _ _, rfl, _, rfl, ?_⟩
    by_cases c : e1 = e2
    · refine if_pos_of (decide_eq_true (by rw [c])) ?_
      refine ⟨_, rfl, a, C, dx, _, _, rfl, h1, T.cl, T.nP, chF_p _ _, _, rfl, b, C, dy, _, _, rfl, g1, T.cl, T.nP, chF_p _ _, _, _, dp_tup (.inl (.inl h2)), dp_tup (.inl (.inl g2)), shaped_intsT _, shaped_intsT _, ?_⟩
      rw [eqv_intsT]
      have z : decide (e1 = e2 ∧ l1 = l2) = decide (l1 = l2) := by simp [c]
      rw [z] at q
      exact q
    · refine if_neg_of (decide_eq_false fun z => c (V.bl.inj z)) ?_
      rw [decide_eq_false fun z => c z.1] at q
      exact q
abbrev s_cbool : Stmt := inClass (top 19) 14
theorem sc_cbool : FnScope ["self"] ["self"] (defScope s_cbool) := ⟨rfl, rfl, rfl, by decide +kernel, rfl, by decide +kernel, by decide +kernel⟩
def spCbool (C : Addr) : Sp := fun vs H Q _ => ∃ (a : Addr) (e : Bool) (l : List Int), vs = [.ref a] ∧ CharsAt C H a e l ∧ Q (.bl (e || !l.isEmpty)) H
theorem ok_cbool {f C : Addr} {fd : FuncData} (TT : Txt mg) (T : ChT K mg C) (F : Fun K "__bool__" "Chars.__bool__" s_cbool f fd) : FnOk P w K mg base CX0 1 f fd ["self"] (spCbool C) := by
  refine F.ok sc_cbool (fun vs H Q E h => ?_) (fun cdv A outer s H vs Q E hr h => ?_)
  · obtain ⟨a, e, l, rfl, _⟩ := h
    rfl
  · obtain ⟨a, e, l, rfl, ch, q⟩ := h
    obtain ⟨dx, t, h1, h2⟩ := ch.ob
    refine ⟨_, (pss_one (ps_ret (pe_callTy cr_boolT (by rfl) TT.bool boot_bool (pa_cons (pe_orT (pe_fld (pv 0) rfl) (pe_one (pe_fld (pv 0) rfl))) pa_nil)))), ?_⟩
    refine ⟨_, rfl, a, C, dx, _, _, rfl, h1, T.cl, T.nE, chF_e _ _, e, rfl, ?_⟩
    cases e with
    | true => exact if_pos_of rfl (.inl ⟨_, rfl, q⟩)
    | false =>
      refine if_neg_of rfl ?_
      refine ⟨_, rfl, a, C, dx, _, _, rfl, h1, T.cl, T.nP, chF_p _ _, .inr ⟨t, _, rfl, .inl (.inl h2), ?_⟩⟩
      have z : (l.map V.int).isEmpty = l.isEmpty := by cases l <;> rfl
      rw [z]
      exact q
abbrev s_cevery : Stmt := inClass (top 19) 1
theorem sc_cevery : FnScope ["cls"] ["cls"] (defScope s_cevery) := ⟨rfl, rfl, rfl, by decide +kernel, rfl, by decide +kernel, by decide +kernel⟩
def spCevery (C : Addr) (e : Bool) : Sp := fun vs H Q _ => vs = [.ref C] ∧ ∀ r H', CharsAt C H' r e [] → Same H H' → Q (.ref r) H'
theorem ok_cevery {f C CB : Addr} {fd : FuncData} (T : ChT K mg C) (F : Fun K "every" "Chars.every" s_cevery f fd) (c_cit : Ma P w K mg base 3 C (spCI C CB true K)) : FnOk P w K mg base CX0 5 f fd ["cls"] (spCevery C true) := by
  refine F.ok sc_cevery (fun vs H Q E h => ?_) (fun cdv A outer s H vs Q E hr h => ?_)
  · obtain ⟨rfl, _⟩ := h
    rfl
  · obtain ⟨rfl, q⟩ := h
    refine ⟨_, (pss_one (ps_ret (pe_maL (i := 0) c_cit hr rfl (pa_cons pe_bl (pa_cons (pe_tup pa_nil) pa_nil))))), ?_⟩
    refine ⟨rfl, (by show 0 ≤ sizeLine; decide), fun t nt => ?_⟩
    refine make_ch (CB := CB) (tup := true) (e := true) (ns := []) (.inl (.inl upd_same)) (fun _ h => nomatch h) (by decide) fun r l H' mem len ch s' => ?_
    have el : l = [] := List.length_eq_zero_iff.mp (Nat.le_zero.mp len)
    subst el
    exact q r H' ch ((same_upd nt).trans s')
-- part chars5z
abbrev s_czero : Stmt := inClass (top 19) 5
theorem sc_czero : FnScope ["cls", "n"] ["cls", "n"] (defScope s_czero) := ⟨rfl, rfl, rfl, by decide +kernel, rfl, by decide +kernel, by decide +kernel⟩
def zl (n : Int) (l : List Int) : Prop := (n = 0 → l = []) ∧ (n ≠ 0 → PD (absI n) l) ∧ l.length < 62 ∧ (n ≠ 0 → (2 : Int) ^ l.length ≤ absI n)
def spCzero (C : Addr) (neg : Bool) : Sp := fun vs H Q _ => ∃ n : Int, vs = [.ref C, .int n] ∧ absI n < 2 ^ 62 ∧ ∀ r l H', CharsAt C H' r (if neg = true then !decide (n = 0) else decide (n = 0)) l → zl n l → Same H H' → Q (.ref r) H'
theorem ok_czero {f C CB CN : Addr} {fd : FuncData} (T : ChT K mg C) (F : Fun K "zero_of" "Chars.zero_of" s_czero f fd) (c_cil : Ma P w K mg base 3 C (spCI C CB false K)) (c_every : Cm P w K mg base 5 C "every" (spCevery C true)) (c_divs : Cl P w K mg base (L2N.CX P w) 3 "prime_divisors" (spDivs CN)) : FnOk P w K mg base CX0 6 f fd ["cls", "n"] (spCzero C false) := by
  refine F.ok sc_czero (fun vs H Q E h => ?_) (fun cdv A outer s H vs Q E hr h => ?_)
  · obtain ⟨n, rfl, _⟩ := h
    rfl
  · obtain ⟨n, rfl, hb, q⟩ := h
    refine ⟨_, (pss_cons (ps_if (pt_cmpR op_eq (pv 1) pe_int (nomark _)) (pss_one (ps_ret (pe_cm0 c_every hr (pv 0) ))) pss_nil)
 (pss_one (ps_ret (pe_maL (i := 0) c_cil hr rfl (pa_cons pe_bl (pa_cons (pe_clN0 c_divs hr (pa_cons (pv 1) pa_nil)) pa_nil)))))), ?_⟩
    refine ⟨_, rfl, rfl, _, rfl, ?_⟩
    by_cases c : n = 0
    · refine if_pos_of (by simp [c]) ?_
      refine ⟨_, rfl, rfl, rfl, fun r H' ch s' => ?_⟩
      refine q r [] H' ?_ ⟨fun _ => rfl, fun h => absurd c h, by decide, fun h => absurd c h⟩ s'
      rw [if_neg (by decide), decide_eq_true c]
      exact ch
    · refine if_neg_of (by simp [c]) ?_
      refine ⟨rfl, _, rfl, n, rfl, hb, fun h => absurd h c, fun _ l a H' pd hl h2 s' na ha => ?_⟩
      have bd : ∀ z ∈ l, Pr z ∧ z < 2 ^ 62 := fun z hz => by
        obtain ⟨h1, h2⟩ := (pd.2 z).mp hz
        have := Int.le_of_dvd (by unfold absI; split <;> omega) h2
        exact ⟨h1, by omega⟩
      refine make_ch (CB := CB) (tup := false) (e := false) (ns := l) (SqL.of ha) bd (by omega) fun r l' H2 mem len ch s2 => ?_
      have el : l' = l := sorted_uniq ch.srt pd.1 mem
      subst el
      refine q r l' H2 ?_ ⟨fun h => absurd h c, fun _ => pd, hl, fun _ => h2⟩ (s'.trans s2)
      rw [if_neg (by decide), decide_eq_false c]
      exact ch
abbrev s_cunit : Stmt := inClass (top 19) 6
theorem sc_cunit : FnScope ["cls", "n"] ["cls", "n"] (defScope s_cunit) := ⟨rfl, rfl, rfl, by decide +kernel, rfl, by decide +kernel, by decide +kernel⟩
theorem ok_cunit {f C : Addr} {fd : FuncData} (F : Fun K "unit_of" "Chars.unit_of" s_cunit f fd) (c_zero : Cm P w K mg base 6 C "zero_of" (spCzero C false)) (c_inv : Me P w K mg base 5 C "__invert__" (spInv C)) : FnOk P w K mg base CX0 7 f fd ["cls", "n"] (spCzero C true) := by
  refine F.ok sc_cunit (fun vs H Q E h => ?_) (fun cdv A outer s H vs Q E hr h => ?_)
  · obtain ⟨n, rfl, _⟩ := h
    rfl
  · obtain ⟨n, rfl, hb, q⟩ := h
    refine ⟨_, (pss_one (ps_ret (pe_un (un_inv1 c_inv hr) (pe_cm c_zero hr (pv 0) (pa_cons (pv 1) pa_nil))))), ?_⟩
    refine ⟨_, rfl, rfl, _, rfl, n, rfl, hb, fun r l H' ch hz s' => ?_⟩
    obtain ⟨dx, t, h1, h2⟩ := ch.ob
    refine ⟨r, dx, _, rfl, h1, r, _, l, rfl, ch, by have := hz.2.2.1; omega, fun r2 H2 ch2 s2 => ?_⟩
    rw [if_neg (by decide)] at ch2
    refine q r2 l H2 ?_ hz (s'.trans s2)
    rw [if_pos rfl]
    exact ch2
-- part chars6
/-- only and but: the primes as they are told -/
def spStar (C : Addr) (e : Bool) : Sp := fun vs H Q _ => ∃ ns : List Int, vs = .ref C :: ns.map V.int ∧ (∀ q ∈ ns, Pr q ∧ q < 2 ^ 62) ∧ ns.length < 64 ∧ ∀ r l H', (∀ q, q ∈ l ↔ q ∈ ns) → CharsAt C H' r e l → Same H H' → Q (.ref r) H'
/-- the body's own promise: the tuple is laid -/
def spStarB (C : Addr) (e : Bool) : Sp := fun vs H Q _ => ∃ (t : Addr) (ns : List Int), vs = [.ref C, .ref t] ∧ H t = some (.tup (ns.map V.int)) ∧ (∀ q ∈ ns, Pr q ∧ q < 2 ^ 62) ∧ ns.length < 64 ∧ ∀ r l H', (∀ q, q ∈ l ↔ q ∈ ns) → CharsAt C H' r e l → Same H H' → Q (.ref r) H'
theorem star_of {f C : Addr} {e : Bool} (F : FnR P w K mg base CX0 5 f (fun vs H Q E => ∃ ws rest, vs = ws ++ rest ∧ ws.length = (["cls"] : List Str).length ∧ rest.length ≤ sizeLine ∧ ∀ p, H p = none → spStarB C e (ws ++ [V.ref p]) (upd H p (.tup rest)) Q E)) : FnR P w K mg base CX0 5 f (spStar C e) := by
  intro A outer s H us vs Q E hr e0 r h
  obtain ⟨ns, rfl, hp, few, q⟩ := h
  refine F A outer s H us _ Q E hr e0 r ⟨[.ref C], ns.map V.int, rfl, rfl, ?_, fun p np => ⟨p, ns, rfl, upd_same, hp, few, fun r' l H' mem ch s' => q r' l H' mem ch ((same_upd np).trans s')⟩⟩
  rw [List.length_map]
  exact Nat.le_of_lt (small1000 (by omega))
/-- a set is unequal to a tuple -/
def spCeqT (C : Addr) : Sp := fun vs H Q _ => ∃ (a b : Addr) (e : Bool) (l : List Int) (zs : List V), vs = [.ref a, .ref b] ∧ CharsAt C H a e l ∧ H b = some (.tup zs) ∧ Q (.bl false) H
theorem ok_ceqT {f C : Addr} {fd : FuncData} (TT : Txt mg) (T : ChT K mg C) (kt : PySem.W.kitOne K (.type "tuple") (.ref C) = some false) (F : Fun K "__eq__" "Chars.__eq__" s_ceq f fd) : FnOk P w K mg base CX0 1 f fd ["self", "other"] (spCeqT C) := by
  refine F.ok sc_ceq (fun vs H Q E h => ?_) (fun cdv A outer s H vs Q E hr h => ?_)
  · obtain ⟨a, b, _, _, _, rfl, _⟩ := h
    rfl
  · obtain ⟨a, b, e, l, zs, rfl, ch, hb, q⟩ := h
    refine ⟨_, (pss_one (ps_ret (pe_and (pe_callB call_isi (by rfl) TT.isinstance boot_isinstance (pa_cons (pv 1) (pa_cons (pe_glob (v := .ref C) (by rfl) T.g rfl) pa_nil))) (pe_and (pe_cmpR op_eq (pe_fld (pv 0) rfl) (pe_fld (pv 1) rfl) (nomark _)) (pe_one (pe_cmpR (op_eqD (hu64 hr)) (pe_fld (pv 0) rfl) (pe_fld (pv 1) rfl) (nomark _))))))), ?_⟩
    exact ⟨_, rfl, _, _, _, _, false, rfl, .own C, .base (.tup hb), kt, _, rfl, if_neg_of rfl q⟩
abbrev s_conly : Stmt := inClass (top 19) 3
theorem sc_conly : FnScope ["cls", "ps"] ["cls", "ps"] (defScope s_conly) := ⟨rfl, rfl, rfl, by decide +kernel, rfl, by decide +kernel, by decide +kernel⟩
theorem ok_conly {f C CB : Addr} {fd : FuncData} (T : ChT K mg C) (F : Fun K "only" "Chars.only" s_conly f fd) (c_cit : Ma P w K mg base 3 C (spCI C CB true K)) : FnR P w K mg base CX0 5 f (spStar C false) := by
  obtain ⟨oc, od, kV, doc, pm, an, cdv, ct, osl, rfl, lk, hcd⟩ := F.ex
  refine star_of (StX.fn_star lk hcd sc_conly StX.cxUp_none (StX.bind_star1 (B := fun xs => bindArgs (PySem.W.fnOf "only" "Chars.only" (defArgs s_conly) (defBody s_conly) (defScope s_conly) .none kV doc pm an cdv ct) ⟨xs, []⟩) (fun a => rfl) (fun a r rs => rfl)) fun A outer s H vs Q E hr h => ?_)
  obtain ⟨t, ns, rfl, ht, hp, few, q⟩ := h
  refine ⟨_, (pss_one (ps_ret (pe_maL (i := 0) c_cit hr rfl (pa_cons pe_bl (pa_cons (pv 1) pa_nil))))), ?_⟩
  refine ⟨rfl, _, rfl, ?_⟩
  exact make_ch (CB := CB) (tup := true) (e := false) (ns := ns) (.inl (.inl ht)) hp few fun r l H' mem len ch s' => q r l H' mem ch s'
abbrev s_cbut : Stmt := inClass (top 19) 4
theorem sc_cbut : FnScope ["cls", "ps"] ["cls", "ps"] (defScope s_cbut) := ⟨rfl, rfl, rfl, by decide +kernel, rfl, by decide +kernel, by decide +kernel⟩
theorem ok_cbut {f C CB : Addr} {fd : FuncData} (T : ChT K mg C) (F : Fun K "but" "Chars.but" s_cbut f fd) (c_cit : Ma P w K mg base 3 C (spCI C CB true K)) : FnR P w K mg base CX0 5 f (spStar C true) := by
  obtain ⟨oc, od, kV, doc, pm, an, cdv, ct, osl, rfl, lk, hcd⟩ := F.ex
  refine star_of (StX.fn_star lk hcd sc_cbut StX.cxUp_none (StX.bind_star1 (B := fun xs => bindArgs (PySem.W.fnOf "but" "Chars.but" (defArgs s_cbut) (defBody s_cbut) (defScope s_cbut) .none kV doc pm an cdv ct) ⟨xs, []⟩) (fun a => rfl) (fun a r rs => rfl)) fun A outer s H vs Q E hr h => ?_)
  obtain ⟨t, ns, rfl, ht, hp, few, q⟩ := h
  refine ⟨_, (pss_one (ps_ret (pe_maL (i := 0) c_cit hr rfl (pa_cons pe_bl (pa_cons (pv 1) pa_nil))))), ?_⟩
  refine ⟨rfl, _, rfl, ?_⟩
  exact make_ch (CB := CB) (tup := true) (e := true) (ns := ns) (.inl (.inl ht)) hp few fun r l H' mem len ch s' => q r l H' mem ch s'
-- part chars6m
/-- a set is made at x, what follows is any word -/
theorem make_at {C CB : Addr} {tup : Bool} {H1 : Hp} {e : Bool} {a x dx : Addr} {ns : List Int} {R : VK} (hx : H1 x = none) (hdx : H1 dx = none) (hS : if tup = true then SqT K H1 a (ns.map V.int) else SqL K H1 a (ns.map V.int)) (hp : ∀ q ∈ ns, Pr q ∧ q < 2 ^ 62) (few : ns.length < 64)
    (k : ∀ (l : List Int) (H2 : Hp), (∀ q, q ∈ l ↔ q ∈ ns) → l.length ≤ ns.length → CharsAt C H2 x e l → Same H1 H2 → R .non H2) :
    spCI C CB tup K (.ref x :: ([.bl e, .ref a] ++ [])) (upd (upd H1 dx (.own x)) x (.ins C dx [])) R E0 := by
  have s1 : Same H1 (upd (upd H1 dx (.own x)) x (.ins C dx [])) := fun b o eb => by
    rw [upd_ne (ne_of_none eb hx), upd_ne (ne_of_none eb hdx)]
    exact eb
  refine ⟨x, dx, a, e, ns, rfl, upd_same, ?_, fun q hq => (hp q hq).2, few, fun _ l H' mem len ch keep => k l H' mem len ch fun b o eb => keep b o (s1 b o eb) (ne_of_none eb hx), fun i b hi hb _ => absurd (hp b (List.mem_of_getElem? hi)).1 hb⟩
  cases tup with
  | true =>
    have h : SqT K H1 a (ns.map V.int) := hS
    show SqT K _ a (ns.map V.int)
    exact Evl.ex_t s1 h
  | false =>
    have h : SqL K H1 a (ns.map V.int) := hS
    exact s1.seq h
-- part errpa
/-! own errors of one attribute whose __init__ asks something of the argument -/
def spInitP (C : Addr) (fld : Str) (ok : V → Prop) : Sp := fun vs H Q _ => ∃ (a : Addr) (v : V), vs = [.ref a, v] ∧ ok v ∧ H a = some (exo a C none) ∧
  ∀ d, H d = none → d ≠ a → Q .non (upd (upd H d (exd d [(fld, v)])) a (exo a C (some d)))
structure ErP (P : Program) (w : World) (K : PySem.W.Frag) (mg : Str → Option Value) (base : Heap) (nm fld : Str) (C : Addr) (ok : V → Prop) : Prop where
  ex : ∃ (fI : Addr) (fd : FuncData) (ps : List Str), ErrC K mg nm fld C fI ∧ FnOk P w K mg base CX0 1 fI fd ps (spInitP C fld ok) ∧ Binds K fd ps []
theorem ps_raiseP {X : Cx} {W : WX} {x fld : Str} {C : Addr} {ok : V → Prop} {j : Nat} {e : Expr} {ta : TA} {p pos pos' : Pos} (c : ErP X.prog X.w X.K X.mg X.base x fld C ok) (hr : Room j X.A) (tk : L2N.Takes X W) (ha : PA X [e] ta) (hj : 2 ≤ j := by decide) (hcalm : X.calm = true := by rfl) (hg : Gl X x := by rfl)
    (hdb : (x == ("__debug__" : Str)) = false := by decide) (he : starEach [e] X.env = (false, eval e X.env) :: starEach [] X.env := by rfl) (hpl : (backTo pos (starEach [] X.env)).any (·.1) = false := by rfl) :
    PS X (.Raise (some (.Call (.Name x p) [e] [] pos)) none pos') (fun _ σ H => tMkO C (spInitP C fld ok) [] ta σ H fun cls d H' => W cls d σ H') := by
  obtain ⟨fI, fd, ps, T, F, b⟩ := c.ex
  exact L2N.ps_raise hcalm tk (pmk_oexN (X := X) (p := p) (pos := pos) T.oex T.iC T.tI F (hr.mono hj) b .nil hg T.g ha hdb he hpl)
theorem mkP {C : Addr} {fld : Str} {ok : V → Prop} {v : V} {H1 : Hp} {Q : XK} (o : ok v) (k : ∀ d H2, Same H1 H2 → H1 d = none → H2 d = some (.xd [(fld, v)]) → Q (.ref C) (some d) H2) :
    ([v] : List V).length ≤ 1000 ∧ ∀ a, H1 a = none → spInitP C fld ok (.ref a :: ([v] ++ [])) (upd H1 a (exo a C none))
      (fun u H2 => u = .non ∧ ∃ (d : Addr) (fs : List (Str × V)), H2 a = some (exo a C (some d)) ∧ H2 d = some (exd d fs) ∧ H1 d = none ∧ Q (.ref C) (some d) (upd (del H2 a) d (.xd fs))) (fun _ _ _ => False) := by
  obtain ⟨h1, h2⟩ := mk1 (C := C) (fld := fld) (v := v) (H1 := H1) (Q := Q) k
  refine ⟨h1, fun a ha => ?_⟩
  obtain ⟨a', v', e, ha', q⟩ := h2 a ha
  exact ⟨a', v', e, by rw [show v' = v from by simpa using (List.cons.inj (List.cons.inj e).2).1.symm]; exact o, ha', q⟩
/-- an index that is written in a message -/
def okNat : V → Prop := fun v => ∃ n : Nat, v = .int (n : Int) ∧ n < 2 ^ 62
theorem log_nat {n : Nat} (h : n < 2 ^ 62) : (n : Int).natAbs.log2 < 1920 := by
  show n.log2 < 1920
  by_cases c : n = 0
  · rw [c]
    decide
  · have := (Nat.log2_lt c).mpr h
    omega
theorem str_len (x : Str) : x.length = (TL.tl x).length := TL.len_tl x
theorem num_len {n : Nat} (h : n < 2 ^ 62) : (Str.ofString (toString (n : Int))).length ≤ 19 := by
  rw [str_len, TL.tl_num]
  exact TL.numL_len (by decide) (Nat.lt_of_lt_of_le h (by decide))
theorem app_len (x y : Str) : (x ++ y).length = x.length + y.length := by
  rw [str_len, TL.tl_append, List.length_append, ← str_len, ← str_len]
theorem empty_app (x : Str) : Str.empty ++ x = x := TL.ext_tl (by rw [TL.tl_append] <;> rfl)
-- part errm
-- part errgf
/-- {t}, t a tuple of ints -/
theorem repr_ints {prog : Program} {w : World} : ∀ {l : List Int} {its : List Value}, Vals (l.map V.int) its → (∀ i ∈ l, i.natAbs.log2 < 1920) → ReprAll prog w its (l.map fun i => Str.ofString (toString i))
  | [], _, r, _ => by
    cases r
    exact .nil
  | i :: l, _, r, h => by
    cases r with
    | cons r1 r2 =>
      obtain ⟨t, rfl⟩ := r1
      exact .cons (ReprIs.int t (h i List.mem_cons_self)) (repr_ints r2 fun z hz => h z (List.mem_cons_of_mem _ hz))
theorem piled_ints : ∀ l : List Int, (∀ i ∈ l, i.natAbs.log2 < 1920) → piled (l.map fun i => Str.ofString (toString i)) ≤ l.length * 1925
  | [], _ => Nat.zero_le _
  | i :: l, h => by
    have h1 := int_text_len_1921 (h i List.mem_cons_self)
    have h2 := piled_ints l fun z hz => h z (List.mem_cons_of_mem _ hz)
    rw [List.map_cons, piled_cons, List.length_cons, Nat.succ_mul]
    omega
def tFmtI (K : PySem.W.Frag) (te : TE) : TE := fun σ H Q => te σ H fun x H1 => ∃ (a : Addr) (l : List Int), x = .ref a ∧ SqT K H1 a (l.map V.int) ∧ (∀ i ∈ l, i.natAbs.log2 < 1920) ∧ l.length ≤ 10 ∧ ∀ m : Str, m.length ≤ 20000 → Q (.str m) H1
theorem pe_fmtI {X : Cx} {e : Expr} {te : TE} {pos : Pos} {k : Nat} (hr : Room k X.A) (he : PE X e te) : PE X (.FormattedValue e (-1) none pos) (tFmtI X.K te) := by
  refine ⟨fun pins s σ H Q I h => wpAny_FormattedValue_plain (thn (he.run pins s σ H _ I h) fun v s1 hv => ?_)⟩
  obtain ⟨x, H1, I1, r1, a, l, rfl, ht, hc, few, q⟩ := hv
  cases r1
  obtain ⟨its, rv, ⟨o, ho, hcl, n, hd⟩, _⟩ := I1.tuple ht
  have h1 := piled_ints l hc
  have h2 := fmt_text (l.map fun i => Str.ofString (toString i))
  have hu := hr.units
  have h3 : l.length * 1925 ≤ 10 * 1925 := Nat.mul_le_mul_right _ few
  exact fmt_tuple (ts := l.map fun i => Str.ofString (toString i)) (by omega) ho hcl hd (repr_ints rv hc) (by rw [sizeLine_eq]; omega) fun m u tk hm => ⟨.str m, H1, I1.tok _, ⟨u, rfl⟩, q m (by omega)⟩
-- part objs
/-! comprehensions that make lists of objects -/
/-- what a heap but for D holds -/
def But (D : Addr) (H H' : Hp) : Prop := ∀ b o, b ≠ D → H b = some o → H' b = some o
theorem But.upd {D : Addr} {H : Hp} {o : HO} : But D H (upd H D o) := fun b u hb e => by
  rw [upd_ne hb]
  exact e
theorem But.of {D : Addr} {H H' : Hp} (s : Same H H') : But D H H' := fun b o _ e => s b o e
theorem sqT_but {K : PySem.W.Frag} {D q : Addr} {H H' : Hp} {xs : List V} (h : SqT K H q xs) (ne : q ≠ D) (k : But D H H') : SqT K H' q xs := by
  rcases h with (h | ⟨o, h⟩) | h
  · exact .inl (.inl (k _ _ ne h))
  · exact .inl (.inr ⟨o, k _ _ ne h⟩)
  · exact .inr h
theorem sqL_but {K : PySem.W.Frag} {D q : Addr} {H H' : Hp} {xs : List V} (h : SqL K H q xs) (ne : q ≠ D) (k : But D H H') : SqL K H' q xs := by
  rcases h with (h | ⟨o, h⟩) | h
  · exact .inl (.inl (k _ _ ne h))
  · exact .inl (.inr ⟨o, k _ _ ne h⟩)
  · exact .inr h
/-- what is told of the j-th object stands while only D changes -/
def Stab (D : Addr) (R : Nat → V → Hp → Prop) : Prop := ∀ j v H H', R j v H → v ≠ .ref D → But D H H' → R j v H'
def PvO (H1 : Hp) (D : Addr) (R : Nat → V → Hp → Prop) (i : Nat) (H : Hp) : Prop := Same H1 H ∧ ∃ acc, H D = some (.lst acc) ∧ acc.length = i ∧ ∀ j v, acc[j]? = some v → v ≠ .ref D ∧ R j v H
theorem objEnd {H1 H H4 : Hp} {D : Addr} {R : Nat → V → Hp → Prop} {i : Nat} {y : V} (st : Stab D R) (hD : H1 D = none) (p : PvO H1 D R i H) (s4 : Same H H4) (few : i < 1000) (ny : y ≠ .ref D) (ry : R i y H4) :
    ∃ acc, H4 D = some (.lst acc) ∧ acc.length < sizeLine ∧ PvO H1 D R (i + 1) (upd H4 D (.lst (acc ++ [y]))) := by
  obtain ⟨s, acc, ha, hl, hr⟩ := p
  refine ⟨acc, s4 _ _ ha, small1000 (by omega), fun b o eb => ?_, acc ++ [y], upd_same, ?_, fun j v hv => ?_⟩
  · rw [upd_ne (ne_of_none eb hD)]
    exact s4 b o (s b o eb)
  · rw [List.length_append, hl]
    rfl
  · by_cases c : j < acc.length
    · rw [List.getElem?_append_left c] at hv
      obtain ⟨nv, rv⟩ := hr j v hv
      exact ⟨nv, st j v _ _ (st j v _ _ rv nv (But.of s4)) nv But.upd⟩
    · rw [List.getElem?_append_right (by omega)] at hv
      have e : j = i := by
        by_cases e : j - acc.length = 0
        · omega
        · rw [List.getElem?_eq_none (by show 1 ≤ j - acc.length; omega)] at hv
          cases hv
      subst e
      rw [hl, Nat.sub_self] at hv
      cases hv
      exact ⟨ny, st j y _ _ ry ny But.upd⟩
section
variable {J : It} {n : Nat} {G : Hp → Prop} {Y : Nat → Hp → V → Hp → Prop}
theorem lcObj (w : Walk J n G Y) {g : TG} {tt : TT} {te : TE} {vs : List Nat} {σ : L2.St} {H1 : Hp} {D : Addr} {Qd : Hp → Prop} (R : Nat → V → Hp → Prop) (hD : H1 D = none) (hG : ∀ H, Same H1 H → G H)
    (hs : ∀ i x H H', i < n → PvO H1 D R i H → Y i H x H' → g x (wipe σ vs) H' fun σ2 H2 => wipe σ2 vs = wipe σ vs ∧ tt σ2 H2 fun b H3 =>
      if b = true then te σ2 H3 fun y H4 => ∃ acc, H4 D = some (.lst acc) ∧ acc.length < sizeLine ∧ PvO H1 D R (i + 1) (upd H4 D (.lst (acc ++ [y]))) else PvO H1 D R (i + 1) H3)
    (hd : ∀ H acc, Same H1 H → H D = some (.lst acc) → acc.length = n → (∀ j v, acc[j]? = some v → v ≠ .ref D ∧ R j v H) → Qd H) :
    ∃ W : Nat → Nat → Hp → Prop, (∃ m, W 0 m (upd H1 D (.lst []))) ∧ ∀ i m H, W i m H →
      (J.stop i H ∧ Qd H) ∨ (J.go i H ∧ ∃ Nx : Hp → Prop, (∀ H', Nx H' → ∃ m', m' < m ∧ W (i + 1) m' H') ∧ ∀ x H', J.yld i H x H' → g x (wipe σ vs) H' fun σ2 H2 => wipe σ2 vs = wipe σ vs ∧ tt σ2 H2 fun b H3 =>
        if b = true then te σ2 H3 fun y H4 => ∃ acc, H4 D = some (.lst acc) ∧ acc.length < sizeLine ∧ Nx (upd H4 D (.lst (acc ++ [y]))) else Nx H3) :=
  lc_it w (PvO H1 D R) ⟨same_upd hD, [], upd_same, rfl, fun j v h => by cases h⟩ (fun _ H _ h => hG H h.1) hs fun H h => by
    obtain ⟨s, acc, a, b, c⟩ := h
    exact hd H acc s a b c
end
/-- the j-th is a list of ints, a tuple of ints -/
def RL (w : Nat) (f : Nat → Nat → Int) : Nat → V → Hp → Prop := fun i v H => ∃ q, v = .ref q ∧ H q = some (.lst ((rngN w (f i)).map V.int))
def RT (g : Nat → List Int) : Nat → V → Hp → Prop := fun i v H => ∃ q, v = .ref q ∧ H q = some (.tup ((g i).map V.int))
theorem stab_RL {w : Nat} {f : Nat → Nat → Int} {D : Addr} : Stab D (RL w f) := fun j v H H' h nv k => by
  obtain ⟨q, rfl, h⟩ := h
  exact ⟨q, rfl, k _ _ (fun e => nv (by rw [e])) h⟩
theorem stab_RT {g : Nat → List Int} {D : Addr} : Stab D (RT g) := fun j v H H' h nv k => by
  obtain ⟨q, rfl, h⟩ := h
  exact ⟨q, rfl, k _ _ (fun e => nv (by rw [e])) h⟩
/-- an address that stands is no new one -/
theorem ref_ne {H : Hp} {q D : Addr} {o : HO} (hq : H q = none) (hD : H D = some o) : V.ref q ≠ V.ref D := fun e => by
  have := V.ref.inj e
  rw [this, hD] at hq
  cases hq
theorem pe_tupleOfK {X : Cx} {K : PySem.W.Frag} {p pos : Pos} {a : Expr} {ta : TE} (hK : X.K = K) (hg : Gl X "tuple") (hm : X.mg "tuple" = none) (ha : PE X a ta)
    (na : starEach [a] X.env = (false, eval a X.env) :: starEach [] X.env := by rfl) : PE X (.Call (.Name "tuple" p) [a] [] pos) (tThen ta (kTup K)) := by
  subst hK
  exact pe_tupleOf hg hm ha na
theorem ref_ne2 {H : Hp} {q D : Addr} {xs ys : List V} (hq : H q = some (.tup xs)) (hD : H D = some (.lst ys)) : V.ref q ≠ V.ref D := fun e => by
  have := V.ref.inj e
  rw [this, hD] at hq
  cases hq
/-! walks, the frame named -/
section
variable {X : Cx} {K : PySem.W.Frag} {e e2 : Expr} {te : TE} {ta : TA} {tg : Expr} {p pos tpos : Pos} {elts : List Expr} {kk : Nat}
theorem pi_listK (hK : X.K = K) (he : PE X e te) : PI X tg e (iList K te) := by
  subst hK
  exact pi_list he
theorem pi_tupK (hK : X.K = K) (he : PE X e te) : PI X tg e (iTup K te) := by
  subst hK
  exact pi_tup he
theorem pi_zipAK (hK : X.K = K) (hg : Gl X "zip") (hm : X.mg "zip" = none) (ha : PA X [e, e2] ta)
    (hs : starEach [e, e2] X.env = (false, eval e X.env) :: starEach [e2] X.env := by rfl) (hpl : (backTo pos (starEach [e2] X.env)).any (·.1) = false := by rfl) :
    PI X (.Tuple elts kk tpos) (.Call (.Name "zip" p) [e, e2] [] pos) (RZ.iZipA K ta) := by
  subst hK
  exact RZ.pi_zipA hg hm ha hs hpl
end
theorem walk_zipT {K : PySem.W.Frag} {a b : Addr} {xs ys : List V} {n : Nat} (hn : n = min xs.length ys.length) : Walk (RZ.ItzT K a b) n (fun H => SqT K H a xs ∧ SqT K H b ys) (YPair (fun i => xs[i]?) (fun i => ys[i]?)) := by
  subst hn
  refine ⟨fun i _ hi q => ?_, fun _ q => ⟨xs, ys, q.1, q.2, by omega⟩, fun i H v H' _ q y => ?_⟩
  · have h1 : i < xs.length := by omega
    have h2 : i < ys.length := by omega
    exact ⟨xs, ys, xs[i], ys[i], q.1, q.2, by simp [h1], by simp [h2]⟩
  · obtain ⟨T, x, z, h1, h2, h3, h4, h5⟩ := y
    exact ⟨T, x, z, h1, h2, h3, h4 xs q.1, h5 ys q.2⟩
-- part methn
/-! methods and operators of an own class that may raise -/
structure MeN (P : Program) (w : World) (K : PySem.W.Frag) (mg : Str → Option Value) (base : Heap) (k : Nat) (C : Addr) (m : Str) (sp : Sp) : Prop where
  ex : ∃ (f : Addr) (fd : FuncData) (ps : List Str), Meth K C m f ∧ FnOk P w K mg base (L2N.CX P w) k f fd ps sp ∧ Binds K fd ps []
section
variable {X : Cx} {W : WX} {C : Addr} {m : Str} {sp : Sp} {k j : Nat} {o e a b : Expr} {es : List Expr} {ta tb : TE} {t : TA} {apos pos : Pos} {pl : Sem Bool}
/-- x op y, where it doesn't raise -/
theorem op_own2N {op : Operator} (c : MeN X.prog X.w X.K X.mg X.base k C m sp) (hr : Room j X.A) (sf : PySem.W.selfFirst X.K C = true) (hm : PySem.dunder op.info.2 = m := by decide +kernel) (hk : k ≤ j := by decide) : OpR X (binaryOp op) (rOwn2 C sp) := by
  obtain ⟨f, fd, ps, M, F, b⟩ := c.ex
  intro pins s σ H x y v u Q I rx ry h
  obtain ⟨a, b', dx, dy, fs, gs, rfl, rfl, ha, hb, q⟩ := h
  cases (show v = Value.ref a from rx)
  cases (show u = Value.ref b' from ry)
  obtain ⟨ox, od, J⟩ := inst_of I ha
  obtain ⟨oy, od', J'⟩ := inst_of I hb
  obtain ⟨mm, hF⟩ := I.fr
  refine PySem.W.binop_K hF I.ok.mod.kin J J'.type sf (by rw [hm]; exact M.at_) M.fn ?_
  refine wpAny_mono (run_fn (us := [.ref a, .ref b']) (vs := [.ref a, .ref b']) F (hr.mono hk) b .nil passN I (.cons rfl (.cons rfl .nil)) q) (fun u' s' z => ?_) fun _ _ x => x
  obtain ⟨z', H', I', rz, qz⟩ := z
  exact SlX.cmpback rz ⟨z', H', I', rz, qz⟩
/-- x op y, what it raises is taken -/
def tOp2S (C : Addr) (sp : Sp) (E : L2.St → XK) (ta tb : TE) : TE := fun σ H Q => ta σ H fun x H1 => tb σ H1 fun y H2 => ∃ a b dx dy fs gs, x = .ref a ∧ y = .ref b ∧ H2 a = some (.ins C dx fs) ∧ H2 b = some (.ins C dy gs) ∧ sp [x, y] H2 Q (E σ)
theorem pe_op2X {op : Operator} (c : MeN X.prog X.w X.K X.mg X.base k C m sp) (hr : Room j X.A) (tk : L2N.Takes X W) (sf : PySem.W.selfFirst X.K C = true) (ha : PE X a ta) (hb : PE X b tb) (hm : PySem.dunder op.info.2 = m := by decide +kernel) (hk : k ≤ j := by decide) : PE X (.BinOp a op b pos) (tOp2S C sp (WE W) ta tb) := by
  obtain ⟨f, fd, ps, M, F, bb⟩ := c.ex
  refine ⟨fun pins s σ H Q I h => ?_⟩
  refine wpAny_BinOp (binT ha hb I h fun v u s2 x y H2 I2 rx ry q => ?_)
  obtain ⟨a, b', dx, dy, fs, gs, rfl, rfl, ha, hb, q⟩ := q
  cases (show v = Value.ref a from rx)
  cases (show u = Value.ref b' from ry)
  obtain ⟨ox, od, J⟩ := inst_of I2 ha
  obtain ⟨oy, od', J'⟩ := inst_of I2 hb
  obtain ⟨mm, hF⟩ := I2.fr
  refine PySem.W.binop_K hF I2.ok.mod.kin J J'.type sf (by rw [hm]; exact M.at_) M.fn ?_
  refine wpAny_mono (run_fnS (us := [.ref a, .ref b']) (vs := [.ref a, .ref b']) (E := WE W) F (hr.mono hk) bb (L2N.passAt tk σ) I2 (.cons rfl (.cons rfl .nil)) q) (fun u' s' z => ?_) fun _ _ x => x
  obtain ⟨z', H', I', rz, qz⟩ := z
  exact SlX.cmpback rz ⟨z', H', I', rz, qz⟩
theorem pe_meN0 (c : MeN X.prog X.w X.K X.mg X.base k C m sp) (cl : Cls X.K C) (hr : Room j X.A) (he : PE X o ta) (hk : k ≤ j := by decide)
    (ht : eval (.Call (.Attribute o m apos) [] [] pos) X.env = (do
      let ov ← eval o X.env
      standAt apos.atName
      let (f, first) ← holding [ov] (getMethod ov m pl)
      callWith pos f first (backTo pos (starEach [] X.env)) (backToKw pos (keywordEach [] X.env))) := by rfl) :
    PE X (.Call (.Attribute o m apos) [] [] pos) (tMeth C m sp [] E0 ta tNil) := by
  obtain ⟨f, fd, ps, M, F, b⟩ := c.ex
  exact pe_meth0 he cl M F (hr.mono hk) b .nil passN ht
theorem pe_meN (c : MeN X.prog X.w X.K X.mg X.base k C m sp) (cl : Cls X.K C) (hr : Room j X.A) (he : PE X o ta) (ha : PA X (e :: es) t) (hk : k ≤ j := by decide)
    (hst : starEach (e :: es) X.env = (false, eval e X.env) :: starEach es X.env := by rfl) (hpl : (backTo pos (starEach es X.env)).any (·.1) = false := by rfl)
    (ht : eval (.Call (.Attribute o m apos) (e :: es) [] pos) X.env = (do
      let ov ← eval o X.env
      standAt apos.atName
      let (f, first) ← holding [ov] (getMethod ov m pl)
      callWith pos f first (backTo pos (starEach (e :: es) X.env)) (backToKw pos (keywordEach [] X.env))) := by rfl) :
    PE X (.Call (.Attribute o m apos) (e :: es) [] pos) (tMeth C m sp [] E0 ta t) := by
  obtain ⟨f, fd, ps, M, F, b⟩ := c.ex
  exact pe_meth he cl M F (hr.mono hk) b .nil passN ha hst hpl ht
/-- o.m(..), what it raises is taken -/
def tMethS (C : Addr) (m : Str) (sp : Sp) (E : L2.St → XK) (ta : TE) (t : TA) : TE := fun σ H Q => ta σ H fun x H1 => ∃ a dx fs, x = .ref a ∧ H1 a = some (.ins C dx fs) ∧ fs.lookup m = none ∧ t σ H1 fun vs H2 => sp (x :: vs) H2 Q (E σ)
theorem pe_meX (c : MeN X.prog X.w X.K X.mg X.base k C m sp) (cl : Cls X.K C) (hr : Room j X.A) (tk : L2N.Takes X W) (he : PE X o ta) (ha : PA X (e :: es) t) (hk : k ≤ j := by decide)
    (hst : starEach (e :: es) X.env = (false, eval e X.env) :: starEach es X.env := by rfl) (hpl : (backTo pos (starEach es X.env)).any (·.1) = false := by rfl)
    (ht : eval (.Call (.Attribute o m apos) (e :: es) [] pos) X.env = (do
      let ov ← eval o X.env
      standAt apos.atName
      let (f, first) ← holding [ov] (getMethod ov m pl)
      callWith pos f first (backTo pos (starEach (e :: es) X.env)) (backToKw pos (keywordEach [] X.env))) := by rfl) :
    PE X (.Call (.Attribute o m apos) (e :: es) [] pos) (tMethS C m sp (WE W) ta t) := by
  obtain ⟨f, fd, ps, M, F, b⟩ := c.ex
  refine ⟨fun pins s σ H Q I h => ?_⟩
  refine PySem.W.methodCall_KW (pl := pl) (thn (he.run pins s σ H _ I h) fun u s1 ⟨x, H1, I1, rx, a, dx, fs, ex, ea, l, q⟩ => ?_) ht
  subst ex
  obtain rfl : u = Value.ref a := rx
  refine getmeth_ok I1 ea cl M l ?_
  exact PySem.W.callWith_K (first := [.ref a]) (h₀ := X.base) I1.ok.mod.kin M.kp (thn (ha.run pos pins s1 σ H1 _ I1 q) fun us s2 ⟨vs, H2, I2, r, q2⟩ => ⟨I2.kIn, run_fnS (us := .ref a :: us) (vs := .ref a :: vs) (E := WE W) F (hr.mono hk) b (L2N.passAt tk σ) I2 (.cons rfl r) q2⟩) hst hpl
theorem pe_meX0 (c : MeN X.prog X.w X.K X.mg X.base k C m sp) (cl : Cls X.K C) (hr : Room j X.A) (tk : L2N.Takes X W) (he : PE X o ta) (hk : k ≤ j := by decide)
    (ht : eval (.Call (.Attribute o m apos) [] [] pos) X.env = (do
      let ov ← eval o X.env
      standAt apos.atName
      let (f, first) ← holding [ov] (getMethod ov m pl)
      callWith pos f first (backTo pos (starEach [] X.env)) (backToKw pos (keywordEach [] X.env))) := by rfl) :
    PE X (.Call (.Attribute o m apos) [] [] pos) (tMethS C m sp (WE W) ta tNil) := by
  obtain ⟨f, fd, ps, M, F, b⟩ := c.ex
  refine ⟨fun pins s σ H Q I h => ?_⟩
  refine PySem.W.methodCall_KW (pl := pl) (thn (he.run pins s σ H _ I h) fun u s1 ⟨x, H1, I1, rx, a, dx, fs, ex, ea, l, q⟩ => ?_) ht
  subst ex
  obtain rfl : u = Value.ref a := rx
  refine getmeth_ok I1 ea cl M l ?_
  exact PySem.W.callWith_K0 (first := [.ref a]) I1.kIn M.kp (run_fnS (us := [.ref a]) (vs := [.ref a]) (E := WE W) F (hr.mono hk) b (L2N.passAt tk σ) I1 (.cons rfl .nil) q)
end
-- part repjoin
/-- 'a' * n -/
def repS (z : Str) (n : Nat) : Str := ⟨(List.replicate n z.cps).foldl (· ++ ·) #[]⟩
theorem tl_rep (a : Array Nat) : ∀ (n : Nat) (acc : Array Nat), ((List.replicate n a).foldl (· ++ ·) acc).toList = acc.toList ++ (List.replicate n a.toList).flatten
  | 0, acc => by simp
  | n + 1, acc => by
    rw [List.replicate_succ, List.foldl_cons, tl_rep a n, Array.toList_append, List.replicate_succ, List.flatten_cons, List.append_assoc]
theorem tl_repS (z : Str) (n : Nat) : TL.tl (repS z n) = (List.replicate n (TL.tl z)).flatten := by
  show ((List.replicate n z.cps).foldl (· ++ ·) #[]).toList = _
  rw [tl_rep]
  rfl
theorem tl_rep1 {z : Str} {c : Nat} (h : TL.tl z = [c]) (n : Nat) : TL.tl (repS z n) = List.replicate n c := by
  rw [tl_repS, h]
  clear h
  induction n with
  | zero => rfl
  | succ n ih => rw [List.replicate_succ, List.flatten_cons, ih, List.replicate_succ, List.singleton_append]
theorem op_rep_str {X : Cx} : OpR X (binaryOp .Mult) (fun x y H Q => ∃ (z : Str) (n : Int), x = .str z ∧ y = .int n ∧ 1 < n ∧ n < 2 ^ 20 ∧ z.length ≠ 0 ∧ z.length ≤ 10 ∧ Q (.str (repS z n.toNat)) H) := by
  intro pins s σ H x y v u Q I rx ry h
  obtain ⟨z, n, rfl, rfl, h1, h2, h3, h4, q⟩ := h
  obtain ⟨t, rfl⟩ := rx
  obtain ⟨t', rfl⟩ := ry
  have e1 : (n == 1) = false := beq_eq_false_iff_ne.mpr (by omega)
  have e2 : (z.length == 0) = false := beq_eq_false_iff_ne.mpr h3
  have small : z.length * n.toNat ≤ sizeLine := by
    rw [sizeLine_eq]
    refine Nat.le_trans (Nat.mul_le_mul h4 (show n.toNat ≤ 1048576 by omega)) (by decide)
  refine PySem.P.mul_str ?_ (fun _ _ => ?_) (fun _ _ => ?_) ?_
  · rw [decide_eq_false (by omega), decide_eq_false (by omega)]
    rfl
  · have : (2 ^ 63 - 1 : Int) / 1048576 ≤ (2 ^ 63 - 1) / n := by
      refine Int.le_ediv_of_mul_le (by omega) ?_
      have : (2 ^ 63 - 1 : Int) / 1048576 * n ≤ (2 ^ 63 - 1 : Int) / 1048576 * 1048576 := Int.mul_le_mul_of_nonneg_left (by omega) (by decide)
      refine Int.le_trans this (by decide)
    have : (2 ^ 63 - 1 : Int) / 1048576 = 8796093022207 := by decide
    omega
  · exact decide_eq_false (by omega)
  · rw [if_neg (by omega), e1, e2, if_neg (by decide)]
    refine ⟨?_, .str (repS z n.toNat), H, I.tok _, ⟨_, rfl⟩, q⟩
    show (repS z n.toNat).length ≤ sizeLine
    rw [str_len, tl_repS]
    have : (List.replicate n.toNat (TL.tl z)).flatten.length = n.toNat * (TL.tl z).length := by simp
    rw [this, ← str_len, Nat.mul_comm]
    omega
theorem joinL_two (S a b : List Nat) (r : List (List Nat)) : TL.joinL S (a :: b :: r) = a ++ (S ++ TL.joinL S (b :: r)) := rfl
theorem sum_le {k : Nat} : ∀ {ys : List Str}, (∀ y ∈ ys, y.length ≤ k) → (ys.map (·.length)).sum ≤ ys.length * k
  | [], _ => Nat.zero_le _
  | y :: ys, h => by
    have h1 := h y List.mem_cons_self
    have h2 := sum_le (k := k) (ys := ys) fun z hz => h z (List.mem_cons_of_mem _ hz)
    rw [List.map_cons, List.sum_cons, List.length_cons, Nat.succ_mul]
    omega
theorem joinL_len {S : List Nat} : ∀ ps : List (List Nat), (TL.joinL S ps).length ≤ (ps.map (·.length)).sum + ps.length * S.length
  | [] => Nat.zero_le _
  | [p] => by
    show p.length ≤ _
    simp only [List.map_cons, List.map_nil, List.sum_cons, List.sum_nil]
    omega
  | p :: q :: r => by
    have := joinL_len (S := S) (q :: r)
    rw [joinL_two, List.length_append, List.length_append, List.map_cons, List.sum_cons, List.length_cons, Nat.succ_mul]
    omega
theorem join_len {y : Str} {ws : List Str} {k : Nat} (h : ∀ z ∈ ws, z.length ≤ k) : (Txt.join y ws).length ≤ ws.length * k + ws.length * y.length := by
  rw [TL.join_eq, str_len, TL.tl_join]
  have := joinL_len (S := TL.tl y) (ws.map TL.tl)
  have s := sum_le h
  rw [List.length_map, List.map_map] at this
  have e : (ws.map ((·.length) ∘ TL.tl)) = ws.map (·.length) := List.map_congr_left fun z _ => (str_len z).symm
  rw [e, ← str_len] at this
  omega
-- part strs
theorem bl_eq {α : Type} (x y : α) [DecidableEq α] {f : α → V} (inj : ∀ a b, f a = f b → a = b) : decide (f x = f y) = decide (x = y) := by
  by_cases c : x = y
  · rw [c, decide_eq_true rfl, decide_eq_true rfl]
  · rw [decide_eq_false c, decide_eq_false fun h => c (inj _ _ h)]
theorem str_eq (x y : Str) : decide (V.str x = V.str y) = decide (x = y) := bl_eq x y fun _ _ h => V.str.inj h
theorem dpAll_strs {K : PySem.W.Frag} {H : Hp} : ∀ l : List Str, DpAll K H (l.map V.str) (l.map PyData.str)
  | [] => .nil
  | x :: l => .cons (.str x) (dpAll_strs l)
theorem eqvAll_strs : ∀ l m : List Str, PyData.eqvAll (l.map PyData.str) (m.map PyData.str) = decide (l = m)
  | [], [] => by rw [List.map_nil, PyData.eqvAll]; rfl
  | [], b :: m => by rw [List.map_nil, List.map_cons, PyData.eqvAll] <;> first | (exact (decide_eq_false (by simp)).symm) | skip
  | a :: l, [] => by rw [List.map_nil, List.map_cons, PyData.eqvAll] <;> first | (exact (decide_eq_false (by simp)).symm) | skip
  | a :: l, b :: m => by
    rw [List.map_cons, List.map_cons, PyData.eqvAll, PyData.eqv, eqvAll_strs l m]
    by_cases c : a = b
    · subst c
      by_cases d : l = m
      · subst d
        simp
      · simp [d]
    · simp [c]
theorem eqv_strs (l m : List Str) : PyData.eqv (.list (l.map PyData.str)) (.list (m.map PyData.str)) = decide (l = m) := by
  rw [PyData.eqv]
  exact eqvAll_strs l m
theorem canLay_strs : ∀ l : List Str, (∀ z ∈ l, PyData.strOk z = true) → PyData.canLayAll0 (l.map PyData.str) = true
  | [], _ => by rw [List.map_nil, PyData.canLayAll0]
  | a :: l, h => by rw [List.map_cons, PyData.canLayAll0, PyData.canLay0, canLay_strs l fun z hz => h z (List.mem_cons_of_mem _ hz), h a List.mem_cons_self]; rfl
theorem depth_strs : ∀ l : List Str, PyData.depthAll (l.map PyData.str) = 0
  | [] => by rw [List.map_nil, PyData.depthAll]
  | a :: l => by rw [List.map_cons, PyData.depthAll, PyData.depth, depth_strs l]; rfl
theorem shaped_strs {l : List Str} (h : ∀ z ∈ l, PyData.strOk z = true) : SeqAt.shaped (.list (l.map PyData.str)) = true := by
  unfold SeqAt.shaped
  rw [PyData.canLay0, canLay_strs l h, PyData.depth, depth_strs]
  rfl
theorem dp_strs {K : PySem.W.Frag} {H : Hp} {a : Addr} {l : List Str} (h : SqL K H a (l.map V.str)) : Dp K H (.ref a) (.list (l.map PyData.str)) := .lst h (dpAll_strs l)
theorem at_str {L : List Str} {i : Nat} {z : Str} (h : L[i]? = some z) : atI (L.map V.str) (i : Int) = some (V.str z) := atI_nat (by rw [List.getElem?_map, h]; rfl)
-- part memb
theorem memB_inj {e : Bool} {l m : List Int} (hl : l.Pairwise (· < ·)) (hm : m.Pairwise (· < ·)) (h : ∀ p, memB e l p = memB e m p) : l = m := sorted_uniq hl hm fun q => by
  have z := h q
  unfold memB at z
  cases e with
  | true =>
    rw [if_pos rfl, if_pos rfl] at z
    have := congrArg not z
    rw [Bool.not_not, Bool.not_not] at this
    exact decide_eq_decide.mp this
  | false =>
    rw [if_neg (by decide), if_neg (by decide)] at z
    exact decide_eq_decide.mp z
/-- the other set: all but these -/
theorem memB_not (e : Bool) (l : List Int) (p : Int) : memB (!e) l p = !memB e l p := by
  unfold memB
  cases e <;> simp
theorem memB_nil (e : Bool) (p : Int) : memB e [] p = e := by
  unfold memB
  cases e <;> simp
theorem bool_iff {a b : Bool} {p : Prop} (h1 : a = true ↔ p) (h2 : b = true ↔ p) : a = b := by
  cases a <;> cases b <;> simp_all
theorem and_none {e : Bool} {l m : List Int} (h : ∀ p, memB (and e (!e)) l p = and (memB e m p) (memB (!e) m p)) : and e (!e) = false ∧ l = [] := by
  have e1 : and e (!e) = false := by cases e <;> rfl
  refine ⟨e1, ?_⟩
  match l with
  | [] => rfl
  | a :: r =>
    have z := h a
    rw [e1, memB_not] at z
    unfold memB at z
    cases e <;> by_cases c : a ∈ m <;> simp_all
theorem or_all {e : Bool} {l m : List Int} (h : ∀ p, memB (or e (!e)) l p = or (memB e m p) (memB (!e) m p)) : or e (!e) = true ∧ l = [] := by
  have e1 : or e (!e) = true := by cases e <;> rfl
  refine ⟨e1, ?_⟩
  match l with
  | [] => rfl
  | a :: r =>
    have z := h a
    rw [e1, memB_not] at z
    unfold memB at z
    cases e <;> by_cases c : a ∈ m <;> simp_all
-- part smeet
/-! sets of characteristics as values; what many sets have in common -/
abbrev SetV := Bool × List Int
def U9 : List Int := [2, 3, 5, 7, 11, 13, 997]
theorem sub_len {l U : List Int} (h1 : l.Pairwise (· < ·)) (h2 : U.Pairwise (· < ·)) (h : ∀ p ∈ l, p ∈ U) : l.length ≤ U.length := by
  have e : l = U.filter fun p => decide (p ∈ l) := sorted_uniq h1 (h2.filter _) fun q => by
    rw [List.mem_filter]
    exact ⟨fun m => ⟨h q m, decide_eq_true m⟩, fun m => of_decide_eq_true m.2⟩
  have := List.length_filter_le (fun p => decide (p ∈ l)) U
  rw [← e] at this
  exact this
structure SU (C : Addr) (H : Hp) (a : Addr) (s : SetV) : Prop where
  ch : CharsAt C H a s.1 s.2
  un : ∀ p ∈ s.2, p ∈ U9
theorem SU.same {C : Addr} {H H' : Hp} {a : Addr} {s : SetV} (h : SU C H a s) (k : Same H H') : SU C H' a s := ⟨h.ch.same k, h.un⟩
theorem SU.few {C : Addr} {H : Hp} {a : Addr} {s : SetV} (h : SU C H a s) : s.2.length ≤ 7 := sub_len h.ch.srt (by decide) h.un
/-- the value of a rule of two sets -/
def IsOp (f : Bool → Bool → Bool) (s t r : SetV) : Prop := r.2.Pairwise (· < ·) ∧ r.1 = f s.1 t.1 ∧ ∀ p, memB r.1 r.2 p = f (memB s.1 s.2 p) (memB t.1 t.2 p)
theorem memB_nin {e : Bool} {l : List Int} {p : Int} (h : p ∉ l) : memB e l p = e := by
  unfold memB
  rw [decide_eq_false h]
  cases e <;> rfl
theorem memB_in {e : Bool} {l : List Int} {p : Int} (h : p ∈ l) : memB e l p = !e := by
  unfold memB
  rw [decide_eq_true h]
  cases e <;> rfl
theorem IsOp.un {f : Bool → Bool → Bool} {s t r : SetV} (h : IsOp f s t r) (hs : ∀ p ∈ s.2, p ∈ U9) (ht : ∀ p ∈ t.2, p ∈ U9) : ∀ p ∈ r.2, p ∈ U9 := fun p hp => by
  by_cases c1 : p ∈ s.2
  · exact hs p c1
  by_cases c2 : p ∈ t.2
  · exact ht p c2
  have := h.2.2 p
  rw [memB_in hp, memB_nin c1, memB_nin c2, h.2.1] at this
  cases e : f s.1 t.1 <;> rw [e] at this <;> cases this
theorem IsOp.uniq {f : Bool → Bool → Bool} {s t r r' : SetV} (h : IsOp f s t r) (h' : IsOp f s t r') : r = r' := by
  obtain ⟨e, l⟩ := r
  obtain ⟨e', l'⟩ := r'
  have e1 : e = e' := h.2.1.trans h'.2.1.symm
  subst e1
  have : l = l' := memB_inj (e := e) h.1 h'.1 fun p => (h.2.2 p).trans (h'.2.2 p).symm
  rw [this]
noncomputable def opV (f : Bool → Bool → Bool) (s t : SetV) : SetV := open Classical in if h : ∃ r, IsOp f s t r then Classical.choose h else (false, [])
theorem opV_eq {f : Bool → Bool → Bool} {s t r : SetV} (h : IsOp f s t r) : r = opV f s t := by
  have ex : ∃ r, IsOp f s t r := ⟨r, h⟩
  unfold opV
  rw [dif_pos ex]
  exact h.uniq (Classical.choose_spec ex)
theorem SU.op {C : Addr} {H H' : Hp} {a b r : Addr} {s t : SetV} {l : List Int} {f : Bool → Bool → Bool} (h1 : SU C H a s) (h2 : SU C H b t) (ch : CharsAt C H' r (f s.1 t.1) l) (m : ∀ p, memB (f s.1 t.1) l p = f (memB s.1 s.2 p) (memB t.1 t.2 p)) : SU C H' r (opV f s t) := by
  have o : IsOp f s t (f s.1 t.1, l) := ⟨ch.srt, rfl, m⟩
  rw [← opV_eq o]
  exact ⟨ch, o.un h1.un h2.un⟩
/-- what all of L have -/
def IsMeet (L : List SetV) (r : SetV) : Prop := r.2.Pairwise (· < ·) ∧ r.1 = L.all (·.1) ∧ ∀ p, memB r.1 r.2 p = L.all fun t => memB t.1 t.2 p
theorem IsMeet.uniq {L : List SetV} {r r' : SetV} (h : IsMeet L r) (h' : IsMeet L r') : r = r' := by
  obtain ⟨e, l⟩ := r
  obtain ⟨e', l'⟩ := r'
  have e1 : e = e' := h.2.1.trans h'.2.1.symm
  subst e1
  have : l = l' := memB_inj (e := e) h.1 h'.1 fun p => (h.2.2 p).trans (h'.2.2 p).symm
  rw [this]
noncomputable def meetV (L : List SetV) : SetV := open Classical in if h : ∃ r, IsMeet L r then Classical.choose h else (false, [])
theorem meetV_eq {L : List SetV} {r : SetV} (h : IsMeet L r) : r = meetV L := by
  have ex : ∃ r, IsMeet L r := ⟨r, h⟩
  unfold meetV
  rw [dif_pos ex]
  exact h.uniq (Classical.choose_spec ex)
theorem meet_nil : IsMeet [] (true, []) := ⟨.nil, rfl, fun p => memB_nil true p⟩
theorem meet_snoc {L : List SetV} {s r r' : SetV} (h : IsMeet L r) (o : IsOp and r s r') : IsMeet (L ++ [s]) r' := by
  refine ⟨o.1, ?_, fun p => ?_⟩
  · rw [o.2.1, h.2.1, List.all_append]
    simp
  · rw [o.2.2, h.2.2, List.all_append]
    simp
def trV (s : SetV) : Bool := s.1 || !s.2.isEmpty
/-- sets in a list -/
def SetsAt (C : Addr) (H : Hp) (a : Addr) (L : List SetV) : Prop := ∃ us : List V, H a = some (.lst us) ∧ us.length = L.length ∧ ∀ (i : Nat) (s : SetV), L[i]? = some s → ∃ q, us[i]? = some (.ref q) ∧ SU C H q s
theorem SetsAt.same {C : Addr} {H H' : Hp} {a : Addr} {L : List SetV} (h : SetsAt C H a L) (k : Same H H') : SetsAt C H' a L := by
  obtain ⟨us, e, l, m⟩ := h
  exact ⟨us, k _ _ e, l, fun i s hs => by
    obtain ⟨q, q1, q2⟩ := m i s hs
    exact ⟨q, q1, q2.same k⟩⟩
abbrev s_inall : Stmt := top 22
theorem sc_inall : FnScope ["sets", "found", "chars"] ["sets"] (defScope s_inall) := ⟨rfl, rfl, rfl, by decide +kernel, rfl, by decide +kernel, by decide +kernel⟩
def spMeet (C : Addr) : Sp := fun vs H Q _ => ∃ (a : Addr) (L : List SetV), vs = [.ref a] ∧ SetsAt C H a L ∧ ∀ r H', SU C H' r (meetV L) → Same H H' → Q (.ref r) H'
theorem ok_inall {f C : Addr} {fd : FuncData} (T : ChT K mg C) (F : Fun K "in_all" "in_all" s_inall f fd) (m_every : Cm P w K mg base 5 C "every" (spCevery C true)) (m_and : Me P w K mg base 5 C "__and__" (spAnd C and)) : FnOk P w K mg base CX0 6 f fd ["sets"] (spMeet C) := by
  refine F.ok sc_inall (fun vs H Q E h => ?_) (fun cdv A outer s H vs Q E hr h => ?_)
  · obtain ⟨a, L, rfl, _⟩ := h
    rfl
  · obtain ⟨a, L, rfl, ⟨us, hu, lu, hs⟩, q⟩ := h
    refine ⟨_, (pss_cons (ps_set (i := 1) sc_inall.nd rfl (Or.inl rfl) (pe_cm0 m_every hr (pe_glob (v := .ref C) (by rfl) T.g rfl) ))
 (pss_cons (ps_for PassesOwn.never rfl (pi_list (pv 0)) (pg_name (i := 2) sc_inall.nd rfl (Or.inl rfl)) (pss_one (ps_set (i := 1) sc_inall.nd rfl (Or.inl rfl) (pe_op (op_own2 m_and hr T.sf) (pv 1) (pv 2)))))
 (pss_one (ps_ret (pv 1))))), ?_⟩
    refine ⟨rfl, rfl, fun r H1 ch s1 => ?_⟩
    have e0 : IsMeet [] (true, []) := meet_nil
    refine ⟨_, rfl, a, rfl, ⟨_, SqL.of (s1 _ _ hu)⟩, for_list (K := K) (a := a) (xs := us) (fun i σ H' => Same H H' ∧ ∃ (r : Addr) (v : SetV) (x2 : Option V), IsMeet (L.take i) v ∧ SU C H' r v ∧ σ = [some (.ref a), some (.ref r), x2]) ⟨s1, r, (true, []), none, e0, ⟨ch, fun _ h => nomatch h⟩, rfl⟩ (fun i σ H' _ hh => SqL.of (hh.1 _ _ hu)) ?_ ?_⟩
    · rintro i y σ H2 hi ⟨s2, r, v, x2, im, su, rfl⟩
      have hil : i < L.length := by
        have := (List.getElem?_eq_some_iff.mp hi).1
        omega
      have hz : L[i]? = some L[i] := List.getElem?_eq_getElem hil
      generalize L[i] = z at hz
      obtain ⟨q1, e1, su1⟩ := hs i z hz
      obtain rfl := Option.some.inj (hi.symm.trans e1)
      have su1 := su1.same s2
      obtain ⟨dx, t, o1, _⟩ := su.ch.ob
      obtain ⟨dy, u, o2, _⟩ := su1.ch.ob
      have f1 := su.few
      have f2 := su1.few
      refine ⟨_, rfl, _, rfl, r, q1, _, _, _, _, rfl, rfl, o1, o2, r, q1, _, _, _, _, rfl, su.ch, su1.ch, by omega, fun r2 l H3 ch2 _ m s3 => ?_⟩
      have o : IsOp and v z (and v.1 z.1, l) := ⟨ch2.srt, rfl, m⟩
      refine ⟨s2.trans s3, r2, _, _, ?_, ⟨ch2, o.un su.un su1.un⟩, rfl⟩
      rw [List.take_add_one, hz]
      exact meet_snoc im o
    · rintro σ H2 ⟨s2, r, v, x2, im, su, rfl⟩
      rw [lu, List.take_length] at im
      refine ⟨_, rfl, ?_⟩
      rw [meetV_eq im] at su
      exact q r H2 su s2
abbrev s_lmeet : Stmt := top 34
theorem sc_lmeet : FnScope ["_law_sets", "_law_result", "_law_one"] ["_law_sets"] (defScope s_lmeet) := ⟨rfl, rfl, rfl, by decide +kernel, rfl, by decide +kernel, by decide +kernel⟩
theorem ok_lmeet {f C : Addr} {fd : FuncData} (T : ChT K mg C) (F : Fun K "_law_meet" "_law_meet" s_lmeet f fd) (m_every : Cm P w K mg base 5 C "every" (spCevery C true)) (m_and : Me P w K mg base 5 C "__and__" (spAnd C and)) : FnOk P w K mg base CX0 6 f fd ["_law_sets"] (spMeet C) := by
  refine F.ok sc_lmeet (fun vs H Q E h => ?_) (fun cdv A outer s H vs Q E hr h => ?_)
  · obtain ⟨a, L, rfl, _⟩ := h
    rfl
  · obtain ⟨a, L, rfl, ⟨us, hu, lu, hs⟩, q⟩ := h
    refine ⟨_, (pss_cons (ps_set (i := 1) sc_lmeet.nd rfl (Or.inl rfl) (pe_cm0 m_every hr (pe_glob (v := .ref C) (by rfl) T.g rfl) ))
 (pss_cons (ps_for PassesOwn.never rfl (pi_list (pv 0)) (pg_name (i := 2) sc_lmeet.nd rfl (Or.inl rfl)) (pss_one (ps_set (i := 1) sc_lmeet.nd rfl (Or.inl rfl) (pe_op (op_own2 m_and hr T.sf) (pv 1) (pv 2)))))
 (pss_one (ps_ret (pv 1))))), ?_⟩
    refine ⟨rfl, rfl, fun r H1 ch s1 => ?_⟩
    have e0 : IsMeet [] (true, []) := meet_nil
    refine ⟨_, rfl, a, rfl, ⟨_, SqL.of (s1 _ _ hu)⟩, for_list (K := K) (a := a) (xs := us) (fun i σ H' => Same H H' ∧ ∃ (r : Addr) (v : SetV) (x2 : Option V), IsMeet (L.take i) v ∧ SU C H' r v ∧ σ = [some (.ref a), some (.ref r), x2]) ⟨s1, r, (true, []), none, e0, ⟨ch, fun _ h => nomatch h⟩, rfl⟩ (fun i σ H' _ hh => SqL.of (hh.1 _ _ hu)) ?_ ?_⟩
    · rintro i y σ H2 hi ⟨s2, r, v, x2, im, su, rfl⟩
      have hil : i < L.length := by
        have := (List.getElem?_eq_some_iff.mp hi).1
        omega
      have hz : L[i]? = some L[i] := List.getElem?_eq_getElem hil
      generalize L[i] = z at hz
      obtain ⟨q1, e1, su1⟩ := hs i z hz
      obtain rfl := Option.some.inj (hi.symm.trans e1)
      have su1 := su1.same s2
      obtain ⟨dx, t, o1, _⟩ := su.ch.ob
      obtain ⟨dy, u, o2, _⟩ := su1.ch.ob
      have f1 := su.few
      have f2 := su1.few
      refine ⟨_, rfl, _, rfl, r, q1, _, _, _, _, rfl, rfl, o1, o2, r, q1, _, _, _, _, rfl, su.ch, su1.ch, by omega, fun r2 l H3 ch2 _ m s3 => ?_⟩
      have o : IsOp and v z (and v.1 z.1, l) := ⟨ch2.srt, rfl, m⟩
      refine ⟨s2.trans s3, r2, _, _, ?_, ⟨ch2, o.un su.un su1.un⟩, rfl⟩
      rw [List.take_add_one, hz]
      exact meet_snoc im o
    · rintro σ H2 ⟨s2, r, v, x2, im, su, rfl⟩
      rw [lu, List.take_length] at im
      refine ⟨_, rfl, ?_⟩
      rw [meetV_eq im] at su
      exact q r H2 su s2
abbrev s_stold : Stmt := top 24
theorem sc_stold : FnScope ["found", "holds"] ["found", "holds"] (defScope s_stold) := ⟨rfl, rfl, rfl, by decide +kernel, rfl, by decide +kernel, by decide +kernel⟩
def partV (s : SetV) (h : Bool) : SetV := if h = true then s else (!s.1, s.2)
def spStold (C : Addr) : Sp := fun vs H Q _ => ∃ (a : Addr) (s : SetV) (h : Bool), vs = [.ref a, .bl h] ∧ SU C H a s ∧ ∀ r H', SU C H' r (partV s h) → Same H H' → Q (.ref r) H'
theorem ok_stold {f C : Addr} {fd : FuncData} (F : Fun K "told" "told" s_stold f fd) (m_inv : Me P w K mg base 5 C "__invert__" (spInv C)) : FnOk P w K mg base CX0 6 f fd ["found", "holds"] (spStold C) := by
  refine F.ok sc_stold (fun vs H Q E h => ?_) (fun cdv A outer s H vs Q E hr h => ?_)
  · obtain ⟨a, s, h, rfl, _⟩ := h
    rfl
  · obtain ⟨a, s', h, rfl, su, q⟩ := h
    obtain ⟨dx, t, o1, _⟩ := su.ch.ob
    have f1 := su.few
    refine ⟨_, (pss_cons (ps_if (pt_val (pv 1)) (pss_one (ps_ret (pv 0))) pss_nil)
 (pss_one (ps_ret (pe_un (un_inv1 m_inv hr) (pv 0))))), ?_⟩
    refine ⟨_, rfl, _, rfl, ?_⟩
    cases h with
    | true => exact if_pos_of rfl ⟨_, rfl, q a H su (Same.refl H)⟩
    | false =>
      refine if_neg_of rfl ⟨_, rfl, a, dx, _, rfl, o1, a, _, _, rfl, su.ch, by omega, fun r H' ch s1 => ?_⟩
      exact q r H' ⟨ch, su.un⟩ s1
theorem trV_spec {C : Addr} {H : Hp} {a : Addr} {s : SetV} {Q : VK} (su : SU C H a s) (q : Q (.bl (trV s)) H) : spCbool C [.ref a] H Q E0 := ⟨a, s.1, s.2, rfl, su.ch, q⟩
noncomputable def wordV (f s : SetV) : Str := if trV (opV (fun x y => and x (!y)) f s) = false then "sure" else if trV (opV and f s) = false then "never" else "open"
def spVerd (C : Addr) : Sp := fun vs H Q _ => ∃ (a b : Addr) (f s : SetV), vs = [.ref a, .ref b] ∧ SU C H a f ∧ SU C H b s ∧ ∀ H', Same H H' → Q (.str (wordV f s)) H'
-- part erbk
/-! errors of books of reports -/
def okS : V → Prop := fun v => ∃ z : Str, v = .str z ∧ z.length ≤ 1000
/-- a copy of a list as the field -/
def spInitL (K : PySem.W.Frag) (C : Addr) (fld : Str) : Sp := fun vs H Q _ => ∃ (a l : Addr) (xs : List V), vs = [.ref a, .ref l] ∧ SqL K H l xs ∧ H a = some (exo a C none) ∧
  ∀ q d, H q = none → q ≠ a → upd H q (.lst xs) d = none → d ≠ a → Q .non (upd (upd (upd H q (.lst xs)) d (exd d [(fld, .ref q)])) a (exo a C (some d)))
theorem mkL {K : PySem.W.Frag} {C l : Addr} {fld : Str} {xs : List V} {H1 : Hp} {Q : XK} (hl : SqL K H1 l xs) (k : ∀ q d H2, Same H1 H2 → H1 q = none → H2 q = some (.lst xs) → H2 d = some (.xd [(fld, .ref q)]) → Q (.ref C) (some d) H2) :
    ([V.ref l] : List V).length ≤ 1000 ∧ ∀ a, H1 a = none → spInitL K C fld (.ref a :: ([V.ref l] ++ [])) (upd H1 a (exo a C none))
      (fun u H2 => u = .non ∧ ∃ (d : Addr) (fs : List (Str × V)), H2 a = some (exo a C (some d)) ∧ H2 d = some (exd d fs) ∧ H1 d = none ∧ Q (.ref C) (some d) (upd (del H2 a) d (.xd fs))) (fun _ _ _ => False) := by
  refine ⟨(by show 1 ≤ 1000; decide), fun a ha => ⟨a, l, xs, rfl, (same_upd ha).seq hl, upd_same, fun q d hq hqa hd hda => ⟨rfl, d, [(fld, .ref q)], upd_same, ?_, ?_, ?_⟩⟩⟩
  · rw [upd_ne hda, upd_same]
  · have hdq : d ≠ q := fun z => by
      rw [z, upd_same] at hd
      cases hd
    rw [upd_ne hdq, upd_ne hda] at hd
    exact hd
  · have hdq : d ≠ q := fun z => by
      rw [z, upd_same] at hd
      cases hd
    rw [upd_ne hdq, upd_ne hda] at hd
    rw [upd_ne hqa] at hq
    refine k q d _ (fun b o e => ?_) hq ?_ upd_same
    · have hba := ne_of_none e ha
      have hbd := ne_of_none e hd
      have hbq := ne_of_none e hq
      rw [upd_ne hbd, del_ne hba, upd_ne hba, upd_ne hbd, upd_ne hbq, upd_ne hba]
      exact e
    · rw [upd_ne (Ne.symm hdq), del_ne hqa, upd_ne hqa, upd_ne (Ne.symm hdq)]
      exact upd_same
abbrev s_int : Stmt := inClass (top 7) 0
theorem sc_int : FnScope ["self", "name"] ["self", "name"] (defScope s_int) := ⟨rfl, rfl, rfl, by decide +kernel, rfl, by decide +kernel, by decide +kernel⟩
theorem ok_int {f C CF : Addr} {fd : FuncData} (TF : FErr K mg CF) (hC : OexC K C) (hno : PySem.W.findIn K (.ref C) "name" = some none) (F : Fun K "__init__" "NameTaken.__init__" s_int f fd) : FnOk P w K mg base CX0 1 f fd ["self", "name"] (spInitP C "name" okS) := by
  refine F.ok sc_int (fun vs H Q E h => ?_) (fun cdv A outer s H vs Q E hr h => ?_)
  · obtain ⟨a, v, rfl, _⟩ := h
    rfl
  · obtain ⟨a, v, rfl, o, ha, q⟩ := h
    obtain ⟨z, rfl, hz⟩ := o
    have ln := hz
    have m1 : ("the name " : Str).length ≤ 100 := by decide +kernel
    have m2 : (" is taken" : Str).length ≤ 100 := by decide +kernel
    refine ⟨_, (pss_cons (ps_expr (pe_feinit TF (pa_cons (pv 0) (pa_cons (pe_joined (.cons pe_str (.cons (pe_fmt (pv 1)) (.cons pe_str .nil)))) pa_nil))))
 (pss_one (ps_ost (pv 0) (pv 1)))), ?_⟩
    refine ⟨_, rfl, _, rfl, by rw [empty_app, sizeLine_eq]; omega, _, rfl, .inl ⟨_, rfl, by rw [sizeLine_eq]; omega, _, rfl, by rw [empty_app, app_len, sizeLine_eq]; omega, ?_⟩⟩
    refine ⟨_, rfl, by rw [empty_app, app_len, app_len, sizeLine_eq]; omega, ?_⟩
    refine ⟨a, C, _, rfl, (by show 1 ≤ 1000; decide), hC, ha, ?_⟩
    exact ⟨_, rfl, _, rfl, a, C, rfl, hC, hno, .inl ⟨ha, fun dx hn hne => q dx hn hne⟩⟩
abbrev s_ico : Stmt := inClass (top 8) 0
theorem sc_ico : FnScope ["self", "clash"] ["self", "clash"] (defScope s_ico) := ⟨rfl, rfl, rfl, by decide +kernel, rfl, by decide +kernel, by decide +kernel⟩
theorem ok_ico {f C CF : Addr} {fd : FuncData} (T : Txt mg) (TF : FErr K mg CF) (hC : OexC K C) (hno : PySem.W.findIn K (.ref C) "clash" = some none) (F : Fun K "__init__" "Contradiction.__init__" s_ico f fd) : FnOk P w K mg base CX0 1 f fd ["self", "clash"] (spInitL K C "clash") := by
  refine F.ok sc_ico (fun vs H Q E h => ?_) (fun cdv A outer s H vs Q E hr h => ?_)
  · obtain ⟨a, l, xs, rfl, _⟩ := h
    rfl
  · obtain ⟨a, l, xs, rfl, hl, ha, q⟩ := h
    refine ⟨_, (pss_cons (ps_expr (pe_feinit TF (pa_cons (pv 0) (pa_cons pe_str pa_nil))))
 (pss_one (ps_ost (pv 0) (pe_callTy call_list_of (by rfl) T.list boot_list (pa_cons (pv 1) pa_nil))))), ?_⟩
    refine ⟨_, rfl, a, C, _, rfl, (by show 1 ≤ 1000; decide), hC, ha, ?_⟩
    refine ⟨_, rfl, l, xs, rfl, .inl hl, fun q1 nq => ?_⟩
    have hqa : q1 ≠ a := (ne_of_none ha nq).symm
    exact ⟨_, rfl, a, C, rfl, hC, hno, .inl ⟨(same_upd nq) _ _ ha, fun dx hn hne => q q1 dx nq hqa hn hne⟩⟩
abbrev s_inu : Stmt := inClass (top 9) 0
theorem sc_inu : FnScope ["self"] ["self"] (defScope s_inu) := ⟨rfl, rfl, rfl, by decide +kernel, rfl, by decide +kernel, by decide +kernel⟩
theorem ok_inu {f C CF : Addr} {fd : FuncData} (TF : FErr K mg CF) (hC : OexC K C) (F : Fun K "__init__" "NothingToUndo.__init__" s_inu f fd) : FnOk P w K mg base CX0 1 f fd ["self"] (spInit0 C) := by
  refine F.ok sc_inu (fun vs H Q E h => ?_) (fun cdv A outer s H vs Q E hr h => ?_)
  · obtain ⟨a, rfl, _⟩ := h
    rfl
  · obtain ⟨a, rfl, ha, q⟩ := h
    refine ⟨_, (pss_one (ps_expr (pe_feinit TF (pa_cons (pv 0) (pa_cons pe_str pa_nil))))), ?_⟩
    exact ⟨_, rfl, a, C, _, rfl, (by show 1 ≤ 1000; decide), hC, ha, q⟩
-- part bookm
/-! what contradicts -/
def natV : Nat → V := fun k => .int (k : Int)
theorem rgV_nat (n : Nat) : rgV 0 (n : Int) = (List.range n).map natV := by
  unfold rgV natV
  rw [Int.sub_zero, Int.toNat_natCast]
  exact List.map_congr_left fun i _ => by rw [Int.zero_add]
theorem SU.updL {C : Addr} {H : Hp} {a D : Addr} {s : SetV} {acc : List V} {o : HO} (hD : H D = some (.lst acc)) (h : SU C H a s) : SU C (upd H D o) a s := by
  obtain ⟨dx, t, h1, h2⟩ := h.ch.ob
  refine ⟨⟨⟨dx, t, ?_, ?_⟩, h.ch.srt, h.ch.prm⟩, h.un⟩
  · rw [upd_ne (fun e => by rw [e, hD] at h1; cases h1)]
    exact h1
  · rw [upd_ne (fun e => by rw [e, hD] at h2; cases h2)]
    exact h2
/-- a comprehension that makes sets -/
def PvS (C : Addr) (H1 : Hp) (D : Addr) (L : List SetV) (i : Nat) (H : Hp) : Prop := Same H1 H ∧ ∃ acc : List V, H D = some (.lst acc) ∧ acc.length = i ∧ ∀ (j : Nat) (s : SetV), j < i → L[j]? = some s → ∃ q, acc[j]? = some (.ref q) ∧ SU C H q s
theorem PvS.zero {C : Addr} {H1 : Hp} {D : Addr} {L : List SetV} (nD : H1 D = none) : PvS C H1 D L 0 (upd H1 D (.lst [])) := ⟨same_upd nD, [], upd_same, rfl, fun j s h => absurd h (Nat.not_lt_zero j)⟩
theorem PvS.push {C : Addr} {H1 H H4 : Hp} {D : Addr} {L : List SetV} {i : Nat} {q : Addr} {s : SetV} (nD : H1 D = none) (p : PvS C H1 D L i H) (k : Same H H4) (few : i < 1000) (hs : L[i]? = some s) (su : SU C H4 q s) :
    ∃ acc, H4 D = some (.lst acc) ∧ acc.length < sizeLine ∧ PvS C H1 D L (i + 1) (upd H4 D (.lst (acc ++ [.ref q]))) := by
  obtain ⟨s1, acc, ha, hl, hr⟩ := p
  have ha4 := k _ _ ha
  refine ⟨acc, ha4, small1000 (by omega), fun b o eb => ?_, acc ++ [.ref q], upd_same, by rw [List.length_append, hl]; rfl, fun j t hj ht => ?_⟩
  · rw [upd_ne (ne_of_none eb nD)]
    exact k b o (s1 b o eb)
  · by_cases c : j < i
    · obtain ⟨r, r1, r2⟩ := hr j t c ht
      exact ⟨r, by rw [List.getElem?_append_left (by omega)]; exact r1, (r2.same k).updL ha4⟩
    · have e : j = i := by omega
      subst e
      rw [hs] at ht
      obtain rfl := Option.some.inj ht
      exact ⟨q, by rw [List.getElem?_append_right (by omega), hl, Nat.sub_self]; rfl, su.updL ha4⟩
theorem PvS.done {C : Addr} {H1 H : Hp} {D : Addr} {L : List SetV} (p : PvS C H1 D L L.length H) : SetsAt C H D L := by
  obtain ⟨_, acc, ha, hl, hr⟩ := p
  exact ⟨acc, ha, hl, fun i s hs => hr i s (List.getElem?_eq_some_iff.mp hs).1 hs⟩
/-- the sets at these places -/
def pick (L : List SetV) (ks : List Nat) : List SetV := ks.map fun k => L.getD k (true, [])
theorem pick_at {L : List SetV} {ks : List Nat} {i k : Nat} (h : ks[i]? = some k) : (pick L ks)[i]? = some (L.getD k (true, [])) := by
  unfold pick
  rw [List.getElem?_map, h]
  rfl
theorem getDs {L : List SetV} {k : Nat} (h : k < L.length) : L[k]? = some (L.getD k (true, [])) := by
  rw [List.getD_eq_getElem?_getD, List.getElem?_eq_getElem h]
  rfl
noncomputable def clashStep (L : List SetV) (left : List Nat) (at_ : Nat) : List Nat := if trV (meetV (pick L (left.filter fun k => !decide (k = at_)))) = false then left.filter fun k => !decide (k = at_) else left
noncomputable def clashN (L : List SetV) (i : Nat) : List Nat := (List.range i).foldl (clashStep L) (List.range L.length)
theorem clashN_succ (L : List SetV) (i : Nat) : clashN L (i + 1) = clashStep L (clashN L i) i := by
  unfold clashN
  rw [List.range_succ, List.foldl_append]
  rfl
theorem clashStep_lt {L : List SetV} {left : List Nat} {a n : Nat} (h : ∀ k ∈ left, k < n) (l : left.length ≤ n) : (∀ k ∈ clashStep L left a, k < n) ∧ (clashStep L left a).length ≤ n := by
  unfold clashStep
  split
  · exact ⟨fun k hk => h k (List.mem_filter.mp hk).1, Nat.le_trans (List.length_filter_le _ _) l⟩
  · exact ⟨h, l⟩
theorem meet_true (L : List SetV) : meetV ((true, []) :: L) = meetV L := by
  have e : IsMeet ((true, []) :: L) = IsMeet L := funext fun r => propext (by
    unfold IsMeet
    simp only [List.all_cons, Bool.true_and, memB_nil])
  unfold meetV
  rw [e]
abbrev s_clash : Stmt := top 23
theorem sc_clash : FnScope ["known", "sets", "left", "at", "rest", "k"] ["known", "sets"] (defScope s_clash) := ⟨rfl, rfl, rfl, by decide +kernel, rfl, by decide +kernel, by decide +kernel⟩
def spClash (C : Addr) : Sp := fun vs H Q _ => ∃ (a b : Addr) (L : List SetV), vs = [.ref b, .ref a] ∧ SU C H b (true, []) ∧ SetsAt C H a L ∧ L.length ≤ 20 ∧ ∀ r H', H' r = some (.lst ((clashN L L.length).map natV)) → Same H H' → Q (.ref r) H'
theorem ok_clash {f C : Addr} {fd : FuncData} (TT : Txt mg) (T : ChT K mg C) (F : Fun K "clash_of" "clash_of" s_clash f fd) (c_all : Cl P w K mg base CX0 6 "in_all" (spMeet C)) (m_bool : Me P w K mg base 1 C "__bool__" (spCbool C)) : FnOk P w K mg base CX0 7 f fd ["known", "sets"] (spClash C) := by
  refine F.ok sc_clash (fun vs H Q E h => ?_) (fun cdv A outer s H vs Q E hr h => ?_)
  · obtain ⟨a, b, L, rfl, _⟩ := h
    rfl
  · obtain ⟨a, b, L, rfl, sk, hs, few, q⟩ := h
    obtain ⟨us, hu, lu, hm⟩ := id hs
    refine ⟨_, (pss_cons (ps_set (i := 2) sc_clash.nd rfl (Or.inl rfl) (pe_listRg rfl (by rfl) TT.list (prg_1 (by rfl) TT.range (pe_callB call_len_seq (by rfl) TT.len PySem.boot_len (pa_cons (pv 1) pa_nil)))))
 (pss_cons (ps_for PassesOwn.never rfl (pi_range1 rfl TT.range (pa_cons (pe_callB call_len_seq (by rfl) TT.len PySem.boot_len (pa_cons (pv 1) pa_nil)) pa_nil)) (pg_name (i := 3) sc_clash.nd rfl (Or.inr rfl)) (Evl.pss_cut (ps_setLc (i := 4) (own := [("k", 5)]) (g := (gName 5)) rfl sc_clash.nd rfl rfl (sw_true rfl rfl rfl (by decide +kernel)) (pi_list (pv 2)) (blkOk_by (N := ["known", "sets", "left", "at", "rest", "k"]) (sc := defScope s_clash) (by decide +kernel)) (fun _ _ _ _ _ => (pg_name (i := 5) sc_clash.nd rfl (Or.inl rfl))) (fun _ _ _ _ _ => (pts_one (pt_cmpR op_ne (pv 5) (pv 3) (nomark _)))) (fun _ _ _ _ _ => (pv 5)))
 (pss_one (ps_if (pt_not (pt_own (pe_cl c_all hr (pa_cons (pe_op op_cat (pe_lst (pa_cons (pv 0) pa_nil)) (pe_lc (own := [("k", 5)]) (g := (gName 5)) (tt := tYes) rfl sc_clash.nd (pi_list (pv 4)) (blkOk_by (N := ["known", "sets", "left", "at", "rest", "k"]) (sc := defScope s_clash) (by decide +kernel)) (fun _ _ _ _ _ => (pg_name (i := 5) sc_clash.nd rfl (Or.inl rfl))) (fun _ _ _ _ _ => pts_nil) (fun _ _ _ _ _ => (pe_ix (r := rIxL K) (by exact ix_list) (pv 1) (pv 5) (fun _ _ => rfl))))) pa_nil)) (tru_own m_bool hr))) (pss_one (ps_set (i := 2) sc_clash.nd rfl (Or.inl rfl) (pv 4))) pss_nil))))
 (pss_one (ps_ret (pv 2))))), ?_⟩
    refine ⟨_, rfl, a, us, rfl, .inl (SqL.of hu), (us.length : Int), rfl, RgOk.of_le (by omega) (by omega) (by omega) (by omega), fun lf nlf => ?_⟩
    rw [rgV_nat]
    have k0 := same_upd (o := .lst ((List.range us.length).map natV)) nlf
    refine ⟨_, rfl, a, us, rfl, .inl (SqL.of (k0 _ _ hu)), _, rfl, by omega, by omega, ?_⟩
    refine for_it (walk_range0 (n := us.length)) (fun i σ H' => Same H H' ∧ ∃ (lf : Addr) (x3 x4 : Option V), H' lf = some (.lst ((clashN L i).map natV)) ∧ (∀ k ∈ clashN L i, k < L.length) ∧ (clashN L i).length ≤ L.length ∧ σ = [some (.ref b), some (.ref a), some (.ref lf), x3, x4, none])
      ⟨k0, lf, none, none, ?_, fun k hk => List.mem_range.mp hk, by show (List.range L.length).length ≤ _; rw [List.length_range]; exact Nat.le_refl _, rfl⟩ (fun _ _ _ _ _ => trivial) ?_ ?_
    · show upd H lf _ lf = some (.lst ((List.range L.length).map natV))
      rw [upd_same, lu]
    · rintro i x σ H1b H1 hi ⟨s1, lf, x3, x4, hlf, lt, ll, rfl⟩ ⟨rfl, rfl⟩
      rw [lu] at hi
      have sk1 := sk.same s1
      -- rest
      refine ⟨fun σ H' => Same H1 H' ∧ ∃ rs, H' rs = some (.lst (((clashN L i).filter fun k => !decide (k = i)).map natV)) ∧ σ = [some (.ref b), some (.ref a), some (.ref lf), some (.int (i : Int)), some (.ref rs), none], ?_, ?_⟩
      · refine ⟨_, rfl, lf, rfl, ⟨_, SqL.of hlf⟩, fun D nD => lcW walk_list (fun j => (((clashN L i).take j).filter fun k => !decide (k = i)).map natV) nD (by simp) (fun H s => SqL.of (s _ _ hlf)) ?_ ?_⟩
        · rintro j x H2b H2 hj s2 hD ⟨rfl, hx⟩
          rw [List.length_map] at hj
          rw [List.getElem?_map] at hx
          obtain ⟨k, hk, rfl⟩ := Option.map_eq_some_iff.mp hx
          have step : ((clashN L i).take (j + 1)).filter (fun k => !decide (k = i)) = ((clashN L i).take j).filter (fun k => !decide (k = i)) ++ (if k = i then [] else [k]) := by
            rw [List.take_add_one, hk, List.filter_append]
            show _ ++ List.filter _ [k] = _
            by_cases c : k = i <;> simp [c]
          have fl : (((clashN L i).take j).filter fun k => !decide (k = i)).length ≤ 20 := by
            refine Nat.le_trans (List.length_filter_le _ _) ?_
            rw [List.length_take]
            omega
          refine ⟨rfl, _, rfl, _, rfl, rfl, _, rfl, ?_⟩
          by_cases c : k = i
          · refine if_neg_of (by rw [c]; exact congrArg not (decide_eq_true rfl)) ?_
            exact PvM.skip s2 hD (by rw [step, if_pos c, List.append_nil])
          · refine if_pos_of (by rw [decide_eq_false fun e => c (by have := V.int.inj e; omega)]; rfl) ?_
            refine ⟨_, rfl, ?_⟩
            exact PvM.push nD s2 hD (by rw [List.length_map]; omega) (by rw [step, if_neg c, List.map_append]; rfl)
        · intro H2 s2 hD
          rw [List.length_map, List.take_length] at hD
          exact ⟨s2, D, hD, rfl⟩
      rintro σ H2 ⟨s2, rs, hrs, rfl⟩
      have sk2 := sk1.same s2
      have s12 := s1.trans s2
      generalize hks : ((clashN L i).filter fun k => !decide (k = i)) = ks at hrs
      have klt : ∀ k ∈ ks, k < L.length := fun k hk => by
        rw [← hks] at hk
        exact lt k (List.mem_filter.mp hk).1
      have kl : ks.length ≤ 20 := by
        rw [← hks]
        exact Nat.le_trans (List.length_filter_le _ _) (by omega)
      refine ⟨_, rfl, (by show 1 ≤ sizeLine; decide), fun l nl => ?_⟩
      have gl := same_upd (o := .lst [.ref b]) nl
      refine ⟨_, rfl, rs, rfl, ⟨_, SqL.of (gl _ _ hrs)⟩, fun D nD => lc_it walk_list (PvS C _ D (pick L ks)) (PvS.zero nD) (fun j H _ h => SqL.of (h.1 _ _ (gl _ _ hrs))) ?_ ?_⟩
      · rintro j x H3b H3 hj p3 ⟨rfl, hx⟩
        rw [List.length_map] at hj
        rw [List.getElem?_map] at hx
        obtain ⟨k, hk, rfl⟩ := Option.map_eq_some_iff.mp hx
        have hk2 := klt k (List.mem_of_getElem? hk)
        obtain ⟨q1, e1, su1⟩ := hm k _ (getDs hk2)
        have s3 := s12.trans (gl.trans p3.1)
        refine ⟨rfl, _, rfl, _, rfl, a, us, _, _, rfl, rfl, SqL.of (s3 _ _ hu), atI_nat e1, ?_⟩
        exact p3.push nD (Same.refl _) (by omega) (pick_at hk) (su1.same s3)
      · intro H3 p3
        rw [List.length_map] at p3
        have pl : (pick L ks).length = ks.length := by unfold pick; rw [List.length_map]
        have sD : SetsAt C H3 D (pick L ks) := by
          have p4 := p3
          rw [← pl] at p4
          exact p4.done
        obtain ⟨vs, v1, v2, v3⟩ := id sD
        refine ⟨l, D, _, _, rfl, rfl, p3.1 _ _ upd_same, v1, (by rw [v2, pl, sizeLine_eq]; show 1 + _ ≤ _; omega), fun n nn => ?_⟩
        have gn := same_upd (o := .lst ([.ref b] ++ vs)) nn
        have s3 := gl.trans (p3.1.trans gn)
        refine ⟨n, (true, []) :: pick L ks, rfl, ⟨_, upd_same, by rw [List.length_append, v2, List.length_cons, Nat.add_comm]; rfl, fun j t ht => ?_⟩, fun r H4 su4 s4 => ?_⟩
        · match j, ht with
          | 0, ht =>
            cases ht
            exact ⟨b, rfl, sk2.same s3⟩
          | j + 1, ht =>
            obtain ⟨q1, e1, su1⟩ := v3 j t ht
            exact ⟨q1, e1, su1.same gn⟩
        rw [meet_true] at su4
        obtain ⟨dx, t, o1, _⟩ := su4.ch.ob
        refine ⟨r, dx, _, rfl, o1, trV_spec su4 ⟨_, rfl, ?_⟩⟩
        have sAll := s12.trans (s3.trans s4)
        have cs := clashN_succ L i
        have cl := clashStep_lt (L := L) (left := clashN L i) (a := i) lt ll
        rw [← cs] at cl
        unfold clashStep at cs
        rw [hks] at cs
        cases c : trV (meetV (pick L ks)) with
        | false =>
          rw [c, if_pos rfl] at cs
          refine if_pos_of rfl ⟨_, rfl, sAll, rs, _, _, ?_, cl.1, cl.2, rfl⟩
          rw [cs]
          exact s4 _ _ (s3 _ _ hrs)
        | true =>
          rw [c, if_neg (by decide)] at cs
          refine if_neg_of rfl ⟨sAll, lf, _, _, ?_, cl.1, cl.2, rfl⟩
          rw [cs]
          exact s4 _ _ (s3 _ _ (s2 _ _ hlf))
    · rintro σ H1 ⟨s1, lf, x3, x4, hlf, lt, ll, rfl⟩
      rw [lu] at hlf
      exact ⟨_, rfl, q lf H1 hlf s1⟩
-- part book
/-! the class Book -/
structure Rep where
  s : SetV
  h : Bool
  nm : Str
def bkF (rl : Addr) : List (Str × V) := putF "_reports" (.ref rl) []
theorem bk_r (rl : Addr) : (bkF rl).lookup ("_reports" : Str) = some (.ref rl) := by
  unfold bkF
  rw [lookup_putF, if_pos rfl]
theorem bk_no (rl : Addr) {m : Str} (h : ¬ m = "_reports") : (bkF rl).lookup m = none := by
  unfold bkF
  rw [lookup_putF, if_neg h]
  rfl
/-- what is told of the class -/
structure BkT (K : PySem.W.Frag) (mg : Str → Option Value) (C : Addr) : Prop where
  g : mg "Book" = some (.ref C)
  cl : Cls K C
  nR : NoAttr K C "_reports"
  sf : PySem.W.selfFirst K C = true
  isC : C8.InsC K C
/-- reports in a list -/
def RepsAt (C : Addr) (H : Hp) (us : List V) (R : List Rep) : Prop := us.length = R.length ∧ ∀ (i : Nat) (x : Rep), R[i]? = some x → ∃ t a, us[i]? = some (.ref t) ∧ H t = some (.tup [.ref a, .bl x.h, .str x.nm]) ∧ SU C H a x.s
theorem RepsAt.same {C : Addr} {H H' : Hp} {us : List V} {R : List Rep} (h : RepsAt C H us R) (k : Same H H') : RepsAt C H' us R := ⟨h.1, fun i x hx => by
  obtain ⟨t, a, h1, h2, h3⟩ := h.2 i x hx
  exact ⟨t, a, h1, k _ _ h2, h3.same k⟩⟩
structure BookAt (C CB : Addr) (H : Hp) (b rl : Addr) (R : List Rep) : Prop where
  ob : ∃ dx, H b = some (.ins CB dx (bkF rl))
  li : ∃ us, H rl = some (.lst us) ∧ RepsAt C H us R
theorem BookAt.same {C CB : Addr} {H H' : Hp} {b rl : Addr} {R : List Rep} (h : BookAt C CB H b rl R) (k : Same H H') : BookAt C CB H' b rl R := by
  obtain ⟨dx, o⟩ := h.ob
  obtain ⟨us, l, m⟩ := h.li
  exact ⟨⟨dx, k _ _ o⟩, us, k _ _ l, m.same k⟩
def partsV (R : List Rep) : List SetV := R.map fun x => partV x.s x.h
theorem SU.but {C : Addr} {H H' : Hp} {a rl : Addr} {s : SetV} {acc : List V} (hl : H rl = some (.lst acc)) (k : SameBut rl H H') (h : SU C H a s) : SU C H' a s := by
  obtain ⟨dx, t, h1, h2⟩ := h.ch.ob
  exact ⟨⟨⟨dx, t, k _ _ (fun e => by rw [e, hl] at h1; cases h1) h1, k _ _ (fun e => by rw [e, hl] at h2; cases h2) h2⟩, h.ch.srt, h.ch.prm⟩, h.un⟩
theorem RepsAt.but {C : Addr} {H H' : Hp} {us : List V} {R : List Rep} {rl : Addr} {acc : List V} (hl : H rl = some (.lst acc)) (k : SameBut rl H H') (h : RepsAt C H us R) : RepsAt C H' us R := ⟨h.1, fun i x hx => by
  obtain ⟨t, a, h1, h2, h3⟩ := h.2 i x hx
  exact ⟨t, a, h1, k _ _ (fun e => by rw [e, hl] at h2; cases h2) h2, h3.but hl k⟩⟩
abbrev s_binit : Stmt := inClass (top 26) 0
theorem sc_binit : FnScope ["self"] ["self"] (defScope s_binit) := ⟨rfl, rfl, rfl, by decide +kernel, rfl, by decide +kernel, by decide +kernel⟩
def spBI (CB : Addr) : Sp := fun vs H Q _ => ∃ x dx, vs = [.ref x] ∧ H x = some (.ins CB dx []) ∧ ∀ rl, H rl = none → Q .non (upd (upd H rl (.lst [])) x (.ins CB dx (bkF rl)))
theorem ok_binit {f CB : Addr} {fd : FuncData} (T : BkT K mg CB) (F : Fun K "__init__" "Book.__init__" s_binit f fd) : FnOk P w K mg base (L2N.CX P w) 1 f fd ["self"] (spBI CB) := by
  refine okN F sc_binit (fun vs H Q E h => ?_) (fun cdv A outer s H vs Q E hr h => ?_)
  · obtain ⟨x, dx, rfl, _⟩ := h
    rfl
  · obtain ⟨x, dx, rfl, hx, q⟩ := h
    refine ⟨_, (pss_one (ps_fld (pv 0) (pe_lst pa_nil) rfl)), ?_⟩
    refine ⟨(by show 0 ≤ sizeLine; decide), fun rl nrl => ?_⟩
    have k := same_upd (o := .lst []) nrl
    exact ⟨_, rfl, x, CB, dx, [], rfl, k _ _ hx, T.cl, T.nR, (by show 0 < 1000; decide), q rl nrl⟩
abbrev s_bparts : Stmt := inClass (top 26) 3
theorem sc_bparts : FnScope ["self", "found", "holds", "_"] ["self"] (defScope s_bparts) := ⟨rfl, rfl, rfl, by decide +kernel, rfl, by decide +kernel, by decide +kernel⟩
def spBparts (C CB : Addr) : Sp := fun vs H Q _ => ∃ b rl R, vs = [.ref b] ∧ BookAt C CB H b rl R ∧ R.length ≤ 20 ∧ ∀ D H', H D = none → SetsAt C H' D (partsV R) → Same H H' → Q (.ref D) H'
theorem ok_bparts {f C CB : Addr} {fd : FuncData} (T : BkT K mg CB) (F : Fun K "_parts" "Book._parts" s_bparts f fd) (c_told : Cl P w K mg base CX0 6 "told" (spStold C)) : FnOk P w K mg base CX0 7 f fd ["self"] (spBparts C CB) := by
  refine F.ok sc_bparts (fun vs H Q E h => ?_) (fun cdv A outer s H vs Q E hr h => ?_)
  · obtain ⟨b, rl, R, rfl, _⟩ := h
    rfl
  · obtain ⟨b, rl, R, rfl, bk, few, q⟩ := h
    obtain ⟨dx, ob⟩ := bk.ob
    obtain ⟨us, hl, lu, hm⟩ := bk.li
    refine ⟨_, (pss_one (ps_ret (pe_lc (own := [("found", 1), ("holds", 2), ("_", 3)]) (g := (gTup K 3 (gCons (gName 1) (gCons (gName 2) (gCons (gName 3) gNil))))) (tt := tYes) rfl sc_bparts.nd (pi_list (pe_fld (pv 0) rfl)) (blkOk_by (N := ["self", "found", "holds", "_"]) (sc := defScope s_bparts) (by decide +kernel)) (fun _ _ _ _ _ => (pg_tup rfl (pgs_cons (pg_name (i := 1) sc_bparts.nd rfl (Or.inl rfl)) (pgs_cons (pg_name (i := 2) sc_bparts.nd rfl (Or.inl rfl)) (pgs_cons (pg_name (i := 3) sc_bparts.nd rfl (Or.inl rfl)) pgs_nil))))) (fun _ _ _ _ _ => pts_nil) (fun _ _ _ _ _ => (pe_cl c_told (by exact hr) (pa_cons (pv 1) (pa_cons (pv 2) pa_nil))))))), ?_⟩
    refine ⟨_, rfl, b, CB, dx, _, _, rfl, ob, T.cl, T.nR, bk_r _, rl, rfl, ⟨_, SqL.of hl⟩, fun D nD => lc_it walk_list (PvS C H D (partsV R)) (PvS.zero nD) (fun j H' _ h => SqL.of (h.1 _ _ hl)) ?_ ?_⟩
    · rintro i x H1b H1 hi p1 ⟨rfl, hx⟩
      rw [lu] at hi
      have hz : R[i]? = some R[i] := List.getElem?_eq_getElem hi
      generalize R[i] = z at hz
      obtain ⟨t, a, e1, e2, su⟩ := hm i z hz
      obtain rfl := Option.some.inj (hx.symm.trans e1)
      refine ⟨t, _, rfl, SqT.of (p1.1 _ _ e2), rfl, _, _, rfl, _, _, rfl, _, _, rfl, rfl, rfl, _, rfl, _, rfl, a, z.s, z.h, rfl, su.same p1.1, fun r H2 su2 s2 => ?_⟩
      exact p1.push nD s2 (by omega) (by unfold partsV; rw [List.getElem?_map, hz]; rfl) su2
    · intro H1 p1
      refine q D H1 nD ?_ p1.1
      have p2 := p1
      rw [lu, show R.length = (partsV R).length by unfold partsV; rw [List.length_map]] at p2
      exact p2.done
abbrev s_bidx : Stmt := inClass (top 26) 4
theorem sc_bidx : FnScope ["self", "name", "at", "report"] ["self", "name"] (defScope s_bidx) := ⟨rfl, rfl, rfl, by decide +kernel, rfl, by decide +kernel, by decide +kernel⟩
def spBidx (C CB : Addr) : Sp := fun vs H Q _ => ∃ b rl R nm, vs = [.ref b, .str nm] ∧ BookAt C CB H b rl R ∧ R.length ≤ 20 ∧
  (∀ (i : Nat) (x : Rep) H', R[i]? = some x → x.nm = nm → (∀ (j : Nat) (y : Rep), j < i → R[j]? = some y → y.nm ≠ nm) → Same H H' → Q (.int (i : Int)) H') ∧ ((∀ y ∈ R, y.nm ≠ nm) → ∀ H', Same H H' → Q .non H')
theorem ok_bidx {f C CB : Addr} {fd : FuncData} (henum : mg "enumerate" = none) (T : BkT K mg CB) (F : Fun K "_index_of" "Book._index_of" s_bidx f fd) : FnOk P w K mg base CX0 1 f fd ["self", "name"] (spBidx C CB) := by
  refine F.ok sc_bidx (fun vs H Q E h => ?_) (fun cdv A outer s H vs Q E hr h => ?_)
  · obtain ⟨b, rl, R, nm, rfl, _⟩ := h
    rfl
  · obtain ⟨b, rl, R, nm, rfl, bk, few, q, qn⟩ := h
    obtain ⟨dx, ob⟩ := bk.ob
    obtain ⟨us, hl, lu, hm⟩ := bk.li
    refine ⟨_, (pss_cons (ps_for PassesOwn.never rfl (pi_enum rfl henum (pa_cons (pe_fld (pv 0) rfl) pa_nil)) (pg_tup rfl (pgs_cons (pg_name (i := 2) sc_bidx.nd rfl (Or.inl rfl)) (pgs_cons (pg_name (i := 3) sc_bidx.nd rfl (Or.inl rfl)) pgs_nil))) (pss_one (ps_if (pt_cmpR op_eq (pe_ix ix_tup (pv 3) pe_int (fun _ _ => rfl)) (pv 1) (nomark _)) (pss_one (ps_ret (pv 2))) pss_nil)))
 (pss_one (ps_ret pe_non))), ?_⟩
    refine ⟨_, rfl, b, CB, dx, _, _, rfl, ob, T.cl, T.nR, bk_r _, rl, us, rfl, SqL.of hl, for_it walk_enum (fun i σ H' => Same H H' ∧ (∀ (j : Nat) (y : Rep), j < i → R[j]? = some y → y.nm ≠ nm) ∧ ∃ x2 x3, σ = [some (.ref b), some (.str nm), x2, x3]) ⟨Same.refl H, fun j y h => absurd h (Nat.not_lt_zero j), none, none, rfl⟩ (fun i σ H' _ h => SqL.of (h.1 _ _ hl)) ?_ ?_⟩
    · rintro i v σ H1 H2 hi ⟨s1, good, x2, x3, rfl⟩ ⟨Tp, x1, v1, rfl, nT, rfl, hx1, hv1⟩
      cases hx1
      rw [lu] at hi
      have hz : R[i]? = some R[i] := List.getElem?_eq_getElem hi
      generalize R[i] = z at hz
      obtain ⟨t, a, e1, e2, su⟩ := hm i z hz
      obtain rfl := Option.some.inj (hv1.symm.trans e1)
      have s2 := s1.trans (same_upd (o := .tup [.int (i : Nat), .ref t]) nT)
      refine ⟨Tp, _, rfl, SqT.of upd_same, rfl, _, _, rfl, _, _, rfl, rfl, ?_⟩
      refine ⟨_, rfl, t, _, _, _, rfl, rfl, SqT.of (s2 _ _ e2), rfl, _, rfl, rfl, _, rfl, ?_⟩
      rw [str_eq]
      by_cases c : z.nm = nm
      · exact if_pos_of (decide_eq_true c) ⟨_, rfl, q i z _ hz c good s2⟩
      · refine if_neg_of (decide_eq_false c) ⟨s2, fun j y hj hy => ?_, _, _, rfl⟩
        by_cases ej : j = i
        · rw [ej, hz] at hy
          rw [← Option.some.inj hy]
          exact c
        · exact good j y (by omega) hy
    · rintro σ H1 ⟨s1, good, x2, x3, rfl⟩
      rw [lu] at good
      refine qn (fun y hy => ?_) H1 s1
      obtain ⟨j, hj⟩ := List.mem_iff_getElem?.mp hy
      exact good j y (List.getElem?_eq_some_iff.mp hj).1 hj
abbrev s_bfits : Stmt := inClass (top 26) 5
theorem sc_bfits : FnScope ["self"] ["self"] (defScope s_bfits) := ⟨rfl, rfl, rfl, by decide +kernel, rfl, by decide +kernel, by decide +kernel⟩
def spBfits (C CB : Addr) : Sp := fun vs H Q _ => ∃ b rl R, vs = [.ref b] ∧ BookAt C CB H b rl R ∧ R.length ≤ 20 ∧ ∀ r H', SU C H' r (meetV (partsV R)) → Same H H' → Q (.ref r) H'
theorem ok_bfits {f C CB : Addr} {fd : FuncData} (T : BkT K mg CB) (F : Fun K "fits" "Book.fits" s_bfits f fd) (m_parts : Me P w K mg base 7 CB "_parts" (spBparts C CB)) (c_all : Cl P w K mg base CX0 6 "in_all" (spMeet C)) : FnOk P w K mg base CX0 8 f fd ["self"] (spBfits C CB) := by
  refine F.ok sc_bfits (fun vs H Q E h => ?_) (fun cdv A outer s H vs Q E hr h => ?_)
  · obtain ⟨b, rl, R, rfl, _⟩ := h
    rfl
  · obtain ⟨b, rl, R, rfl, bk, few, q⟩ := h
    obtain ⟨dx, ob⟩ := bk.ob
    refine ⟨_, (pss_one (ps_ret (pe_cl c_all hr (pa_cons (pe_me0 m_parts T.cl hr (pv 0) ) pa_nil)))), ?_⟩
    exact ⟨_, rfl, b, dx, _, rfl, ob, bk_no _ (by decide +kernel), b, rl, R, rfl, bk, few, fun D H1 _ sD s1 => ⟨D, partsV R, rfl, sD, fun r H2 su s2 => q r H2 su (s1.trans s2)⟩⟩
-- part cuts
theorem cut_to {α : Type} (f : α → V) (L : List α) (k : Nat) : cutV (L.map f) none (some (k : Int)) = (L.take k).map f := by
  unfold cutV
  rw [HT.sIx_none, HT.sIx_nat, List.length_map, List.drop_zero, Nat.sub_zero, ← List.map_take]
  congr 1
  by_cases c : k ≤ L.length
  · rw [Nat.min_eq_left c]
  · rw [Nat.min_eq_right (by omega), List.take_length, List.take_of_length_le (by omega)]
theorem cut_mid {α : Type} (f : α → V) (L : List α) (a b : Nat) : cutV (L.map f) (some (a : Int)) (some (b : Int)) = ((L.drop a).take (b - a)).map f := by
  unfold cutV
  rw [HT.sIx_nat, HT.sIx_nat, List.length_map, ← List.map_drop, ← List.map_take]
  congr 1
  by_cases c : a ≤ L.length
  · rw [Nat.min_eq_left c]
    by_cases d : b ≤ L.length
    · rw [Nat.min_eq_left d]
    · rw [Nat.min_eq_right (by omega), List.take_of_length_le (by rw [List.length_drop]; exact Nat.le_refl _), List.take_of_length_le (by rw [List.length_drop]; omega)]
  · rw [Nat.min_eq_right (show L.length ≤ a by omega), List.drop_length, List.drop_eq_nil_of_le (show L.length ≤ a by omega), List.take_nil, List.take_nil]
-- part bookn
/-! the book's other methods -/
theorem sl_listK {X : Cx} {K : PySem.W.Frag} (hK : X.K = K) : SlR X (rSlL K) := by
  subst hK
  exact sl_list
theorem cutV_to (xs : List V) (k : Nat) : cutV xs none (some (k : Int)) = xs.take k := by
  have := cut_to id xs k
  rwa [List.map_id, List.map_id] at this
theorem cutV_from (xs : List V) (k : Nat) : cutV xs (some (k : Int)) none = xs.drop k := by
  unfold cutV
  rw [HT.sIx_none, HT.sIx_nat]
  by_cases c : k ≤ xs.length
  · rw [Nat.min_eq_left c, List.take_of_length_le (by rw [List.length_drop]; exact Nat.le_refl _)]
  · rw [Nat.min_eq_right (show xs.length ≤ k by omega), List.drop_length, List.drop_eq_nil_of_le (show xs.length ≤ k by omega), List.take_nil]
def dropAt (L : List SetV) (t : Nat) : List SetV := L.take t ++ L.drop (t + 1)
theorem sets_cut {C : Addr} {H : Hp} {us : List V} {L : List SetV} {t : Nat} (lu : us.length = L.length) (hm : ∀ (i : Nat) (s : SetV), L[i]? = some s → ∃ q, us[i]? = some (.ref q) ∧ SU C H q s) (ht : t < L.length) :
    (us.take t ++ us.drop (t + 1)).length = (dropAt L t).length ∧ ∀ (i : Nat) (s : SetV), (dropAt L t)[i]? = some s → ∃ q, (us.take t ++ us.drop (t + 1))[i]? = some (.ref q) ∧ SU C H q s := by
  unfold dropAt
  refine ⟨by simp [lu], fun i s hs => ?_⟩
  by_cases c : i < t
  · rw [List.getElem?_append_left (by rw [List.length_take]; omega), List.getElem?_take, if_pos c] at hs
    obtain ⟨q, q1, q2⟩ := hm i s hs
    exact ⟨q, by rw [List.getElem?_append_left (by rw [List.length_take]; omega), List.getElem?_take, if_pos c]; exact q1, q2⟩
  · rw [List.getElem?_append_right (by rw [List.length_take]; omega), List.length_take, List.getElem?_drop] at hs
    obtain ⟨q, q1, q2⟩ := hm _ s hs
    exact ⟨q, by rw [List.getElem?_append_right (by rw [List.length_take]; omega), List.length_take, List.getElem?_drop, lu]; exact q1, q2⟩
theorem set_dec (s t : SetV) : decide (s.1 = t.1 ∧ s.2 = t.2) = decide (s = t) := decide_eq_decide.mpr ⟨fun h => Prod.ext h.1 h.2, fun h => by rw [h]; exact ⟨rfl, rfl⟩⟩
noncomputable def needN (L : List SetV) (i : Nat) : List Nat := (List.range i).filter fun t => decide (meetV (dropAt L t) = meetV L)
theorem needN_succ (L : List SetV) (i : Nat) : needN L (i + 1) = needN L i ++ (if decide (meetV (dropAt L i) = meetV L) = true then [i] else []) := by
  unfold needN
  rw [List.range_succ, List.filter_append, List.filter_cons, List.filter_nil]
theorem needN_len (L : List SetV) (i : Nat) : (needN L i).length ≤ i := by
  unfold needN
  refine Nat.le_trans (List.length_filter_le _ _) ?_
  rw [List.length_range]
  exact Nat.le_refl _
abbrev s_btell : Stmt := inClass (top 26) 1
theorem sc_btell : FnScope ["self", "found", "holds", "name", "sets"] ["self", "found", "holds", "name"] (defScope s_btell) := ⟨rfl, rfl, rfl, by decide +kernel, rfl, by decide +kernel, by decide +kernel⟩
def spTell (C CB CN CO : Addr) : Sp := fun vs H Q E => ∃ b rl R a s h nm, vs = [.ref b, .ref a, .bl h, .str nm] ∧ BookAt C CB H b rl R ∧ R.length ≤ 10 ∧ SU C H a s ∧ nm.length ≤ 1000 ∧
  (nm ≠ "" → (∃ x ∈ R, x.nm = nm) → ∀ d H', Same H H' → H' d = some (.xd [("name", .str nm)]) → E (.ref CN) (some d) H') ∧
  (¬ (nm ≠ "" ∧ ∃ x ∈ R, x.nm = nm) → trV (meetV (partsV R ++ [partV s h])) = false → ∀ q d H', Same H H' → H' q = some (.lst ((clashN (partsV R ++ [partV s h]) (partsV R ++ [partV s h]).length).map natV)) → H' d = some (.xd [("clash", .ref q)]) → E (.ref CO) (some d) H') ∧
  (¬ (nm ≠ "" ∧ ∃ x ∈ R, x.nm = nm) → trV (meetV (partsV R ++ [partV s h])) = true → ∀ H', SameBut rl H H' → BookAt C CB H' b rl (R ++ [⟨s, h, nm⟩]) → Q .non H')
theorem ok_btell {f C CB CN CO : Addr} {fd : FuncData} (TC : ChT K mg C) (T : BkT K mg CB) (F : Fun K "tell" "Book.tell" s_btell f fd) (m_idx : Me P w K mg base 1 CB "_index_of" (spBidx C CB)) (m_parts : Me P w K mg base 7 CB "_parts" (spBparts C CB)) (c_told : Cl P w K mg base CX0 6 "told" (spStold C)) (c_all : Cl P w K mg base CX0 6 "in_all" (spMeet C)) (c_clash : Cl P w K mg base CX0 7 "clash_of" (spClash C)) (m_every : Cm P w K mg base 5 C "every" (spCevery C true)) (m_bool : Me P w K mg base 1 C "__bool__" (spCbool C))
    (x_nt : ErP P w K mg base "NameTaken" "name" CN okS) (x_co : ErG P w K mg base "Contradiction" CO (spInitL K CO "clash")) : FnOk P w K mg base (L2N.CX P w) 8 f fd ["self", "found", "holds", "name"] (spTell C CB CN CO) := by
  refine okN F sc_btell (fun vs H Q E h => ?_) (fun cdv A outer s H vs Q E hr h => ?_)
  · obtain ⟨b, rl, R, a, s, h, nm, rfl, _⟩ := h
    rfl
  · obtain ⟨b, rl, R, a, s', h, nm, rfl, bk, few, su, nl, qn, qc, q⟩ := h
    obtain ⟨dx, ob⟩ := bk.ob
    refine ⟨_, (Evl.pss_cut (ps_if (pw_and (pt_cmpR op_ne (pv 3) pe_str (nomark _)) (pw_and1 (pt_cmpR op_notN (pe_me m_idx T.cl hr (pv 0) (pa_cons (pv 3) pa_nil)) pe_non (nomark _)))).pt (pss_one (ps_raiseP x_nt hr (L2N.takes_of rfl rfl rfl rfl) (pa_cons (pv 3) pa_nil))) pss_nil)
 (pss_cons (ps_set (i := 4) sc_btell.nd rfl (Or.inl rfl) (pe_lst (StX.pa_star (pe_me0 m_parts T.cl hr (pv 0) ) (pa_cons (pe_cl c_told hr (pa_cons (pv 1) (pa_cons (pv 2) pa_nil))) pa_nil))))
 (Evl.pss_cut (ps_if (pt_not (pt_own (pe_cl c_all hr (pa_cons (pv 4) pa_nil)) (tru_own m_bool hr))) (pss_one (ps_raiseG x_co hr (L2N.takes_of rfl rfl rfl rfl) (pa_cons (pe_cl c_clash hr (pa_cons (pe_cm0 m_every hr (pe_glob (v := .ref C) (by rfl) TC.g rfl) ) (pa_cons (pv 4) pa_nil))) pa_nil))) pss_nil)
 (pss_one (ps_expr (pe_bm PySem.F.plainAttrs_list PySem.F.slot_list_append PySem.F.type_list_append mt_append (pe_fld (pv 0) rfl) (pa_cons (pe_tup (pa_cons (pv 1) (pa_cons (pv 2) (pa_cons (pv 3) pa_nil)))) pa_nil))))))), ?_⟩
    refine ⟨fun σ H' => Same H H' ∧ ¬ (nm ≠ "" ∧ ∃ x ∈ R, x.nm = nm) ∧ σ = [some (.ref b), some (.ref a), some (.bl h), some (.str nm), none], ?_, ?_⟩
    · refine ⟨_, rfl, rfl, _, rfl, ?_⟩
      rw [str_eq]
      by_cases c : nm = ""
      · exact if_neg_of (by rw [decide_eq_true c]; rfl) (if_neg_of rfl ⟨Same.refl _, fun z => z.1 c, rfl⟩)
      · refine if_pos_of (by rw [decide_eq_false c]; rfl) ?_
        refine ⟨_, rfl, b, dx, _, rfl, ob, bk_no _ (by decide +kernel), _, rfl, b, rl, R, nm, rfl, bk, by omega, fun i x H1 hx hnm _ s1 => ?_, fun none_ H1 s1 => ?_⟩
        · refine ⟨rfl, _, rfl, if_pos_of (by rw [decide_eq_false fun z => nomatch z]; rfl) ?_⟩
          refine ⟨_, rfl, ?_⟩
          exact mkP ⟨nm, rfl, nl⟩ fun d H2 s2 _ hd => qn c ⟨x, List.mem_of_getElem? hx, hnm⟩ d H2 (s1.trans s2) hd
        · refine ⟨rfl, _, rfl, if_neg_of (by rw [decide_eq_true rfl]; rfl) ⟨s1, fun z => ?_, rfl⟩⟩
          obtain ⟨_, x, hx, hnm⟩ := z
          exact none_ x hx hnm
    rintro σ H1 ⟨s1, free, rfl⟩
    have qc := qc free
    have q := q free
    clear qn
    have bk1 := bk.same s1
    have su1 := su.same s1
    have ob1 := s1 _ _ ob
    refine ⟨_, rfl, b, dx, _, rfl, ob1, bk_no _ (by decide +kernel), b, rl, R, rfl, bk1, by omega, fun S H2 _ sS s2 => ?_⟩
    obtain ⟨us, hu, lu, hm⟩ := id sS
    have lp : (partsV R).length = R.length := by unfold partsV; rw [List.length_map]
    refine ⟨S, us, rfl, .inr (SqL.of hu), ?_⟩
    refine ⟨_, rfl, _, rfl, a, s', h, rfl, su1.same s2, fun p H3 sp s3 => ?_⟩
    refine ⟨(by rw [List.length_append, lu, sizeLine_eq]; show _ + 1 ≤ _; omega), fun S2 nS2 => ?_⟩
    have g4 := same_upd (o := .lst (us ++ [.ref p])) nS2
    have s4 := s2.trans (s3.trans g4)
    have sA : SetsAt C (upd H3 S2 (.lst (us ++ [.ref p]))) S2 (partsV R ++ [partV s' h]) := ⟨_, upd_same, by rw [List.length_append, List.length_append, lu]; rfl, fun i t ht => by
      by_cases c : i < (partsV R).length
      · rw [List.getElem?_append_left c] at ht
        obtain ⟨r, r1, r2⟩ := hm i t ht
        exact ⟨r, by rw [List.getElem?_append_left (by omega)]; exact r1, (r2.same s3).same g4⟩
      · have hi := (List.getElem?_eq_some_iff.mp ht).1
        rw [List.length_append, List.length_singleton] at hi
        have ei : i = (partsV R).length := by omega
        subst ei
        rw [List.getElem?_append_right (Nat.le_refl _), Nat.sub_self] at ht
        cases ht
        exact ⟨p, by rw [List.getElem?_append_right (by omega), lu, Nat.sub_self]; rfl, sp.same g4⟩⟩
    have s14 := s1.trans s4
    generalize upd H3 S2 (.lst (us ++ [.ref p])) = H4 at sA s14
    have nA : (partsV R ++ [partV s' h]).length ≤ 20 := by rw [List.length_append, lp]; show _ + 1 ≤ 20; omega
    refine ⟨fun σ H' => Same H H' ∧ trV (meetV (partsV R ++ [partV s' h])) = true ∧ σ = [some (.ref b), some (.ref a), some (.bl h), some (.str nm), some (.ref S2)], ?_, ?_⟩
    · refine ⟨_, rfl, S2, _, rfl, sA, fun r H5 su5 s5 => ?_⟩
      obtain ⟨dz, tz, oz, _⟩ := su5.ch.ob
      refine ⟨r, dz, _, rfl, oz, trV_spec su5 ⟨_, rfl, ?_⟩⟩
      cases c : trV (meetV (partsV R ++ [partV s' h])) with
      | true => exact if_neg_of rfl ⟨s14.trans s5, rfl, rfl⟩
      | false =>
        refine if_pos_of rfl ?_
        refine ⟨rfl, rfl, fun ev H6 che s6 => ?_⟩
        have s46 := s5.trans s6
        refine ⟨_, rfl, S2, ev, _, rfl, ⟨che, fun _ h => nomatch h⟩, sA.same s46, nA, fun cl H7 hcl s7 => ?_⟩
        exact mkL (SqL.of hcl) fun q2 d H8 s8 _ hq hd => qc c q2 d H8 (s14.trans (s46.trans (s7.trans s8))) hq hd
    rintro σ H5 ⟨s5, ht, rfl⟩
    have bk5 := bk.same s5
    obtain ⟨us5, hl5, rp5⟩ := bk5.li
    have ob5 := s5 _ _ ob
    refine ⟨_, rfl, b, CB, dx, _, _, rfl, ob5, T.cl, T.nR, bk_r _, .inl ⟨rfl, _, SqL.of hl5⟩, ?_⟩
    refine ⟨_, rfl, _, rfl, _, rfl, (by show 3 ≤ sizeLine; decide), fun t nt => ?_⟩
    have gt := same_upd (o := .tup [.ref a, .bl h, .str nm]) nt
    refine ⟨rl, us5, _, rfl, rfl, gt _ _ hl5, small1000 (by rw [rp5.1]; omega), ?_⟩
    have b6 : SameBut rl H5 (upd (upd H5 t (.tup [.ref a, .bl h, .str nm])) rl (.lst (us5 ++ [.ref t]))) := fun x o hx e => by
      rw [upd_ne hx]
      exact gt _ _ e
    refine q ht _ ((sbut s5).trans b6) ⟨⟨dx, b6 _ _ (fun e => by rw [e, hl5] at ob5; cases ob5) ob5⟩, us5 ++ [.ref t], upd_same, by rw [List.length_append, rp5.1, List.length_append]; rfl, fun i x hx => ?_⟩
    have rp6 := rp5.but hl5 b6
    by_cases c : i < R.length
    · rw [List.getElem?_append_left c] at hx
      obtain ⟨t', a', x1, x2, x3⟩ := rp6.2 i x hx
      exact ⟨t', a', by rw [List.getElem?_append_left (by rw [rp5.1]; omega)]; exact x1, x2, x3⟩
    · have hi := (List.getElem?_eq_some_iff.mp hx).1
      rw [List.length_append, List.length_singleton] at hi
      have ei : i = R.length := by omega
      subst ei
      rw [List.getElem?_append_right (Nat.le_refl _), Nat.sub_self] at hx
      cases hx
      refine ⟨t, a, by rw [List.getElem?_append_right (by rw [rp5.1]; omega), rp5.1, Nat.sub_self]; rfl, ?_, (su.same s5).but hl5 b6⟩
      rw [upd_ne (fun e => by rw [e, hl5] at nt; cases nt)]
      exact upd_same
abbrev s_bback : Stmt := inClass (top 26) 2
theorem sc_bback : FnScope ["self"] ["self"] (defScope s_bback) := ⟨rfl, rfl, rfl, by decide +kernel, rfl, by decide +kernel, by decide +kernel⟩
def spBack (C CB CU : Addr) : Sp := fun vs H Q E => ∃ b rl R, vs = [.ref b] ∧ BookAt C CB H b rl R ∧ R.length ≤ 20 ∧ (R = [] → ∀ H', Same H H' → E (.ref CU) none H') ∧ (R ≠ [] → ∀ H', SameBut rl H H' → BookAt C CB H' b rl R.dropLast → Q .non H')
theorem ok_bback {f C CB CU : Addr} {fd : FuncData} (T : BkT K mg CB) (F : Fun K "take_back" "Book.take_back" s_bback f fd) (x_nu : ErG P w K mg base "NothingToUndo" CU (spInit0 CU)) : FnOk P w K mg base (L2N.CX P w) 3 f fd ["self"] (spBack C CB CU) := by
  refine okN F sc_bback (fun vs H Q E h => ?_) (fun cdv A outer s H vs Q E hr h => ?_)
  · obtain ⟨b, rl, R, rfl, _⟩ := h
    rfl
  · obtain ⟨b, rl, R, rfl, bk, few, qe, q⟩ := h
    obtain ⟨dx, ob⟩ := bk.ob
    obtain ⟨us, hl, rp⟩ := bk.li
    refine ⟨_, (pss_cons (ps_if (pt_not (pt_truth (pe_fld (pv 0) rfl) (by intro _; rfl))) (pss_one (ps_raiseZ x_nu hr (L2N.takes_of rfl rfl rfl rfl))) pss_nil)
 (pss_one (ps_expr (pe_bm0 PySem.F.plainAttrs_list PySem.F.slot_list_pop PySem.F.type_list_pop mt_pop (pe_fld (pv 0) rfl))))), ?_⟩
    refine ⟨_, rfl, b, CB, dx, _, _, rfl, ob, T.cl, T.nR, bk_r _, _, .inl ⟨us, SqL.of hl, rfl⟩, ?_⟩
    by_cases c : R = []
    · have e : us = [] := List.length_eq_zero_iff.mp (by rw [rp.1, c]; rfl)
      refine if_pos_of (by rw [e]; rfl) ?_
      exact mk0 fun H2 s2 => qe c H2 s2
    · have pos : 0 < us.length := by
        rw [rp.1]
        exact List.length_pos_iff.mpr c
      refine if_neg_of (by cases us with | nil => simp at pos | cons x xs => rfl) ?_
      have hlast : us[us.length - 1]? = some (us[us.length - 1]'(by omega)) := List.getElem?_eq_getElem (by omega)
      refine ⟨_, rfl, b, CB, dx, _, _, rfl, ob, T.cl, T.nR, bk_r _, .inl ⟨rfl, _, SqL.of hl⟩, rl, us, _, rfl, rfl, hl, hlast, ?_⟩
      have b6 : SameBut rl H (upd H rl (.lst us.dropLast)) := fun x o hx e => by
        rw [upd_ne hx]
        exact e
      have rp6 := RepsAt.but hl b6 rp
      refine q c _ b6 ⟨⟨dx, b6 _ _ (fun e => by rw [e, hl] at ob; cases ob) ob⟩, us.dropLast, upd_same, by rw [List.length_dropLast, List.length_dropLast, rp.1], fun i x hx => ?_⟩
      have hi := (List.getElem?_eq_some_iff.mp hx).1
      rw [List.length_dropLast] at hi
      rw [List.getElem?_dropLast, if_pos (by omega)] at hx
      obtain ⟨t, a, x1, x2, x3⟩ := rp6.2 i x hx
      exact ⟨t, a, by rw [List.getElem?_dropLast, if_pos (by rw [rp.1]; omega)]; exact x1, x2, x3⟩
-- part tryas
/-! try .. except A as n: .. except B as m: .. (exceptions whose context is None) -/
/-- the suite's wish, its name's place filled before and emptied behind -/
def gone (i : Nat) (ts : Addr → Value → Option Addr → TS) : Addr → Value → Option Addr → TS := fun a cls d D σ H =>
  ts a cls d { nx := fun τ G => D.nx (τ.set i none) G, rt := D.rt, bk := fun τ G => D.bk (τ.set i none) G, ct := fun τ G => D.ct (τ.set i none) G } (σ.set i (some (.ref a))) H
abbrev Clauses := List (Value × (Addr → Value → Option Addr → TS))
inductive HAs (X : Cx) : List ExceptHandler → Clauses → Prop
  | none : HAs X [] []
  | more {x n : Str} {i : Nat} {c : Value} {ts : Addr → Value → Option Addr → TS} {b0 : Stmt} {bs : List Stmt} {q1 q2 : Pos} {rest : List ExceptHandler} {l : Clauses}
      (place : X.N[i]? = some n) (isLocal : X.env.kindOf n = some .local) (named : Names X x c)
      (su : ∀ (a : Addr) (oe : Obj) (cls : Value) (d : Option Addr) (pn : List (Addr × Obj)), L2N.Zn cls d oe → (∃ vs, oe.data = .fields vs) → PSs (X.suite a ((a, oe) :: pn)) (b0 :: bs) (ts a cls d)) (others : HAs X rest l) :
      HAs X (.ExceptHandler (some (.Name x q1)) (some n) (b0 :: bs) q2 :: rest) ((c, gone i ts) :: l)
  | plain {x : Str} {c : Value} {ts : Addr → Value → Option Addr → TS} {b0 : Stmt} {bs : List Stmt} {q1 q2 : Pos} {rest : List ExceptHandler} {l : Clauses}
      (named : Names X x c)
      (su : ∀ (a : Addr) (oe : Obj) (cls : Value) (d : Option Addr) (pn : List (Addr × Obj)), L2N.Zn cls d oe → (∃ vs, oe.data = .fields vs) → PSs (X.suite a ((a, oe) :: pn)) (b0 :: bs) (ts a cls d)) (others : HAs X rest l) :
      HAs X (.ExceptHandler (some (.Name x q1)) none (b0 :: bs) q2 :: rest) ((c, ts) :: l)
section
variable {X : Cx} {pins : List (Addr × Obj)} {D : Ends}
/-- the suite is over: the name is emptied -/
theorem suite_over {a : Addr} {oe : Obj} {i : Nat} {n : Str} {q : Pos} {τ : L2.St} {G : Hp} {t : Shared} {R : Shared → Prop} (ok : X.Ok) (J : Inv (X.suite a ((a, oe) :: (X.pn ++ pins))) [] τ G t) (nd : X.N.Nodup) (place : X.N[i]? = some n) (isLocal : X.env.kindOf n = some .local)
    (k : ∀ t', Inv X pins (τ.set i none) G t' → R t') : wpAny (model X.prog X.w) X.A (do bindName X.env n .none; unbindBehindTheSuite X.env n q) (fun _ t' => R t') X.xe t :=
  gone_ok (J.unsuite ok) nd place isLocal k
end
section
variable {X : Cx} {body : List Stmt} {first : ExceptHandler} {others : List ExceptHandler} {l : Clauses} {pos : Pos} {tb : WX → TS} {Wout : WX}
theorem ps_try_ms (stk : X.stack = X.env :: X.outer) (frm : X.env.frame = some X.env.locals) (nd : X.N.Nodup) (out : L2N.Takes X Wout)
    (bodies : ∀ (W : WX) (pn : List (Addr × Obj)) (xe : Value → Shared → Prop), L2N.Takes (X.tr pn xe) W → PassesOwn (model X.prog X.w) X.A X.env xe → PSs (X.tr pn xe) body (tb W))
    (cl : HAs X (first :: others) l) : PS X (.Try body (first :: others) [] [] pos) (fun D σ H => tb (wMany X.K Wout D l) D σ H) := by
  refine ⟨fun pins s σ H D I h => wpAny_Try_except ?_⟩
  have fits := I.ok
  have frames : X.A.frames = some (X.env :: X.outer) := by
    rw [fits.frames, stk]
  refine wpAny_mono ((bodies (wMany X.K Wout D l) (X.pn ++ pins) _ (fun u t flying => ?_) PassesOwn.looking).run [] s σ H D (I.toTry _) h) (fun f t went => ?_) (fun _ _ z => z)
  · -- it is caught here, or by none
    obtain ⟨a, B, t0, pins0, τ, G, cls, d, rfl, J0, old, up0, air, fresh, oss, bare, wish⟩ := flying
    have J : Inv X pins τ G t0 := J0.ofTry fits
    have air1 : Sky B (X.env :: X.outer) a (L2N.Zn cls d) X.env.locals t.heap := by
      rw [← stk]
      exact air
    show wpAny (model X.prog X.w) X.A (noteFrame (.ref a) X.env) _ _ _
    refine L2N.Sky.land L2N.Zn.steady frames frm air1 fun g held up1 => ?_
    have J1 : Inv X pins τ G { t with heap := g } := J.landed old held.1 (up0.trans up1) oss bare
    obtain ⟨o1, v1, at1, zn1, da1⟩ := held.there
    have apart : a ∉ frs (X.env :: X.outer) := fun hm => by
      obtain ⟨_, o2, e2, no⟩ := held.2.2.1.mem hm
      rw [at1] at e2
      cases e2
      exact no _ da1
    have notL : a ≠ X.env.locals := fun z => apart (List.mem_filterMap.mpr ⟨X.env, List.mem_cons_self, by rw [frm, z]⟩)
    have notF : a ∉ X.fs := fun hm => by
      obtain ⟨e, he, q⟩ := List.mem_filterMap.mp hm
      exact apart (List.mem_filterMap.mpr ⟨e, List.mem_cons_of_mem _ he, q⟩)
    have S1 := J1.suite at1 da1 fresh notL notF
    have go : ∀ {hs : List ExceptHandler} {ws : Clauses}, HAs X hs ws → wMany X.K Wout D ws cls d τ G → wpAny (model X.prog X.w) X.A (handleBy (.ref a) X.env hs) (SP X pins D) X.xe { t with heap := g } := by
      intro hs ws hk
      induction hk with
      | none =>
        intro wish
        refine wpAny_handleBy_nil ?_
        obtain ⟨_, _, _, o2, v2, T, oT, tv, e2, _, d2, one, _⟩ := id held
        unfold PySem.passOn
        refine wpAny_bind (wpAny_field e2 d2 one ?_)
        rw [if_neg (show ¬ ((Value.ref T == Value.none) = true) by simp)]
        have on : wpAny (model X.prog X.w) X.A (setFlight (.ref a) X.env.frame) (fun _ t4 => wpAny (model X.prog X.w) X.A (throw (.ref a) : Sem Flow) (SP X pins D) X.xe t4) X.xe { t with heap := g } := by
          rw [frm]
          exact HandSPX.setFlight_upZ held fun g4 fl4 up4 => wpAny_throw (out _ _ ⟨a, B, t0, pins, τ, G, cls, d, rfl, J, old, (up0.trans up1).trans up4, .inr (.inr (by rw [stk]; exact fl4)), fresh, oss, bare, wish⟩)
        first
          | exact wpAny_bind (wpAny_pure (wpAny_bind on))
          | exact wpAny_bind on
      | @more x n i c ts b0 bs q1 q2 rest l2 place isLocal named su more ih =>
        intro wish
        obtain ⟨b, says, yes, no⟩ := wish
        refine wpAny_handleBy_cons (codeAny_handlers_test ?_) (fun z => nomatch z)
        have kind : PySem.W.Looks (model X.prog X.w) g (typeOf (.ref a)) cls := fun _ _ _ _ keep q => wpAny_typeOf_ref (keep _ _ at1) (by rw [zn1.1]; exact q)
        have asks := PySem.W.exm_one (M := model X.prog X.w) J1.kIn kind says
        have read : ∀ {Q R : Value → Shared → Prop}, Q c { t with heap := g } → wpAny (model X.prog X.w) (X.A.mark (some (.ref a))) (eval (.Name x q1) X.env) Q R { t with heap := g } := fun {Q R} q => by
          obtain ⟨gl, db, own | ⟨m0, bv, nn⟩⟩ := named
          · exact ld_glob (X := X.suite a ((a, o1) :: (X.pn ++ pins))) S1 gl own q db
          · exact ld_blt (X := X.suite a ((a, o1) :: (X.pn ++ pins))) S1 gl m0 bv q nn db
        refine read (asks.here ?_)
        cases b with
        | false => exact ih (no rfl)
        | true =>
          refine codeAny_handlers_suite_as (HandSPX.lands_againZ held fun g4 held4 up4 => ?_)
          have J4 : Inv X pins τ G { t with heap := g4 } := J.landed old held4.1 ((up0.trans up1).trans up4) oss bare
          obtain ⟨o4, v4, at4, zn4, da4⟩ := held4.there
          refine store_ok (X := X.suite a ((a, o4) :: (X.pn ++ pins))) (v := .ref a) (J4.suite at4 da4 fresh notL notF) nd place (.inl isLocal) rfl (fun t5 S5 => ?_) (.inr isLocal)
          refine wpAny_mono ((su a o4 cls d (X.pn ++ pins) zn4 ⟨_, da4⟩).run [] t5 _ G _ S5 (yes rfl a fresh)) (fun f t6 went => ?_) (fun _ _ z => False.elim z)
          cases f with
          | ret u =>
            obtain ⟨v6, τ6, G6, S6, r6, q6⟩ := went
            exact suite_over (pins := pins) fits S6 nd place isLocal fun t7 J7 => ⟨_, _, _, J7, r6, q6⟩
          | next =>
            obtain ⟨τ6, G6, S6, q6⟩ := went
            exact suite_over (pins := pins) fits S6 nd place isLocal fun t7 J7 => ⟨_, _, J7, q6⟩
          | brk =>
            obtain ⟨τ6, G6, S6, q6⟩ := went
            exact suite_over (pins := pins) fits S6 nd place isLocal fun t7 J7 => ⟨_, _, J7, q6⟩
          | cont =>
            obtain ⟨τ6, G6, S6, q6⟩ := went
            exact suite_over (pins := pins) fits S6 nd place isLocal fun t7 J7 => ⟨_, _, J7, q6⟩
      | @plain x c ts b0 bs q1 q2 rest l2 named su more ih =>
        intro wish
        obtain ⟨b, says, yes, no⟩ := wish
        refine wpAny_handleBy_cons (codeAny_handlers_test ?_) (fun z => nomatch z)
        have kind : PySem.W.Looks (model X.prog X.w) g (typeOf (.ref a)) cls := fun _ _ _ _ keep q => wpAny_typeOf_ref (keep _ _ at1) (by rw [zn1.1]; exact q)
        have asks := PySem.W.exm_one (M := model X.prog X.w) J1.kIn kind says
        have read : ∀ {Q R : Value → Shared → Prop}, Q c { t with heap := g } → wpAny (model X.prog X.w) (X.A.mark (some (.ref a))) (eval (.Name x q1) X.env) Q R { t with heap := g } := fun {Q R} q => by
          obtain ⟨gl, db, own | ⟨m0, bv, nn⟩⟩ := named
          · exact ld_glob (X := X.suite a ((a, o1) :: (X.pn ++ pins))) S1 gl own q db
          · exact ld_blt (X := X.suite a ((a, o1) :: (X.pn ++ pins))) S1 gl m0 bv q nn db
        refine read (asks.here ?_)
        cases b with
        | false => exact ih (no rfl)
        | true =>
          refine codeAny_handlers_suite (HandSPX.lands_againZ held fun g4 held4 up4 => ?_)
          have J4 : Inv X pins τ G { t with heap := g4 } := J.landed old held4.1 ((up0.trans up1).trans up4) oss bare
          obtain ⟨o4, v4, at4, zn4, da4⟩ := held4.there
          refine wpAny_mono ((su a o4 cls d (X.pn ++ pins) zn4 ⟨_, da4⟩).run [] _ _ G _ (J4.suite at4 da4 fresh notL notF) (yes rfl a fresh)) (fun f t6 went => ?_) (fun _ _ z => False.elim z)
          cases f with
          | ret u =>
            obtain ⟨v6, τ6, G6, S6, r6, q6⟩ := went
            exact ⟨_, _, _, S6.unsuite fits, r6, q6⟩
          | next =>
            obtain ⟨τ6, G6, S6, q6⟩ := went
            exact ⟨_, _, S6.unsuite fits, q6⟩
          | brk =>
            obtain ⟨τ6, G6, S6, q6⟩ := went
            exact ⟨_, _, S6.unsuite fits, q6⟩
          | cont =>
            obtain ⟨τ6, G6, S6, q6⟩ := went
            exact ⟨_, _, S6.unsuite fits, q6⟩
    exact go cl wish
  · cases f with
    | ret u =>
      obtain ⟨v, τ, G, J, r, q⟩ := went
      exact ⟨v, τ, G, J.ofTry fits, r, q⟩
    | next =>
      obtain ⟨τ, G, J, q⟩ := went
      exact wpAny_execs_nil ⟨τ, G, J.ofTry fits, q⟩
    | brk =>
      obtain ⟨τ, G, J, q⟩ := went
      exact ⟨τ, G, J.ofTry fits, q⟩
    | cont =>
      obtain ⟨τ, G, J, q⟩ := went
      exact ⟨τ, G, J.ofTry fits, q⟩
end
-- part bklaw
/-! a method with keyword-only defaults; errors without a name -/
structure ExN (K : PySem.W.Frag) (mg : Str → Option Value) (x : Str) (C : Addr) : Prop where
  g : mg x = some (.ref C)
  te : PySem.W.exmOne K (.ref C) (.ref C) = some true
structure MeD (P : Program) (w : World) (K : PySem.W.Frag) (mg : Str → Option Value) (base : Heap) (k : Nat) (C : Addr) (m : Str) (dvs : List V) (sp : Sp) : Prop where
  ex : ∃ (f : Addr) (fd : FuncData) (ps : List Str) (ds : List Value), Meth K C m f ∧ FnOk P w K mg base (L2N.CX P w) k f fd ps sp ∧ Binds K fd ps ds ∧ Vals dvs ds
def tMethD (C : Addr) (m : Str) (dvs : List V) (sp : Sp) (E : L2.St → XK) (ta : TE) (t : TA) : TE := fun σ H Q => ta σ H fun x H1 => ∃ a dx fs, x = .ref a ∧ H1 a = some (.ins C dx fs) ∧ fs.lookup m = none ∧ t σ H1 fun vs H2 => sp (x :: vs ++ dvs) H2 Q (E σ)
theorem pe_meDX {X : Cx} {W : WX} {C : Addr} {m : Str} {dvs : List V} {sp : Sp} {k j : Nat} {o e : Expr} {es : List Expr} {ta : TE} {t : TA} {apos pos : Pos} {pl : Sem Bool} (c : MeD X.prog X.w X.K X.mg X.base k C m dvs sp) (cl : Cls X.K C) (hr : Room j X.A) (tk : L2N.Takes X W) (he : PE X o ta) (ha : PA X (e :: es) t) (hk : k ≤ j := by decide)
    (hst : starEach (e :: es) X.env = (false, eval e X.env) :: starEach es X.env := by rfl) (hpl : (backTo pos (starEach es X.env)).any (·.1) = false := by rfl)
    (ht : eval (.Call (.Attribute o m apos) (e :: es) [] pos) X.env = (do
      let ov ← eval o X.env
      standAt apos.atName
      let (f, first) ← holding [ov] (getMethod ov m pl)
      callWith pos f first (backTo pos (starEach (e :: es) X.env)) (backToKw pos (keywordEach [] X.env))) := by rfl) :
    PE X (.Call (.Attribute o m apos) (e :: es) [] pos) (tMethD C m dvs sp (WE W) ta t) := by
  obtain ⟨f, fd, ps, ds, M, F, b, d⟩ := c.ex
  refine ⟨fun pins s σ H Q I h => ?_⟩
  refine PySem.W.methodCall_KW (pl := pl) (thn (he.run pins s σ H _ I h) fun u s1 ⟨x, H1, I1, rx, a, dx, fs, ex, ea, l, q⟩ => ?_) ht
  subst ex
  obtain rfl : u = Value.ref a := rx
  refine getmeth_ok I1 ea cl M l ?_
  exact PySem.W.callWith_K (first := [.ref a]) (h₀ := X.base) I1.ok.mod.kin M.kp (thn (ha.run pos pins s1 σ H1 _ I1 q) fun us s2 ⟨vs, H2, I2, r, q2⟩ => ⟨I2.kIn, run_fnSD (us := .ref a :: us) (vs := .ref a :: vs) (E := WE W) F (hr.mono hk) b d (L2N.passAt tk σ) I2 (.cons rfl r) q2⟩) hst hpl
/-! the laws on books: sets drawn -/
def nums12 : List Int := [0, 1, 2, 6, 30, 210, 5, 15, 49, 11, 22, 13]
theorem pr_small {p : Int} (h : p ∈ U9) : Pr p := by
  have key : ∀ p ∈ U9, 2 ≤ p ∧ ∀ k : Fin 1000, 2 ≤ k.1 → (k.1 : Int) < p → p % (k.1 : Int) ≠ 0 := by decide +kernel
  obtain ⟨h2, hd⟩ := key p h
  have hp : p < 1000 := by
    have : ∀ p ∈ U9, p < 1000 := by decide +kernel
    exact this p h
  refine ⟨h2, fun m m2 mp md => ?_⟩
  obtain ⟨k, rfl⟩ := Int.eq_ofNat_of_zero_le (show 0 ≤ m by omega)
  have hk : k < 1000 := by
    have : (k : Int) < 1000 := by omega
    omega
  refine hd ⟨k, hk⟩ (by show 2 ≤ k; have : (2 : Int) ≤ (k : Int) := m2; omega) mp (Int.emod_eq_zero_of_dvd md)
theorem un_nums {n p : Int} (hn : n ∈ nums12) (h0 : n ≠ 0) (hp : Pr p) (hd : p ∣ absI n) : p ∈ U9 := by
  have all : ∀ n ∈ nums12, n ≠ 0 → (210210 : Int) % absI n = 0 := by decide +kernel
  have d1 : p ∣ (210210 : Int) := Int.dvd_trans hd (Int.dvd_of_emod_eq_zero (all n hn h0))
  have e : (210210 : Int) = 2 * (3 * (5 * (7 * (7 * (11 * 13))))) := by decide
  rw [e] at d1
  have two : ∀ q ∈ U9, p ∣ q → p ∈ U9 := fun q hq hd => by
    rw [pr_dvd_pr (pr_small hq) hp hd]
    exact hq
  rcases pr_mul hp d1 with h | d1
  · exact two 2 (by decide) h
  rcases pr_mul hp d1 with h | d1
  · exact two 3 (by decide) h
  rcases pr_mul hp d1 with h | d1
  · exact two 5 (by decide) h
  rcases pr_mul hp d1 with h | d1
  · exact two 7 (by decide) h
  rcases pr_mul hp d1 with h | d1
  · exact two 7 (by decide) h
  rcases pr_mul hp d1 with h | d1
  · exact two 11 (by decide) h
  · exact two 13 (by decide) d1
abbrev s_lset : Stmt := top 33
theorem sc_lset : FnScope ["_law_drawn", "_law_n", "_law_found"] ["_law_drawn"] (defScope s_lset) := ⟨rfl, rfl, rfl, by decide +kernel, rfl, by decide +kernel, by decide +kernel⟩
def spLset (C : Addr) : Sp := fun vs H Q _ => ∃ d d0 d1 d2 ds, vs = [.ref d] ∧ H d = some (.lst ((d0 :: d1 :: d2 :: ds).map V.int)) ∧ 0 ≤ d0 ∧ d0 < 12 ∧ ∀ r s H', SU C H' r s → Same H H' → Q (.ref r) H'
theorem ok_lset {f C : Addr} {fd : FuncData} (T : ChT K mg C) (F : Fun K "_law_set" "_law_set" s_lset f fd) (m_zero : Cm P w K mg base 6 C "zero_of" (spCzero C false)) (m_unit : Cm P w K mg base 7 C "unit_of" (spCzero C true)) (m_or : Me P w K mg base 5 C "__or__" (spAnd C or)) (m_only : CmR P w K mg base 5 C "only" (spStar C false)) : FnOk P w K mg base CX0 8 f fd ["_law_drawn"] (spLset C) := by
  refine F.ok sc_lset (fun vs H Q E h => ?_) (fun cdv A outer s H vs Q E hr h => ?_)
  · obtain ⟨d, d0, d1, d2, ds, rfl, _⟩ := h
    rfl
  · obtain ⟨d, d0, d1, d2, ds, rfl, hd, a0, a1, q⟩ := h
    refine ⟨_, (Evl.pss_cut (ps_set (i := 1) sc_lset.nd rfl (Or.inl rfl) (pe_ix ix_list (pe_lst (pa_cons pe_int (pa_cons pe_int (pa_cons pe_int (pa_cons pe_int (pa_cons pe_int (pa_cons pe_int (pa_cons pe_int (pa_cons pe_int (pa_cons pe_int (pa_cons pe_int (pa_cons pe_int (pa_cons pe_int pa_nil))))))))))))) (pe_ix ix_list (pv 0) pe_int (fun _ _ => rfl)) (fun _ _ => rfl)))
 (pss_cons (ps_set (i := 2) sc_lset.nd rfl (Or.inl rfl) (pe_cm m_zero hr (pe_glob (v := .ref C) (by rfl) T.g rfl) (pa_cons (pv 1) pa_nil)))
 (Evl.pss_cut (ps_if (pt_cmpR op_eq (pe_ix ix_list (pv 0) pe_int (fun _ _ => rfl)) pe_int (nomark _)) (pss_one (ps_set (i := 2) sc_lset.nd rfl (Or.inl rfl) (pe_cm m_unit hr (pe_glob (v := .ref C) (by rfl) T.g rfl) (pa_cons (pv 1) pa_nil)))) pss_nil)
 (pss_cons (ps_if (pt_cmpR op_eq (pe_ix ix_list (pv 0) pe_int (fun _ _ => rfl)) pe_int (nomark _)) (pss_one (ps_set (i := 2) sc_lset.nd rfl (Or.inl rfl) (pe_op (op_own2 m_or hr T.sf) (pv 2) (pe_cmR m_only hr (pe_glob (v := .ref C) (by rfl) T.g rfl) (pa_cons pe_int (pa_cons pe_int pa_nil)))))) pss_nil)
 (pss_one (ps_ret (pv 2))))))), ?_⟩
    have at0 : atI ((d0 :: d1 :: d2 :: ds).map V.int) 0 = some (.int d0) := atI_nat (j := 0) rfl
    have at1 : atI ((d0 :: d1 :: d2 :: ds).map V.int) 1 = some (.int d1) := atI_nat (j := 1) rfl
    have at2 : atI ((d0 :: d1 :: d2 :: ds).map V.int) 2 = some (.int d2) := atI_nat (j := 2) rfl
    -- the number
    refine ⟨fun σ H' => Same H H' ∧ ∃ n, n ∈ nums12 ∧ σ = [some (.ref d), some (.int n), none], ?_, ?_⟩
    · refine ⟨(by show 12 ≤ sizeLine; decide), fun l nl => ?_⟩
      have kl := same_upd (o := .lst (nums12.map V.int)) nl
      obtain ⟨k, rfl⟩ := Int.eq_ofNat_of_zero_le a0
      have hk : k < nums12.length := by show k < 12; omega
      have hz : nums12[k]? = some nums12[k] := List.getElem?_eq_getElem hk
      exact ⟨_, rfl, d, _, _, _, rfl, rfl, SqL.of (kl _ _ hd), at0, l, _, _, _, rfl, rfl, SqL.of (upd_same (o := .lst (nums12.map V.int))), atI_nat (map_at (f := V.int) hz), kl, _, List.getElem_mem hk, rfl⟩
    rintro σ H1 ⟨s1, n, hn, rfl⟩
    have small : absI n < 2 ^ 62 := by
      have : ∀ n ∈ nums12, absI n < 2 ^ 62 := by decide +kernel
      exact this n hn
    have un : ∀ {l : List Int}, zl n l → ∀ p ∈ l, p ∈ U9 := fun {l} hz p hp => by
      by_cases c : n = 0
      · rw [hz.1 c] at hp
        cases hp
      · obtain ⟨h1, h2⟩ := ((hz.2.1 c).2 p).mp hp
        exact un_nums hn c h1 h2
    refine ⟨rfl, _, rfl, n, rfl, small, fun r0 l0 H2 ch0 z0 s2 => ?_⟩
    have su0 : SU C H2 r0 (_, l0) := ⟨ch0, un z0⟩
    have hd2 := s2 _ _ (s1 _ _ hd)
    refine ⟨fun σ H' => Same H2 H' ∧ ∃ r v, SU C H' r v ∧ σ = [some (.ref d), some (.int n), some (.ref r)], ?_, ?_⟩
    · refine ⟨_, rfl, d, _, _, _, rfl, rfl, SqL.of hd2, at1, rfl, _, rfl, ?_⟩
      by_cases c : V.int d1 = V.int 0
      · refine if_pos_of (decide_eq_true c) ⟨rfl, _, rfl, n, rfl, small, fun r1 l1 H3 ch1 z1 s3 => ?_⟩
        exact ⟨s3, r1, (_, l1), ⟨ch1, un z1⟩, rfl⟩
      · exact if_neg_of (decide_eq_false c) ⟨Same.refl _, r0, _, su0, rfl⟩
    rintro σ H3 ⟨s3, r, v, su, rfl⟩
    have s13 := s1.trans (s2.trans s3)
    refine ⟨_, rfl, d, _, _, _, rfl, rfl, SqL.of (s3 _ _ hd2), at2, rfl, _, rfl, ?_⟩
    by_cases c : V.int d2 = V.int 0
    · refine if_pos_of (decide_eq_true c) ?_
      have p9 : ∀ q ∈ ([997, 7] : List Int), q ∈ U9 := by decide
      refine ⟨_, rfl, rfl, [997, 7], rfl, fun q hq => ⟨pr_small (p9 q hq), ?_⟩, by decide, fun r4 l4 H4 m4 ch4 s4 => ?_⟩
      · have : ∀ q ∈ U9, q < 2 ^ 62 := by decide +kernel
        exact this q (p9 q hq)
      have su4 : SU C H4 r4 (false, l4) := ⟨ch4, fun p hp => p9 p ((m4 p).mp hp)⟩
      have su' := su.same s4
      obtain ⟨dx, t, o1, _⟩ := su'.ch.ob
      obtain ⟨dy, u, o2, _⟩ := su4.ch.ob
      have f1 := su'.few
      have f2 := su4.few
      refine ⟨r, r4, _, _, _, _, rfl, rfl, o1, o2, r, r4, _, _, _, _, rfl, su'.ch, su4.ch, by omega, fun r5 l5 H5 ch5 _ m5 s5 => ?_⟩
      exact ⟨_, rfl, q r5 _ H5 (SU.op su' su4 (f := or) ch5 m5) (s13.trans (s4.trans s5))⟩
    · exact if_neg_of (decide_eq_false c) ⟨_, rfl, q r v H3 su s13⟩
-- part exct
/-! what is told of an own error class that stands directly below FieldError -/
structure ExcT (K : PySem.W.Frag) (CF C : Addr) : Prop where
  xC : ∃ nm q N bs sn sb ab co dd x0 x1 x2 x3 x5, K.lookup C = some (excClassObj nm q C N bs [.ref CF, .type "ValueError", .type "Exception", .type "BaseException", .type "object"] true sn sb ab co dd x0 x1 x2 x3 x5 "ValueError.__new__")
  sa : PySem.W.findIn K (.ref C) "__setattr__" = some (some (.builtin "object.__setattr__"))
  ga : PySem.W.findIn K (.ref C) "__getattribute__" = some (some (.builtin "BaseException.__getattribute__"))
  gg : PySem.W.findIn K (.ref C) "__getattr__" = some none
  kc : PySem.W.keepIn K (.ref C) = true
  tc : PySem.W.typeIn K (.ref C) = some (.type "type")
  ha : PySem.W.findIn K (.ref C) "__class__" = some (some (.builtin "object.__class__"))
  hn : PySem.W.specialIn K (.builtin "object.__class__") "__get__" = some (some (.builtin "getset_descriptor.__get__"))
  ht : PySem.W.takesIn K (.builtin "object.__class__") = some true
namespace ExcT
variable {K : PySem.W.Frag} {CF C D : Addr}
theorem cls (T : ExcT K CF C) : ∃ cd, PySem.W.clsIn K C = some cd ∧ cd.hasDict = true ∧ cd.mro = [.ref C, .ref CF, .type "ValueError", .type "Exception", .type "BaseException", .type "object"] := by
  obtain ⟨nm, q, N, bs, sn, sb, ab, co, dd, x0, x1, x2, x3, x5, h⟩ := T.xC
  refine ⟨{ name := nm, bases := bs, mro := .ref C :: [.ref CF, .type "ValueError", .type "Exception", .type "BaseException", .type "object"], ns := N, qualname := q, hasDict := true, slotNames := sn, subclasses := sb, abstract := ab, collection := co, hasDel := false }, ?_, rfl, rfl⟩
  unfold PySem.W.clsIn
  rw [h] <;> rfl
theorem sub (T : ExcT K CF C) (v : Value) : PySem.W.subIn K (.ref C) v = some (([.ref C, .ref CF, .type "ValueError", .type "Exception", .type "BaseException", .type "object"] : List Value).contains v) := by
  obtain ⟨cd, h1, _, h3⟩ := T.cls
  show PySem.W.mroIn K C v = _
  unfold PySem.W.mroIn
  rw [h1, Option.bind_some, h3]
  rfl
theorem ec (T : ExcT K CF C) : PySem.W.subIn K (.ref C) (.type "BaseException") = some true := by
  rw [T.sub]
  simp
theorem hd (T : ExcT K CF C) : PySem.W.hasDictIn K C = true := by
  obtain ⟨cd, h1, h2, _⟩ := T.cls
  unfold PySem.W.hasDictIn
  rw [h1]
  exact h2
theorem is (T : ExcT K CF C) : PySem.W.isClsIn K C = true := by
  obtain ⟨cd, h1, _⟩ := T.cls
  show (PySem.W.clsIn K C).isSome = true
  rw [h1] <;> rfl
theorem oex (T : ExcT K CF C) : OexC K C := by
  obtain ⟨nm, q, N, bs, sn, sb, ab, co, dd, x0, x1, x2, x3, x5, h⟩ := T.xC
  exact ⟨⟨_, _, _, _, _, _, _, _, _, _, _, _, _, _, _, h, rfl⟩, T.sa, T.ec, T.tc, T.kc⟩
theorem xf (T : ExcT K CF C) : XfC K C := ⟨T.ga, T.gg, T.ec, T.hd⟩
theorem exc (T : ExcT K CF C) : ExcC K C := ⟨T.ga, T.gg, T.ec, T.hd, T.ha, T.hn, T.ht, by
  have := T.sub (.type "object")
  rw [show PySem.W.subIn K (.ref C) (.type "object") = PySem.W.mroIn K C (.type "object") from rfl] at this
  rw [this]
  simp⟩
theorem kit_self (T : ExcT K CF C) : PySem.W.kitOne K (.ref C) (.ref C) = some true := by
  unfold PySem.W.kitOne
  exact if_pos (beq_self_eq_true _)
theorem kit_no (T : ExcT K CF C) (U : ExcT K CF D) (h1 : C ≠ D) (h2 : CF ≠ D) : PySem.W.kitOne K (.ref C) (.ref D) = some false := by
  have e2 : ((PySem.W.clsIn K D).isSome && PySem.W.typeIn K (.ref D) == some (.type "type")) = true := by
    rw [show (PySem.W.clsIn K D).isSome = true from U.is, U.tc] <;> rfl
  unfold PySem.W.kitOne
  rw [if_neg (by simp [h1])]
  show (if ((PySem.W.clsIn K D).isSome && PySem.W.typeIn K (.ref D) == some (.type "type")) = true then PySem.W.subIn K (.ref C) (.ref D) else none) = some false
  rw [if_pos e2, T.sub]
  have a : D ≠ C := h1.symm
  have b : D ≠ CF := h2.symm
  simp [a, b]
theorem kit_ve (T : ExcT K CF C) : PySem.W.kitOne K (.ref C) (.type "ValueError") = some true := by
  unfold PySem.W.kitOne
  rw [if_neg (by simp)]
  show (if PySem.W.kitMeta "ValueError" = true then PySem.W.subIn K (.ref C) (.type "ValueError") else none) = some true
  rw [if_pos (by decide +kernel), T.sub]
  simp
theorem exm_fe (T : ExcT K CF C) (h1 : PySem.W.subIn K (.ref CF) (.type "BaseException") = some true) (h2 : PySem.W.isClsIn K CF = true) (h3 : PySem.W.typeIn K (.ref CF) = some (.type "type")) : PySem.W.exmOne K (.ref C) (.ref CF) = some true := by
  have e2 : ((PySem.W.clsIn K CF).isSome && PySem.W.typeIn K (.ref CF) == some (.type "type")) = true := by
    rw [show (PySem.W.clsIn K CF).isSome = true from h2, h3] <;> rfl
  unfold PySem.W.exmOne
  rw [if_pos (by rw [h1]; rfl)]
  show (if ((PySem.W.clsIn K CF).isSome && PySem.W.typeIn K (.ref CF) == some (.type "type")) = true then PySem.W.subIn K (.ref C) (.ref CF) else none) = some true
  rw [if_pos e2, T.sub]
  simp
end ExcT
-- part genfor
/-! if and for in a generator's body -/
open GenW in
section
variable {X : Cx}
def tGIf (tc : TT) (t u : TGn) : TGn := fun D ys σ H => tc σ H fun d H1 => if d = true then t D ys σ H1 else u D ys σ H1
theorem gs_if {test : Expr} {a b : List Stmt} {pos : Pos} {tc : TT} {t u : TGn} (hc : PT X test tc) (ha : GSs X a t) (hb : GSs X b u) : GS X (.If test a b pos) (tGIf tc t u) := by
  refine ⟨fun A S ip R n ys s₀ c fs K J gd lv s σ H D g hn k hI ht => ?_⟩
  obtain ⟨acc, cc, r, I⟩ := hI
  show Seg _ _ _ _ n s₀ c (.at pos fun _ => ((isTrue test X.env (eval test X.env) >>= fun d => if d = true then execs a X.env else execs b X.env)).wrap K J gd lv) fs s
  refine seg_at (seg_bind_wrap ?_)
  rw [g.over]
  refine wpAny_mono (hc.run _ s σ H _ I ht) (fun d s1 hd => ?_) fun x s' hx => k.exc n s₀ x s' hx
  obtain ⟨H1, I1, q⟩ := hd
  cases d with
  | true =>
    rw [if_pos rfl] at q ⊢
    exact ha.run A S ip R n ys s₀ c fs K J gd lv s1 σ H1 D g hn k ⟨acc, cc, r, I1⟩ q
  | false =>
    rw [if_neg Bool.false_ne_true] at q ⊢
    exact hb.run A S ip R n ys s₀ c fs K J gd lv s1 σ H1 D g hn k ⟨acc, cc, r, I1⟩ q
def tGFor (wi : TI) (g : TG) (tb : TGn) : TGn := fun D ys σ H => wi σ H fun J H1 => ∃ W : Nat → Nat → List V → L2.St → Hp → Prop, (∃ m, W 0 m ys σ H1) ∧ ∀ i m ys σ H, W i m ys σ H →
  (J.stop i H ∧ D.nx ys σ H) ∨ (J.go i H ∧ ∃ N : List V → L2.St → Hp → Prop, (∀ ys' σ' H', N ys' σ' H' → ∃ m', m' < m ∧ W (i + 1) m' ys' σ' H') ∧ ∀ x H', J.yld i H x H' → g x σ H' fun σ2 H2 => tb { D with nx := N, ct := N, bk := D.nx } ys σ2 H2)
theorem gs_for {tg iter : Expr} {body : List Stmt} {wi : TI} {gt : TG} {tb : TGn} {pos : Pos} (hp : PassesOwn (model X.prog X.w) X.A X.env X.xe) (hc : X.calm = true) (hi : PI X tg iter wi) (hg : PG X tg gt) (hb : GSs X body tb)
    (hs : ∀ x, foldedSetIterable iter X.env x = pure x := by intro _; rfl) : GS X (.For tg iter body [] pos) (tGFor wi gt tb) := by
  refine ⟨fun A S ip R n ys s₀ c fs K J gd lv s σ H D g hn k hI ht => ?_⟩
  obtain ⟨acc, cc, r, I⟩ := hI
  show Seg _ _ _ _ n s₀ c (.at pos fun _ => (eval iter X.env >>= fun a => foldedSetIterable iter X.env a >>= fun x => standAt iter.pos >>= fun _ => holding [x] (pyIter x) >>= fun it => runOwn (.forLoop tg it body [] X.env) X.env).wrap K J gd lv) fs s
  refine seg_at (seg_bind_wrap ?_)
  rw [g.over]
  refine wpAny_mono (hi.run _ s σ H _ I ht) (fun v s1 h1 => ?_) fun x s' hx => k.exc n s₀ x s' hx
  refine seg_bind_wrap (wpAny_of_eq (hs v) ?_)
  refine seg_bind_wrap (wpAny_standAt ?_)
  refine seg_bind_wrap (wpAny_holding ?_)
  rw [g.over]
  refine wpAny_mono h1 (fun itv s2 h2 => ?_) fun x s' hx => k.exc n s₀ x s' hx
  obtain ⟨it, fp, tn, JJ, H2, e, I2, T, st2, f2, W, ⟨m0, w0⟩, turn⟩ := h2
  subst e
  have stat : ∀ {acc' : Array Value} {cc' : Nat} {H' : Hp}, (∀ b ∈ fp, H' b = none) → ∀ b ∈ fp, FpOk X ((S, lstObj acc' cc') :: ip) H' b := fun {acc' cc' H'} hn b hb => by
    obtain ⟨_, z2, z3, z4, z5, z6⟩ := f2 b hb
    refine ⟨hn b hb, z2, z3, z4, z5, fun p hp => ?_⟩
    rcases List.mem_append.mp hp with hp | hp
    · exact z6 p (List.mem_append_left _ hp)
    · rcases List.mem_cons.mp hp with hp | hp
      · rw [hp]
        exact z6 (S, lstObj acc cc) (List.mem_append_right _ List.mem_cons_self)
      · exact z6 p (List.mem_append_right _ (List.mem_cons_of_mem _ hp))
  have fS : ∀ b ∈ fp, b ≠ S := fun b hb z => (f2 b hb).2.2.2.2.2 (S, lstObj acc cc) (List.mem_append_right _ List.mem_cons_self) z.symm
  refine seg_call fun p => ?_
  have gl := fun (kk : Result → Sem PySem.Fin) => gc_loop (k := kk) (c' := .forLoop tg (.ref it) body [] X.env) (l := lv []) (kp := []) (p := p) g rfl rfl
  have loop : ∀ (m i n : Nat) (ys : List V) (s₀ s : Shared) (σ : L2.St) (H : Hp), n + ys.length = sizeLine → W i m ys σ H → GI X S ip ys σ H s → tn i s.heap → (∀ b ∈ fp, H b = none) →
      Seg (model X.prog X.w) A R (GY X S) n s₀ (.forLoop tg (.ref it) body [] X.env) ((model X.prog X.w).den (.forLoop tg (.ref it) body [] X.env))
        (.ret (fun r => ((match r with | .ok f => (.pure f : Sem Flow) | .error e => .raise e).onRaise (cameBack X.env)).wrap K J gd lv) none (gd false) (lv []) c p [] :: fs) s := by
    intro m
    induction m using Nat.strongRecOn with
    | ind m ih =>
      intro i n ys s₀ s σ H hn w hI st3 fr3
      have ee : ∀ (n : Nat) (s₀ : Shared) (x : Value) (s' : Shared), X.xe x s' → Seg (model X.prog X.w) A R (GY X S) n s₀ (.forLoop tg (.ref it) body [] X.env)
          ((noteFrame x X.env >>= fun _ => theTreesLotGoes x : Sem Unit).bind fun _ => .raise x)
          (.ret (fun r => ((match r with | .ok f => (.pure f : Sem Flow) | .error e => .raise e).onRaise (cameBack X.env)).wrap K J gd lv) none (gd false) (lv []) c p [] :: fs) s' := fun n s₀ x s' hx => by
        rw [Sem.bind_eq_wrap]
        refine seg_wrap ?_
        rw [(gl _).over]
        refine wpAny_bind (wpAny_mono (hp x s' hx) (fun _ s'' hcb => wpAny_theTreesLotGoes ?_) fun y s'' hcb => ?_)
        · exact seg_leaf (.error x) (seg_cameBack g k hcb)
        · exact seg_leaf (.error y) (seg_cameBack g k hcb)
      obtain ⟨acc, cc, r, I⟩ := hI
      show Seg _ A _ _ n s₀ _ ((forTurn tg (.ref it) body [] X.env).onRaise (fun x => do noteFrame x X.env; theTreesLotGoes x)) _ s
      unfold forTurn
      rw [Sem.onRaise_eq_wrap]
      refine seg_bind_wrap (wpAny_standAt ?_)
      refine seg_bind_wrap (wpAny_onRaise ?_)
      rw [(gl _).over]
      rcases turn i m ys σ H w with ⟨stop, qn⟩ | ⟨go, N, hN, step⟩
      · refine wpAny_mono (T.done X rfl rfl rfl hc i _ s σ H X.xe I (stat fr3) st3 stop) (fun rr s4 ⟨hr, I4⟩ => ?_) fun x s' hx => wpAny_standAt (ee n s₀ x s' hx)
        subst hr
        refine seg_again rfl ?_
        exact seg_leaf (.ok .next) (k.ok n ys s₀ s4 .next hn ⟨σ, H, ⟨acc, cc, r, I4⟩, qn⟩)
      · refine wpAny_mono (T.item X rfl rfl rfl hc i _ s σ H X.xe I (stat fr3) st3 go) (fun rr s4 ⟨u, hr, h4⟩ => ?_) fun x s' hx => wpAny_standAt (ee n s₀ x s' hx)
        subst hr
        refine seg_bind_wrap ?_
        rw [(gl _).over]
        refine wpAny_mono h4 (fun _ s5 ⟨x, H5, I5, r5, y5, st5, fr5⟩ => ?_) fun x s' hx => ee n s₀ x s' hx
        have I5' := I5.pinned (stat fr5) (T.obj _ _ st5)
        refine seg_bind_wrap ?_
        rw [(gl _).over]
        refine wpAny_mono (hg.run _ s5 σ H5 x u _ I5' r5 (step x H5 y5)) (fun _ s6 ⟨σ6, H6, I6, q6⟩ => ?_) fun x s' hx => ee n s₀ x s' hx
        rw [Sem.bind_eq_wrap', Sem.wrap_wrap]
        have hip : ∀ p ∈ ip ++ pinsAt fp s5.heap, p.1 ≠ S := fun p hp => by
          rcases List.mem_append.mp hp with z | z
          · exact g.ip p z
          · exact fS p.1 (of_pinsAt z).1
        refine hb.run A S (ip ++ pinsAt fp s5.heap) R n ys s₀ _ _ _ _ _ _ s6 σ6 H6 { D with nx := N, ct := N, bk := D.nx } ⟨g.pn, hip, g.apart, (gl _).over, (gl _).split, (gl _).guard, rfl⟩ hn ⟨fun n' ys' s₀' s7 f hn' hs' => ?_, fun n' s₀' x s7 hx => ?_⟩ ⟨acc, cc, r, I6⟩ q6
        · have again : ∀ {σ7 : L2.St} {H7 : Hp}, GI X S (ip ++ pinsAt fp s5.heap) ys' σ7 H7 s7 → N ys' σ7 H7 → Seg (model X.prog X.w) A R (GY X S) n' s₀' (.forLoop tg (.ref it) body [] X.env) (.pure (.again (.forLoop tg (.ref it) body [] X.env)))
              (.ret (fun r => ((match r with | .ok f => (.pure f : Sem Flow) | .error e => .raise e).onRaise (cameBack X.env)).wrap K J gd lv) none (gd false) (lv []) c p [] :: fs) s7 := fun {σ7 H7} G7 n7 => by
            obtain ⟨m', hm, w7⟩ := hN ys' σ7 H7 n7
            obtain ⟨acc7, cc7, r7, I7⟩ := G7
            have pinned : ∀ b ∈ fp, ∀ o, s5.heap.get? b = some o → s7.heap.get? b = some o ∧ H7 b = none := fun b hb o e => by
              obtain ⟨z1, z2, _⟩ := I7.pin (b, o) (List.mem_append_right _ (List.mem_cons_of_mem _ (List.mem_append_right _ (mem_pinsAt hb e))))
              exact ⟨z1, z2⟩
            refine seg_again rfl (ih m' hm (i + 1) n' ys' s₀' s7 σ7 H7 hn' w7 ⟨acc7, cc7, r7, I7.pins_of fun p hp => I7.pin p (List.mem_append_right _ ?_)⟩ (T.keep _ _ _ st5 fun b hb o e => (pinned b hb o e).1) fun b hb => ?_)
            · rcases List.mem_cons.mp hp with z | z
              · rw [z]; exact List.mem_cons_self
              · exact List.mem_cons_of_mem _ (List.mem_append_left _ z)
            · obtain ⟨o, e, _⟩ := T.obj _ _ st5 b hb
              exact (pinned b hb o e).2
          have back : ∀ {σ7 : L2.St} {H7 : Hp}, GI X S (ip ++ pinsAt fp s5.heap) ys' σ7 H7 s7 → GI X S ip ys' σ7 H7 s7 := fun {σ7 H7} G7 => by
            obtain ⟨acc7, cc7, r7, I7⟩ := G7
            exact ⟨acc7, cc7, r7, I7.pins_of fun p hp => I7.pin p (List.mem_append_right _ (by
              rcases List.mem_cons.mp hp with z | z
              · rw [z]; exact List.mem_cons_self
              · exact List.mem_cons_of_mem _ (List.mem_append_left _ z)))⟩
          cases f with
          | next =>
            obtain ⟨σ7, H7, I7, n7⟩ := hs'
            exact again I7 n7
          | cont =>
            obtain ⟨σ7, H7, I7, n7⟩ := hs'
            exact again I7 n7
          | brk =>
            obtain ⟨σ7, H7, I7, q7⟩ := hs'
            exact seg_leaf (.ok .next) (k.ok n' ys' s₀' s7 .next hn' ⟨σ7, H7, back I7, q7⟩)
          | ret v =>
            obtain ⟨x7, σ7, H7, I7, r7, q7⟩ := hs'
            exact seg_leaf (.ok (.ret v)) (k.ok n' ys' s₀' s7 (.ret v) hn' ⟨x7, σ7, H7, back I7, r7, q7⟩)
        · exact ee n' s₀' x s7 hx
  exact loop m0 0 n ys s₀ s2 σ H2 hn w0 ⟨acc, cc, r, I2⟩ st2 fun b hb => (f2 b hb).1
/-- over a walk -/
theorem gfor_it {J : It} {n : Nat} {Gd : Hp → Prop} {Y : Nat → Hp → V → Hp → Prop} (wk : Walk J n Gd Y) {g : TG} {tb : TGn} {D : GEnds} {ys : List V} {σ : L2.St} {H : Hp} (Pv : Nat → List V → L2.St → Hp → Prop) (h0 : Pv 0 ys σ H) (hG : ∀ i ys σ H, i ≤ n → Pv i ys σ H → Gd H)
    (hs : ∀ i x ys σ H H', i < n → Pv i ys σ H → Y i H x H' → g x σ H' fun σ2 H2 => tb { D with nx := Pv (i + 1), ct := Pv (i + 1), bk := D.nx } ys σ2 H2) (hd : ∀ ys σ H, Pv n ys σ H → D.nx ys σ H) :
    ∃ W : Nat → Nat → List V → L2.St → Hp → Prop, (∃ m, W 0 m ys σ H) ∧ ∀ i m ys σ H, W i m ys σ H →
      (J.stop i H ∧ D.nx ys σ H) ∨ (J.go i H ∧ ∃ N : List V → L2.St → Hp → Prop, (∀ ys' σ' H', N ys' σ' H' → ∃ m', m' < m ∧ W (i + 1) m' ys' σ' H') ∧ ∀ x H', J.yld i H x H' → g x σ H' fun σ2 H2 => tb { D with nx := N, ct := N, bk := D.nx } ys σ2 H2) := by
  refine ⟨fun i m ys σ H => m = n - i ∧ i ≤ n ∧ Pv i ys σ H, ⟨n, by simp, Nat.zero_le _, h0⟩, ?_⟩
  rintro i m ys σ H ⟨rfl, hi, p⟩
  have z := hG i ys σ H hi p
  by_cases lt : i < n
  · exact .inr ⟨wk.goes i H lt z, Pv (i + 1), fun ys' σ' G' p' => ⟨n - (i + 1), by omega, rfl, lt, p'⟩, fun x G' y => hs i x ys σ H G' lt p (wk.yields i H x G' lt z y)⟩
  · have e : i = n := by omega
    subst e
    exact .inl ⟨wk.stops H z, hd ys σ H p⟩
end
-- part starkw
/-! a method with a star parameter and one keyword-only default -/
structure FnSK (P : Program) (w : World) (K : PySem.W.Frag) (mg : Str → Option Value) (base : Heap) (k : Nat) (f : Addr) (kw : Str) (dv : V) (sp : Sp) : Prop where
  d : FnR P w K mg base CX0 k f (fun vs H Q E => ∃ a rest, vs = a :: rest ∧ rest.length ≤ sizeLine ∧ ∀ p, H p = none → sp [a, dv, .ref p] (upd H p (.tup rest)) Q E)
  k : ∀ (A : Around) (outer : List Env) (s : Shared) (H : Hp) (us : List Value) (u : Value) (a : V) (rest : List V) (z : V) (Q : VK) (E : XK), Room k A → Env0 P w K mg base A outer s H → Vals (a :: rest) us → RelV z u → rest.length ≤ sizeLine → (∀ p, H p = none → sp [a, z, .ref p] (upd H p (.tup rest)) Q E) →
    codeAny (model P w) A (.call (.ref f) ⟨us, [(kw, u)]⟩) (CR CX0 outer P w H s Q E) s
theorem fn_sk {k : Nat} {f D : Addr} {name qual : Str} {params : Arguments} {body : List Stmt} {scope : Scope} {dV doc pm cdv ct oc dval : Value} {an od : Option Addr} {osl : Array (Option Value)} {N : List Str} {sp : Sp} {p1 kw pv : Str} {dv : V}
    (lk : K.lookup f = some ⟨oc, od, .func (PySem.W.fnOf name qual params body scope dV (.ref D) doc pm an cdv ct), osl⟩) (hcd : PySem.W.codeIn K cdv qual = true) (S : FnScope N [p1, kw, pv] scope)
    (hD : PySem.W.nsIn K D kw = some (some dval)) (rd : RelV dv dval)
    (h0 : ∀ a rest, ∃ (β γ : Type) (k1 : Option Value → Sem β) (k2 : β → Sem γ) (k3 : γ → Sem (List (Str × Value))) (b : β), bindArgs (PySem.W.fnOf name qual params body scope dV (.ref D) doc pm an cdv ct) ⟨a :: rest, []⟩ = ((nsGet D kw >>= k1) >>= k2) >>= k3 ∧ k1 (some dval) = pure b ∧ (k2 b >>= k3) = (newTuple rest >>= fun t => pure [(p1, a), (kw, dval), (pv, t)]))
    (h1 : ∀ a rest u, bindArgs (PySem.W.fnOf name qual params body scope dV (.ref D) doc pm an cdv ct) ⟨a :: rest, [(kw, u)]⟩ = (newTuple rest >>= fun t => pure [(p1, a), (kw, u), (pv, t)]))
    (hbody : ∀ (A : Around) (outer : List Env) (s : Shared) (H : Hp) (vs : List V) (Q : VK) (E : XK), Room k (A.deeper (envOfC qual scope s.heap.objs.size f cdv)) → sp vs H Q E →
      ∃ t, PSs (cxOf CX0 P w K mg base N qual scope f cdv A outer s H E) body t ∧ t { nx := fun _ H' => Q .non H', rt := Q } (start N vs) H) : FnSK P w K mg base (k + 1) f kw dv sp := by
  have main : ∀ (A : Around) (outer : List Env) (s : Shared) (H : Hp) (u1 : Value) (u2 : List Value) (u : Value) (a : V) (rest : List V) (z : V) (Q : VK) (E : XK) (kws : List (Str × Value)), Room (k + 1) A → Env0 P w K mg base A outer s H → RelV a u1 → Vals rest u2 → RelV z u → rest.length ≤ sizeLine → (∀ p, H p = none → sp [a, z, .ref p] (upd H p (.tup rest)) Q E) →
      (∀ (A' : Around) (Ex : Value → Shared → Prop) (Q' : List (Str × Value) → Shared → Prop), wpAny (model P w) A' (newTuple u2 >>= fun t => pure [(p1, u1), (kw, u), (pv, t)]) Q' Ex s → wpAny (model P w) A' (bindArgs (PySem.W.fnOf name qual params body scope dV (.ref D) doc pm an cdv ct) ⟨u1 :: u2, kws⟩) Q' Ex s) →
      codeAny (model P w) A (.call (.ref f) ⟨u1 :: u2, kws⟩) (CR CX0 outer P w H s Q E) s := by
    intro A outer s H u1 u2 u a rest z Q E kws hr e0 ra rr rz hz hq hb
    have hn : H s.heap.objs.size = Option.none := e0.hok.fresh (Nat.le_refl _)
    have hl2 : u2.length ≤ sizeLine := by rw [← rr.length]; exact hz
    refine StX.run_bnd (ps := [p1, kw, pv]) lk hcd S hr e0 (G := fun xs H2 => ∃ p, H p = Option.none ∧ xs = [a, z, V.ref p] ∧ H2 = upd H p (.tup rest)) (fun A' Ex Q' h => ?_) fun s2 H2 xs ⟨p, hp, ex, eH⟩ hr' => ?_
    · refine hb A' Ex Q' ?_
      refine wpAny_bind (wpAny_newTuple (wpAny_pure ?_) hl2)
      have new : ObjOk P w (upd H s.heap.objs.size (.tup rest)) (s.heap.push ({ cls := .type "tuple", data := .seq u2.toArray } : Obj)) s.heap.objs.size (.tup rest) := ⟨hz, u2, rr, ⟨_, Heap.get?_push_size _ rfl, rfl, _, rfl⟩⟩
      have un := StX.un_laid (fs := frs outer) (s := s) (o := ({ cls := .type "tuple", data := .seq u2.toArray } : Obj)) (u := .tup rest) hn
      exact h _ _ [a, z, V.ref s.heap.objs.size] [u1, u, Value.ref s.heap.objs.size] (StX.env0_laid e0 new) un rfl (fun e s' z => z.elim) (.cons ra (.cons rz (.cons rfl .nil))) rfl ⟨_, hn, rfl, rfl⟩
    · subst ex eH
      exact hbody A outer s2 _ _ Q E hr' (hq p hp)
  refine ⟨fun A outer s H us vs Q E hr e0 r hsp => ?_, fun A outer s H us u a rest z Q E hr e0 r rz hz hq => ?_⟩
  · obtain ⟨a, rest, rfl, hz, hq⟩ := hsp
    cases r with
    | cons ra rr =>
      rename_i u1 u2
      refine main A outer s H u1 u2 dval a rest dv Q E [] hr e0 ra rr rd hz hq fun A' Ex Q' h => ?_
      obtain ⟨β, γ, k1, k2, k3, b, e1, e2, e3⟩ := h0 u1 u2
      have KX : K.In s.heap := e0.mod.kin.keeps fun b o e => (e0.bs b o e).1
      have l1 : PySem.W.Looks (model P w) s.heap (nsGet D kw >>= k1) b := (PySem.W.looks_nsIn KX hD).andThen (PySem.W.Looks.of_pure e2)
      rw [e1, bind_assoc]
      refine wpAny_bind (l1.here ?_)
      rw [e3]
      exact h
  · cases r with
    | cons ra rr => exact main A outer s H _ _ u a rest z Q E _ hr e0 ra rr rz hz hq fun A' Ex Q' h => by rw [h1]; exact h
structure MeSK (P : Program) (w : World) (K : PySem.W.Frag) (mg : Str → Option Value) (base : Heap) (k : Nat) (C : Addr) (m kw : Str) (dv : V) (sp : Sp) : Prop where
  ex : ∃ f, Meth K C m f ∧ FnSK P w K mg base k f kw dv sp
section
variable {X : Cx} {C : Addr} {m kw : Str} {dv : V} {sp : Sp} {k j : Nat} {o e : Expr} {es : List Expr} {kws : List Keyword} {ta : TE} {t tw : TA} {apos pos : Pos} {pl : Sem Bool}
def tMethSK (C : Addr) (m : Str) (dv : V) (sp : Sp) (ta : TE) (t : TA) : TE := fun σ H Q => ta σ H fun x H1 => ∃ a dx fs, x = .ref a ∧ H1 a = some (.ins C dx fs) ∧ fs.lookup m = none ∧ t σ H1 fun vs H2 => vs.length ≤ sizeLine ∧ ∀ p, H2 p = none → sp [x, dv, .ref p] (upd H2 p (.tup vs)) Q E0
theorem pe_meSK0 (c : MeSK X.prog X.w X.K X.mg X.base k C m kw dv sp) (cl : Cls X.K C) (hr : Room j X.A) (he : PE X o ta) (hk : k ≤ j := by decide)
    (ht : eval (.Call (.Attribute o m apos) [] [] pos) X.env = (do
      let ov ← eval o X.env
      standAt apos.atName
      let (f, first) ← holding [ov] (getMethod ov m pl)
      callWith pos f first (backTo pos (starEach [] X.env)) (backToKw pos (keywordEach [] X.env))) := by rfl) :
    PE X (.Call (.Attribute o m apos) [] [] pos) (tMethSK C m dv sp ta tNil) := by
  obtain ⟨f, M, F⟩ := c.ex
  refine ⟨fun pins s σ H Q I h => ?_⟩
  refine PySem.W.methodCall_KW (pl := pl) (thn (he.run pins s σ H _ I h) fun u s1 ⟨x, H1, I1, rx, a, dx, fs, ex, ea, l, hz, q⟩ => ?_) ht
  subst ex
  obtain rfl : u = Value.ref a := rx
  refine getmeth_ok I1 ea cl M l ?_
  exact PySem.W.callWith_K0 (first := [.ref a]) I1.kIn M.kp (wpAny_call (run_fnR (us := [.ref a]) (vs := [.ref a]) F.d (hr.mono hk) pass0 I1 (.cons rfl .nil) ⟨_, _, rfl, hz, q⟩))
theorem pe_meSK (c : MeSK X.prog X.w X.K X.mg X.base k C m kw dv sp) (cl : Cls X.K C) (hr : Room j X.A) (he : PE X o ta) (ha : PA X (e :: es) t) (hk : k ≤ j := by decide)
    (hst : starEach (e :: es) X.env = (false, eval e X.env) :: starEach es X.env := by rfl) (hpl : (backTo pos (starEach es X.env)).any (·.1) = false := by rfl)
    (ht : eval (.Call (.Attribute o m apos) (e :: es) [] pos) X.env = (do
      let ov ← eval o X.env
      standAt apos.atName
      let (f, first) ← holding [ov] (getMethod ov m pl)
      callWith pos f first (backTo pos (starEach (e :: es) X.env)) (backToKw pos (keywordEach [] X.env))) := by rfl) :
    PE X (.Call (.Attribute o m apos) (e :: es) [] pos) (tMethSK C m dv sp ta t) := by
  obtain ⟨f, M, F⟩ := c.ex
  refine ⟨fun pins s σ H Q I h => ?_⟩
  refine PySem.W.methodCall_KW (pl := pl) (thn (he.run pins s σ H _ I h) fun u s1 ⟨x, H1, I1, rx, a, dx, fs, ex, ea, l, q⟩ => ?_) ht
  subst ex
  obtain rfl : u = Value.ref a := rx
  refine getmeth_ok I1 ea cl M l ?_
  exact PySem.W.callWith_K (first := [.ref a]) (h₀ := X.base) I1.ok.mod.kin M.kp (thn (ha.run pos pins s1 σ H1 _ I1 q) fun us s2 ⟨vs, H2, I2, r, hz, q2⟩ => ⟨I2.kIn, wpAny_call (run_fnR (us := .ref a :: us) (vs := .ref a :: vs) F.d (hr.mono hk) pass0 I2 (.cons rfl r) ⟨_, _, rfl, hz, q2⟩)⟩) hst hpl
def tMethSKw (C : Addr) (m : Str) (sp : Sp) (ta : TE) (t tw : TA) : TE := fun σ H Q => ta σ H fun x H1 => ∃ a dx fs, x = .ref a ∧ H1 a = some (.ins C dx fs) ∧ fs.lookup m = none ∧ t σ H1 fun vs H2 => tw σ H2 fun zs H3 => ∃ z, zs = [z] ∧ vs.length ≤ sizeLine ∧ ∀ p, H3 p = none → sp [x, z, .ref p] (upd H3 p (.tup vs)) Q E0
theorem pe_meSKw (c : MeSK X.prog X.w X.K X.mg X.base k C m kw dv sp) (cl : Cls X.K C) (hr : Room j X.A) (he : PE X o ta) (ha : PA X (e :: es) t) (hw : PK X kws tw) (hk : k ≤ j := by decide)
    (hall : (backToKw pos (keywordEach kws X.env)).all (·.1.isSome) = true := by rfl) (hks : (backToKw pos (keywordEach kws X.env)).filterMap (·.1) = [kw] := by rfl)
    (hst : starEach (e :: es) X.env = (false, eval e X.env) :: starEach es X.env := by rfl) (hpl : ((backTo pos (starEach (e :: es) X.env)).any (·.1) || (backToKw pos (keywordEach kws X.env)).any (·.1.isNone)) = false := by rfl)
    (ht : eval (.Call (.Attribute o m apos) (e :: es) kws pos) X.env = (do
      let ov ← eval o X.env
      standAt apos.atName
      let (f, first) ← holding [ov] (getMethod ov m pl)
      callWith pos f first (backTo pos (starEach (e :: es) X.env)) (backToKw pos (keywordEach kws X.env))) := by rfl) :
    PE X (.Call (.Attribute o m apos) (e :: es) kws pos) (tMethSKw C m sp ta t tw) := by
  obtain ⟨f, M, F⟩ := c.ex
  refine ⟨fun pins s σ H Q I h => ?_⟩
  refine PySem.W.methodCall_KW (pl := pl) (thn (he.run pins s σ H _ I h) fun u s1 ⟨x, H1, I1, rx, a, dx, fs, ex, ea, l, q⟩ => ?_) ht
  subst ex
  obtain rfl : u = Value.ref a := rx
  refine getmeth_ok I1 ea cl M l ?_
  refine PySem.W.callWith_KW (first := [.ref a]) (h₀ := X.base) I1.ok.mod.kin M.kp hall (thn (ha.run pos pins s1 σ H1 _ I1 q) fun us s2 ⟨vs, H2, I2, r, q⟩ => ?_) hpl hst
  refine thn (hw.run pos pins s2 σ H2 _ I2 q) fun ws s3 ⟨zs, H3, I3, rz, z, ez, hz, q2⟩ => ⟨I3.kIn, ?_⟩
  rw [hks]
  subst ez
  cases rz with
  | cons rz rn =>
    cases rn
    refine wpAny_call (codeAny_mono (F.k X.A X.stack s3 H3 _ _ (.ref a) vs z Q E0 (hr.mono hk) I3.env0 (.cons rfl r) rz hz q2) fun rr s' hq => ?_)
    cases rr with
    | error e => exact hq.elim
    | ok fl =>
      cases fl with
      | ret u => exact I3.after hq
      | next => exact False.elim hq
      | brk => exact False.elim hq
      | cont => exact False.elim hq
end
-- part upto
/-! the primes of a set up to a bound -/
def upR (m : Int) : List Int := (List.range (m - 1).toNat).map fun (i : Nat) => 2 + (i : Int)
theorem upR_mem {m n : Int} : n ∈ upR m ↔ 2 ≤ n ∧ n ≤ m := by
  unfold upR
  rw [List.mem_map]
  constructor
  · rintro ⟨i, hi, rfl⟩
    have := List.mem_range.mp hi
    omega
  · rintro ⟨h1, h2⟩
    exact ⟨(n - 2).toNat, List.mem_range.mpr (by omega), by omega⟩
theorem upR_srt (m : Int) : (upR m).Pairwise (· < ·) := by
  unfold upR
  exact List.Pairwise.map _ (fun a b h => by show 2 + (a : Int) < 2 + (b : Int); omega) List.pairwise_lt_range
theorem upR_len (m : Int) : (upR m).length = (m - 1).toNat := by
  unfold upR
  rw [List.length_map, List.length_range]
noncomputable def upL (e : Bool) (l : List Int) (m : Int) : List Int := (upR m).filter fun n => prB n && memB e l n
theorem upL_mem {e : Bool} {l : List Int} {m n : Int} : n ∈ upL e l m ↔ (Pr n ∧ n ≤ m) ∧ memB e l n = true := by
  unfold upL
  rw [List.mem_filter, upR_mem, Bool.and_eq_true, prB_iff]
  constructor
  · rintro ⟨⟨_, h2⟩, h3, h4⟩
    exact ⟨⟨h3, h2⟩, h4⟩
  · rintro ⟨⟨h3, h2⟩, h4⟩
    exact ⟨⟨h3.1, h2⟩, h3, h4⟩
theorem upL_fin {l : List Int} (hs : l.Pairwise (· < ·)) (hp : ∀ q ∈ l, Pr q ∧ q < 2 ^ 62) (m : Int) : (l.filter fun p => decide (p ≤ m)) = upL false l m :=
  sorted_uniq (hs.filter _) ((upR_srt m).filter _) fun q => by
    rw [List.mem_filter]
    refine Iff.trans ?_ (upL_mem (e := false) (l := l) (m := m)).symm
    unfold memB
    rw [if_neg (by decide), decide_eq_true_eq, decide_eq_true_eq]
    exact ⟨fun h => ⟨⟨(hp q h.1).1, h.2⟩, h.1⟩, fun h => ⟨h.2, h.1.2⟩⟩
theorem upL_len (e : Bool) (l : List Int) (m : Int) : (upL e l m).length ≤ (m - 1).toNat := by
  rw [← upR_len]
  exact List.length_filter_le _ _
abbrev s_cupto : Stmt := inClass (top 19) 17
theorem gs_cupto : GScope ["self", "most", "p"] ["self", "most"] (defScope s_cupto) := ⟨rfl, rfl, rfl, by decide +kernel, rfl, by decide +kernel, by decide +kernel⟩
def spUpto (C : Addr) : SpG := fun vs H Qg _ => ∃ (a : Addr) (e : Bool) (l : List Int) (m : Int), vs = [.ref a, .int m] ∧ CharsAt C H a e l ∧ l.length < 1000 ∧ 0 ≤ m ∧ m < 1000000 ∧ Qg ((upL e l m).map V.int) H
theorem g_cupto {f C : Addr} {kV doc pm cdv ct oc : Value} {an od : Option Addr} {osl : Array (Option Value)} (TT : Txt mg) (T : ChT K mg C) (lk : K.lookup f = some ⟨oc, od, .func (PySem.W.fnOf "upto" "Chars.upto" (defArgs s_cupto) (defBody s_cupto) (defScope s_cupto) .none kV doc pm an cdv ct), osl⟩) (hcd : PySem.W.codeIn K cdv "Chars.upto" = true)
    (c_prime : Cl P w K mg base CX0 2 "is_prime" spPrime) (c_cont : Me P w K mg base 1 C "__contains__" (spCont C)) : GFn P w K mg base 3 f (PySem.W.fnOf "upto" "Chars.upto" (defArgs s_cupto) (defBody s_cupto) (defScope s_cupto) .none kV doc pm an cdv ct) ["self", "most"] (spUpto C) := by
  refine gfn_of (k := 2) lk hcd gs_cupto (fun vs H Q E h => ?_) (fun A outer s H vs Q E pn hr h => ?_)
  · obtain ⟨a, e, l, m, rfl, _⟩ := h
    rfl
  · obtain ⟨a, e, l, m, rfl, ch, few, m0, m1, q⟩ := h
    obtain ⟨dx, t, h1, h2⟩ := ch.ob
    refine ⟨_, gss_cons (gs_if (pt_not (pt_val (pe_fld (pv 0) rfl))) (gss_cons (gs_for owns_gcx rfl (pi_tup (pe_fld (pv 0) rfl)) (pg_name (i := 2) gs_cupto.nd rfl (Or.inl rfl)) (gss_cons (gs_if (pt_cmpR op_le (pv 2) (pv 1) (nomark _)) (gss_cons (gs_yield (pv 2)) gss_nil) gss_nil) gss_nil)) (gss_cons (gs_ps ps_retN) gss_nil)) gss_nil)
      (gss_cons (gs_for owns_gcx rfl (pi_range2 rfl TT.range (pa_cons pe_int (pa_cons (pe_op op_add (pv 1) pe_int) pa_nil))) (pg_name (i := 2) gs_cupto.nd rfl (Or.inl rfl)) (gss_cons (gs_if (pw_and (pt_val (pe_cl c_prime hr (pa_cons (pv 2) pa_nil))) (pw_and1 (pt_cmpR (op_in_own c_cont hr) (pv 2) (pv 0) (by with_unfolding_all rfl)))).pt (gss_cons (gs_yield (pv 2)) gss_nil) gss_nil) gss_nil)) gss_nil), ?_⟩
    refine ⟨_, rfl, a, C, dx, _, _, rfl, h1, T.cl, T.nE, chF_e _ _, _, rfl, ?_⟩
    cases e with
    | false =>
      refine if_pos_of rfl ?_
      refine ⟨_, rfl, a, C, dx, _, _, rfl, h1, T.cl, T.nP, chF_p _ _, t, rfl, ⟨_, .inl (.inl h2)⟩, gfor_it (walk_tup (K := K) (a := t) (xs := l.map V.int)) (fun i ys σ G => H = G ∧ ys = ((l.take i).filter fun p => decide (p ≤ m)).map V.int ∧ ∃ x, σ = [some (.ref a), some (.int m), x]) ⟨rfl, rfl, none, rfl⟩ (fun i ys σ G _ h => by rw [← h.1]; exact .inl (.inl h2)) ?_ ?_⟩
      · rintro i x ys σ _ _ hi ⟨rfl, rfl, x2, rfl⟩ ⟨rfl, hx⟩
        obtain ⟨z, rfl, hz⟩ := item_int hx
        have ft := filter_take (g := fun p => decide (p ≤ m)) hz
        refine ⟨_, rfl, _, rfl, _, _, rfl, rfl, _, rfl, ?_⟩
        by_cases c : z ≤ m
        · rw [decide_eq_true c, if_pos rfl] at ft
          refine if_pos_of (decide_eq_true c) ⟨?_, _, rfl, rfl, ?_, _, rfl⟩
          · rw [List.length_map]
            have h3 := List.length_filter_le (fun p => decide (p ≤ m)) (l.take i)
            have h4 : (l.take i).length ≤ l.length := by rw [List.length_take]; omega
            exact small1000 (by omega)
          · rw [ft, List.map_append]
            rfl
        · rw [decide_eq_false c, if_neg (by decide), List.append_nil] at ft
          exact if_neg_of (decide_eq_false c) ⟨rfl, by rw [ft], _, rfl⟩
      · rintro ys σ _ ⟨rfl, rfl, x, rfl⟩
        refine ⟨rfl, ?_⟩
        rw [List.length_map, List.take_length, upL_fin ch.srt ch.prm]
        exact q
    | true =>
      refine if_neg_of rfl ?_
      refine ⟨_, rfl, _, _, rfl, rfl, 2, m + 1, rfl, ⟨by decide, by decide, by omega, by omega⟩, gfor_it (walk_range (lo := 2) (n := (m + 1 - 2).toNat)) (fun i ys σ G => H = G ∧ ys = (((upR m).take i).filter fun n => prB n && memB true l n).map V.int ∧ ∃ x, σ = [some (.ref a), some (.int m), x]) ⟨rfl, rfl, none, rfl⟩ (fun _ _ _ _ _ _ => trivial) ?_ ?_⟩
      · rintro i x ys σ _ _ hi ⟨rfl, rfl, x2, rfl⟩ ⟨rfl, rfl⟩
        have hz : (upR m)[i]? = some (2 + (i : Int)) := by
          unfold upR
          rw [List.getElem?_map, List.getElem?_range (by omega)]
          rfl
        have ft := filter_take (g := fun n => prB n && memB true l n) hz
        have sml : ((((upR m).take i).filter fun n => prB n && memB true l n).map V.int).length < sizeLine := by
          rw [List.length_map]
          have h3 := List.length_filter_le (fun n => prB n && memB true l n) ((upR m).take i)
          have h4 : ((upR m).take i).length ≤ i := by rw [List.length_take]; omega
          rw [sizeLine_eq]
          omega
        refine ⟨_, rfl, _, rfl, (by omega), _, rfl, ?_⟩
        cases c : prB (2 + (i : Int)) with
        | false =>
          rw [c, Bool.false_and, if_neg (by decide), List.append_nil] at ft
          exact if_neg_of rfl (if_neg_of rfl ⟨rfl, by rw [ft], _, rfl⟩)
        | true =>
          refine if_pos_of rfl ?_
          refine ⟨_, rfl, _, rfl, a, dx, _, rfl, h1, a, true, l, _, rfl, ch, _, rfl, _, rfl, ?_⟩
          cases c2 : memB true l (2 + (i : Int)) with
          | false =>
            rw [c, c2, Bool.and_false, if_neg (by decide), List.append_nil] at ft
            exact if_neg_of rfl ⟨rfl, by rw [ft], _, rfl⟩
          | true =>
            rw [c, c2, Bool.and_true, if_pos rfl] at ft
            exact if_pos_of rfl ⟨sml, _, rfl, rfl, by rw [ft, List.map_append]; rfl, _, rfl⟩
      · rintro ys σ _ ⟨rfl, rfl, x, rfl⟩
        rw [show (m + 1 - 2).toNat = (upR m).length by rw [upR_len]; omega, List.take_length]
        exact q
/-- list(o.upto(m)) -/
structure MeG (P : Program) (w : World) (K : PySem.W.Frag) (mg : Str → Option Value) (base : Heap) (k : Nat) (C : Addr) (m : Str) (sp : SpG) : Prop where
  ex : ∃ (f : Addr) (fd : FuncData) (ps : List Str), Meth K C m f ∧ GFn P w K mg base k f fd ps sp ∧ Binds K fd ps []
theorem passG {X : Cx} : Passes (CX X.prog X.w) X E0 := fun _ _ _ _ _ _ _ ⟨_, _, _, _, _, _, _, _, _, _, _, _, z⟩ => z.elim
theorem pe_listMeG {X : Cx} {C : Addr} {m : Str} {sp : SpG} {k j : Nat} {o e : Expr} {es : List Expr} {ta : TE} {t : TA} {apos pos' pos p : Pos} {pl : Sem Bool} (c : MeG X.prog X.w X.K X.mg X.base k C m sp) (cl : Cls X.K C) (hr : Room j X.A) (hm : X.mg "list" = none) (ho : PE X o ta) (ha : PA X (e :: es) t) (hk : k + 3 ≤ j := by decide) (hg : Gl X "list" := by rfl)
    (hst : starEach (e :: es) X.env = (false, eval e X.env) :: starEach es X.env := by rfl) (hpl : (backTo pos' (starEach es X.env)).any (·.1) = false := by rfl)
    (ht : eval (.Call (.Attribute o m apos) (e :: es) [] pos') X.env = (do
      let ov ← eval o X.env
      standAt apos.atName
      let (f, first) ← holding [ov] (getMethod ov m pl)
      callWith pos' f first (backTo pos' (starEach (e :: es) X.env)) (backToKw pos' (keywordEach [] X.env))) := by rfl)
    (he : starEach [.Call (.Attribute o m apos) (e :: es) [] pos'] X.env = (false, eval (.Call (.Attribute o m apos) (e :: es) [] pos') X.env) :: starEach [] X.env := by rfl) :
    PE X (.Call (.Name "list" p) [.Call (.Attribute o m apos) (e :: es) [] pos'] [] pos) (tListG (tMethG C m sp [] E0 ta t)) := by
  obtain ⟨f, fd, ps, M, F, b⟩ := c.ex
  exact pe_listG (pgen_meth ho cl M F (hr.mono (by omega)) b .nil ha hst hpl ht) passG (fun _ _ _ h => h.elim) (hr.mono hk) hg hm boot_list (he := he)
-- part kwm
/-! methods called with keywords, nothing lacks -/
structure MeKw (P : Program) (w : World) (K : PySem.W.Frag) (mg : Str → Option Value) (base : Heap) (CX : CXT) (k : Nat) (C : Addr) (m : Str) (n : Nat) (ks : List Str) (sp : Sp) : Prop where
  ex : ∃ (f : Addr) (fd : FuncData) (ps : List Str), Meth K C m f ∧ FnOk P w K mg base CX k f fd ps sp ∧ KBn K fd ps (n + 1) ks (fun us ws => us ++ ws) (fun vs zs => vs ++ zs)
theorem kbn_of {K : PySem.W.Frag} {fd : FuncData} {ps ks : List Str} {n : Nat} (h : ∀ (s : Shared) (us ws : List Value), us.length = n → ws.length = ks.length → BindsTo s fd ⟨us, ks.zip ws⟩ (ps.zip (us ++ ws))) : KBn K fd ps n ks (fun us ws => us ++ ws) (fun vs zs => vs ++ zs) :=
  ⟨fun s us ws _ l1 l2 => h s us ws l1 l2, fun r1 r2 => r1.append r2⟩
def tMethK (C : Addr) (m : Str) (n j : Nat) (sp : Sp) (E : L2.St → XK) (ta : TE) (t tk : TA) : TE := fun σ H Q => ta σ H fun x H1 => ∃ a dx fs, x = .ref a ∧ H1 a = some (.ins C dx fs) ∧ fs.lookup m = none ∧ t σ H1 fun vs H2 => tk σ H2 fun zs H3 => vs.length = n ∧ zs.length = j ∧ sp (x :: vs ++ zs) H3 Q (E σ)
section
variable {X : Cx} {C : Addr} {m : Str} {sp : Sp} {k j n : Nat} {ks : List Str} {o e : Expr} {es : List Expr} {kws : List Keyword} {ta : TE} {t tw : TA} {apos pos : Pos} {pl : Sem Bool}
theorem run_fnK {CX : CXT} {E : L2.St → XK} {f : Addr} {fd : FuncData} {ps : List Str} {pins : List (Addr × Obj)} {σ : L2.St} {H : Hp} {s : Shared} {Q : VK} {us ws : List Value} {vs zs : List V} (F : FnOk X.prog X.w X.K X.mg X.base CX k f fd ps sp) (hr : Room k X.A) (hb : KBn X.K fd ps n ks (fun us ws => us ++ ws) (fun vs zs => vs ++ zs)) (hx : PassesAt CX X σ (E σ))
    (I : Inv X pins σ H s) (r : Vals vs us) (rz : Vals zs ws) (l1 : vs.length = n) (l2 : zs.length = ks.length) (h : sp (vs ++ zs) H Q (E σ)) : wpAny (model X.prog X.w) X.A (call (.ref f) us (ks.zip ws)) (EP X pins σ Q) X.xe s := by
  have r2 := hb.rel r rz
  refine wpAny_call (codeAny_mono (F.run X.A X.stack s H ⟨us, ks.zip ws⟩ (us ++ ws) (vs ++ zs) Q (E σ) hr I.env0 (hb.to s us ws I.kIn (r.length.symm.trans l1) (rz.length.symm.trans l2)) r2 h) fun r s' hq => ?_)
  cases r with
  | error e => exact hx pins H s e s' I hq
  | ok fl =>
    cases fl with
    | ret u => exact I.after hq
    | next => exact False.elim hq
    | brk => exact False.elim hq
    | cont => exact False.elim hq
theorem pe_meKw {CX : CXT} {E : L2.St → XK} (c : MeKw X.prog X.w X.K X.mg X.base CX k C m n ks sp) (cl : Cls X.K C) (hr : Room j X.A) (hx : ∀ σ, PassesAt CX X σ (E σ)) (he : PE X o ta) (ha : PA X (e :: es) t) (hw : PK X kws tw) (hk : k ≤ j := by decide)
    (hall : (backToKw pos (keywordEach kws X.env)).all (·.1.isSome) = true := by rfl) (hks : (backToKw pos (keywordEach kws X.env)).filterMap (·.1) = ks := by rfl)
    (hst : starEach (e :: es) X.env = (false, eval e X.env) :: starEach es X.env := by rfl) (hpl : ((backTo pos (starEach (e :: es) X.env)).any (·.1) || (backToKw pos (keywordEach kws X.env)).any (·.1.isNone)) = false := by rfl)
    (ht : eval (.Call (.Attribute o m apos) (e :: es) kws pos) X.env = (do
      let ov ← eval o X.env
      standAt apos.atName
      let (f, first) ← holding [ov] (getMethod ov m pl)
      callWith pos f first (backTo pos (starEach (e :: es) X.env)) (backToKw pos (keywordEach kws X.env))) := by rfl) :
    PE X (.Call (.Attribute o m apos) (e :: es) kws pos) (tMethK C m n ks.length sp E ta t tw) := by
  obtain ⟨f, fd, ps, M, F, b⟩ := c.ex
  refine ⟨fun pins s σ H Q I h => ?_⟩
  refine PySem.W.methodCall_KW (pl := pl) (thn (he.run pins s σ H _ I h) fun u s1 ⟨x, H1, I1, rx, a, dx, fs, ex, ea, l, q⟩ => ?_) ht
  subst ex
  obtain rfl : u = Value.ref a := rx
  refine getmeth_ok I1 ea cl M l ?_
  refine PySem.W.callWith_KW (first := [.ref a]) (h₀ := X.base) I1.ok.mod.kin M.kp hall (thn (ha.run pos pins s1 σ H1 _ I1 q) fun us s2 ⟨vs, H2, I2, r, q⟩ => ?_) hpl hst
  refine thn (hw.run pos pins s2 σ H2 _ I2 q) fun ws s3 ⟨zs, H3, I3, rz, l1, l2, q2⟩ => ⟨I3.kIn, ?_⟩
  rw [hks]
  exact run_fnK (us := .ref a :: us) (vs := .ref a :: vs) F (hr.mono hk) b (hx σ) I3 (.cons rfl r) rz (congrArg Nat.succ l1) l2 q2
/-- o.m(.., k = v), no keyword's positional argument -/
theorem pe_meKw0 {CX : CXT} {E : L2.St → XK} (c : MeKw X.prog X.w X.K X.mg X.base CX k C m 0 ks sp) (cl : Cls X.K C) (hr : Room j X.A) (hx : ∀ σ, PassesAt CX X σ (E σ)) (he : PE X o ta) (hw : PK X kws tw) (hk : k ≤ j := by decide)
    (hall : (backToKw pos (keywordEach kws X.env)).all (·.1.isSome) = true := by rfl) (hks : (backToKw pos (keywordEach kws X.env)).filterMap (·.1) = ks := by rfl)
    (hpl : ((backTo pos (starEach [] X.env)).any (·.1) || (backToKw pos (keywordEach kws X.env)).any (·.1.isNone)) = false := by rfl)
    (ht : eval (.Call (.Attribute o m apos) [] kws pos) X.env = (do
      let ov ← eval o X.env
      standAt apos.atName
      let (f, first) ← holding [ov] (getMethod ov m pl)
      callWith pos f first (backTo pos (starEach [] X.env)) (backToKw pos (keywordEach kws X.env))) := by rfl) :
    PE X (.Call (.Attribute o m apos) [] kws pos) (tMethK C m 0 ks.length sp E ta tNil tw) := by
  obtain ⟨f, fd, ps, M, F, b⟩ := c.ex
  refine ⟨fun pins s σ H Q I h => ?_⟩
  refine PySem.W.methodCall_KW (pl := pl) (thn (he.run pins s σ H _ I h) fun u s1 ⟨x, H1, I1, rx, a, dx, fs, ex, ea, l, q⟩ => ?_) ht
  subst ex
  obtain rfl : u = Value.ref a := rx
  refine getmeth_ok I1 ea cl M l ?_
  refine PySem.W.callWith_KW0 (first := [.ref a]) (h₀ := X.base) I1.ok.mod.kin M.kp hall (thn (hw.run pos pins s1 σ H1 _ I1 q) fun ws s3 ⟨zs, H3, I3, rz, l1, l2, q2⟩ => ⟨I3.kIn, ?_⟩) hpl
  rw [hks]
  exact run_fnK (us := [.ref a]) (vs := [.ref a]) F (hr.mono hk) b (hx σ) I3 (.cons rfl .nil) rz rfl l2 q2
theorem passE0 : ∀ σ : L2.St, PassesAt CX0 X σ E0 := fun _ _ _ _ _ _ _ h => h.elim
theorem passEN : ∀ σ : L2.St, PassesAt (L2N.CX X.prog X.w) X σ E0 := fun _ _ _ _ _ _ _ ⟨_, _, _, _, _, _, _, _, _, _, _, _, z⟩ => z.elim
end
/-- a list compared with the empty one -/
def rEqNil (K : PySem.W.Frag) : R2 := fun x y H Q => ∃ a b xs, x = .ref a ∧ y = .ref b ∧ SqL K H a xs ∧ SqL K H b [] ∧ Q (.bl xs.isEmpty) H
theorem op_eqNil {X : Cx} {k : Nat} (hr : Room k X.A) : OpR X (compareOp .Eq) (rEqNil X.K) := by
  intro pins s σ H x y v u Q I rx ry h
  obtain ⟨a, b, xs, rfl, rfl, ha, hb, q⟩ := h
  cases (show v = Value.ref a from rx)
  cases (show u = Value.ref b from ry)
  obtain ⟨us, r1, p1, _⟩ := I.list ha
  obtain ⟨ws, r2, p2, _⟩ := I.list hb
  have hu := hr.un
  cases r2
  cases r1 with
  | nil =>
    refine SeqAt.eq_listAt (e := fun _ => true) p1.isList p2.isList rfl (by omega) (fun j h1 h2 => absurd h1 (Nat.not_lt_zero j)) ?_
    exact ⟨.bl true, H, I, rfl, q⟩
  | cons _ _ =>
    refine SeqAt.eq_list_lengthsAt p1.isList p2.isList (by simp) (by omega) ?_
    exact ⟨.bl false, H, I, rfl, q⟩
-- part chars7
abbrev s_csub : Stmt := inClass (top 19) 11
theorem sc_csub : FnScope ["self", "other"] ["self", "other"] (defScope s_csub) := ⟨rfl, rfl, rfl, by decide +kernel, rfl, by decide +kernel, by decide +kernel⟩
theorem ok_csub {f C : Addr} {fd : FuncData} (T : ChT K mg C) (F : Fun K "__sub__" "Chars.__sub__" s_csub f fd) (c_and : Me P w K mg base 5 C "__and__" (spAnd C and)) (c_inv : Me P w K mg base 5 C "__invert__" (spInv C)) : FnOk P w K mg base CX0 6 f fd ["self", "other"] (spAnd C fun x y => and x (!y)) := by
  refine F.ok sc_csub (fun vs H Q E h => ?_) (fun cdv A outer s H vs Q E hr h => ?_)
  · obtain ⟨a, b, _, _, _, _, rfl, _⟩ := h
    rfl
  · obtain ⟨a, b, e1, e2, l1, l2, rfl, ch1, ch2, few, q⟩ := h
    obtain ⟨dx, t, h1, h2⟩ := ch1.ob
    obtain ⟨dy, u, g1, g2⟩ := ch2.ob
    refine ⟨_, (pss_one (ps_ret (pe_op (op_own2 c_and hr T.sf) (pv 0) (pe_un (un_inv1 c_inv hr) (pv 1))))), ?_⟩
    refine ⟨_, rfl, _, rfl, b, dy, _, rfl, g1, b, e2, l2, rfl, ch2, by omega, fun r H' ch3 s3 => ?_⟩
    obtain ⟨dz, v, y1, y2⟩ := ch3.ob
    refine ⟨a, r, _, _, _, _, rfl, rfl, s3 _ _ h1, y1, a, r, e1, !e2, l1, l2, rfl, ch1.same s3, ch3, few, fun r' l' H2 ch4 len mem s4 => q r' l' H2 ch4 len (fun p => ?_) (s3.trans s4)⟩
    have z := mem p
    rw [memB_not] at z
    exact z
section
variable {C a b : Addr} {e1 e2 : Bool} {l1 l2 : List Int} {H : Hp} {Q : VK}
/-- the readings of the operators over sets -/
theorem use2 {g : Bool → Bool → Bool} (ch1 : CharsAt C H a e1 l1) (ch2 : CharsAt C H b e2 l2) (few : l1.length + l2.length < 64)
    (k : ∀ (r : Addr) (l : List Int) (H' : Hp), CharsAt C H' r (g e1 e2) l → l.length ≤ l1.length + l2.length → (∀ p, memB (g e1 e2) l p = g (memB e1 l1 p) (memB e2 l2 p)) → Same H H' → Q (.ref r) H') : rOwn2 C (spAnd C g) (.ref a) (.ref b) H Q := by
  obtain ⟨dx, t, h1, _⟩ := ch1.ob
  obtain ⟨dy, u, g1, _⟩ := ch2.ob
  exact ⟨a, b, _, _, _, _, rfl, rfl, h1, g1, a, b, e1, e2, l1, l2, rfl, ch1, ch2, few, k⟩
theorem use1 (ch1 : CharsAt C H a e1 l1) (few : l1.length < 64) (k : ∀ (r : Addr) (H' : Hp), CharsAt C H' r (!e1) l1 → Same H H' → Q (.ref r) H') : rOwn1 C (spInv C) (.ref a) H Q := by
  obtain ⟨dx, t, h1, _⟩ := ch1.ob
  exact ⟨a, dx, _, rfl, h1, a, e1, l1, rfl, ch1, few, k⟩
theorem useEq (ch1 : CharsAt C H a e1 l1) (ch2 : CharsAt C H b e2 l2) (k : Q (.bl (decide (e1 = e2 ∧ l1 = l2))) H) : rOwn2 C (spCeq C) (.ref a) (.ref b) H Q := by
  obtain ⟨dx, t, h1, _⟩ := ch1.ob
  obtain ⟨dy, u, g1, _⟩ := ch2.ob
  exact ⟨a, b, _, _, _, _, rfl, rfl, h1, g1, a, b, e1, e2, l1, l2, rfl, ch1, ch2, k⟩
theorem useTru {R : Bool → Hp → Prop} (ch1 : CharsAt C H a e1 l1) (k : R (e1 || !l1.isEmpty) H) : rTruOwn C (spCbool C) (.ref a) H R := by
  obtain ⟨dx, t, h1, _⟩ := ch1.ob
  exact ⟨a, dx, _, rfl, h1, a, e1, l1, rfl, ch1, _, rfl, k⟩
theorem useIn {p : Int} (ch1 : CharsAt C H a e1 l1) (k : Q (.bl (memB e1 l1 p)) H) : rOwnIn false C (spCont C) (.int p) (.ref a) H Q := by
  obtain ⟨dx, t, h1, _⟩ := ch1.ob
  exact ⟨a, dx, _, rfl, h1, a, e1, l1, p, rfl, ch1, _, rfl, k⟩
/-- two sets with the same members -/
theorem eq_sets {H' : Hp} (ch1 : CharsAt C H a e1 l1) (ch2 : CharsAt C H' b e2 l2) (he : e1 = e2) (h : ∀ p, memB e1 l1 p = memB e2 l2 p) : decide (e1 = e2 ∧ l1 = l2) = true := by
  subst he
  exact decide_eq_true ⟨rfl, memB_inj ch1.srt ch2.srt h⟩
end
-- part drawnl
/-! numbers drawn, one by one -/
theorem Drawn.cons {z : Int} {zs ds : List Int} (h : Drawn (z :: zs) ds) : ∃ (d : Int) (ds' : List Int), ds = d :: ds' ∧ (0 ≤ d ∧ d < z) ∧ Drawn zs ds' := by
  cases ds with
  | nil => exact absurd h.1 (by simp)
  | cons d ds => exact ⟨d, ds, rfl, h.2 0 d z rfl rfl, by have := h.1; simpa using this, fun i d' z' h1 h2 => h.2 (i + 1) d' z' h1 h2⟩
theorem Drawn.nil {ds : List Int} (h : Drawn [] ds) : ds = [] := List.length_eq_zero_iff.mp h.1
-- part bkx
/-! the laws on books: small pieces -/
theorem pe_ma0 {X : Cx} {C : Addr} {x : Str} {sp : Sp} {k j : Nat} {p pos : Pos} (c : Ma X.prog X.w X.K X.mg X.base k C sp) (hr : Room j X.A) (hm : X.mg x = some (.ref C)) (hk : k + 1 ≤ j := by decide) (hg : Gl X x := by rfl) (hdb : (x == ("__debug__" : Str)) = false := by decide) : PE X (.Call (.Name x p) [] [] pos) (tMake C sp [] E0 tNil) := by
  obtain ⟨f, fd, ps, M, F, b⟩ := c.ex
  exact pe_make0 M F (hr.mono hk) hg hm b .nil passN hdb
theorem parts_snoc (R : List Rep) (x : Rep) : partsV (R ++ [x]) = partsV R ++ [partV x.s x.h] := by
  unfold partsV
  rw [List.map_append]
  rfl
theorem parts_drop (R : List Rep) : partsV R.dropLast = (partsV R).dropLast := by
  unfold partsV
  rw [List.map_dropLast]
theorem SetsAt.but {C : Addr} {H H' : Hp} {a rl : Addr} {L : List SetV} {acc : List V} (hl : H rl = some (.lst acc)) (ne : a ≠ rl) (k : SameBut rl H H') (h : SetsAt C H a L) : SetsAt C H' a L := by
  obtain ⟨us, e, l, m⟩ := h
  exact ⟨us, k _ _ ne e, l, fun i s hs => by
    obtain ⟨q, q1, q2⟩ := m i s hs
    exact ⟨q, q1, q2.but hl k⟩⟩
theorem cut_last {xs : List V} : cutV xs none (some (-1)) = xs.take (xs.length - 1) := by
  unfold cutV
  rw [HT.sIx_none]
  have e : HT.sIx xs.length xs.length (some (-1)) = xs.length - 1 := by
    show (if (-1 : Int) < 0 then (-1 + (xs.length : Int)).toNat else min (-1 : Int).toNat xs.length) = xs.length - 1
    rw [if_pos (by decide)]
    omega
  rw [e, List.drop_zero, Nat.sub_zero]
theorem take_drop1 {α : Type} (L : List α) {n : Nat} (h : n ≤ L.length) : (L.take n).dropLast = L.take (n - 1) := by
  rw [List.dropLast_eq_take, List.length_take, List.take_take]
  congr 1
  omega
-- part revl
-- part k89a
/-! the law on the best question -/
abbrev s_lisp : Stmt := top 31
theorem sc_lisp : FnScope ["_law_n", "_law_k"] ["_law_n"] (defScope s_lisp) := ⟨rfl, rfl, rfl, by decide +kernel, rfl, by decide +kernel, by decide +kernel⟩
def spLisp : Sp := fun vs H Q _ => ∃ n : Int, vs = [.int n] ∧ 2 < n ∧ n < 2 ^ 60 ∧ Q (.bl (prB n)) H
theorem ok_lisp {f : Addr} {fd : FuncData} (F : Fun K "_law_is_prime" "_law_is_prime" s_lisp f fd) : FnOk P w K mg base CX0 1 f fd ["_law_n"] spLisp := by
  refine F.ok sc_lisp (fun vs H Q E h => ?_) (fun cdv A outer s H vs Q E hr h => ?_)
  · obtain ⟨n, rfl, _⟩ := h
    rfl
  · obtain ⟨n, rfl, h3, hb, q⟩ := h
    refine ⟨_, (Evl.pss_cut (ps_if (pw_or (pt_cmpR op_lt (pv 0) pe_int (nomark _)) (pw_or1 (pt_cmpR op_eq (pe_op op_mod (pv 0) pe_int) pe_int (nomark _)))).pt (pss_one (ps_ret pe_bl)) pss_nil)
 (pss_cons (ps_set (i := 1) sc_lisp.nd rfl (Or.inl rfl) pe_int)
 (pss_cons (ps_while PassesOwn.never (pt_cmpR op_le (pe_op op_mul (pv 1) (pv 1)) (pv 0) (nomark _)) (pss_cons (ps_if (pt_cmpR op_eq (pe_op op_mod (pv 0) (pv 1)) pe_int (nomark _)) (pss_one (ps_ret pe_bl)) pss_nil)
 (pss_one (ps_set (i := 1) sc_lisp.nd rfl (Or.inl rfl) (pe_op op_add (pv 1) pe_int)))))
 (pss_one (ps_ret pe_bl))))), ?_⟩
    refine ⟨fun σ H' => H = H' ∧ ¬ (2 : Int) ∣ n ∧ σ = [some (.int n), none], ?_, ?_⟩
    · refine ⟨_, rfl, _, _, rfl, rfl, _, rfl, if_neg_of (decide_eq_false (by omega)) ?_⟩
      refine ⟨_, rfl, _, _, rfl, rfl, (by show (0 : Int) < 2; decide), rfl, _, rfl, ?_⟩
      by_cases c : (2 : Int) ∣ n
      · refine if_pos_of (decide_eq_true (congrArg V.int (Int.emod_eq_zero_of_dvd c))) ?_
        rw [prB_false fun p => p.2 2 (by decide) h3 c] at q
        exact q
      · exact if_neg_of (decide_eq_false fun e => c (Int.dvd_of_emod_eq_zero (V.int.inj e))) ⟨rfl, c, rfl⟩
    rintro σ _ ⟨rfl, odd, rfl⟩
    refine while_by (fun σ H' => H' = H ∧ ∃ i : Nat, σ = [some (.int n), some (.int (3 + (i : Int) * 2))] ∧ 3 + (i : Int) * 2 ≤ n + 2 ∧ ∀ j : Nat, j < i → ¬ (3 + (j : Int) * 2) ∣ n) (fun σ _ => match σ[1]? with | some (some (V.int k)) => (n + 4 - k).toNat | _ => 0)
      ⟨rfl, 0, rfl, by omega, fun j hj => absurd hj (Nat.not_lt_zero j)⟩ ?_ ?_
    · rintro σ _ ⟨rfl, i, rfl, k3, hm⟩
      refine ⟨_, rfl, _, rfl, _, _, rfl, rfl, .inl ⟨by omega, by omega⟩, _, rfl, _, _, rfl, rfl, _, rfl, ?_⟩
      by_cases c2 : (3 + (i : Int) * 2) * (3 + (i : Int) * 2) ≤ n
      · refine if_pos_of (decide_eq_true c2) ?_
        have kn : 3 + (i : Int) * 2 < n ∧ 3 * (3 + (i : Int) * 2) ≤ n := by
          have : 3 * (3 + (i : Int) * 2) ≤ (3 + (i : Int) * 2) * (3 + (i : Int) * 2) := Int.mul_le_mul_of_nonneg_right (by omega) (by omega)
          omega
        refine ⟨_, rfl, _, rfl, _, _, rfl, rfl, (by show (0 : Int) < 3 + (i : Int) * 2; omega), rfl, _, rfl, ?_⟩
        by_cases c3 : (3 + (i : Int) * 2) ∣ n
        · refine if_pos_of (decide_eq_true (congrArg V.int (Int.emod_eq_zero_of_dvd c3))) ?_
          rw [prB_false fun p => p.2 _ (by omega) (by omega) c3] at q
          exact q
        · refine if_neg_of (decide_eq_false fun e => c3 (Int.dvd_of_emod_eq_zero (V.int.inj e))) ?_
          refine ⟨_, rfl, _, _, rfl, rfl, ⟨rfl, i + 1, ?_, by omega, fun j hj => ?_⟩, ?_⟩
          · rw [show 3 + ((i + 1 : Nat) : Int) * 2 = 3 + (i : Int) * 2 + 2 by omega]
            rfl
          · by_cases e : j = i
            · rw [e]
              exact c3
            · exact hm j (by omega)
          · show (n + 4 - (3 + (i : Int) * 2 + 2)).toNat < (n + 4 - (3 + (i : Int) * 2)).toNat
            omega
      · refine if_neg_of (decide_eq_false c2) ?_
        have ln : Least n n := least_of_odd (s := 3 + (i : Int) * 2 - 1) (by omega) odd (by omega) (by rw [Int.sub_add_cancel]; omega) fun j hj => hm j (by omega)
        rw [prB_true ((ln.self (by omega)).mp rfl)] at q
        exact q
    · rintro σ H1 Q1 Q2 h ⟨v, e1, v2, e2, i, j, e3, e4, hc, v3, e5, i2, j2, e6, e7, k, e8, qq⟩
      exact ⟨v, e1, v2, e2, i, j, e3, e4, hc, v3, e5, i2, j2, e6, e7, k, e8, h _ _ qq⟩
def cntV (ms : List Int) (s : SetV) : Nat := (ms.filter (memB s.1 s.2)).length
def grtV (ms : List Int) (s : SetV) : Int := if ((ms.length : Int) - (cntV ms s : Int)) > (cntV ms s : Int) then (ms.length : Int) - (cntV ms s : Int) else (cntV ms s : Int)
theorem grtV_perm {ms ns : List Int} (h : ms.Perm ns) (s : SetV) : grtV ms s = grtV ns s := by
  have e : cntV ms s = cntV ns s := (h.filter _).length_eq
  unfold grtV
  rw [e, h.length_eq]
def partI (ms : List Int) (L : List SetV) : List Int := L.map (grtV ms)
theorem partI_perm {ms ns : List Int} (h : ms.Perm ns) (L : List SetV) : partI ms L = partI ns L := List.map_congr_left fun s _ => grtV_perm h s
theorem in_SU {C : Addr} {H : Hp} {a : Addr} {s : SetV} {p : Int} {Q : VK} (su : SU C H a s) (k : Q (.bl (memB s.1 s.2 p)) H) : rOwnIn false C (spCont C) (.int p) (.ref a) H Q := useIn su.ch k
abbrev s_grt : Stmt := top 25
theorem sc_grt : FnScope ["members", "question", "inside", "p"] ["members", "question"] (defScope s_grt) := ⟨rfl, rfl, rfl, by decide +kernel, rfl, by decide +kernel, by decide +kernel⟩
def spGrt (C : Addr) : Sp := fun vs H Q _ => ∃ (a q : Addr) (ms : List Int) (s : SetV), vs = [.ref a, .ref q] ∧ H a = some (.lst (ms.map V.int)) ∧ ms.length < 1000000 ∧ SU C H q s ∧ ∀ H', Same H H' → Q (.int (grtV ms s)) H'
theorem ok_grt {f C : Addr} {fd : FuncData} (T : Txt mg) (F : Fun K "_greater_part" "_greater_part" s_grt f fd) (c_cont : Me P w K mg base 1 C "__contains__" (spCont C)) : FnOk P w K mg base CX0 2 f fd ["members", "question"] (spGrt C) := by
  refine F.ok sc_grt (fun vs H Q E h => ?_) (fun cdv A outer s H vs Q E hr h => ?_)
  · obtain ⟨a, q, ms, s, rfl, _⟩ := h
    rfl
  · obtain ⟨a, b, ms, s', rfl, ha, few, su, q⟩ := h
    refine ⟨_, (pss_cons (ps_set (i := 2) sc_grt.nd rfl (Or.inl rfl) (pe_callB call_len_seq (by rfl) T.len PySem.boot_len (pa_cons (pe_lc (own := [("p", 3)]) (g := (gName 3)) rfl sc_grt.nd (pi_list (pv 0)) (blkOk_by (N := ["members", "question", "inside", "p"]) (sc := defScope s_grt) (by decide +kernel)) (fun _ _ _ _ _ => (pg_name (i := 3) sc_grt.nd rfl (Or.inl rfl))) (fun _ _ _ _ _ => (pts_one (pt_cmpR (op_in_own c_cont (by exact hr)) (pv 3) (pv 1) (by with_unfolding_all rfl)))) (fun _ _ _ _ _ => (pv 3))) pa_nil)))
 (pss_one (ps_ret (pe_callB (call_max2 rfl) (by rfl) T.max boot_max (pa_cons (pv 2) (pa_cons (pe_op op_sub (pe_callB call_len_seq (by rfl) T.len PySem.boot_len (pa_cons (pv 0) pa_nil)) (pv 2)) pa_nil)))))), ?_⟩
    refine ⟨_, rfl, a, rfl, ⟨_, SqL.of ha⟩, fun D nD => lc_it walk_list (fun i G => Same H G ∧ G D = some (.lst (((ms.take i).filter (memB s'.1 s'.2)).map V.int))) ⟨same_upd nD, upd_same⟩ (fun i G _ h => SqL.of (h.1 _ _ ha)) ?_ ?_⟩
    · rintro i x G _ hi ⟨s1, hD⟩ ⟨rfl, hx⟩
      obtain ⟨z, rfl, hz⟩ := item_int hx
      have ft := filter_take (g := memB s'.1 s'.2) hz
      refine ⟨rfl, _, rfl, _, rfl, in_SU (su.same s1) ⟨_, rfl, ?_⟩⟩
      cases c : memB s'.1 s'.2 z with
      | true =>
        rw [c, if_pos rfl] at ft
        refine if_pos_of rfl ⟨_, rfl, _, hD, ?_, fun b o eb => ?_, ?_⟩
        · rw [List.length_map]
          have h3 := List.length_filter_le (memB s'.1 s'.2) (ms.take i)
          have h4 : (ms.take i).length ≤ ms.length := by rw [List.length_take]; omega
          rw [sizeLine_eq]
          omega
        · rw [upd_ne (ne_of_none eb nD)]
          exact s1 b o eb
        · rw [ft, List.map_append]
          exact upd_same
      | false =>
        rw [c, if_neg (by decide), List.append_nil] at ft
        exact if_neg_of rfl ⟨s1, by rw [ft]; exact hD⟩
    · rintro G ⟨s1, hD⟩
      rw [List.length_map, List.take_length] at hD
      refine ⟨D, _, rfl, .inl (SqL.of hD), ?_⟩
      refine ⟨_, rfl, _, rfl, a, _, rfl, .inl (SqL.of (s1 _ _ ha)), _, rfl, _, _, rfl, rfl, _, _, rfl, ?_⟩
      rw [List.length_map, List.length_map]
      exact q G s1
-- part k89b
/-! the best question: the first least one -/
def IsBest (ps : List Int) (j : Nat) : Prop := ∃ m, ps[j]? = some m ∧ (∀ y ∈ ps, m ≤ y) ∧ ∀ (i : Nat) y, i < j → ps[i]? = some y → y ≠ m
theorem IsBest.uniq {ps : List Int} {j k : Nat} (h : IsBest ps j) (g : IsBest ps k) : j = k := by
  obtain ⟨m, h1, h2, h3⟩ := h
  obtain ⟨n, g1, g2, g3⟩ := g
  have e : m = n := Int.le_antisymm (h2 n (List.mem_of_getElem? g1)) (g2 m (List.mem_of_getElem? h1))
  subst e
  rcases Nat.lt_trichotomy j k with c | c | c
  · exact absurd rfl (g3 j m c h1)
  · exact c
  · exact absurd rfl (h3 k m c g1)
theorem first_at {m : Int} : ∀ {ps : List Int}, m ∈ ps → ∃ j : Nat, ps[j]? = some m ∧ ∀ (i : Nat) y, i < j → ps[i]? = some y → y ≠ m
  | p :: ps, h => by
    by_cases c : p = m
    · exact ⟨0, by rw [c]; rfl, fun i y hi => absurd hi (Nat.not_lt_zero i)⟩
    · obtain ⟨j, h1, h2⟩ := first_at (ps := ps) ((List.mem_cons.mp h).resolve_left fun e => c e.symm)
      refine ⟨j + 1, h1, fun i y hi hy => ?_⟩
      match i, hi, hy with
      | 0, _, hy =>
        cases hy
        exact c
      | i + 1, hi, hy => exact h2 i y (by omega) hy
noncomputable def memL (f : SetV) (m : Int) : List Int := upL f.1 f.2 m ++ (if memB f.1 f.2 0 = true then [0] else [])
abbrev s_bbest : Stmt := inClass (top 26) 10
theorem sc_bbest : FnScope ["self", "most", "questions", "fits", "members", "parts", "question"] ["self", "most", "questions"] (defScope s_bbest) := ⟨rfl, rfl, rfl, by decide +kernel, rfl, by decide +kernel, by decide +kernel⟩
def setsT (C : Addr) (H : Hp) (us : List V) (L : List SetV) : Prop := us.length = L.length ∧ ∀ (i : Nat) (s : SetV), L[i]? = some s → ∃ q, us[i]? = some (.ref q) ∧ SU C H q s
theorem setsT.same {C : Addr} {H H' : Hp} {us : List V} {L : List SetV} (h : setsT C H us L) (k : Same H H') : setsT C H' us L := ⟨h.1, fun i s hs => by
  obtain ⟨q, q1, q2⟩ := h.2 i s hs
  exact ⟨q, q1, q2.same k⟩⟩
def spBest (C CB : Addr) : Sp := fun vs H Q _ => ∃ (b rl t : Addr) (R : List Rep) (m : Int) (us : List V) (L : List SetV), vs = [.ref b, .int m, .ref t] ∧ BookAt C CB H b rl R ∧ R.length ≤ 20 ∧ 0 ≤ m ∧ m < 100000 ∧ H t = some (.tup us) ∧ setsT C H us L ∧ L.length ≤ 20 ∧
  (L = [] → ∀ H', Same H H' → Q .non H') ∧ ∀ (j : Nat) H', IsBest (partI (memL (meetV (partsV R)) m) L) j → Same H H' → Q (.int (j : Int)) H'
theorem ok_bbest {f C CB : Addr} {cdv : Value} (TT : Txt mg) (TC : ChT K mg C) (T : BkT K mg CB) (m_fits : Me P w K mg base 8 CB "fits" (spBfits C CB)) (m_upto : MeG P w K mg base 3 C "upto" (spUpto C)) (m_cont : Me P w K mg base 1 C "__contains__" (spCont C)) (c_grt : Cl P w K mg base CX0 2 "_greater_part" (spGrt C)) :
    ∀ (A : Around) (outer : List Env) (s : Shared) (H : Hp) (vs : List V) (Q : VK) (E : XK), Room 11 (A.deeper (envOfC "Book.best" (defScope s_bbest) s.heap.objs.size f cdv)) → spBest C CB vs H Q E →
      ∃ t, PSs (cxOf CX0 P w K mg base ["self", "most", "questions", "fits", "members", "parts", "question"] "Book.best" (defScope s_bbest) f cdv A outer s H E) (defBody s_bbest) t ∧ t { nx := fun _ H' => Q .non H', rt := Q } (start ["self", "most", "questions", "fits", "members", "parts", "question"] vs) H := by
  intro A outer s H vs Q E hr h
  obtain ⟨b, rl, t, R, m, us, L, rfl, bk, few, m0, m1, ht, hu, fewL, qn, qj⟩ := h
  obtain ⟨dx, ob⟩ := bk.ob
  refine ⟨_, (pss_cons (ps_set (i := 3) sc_bbest.nd rfl (Or.inl rfl) (pe_me0 m_fits T.cl hr (pv 0) ))
 (pss_cons (ps_set (i := 4) sc_bbest.nd rfl (Or.inr rfl) (pe_listMeG m_upto TC.cl hr TT.list (pv 3) (pa_cons (pv 1) pa_nil)))
 (Evl.pss_cut (ps_if (pt_cmpR (op_in_own m_cont hr) pe_int (pv 3) (by with_unfolding_all rfl)) (pss_one (ps_expr (pe_bm PySem.F.plainAttrs_list PySem.F.slot_list_append PySem.F.type_list_append mt_append (pv 4) (pa_cons pe_int pa_nil)))) pss_nil)
 (pss_cons (ps_setLc (i := 5) (own := [("question", 6)]) (g := (gName 6)) (tt := tYes) rfl sc_bbest.nd rfl rfl (sw_true rfl rfl rfl (by decide +kernel)) (pi_tup (pv 2)) (blkOk_by (N := ["self", "most", "questions", "fits", "members", "parts", "question"]) (sc := defScope s_bbest) (by decide +kernel)) (fun _ _ _ _ _ => (pg_name (i := 6) sc_bbest.nd rfl (Or.inl rfl))) (fun _ _ _ _ _ => pts_nil) (fun _ _ _ _ _ => (pe_cl c_grt (by exact hr) (pa_cons (pv 4) (pa_cons (pv 6) pa_nil)))))
 (pss_cons (ps_if (pt_not (pt_truth (pv 5) (by intro _; rfl))) (pss_one (ps_ret pe_non)) pss_nil)
 (pss_one (ps_ret (pe_bm PySem.F.plainAttrs_list PySem.F.slot_list_index PySem.F.type_list_index mt_index (pv 5) (pa_cons (pe_callB (cr_min rfl) (by rfl) TT.min boot_min (pa_cons (pv 5) pa_nil)) pa_nil))))))))), ?_⟩
  refine ⟨_, rfl, b, dx, _, rfl, ob, bk_no _ (by decide +kernel), b, rl, R, rfl, bk, few, fun fi H1 su s1 => ?_⟩
  have f7 := su.few
  obtain ⟨dy, ty, oy, _⟩ := su.ch.ob
  refine ⟨_, rfl, fi, dy, _, rfl, oy, chF_no _ _ (by decide +kernel) (by decide +kernel), _, rfl, fi, _, _, m, rfl, su.ch, by omega, m0, by omega, fun ml nml => ?_⟩
  have k1 := same_upd (o := .lst ((upL (meetV (partsV R)).1 (meetV (partsV R)).2 m).map V.int)) nml
  have lenU := upL_len (meetV (partsV R)).1 (meetV (partsV R)).2 m
  generalize hf : meetV (partsV R) = fv at su k1 lenU qj
  have su1 := su.same k1
  refine ⟨fun σ G => Same H G ∧ G ml = some (.lst ((memL fv m).map V.int)) ∧ σ = [some (.ref b), some (.int m), some (.ref t), some (.ref fi), some (.ref ml), none, none], ?_, ?_⟩
  · refine ⟨_, rfl, in_SU su1 ⟨_, rfl, ?_⟩⟩
    unfold memL
    cases c : memB fv.1 fv.2 0 with
    | true =>
      refine if_pos_of rfl ?_
      refine ⟨_, rfl, .inl ⟨rfl, _, SqL.of upd_same⟩, ml, _, _, rfl, rfl, upd_same, ?_, ?_, ?_, rfl⟩
      · rw [List.length_map, sizeLine_eq]
        omega
      · intro b' o e
        have e1 := s1 _ _ e
        rw [upd_ne (ne_of_none e1 nml), upd_ne (ne_of_none e1 nml)]
        exact e1
      · rw [upd_same, if_pos rfl, List.map_append]
        rfl
    | false =>
      refine if_neg_of rfl ⟨s1.trans k1, ?_, rfl⟩
      rw [if_neg (by decide), List.append_nil]
      exact upd_same
  rintro σ G ⟨s2, hml, rfl⟩
  have lenM : (memL fv m).length < 1000000 := by
    unfold memL
    rw [List.length_append]
    split <;> simp only [List.length_cons, List.length_nil] <;> omega
  generalize hM : memL fv m = ms at hml lenM qj
  have hu2 := hu.same s2
  obtain ⟨lu, hm⟩ := hu2
  refine ⟨_, rfl, t, rfl, ⟨_, SqT.of (s2 _ _ ht)⟩, fun D nD => lcMap walk_tup ((partI ms L).map V.int) (by unfold partI; rw [List.length_map, List.length_map, lu]) nD (fun H s => SqT.of (s _ _ (s2 _ _ ht))) ?_ ?_⟩
  · rintro j y G2 _ hj s3 hL2 ⟨rfl, hx⟩
    rw [lu] at hj
    have hz : L[j]? = some L[j] := List.getElem?_eq_getElem hj
    generalize L[j] = z at hz
    obtain ⟨q, q1, q2⟩ := hm j z hz
    obtain rfl := Option.some.inj (hx.symm.trans q1)
    refine ⟨rfl, _, rfl, _, rfl, ml, q, ms, z, rfl, s3 _ _ hml, lenM, q2.same s3, fun G3 s4 => ?_⟩
    exact mapEnd nD (by unfold partI; rw [List.length_map, List.length_map]; omega) (s3.trans s4) (s4 _ _ hL2) (map_at (f := V.int) (by unfold partI; rw [List.getElem?_map, hz]; rfl))
  · intro G2 s3 hD
    have s23 := s2.trans s3
    refine ⟨_, rfl, _, .inl ⟨_, SqL.of hD, rfl⟩, ?_⟩
    by_cases c : L = []
    · refine if_pos_of (by rw [c]; rfl) ?_
      exact qn c G2 s23
    · refine if_neg_of (by cases L with | nil => exact absurd rfl c | cons _ _ => rfl) ?_
      have hne : 0 < (partI ms L).length := by
        unfold partI
        rw [List.length_map]
        cases L with
        | nil => exact absurd rfl c
        | cons _ _ => exact Nat.succ_pos _
      refine ⟨_, rfl, .inl ⟨rfl, _, SqL.of hD⟩, _, rfl, D, _, rfl, SqL.of hD, hne, fun mn hmn hle => ?_⟩
      obtain ⟨j, j1, j2⟩ := first_at hmn
      refine ⟨D, _, .int mn, j, .int mn, rfl, rfl, SqL.of hD, rfl, all_flat _, map_at (f := V.int) j1, by show (mn == mn) = true; exact beq_self_eq_true mn, fun i z' hi hz' => ?_, qj j G2 ⟨mn, j1, hle, j2⟩ s23⟩
      rw [List.getElem?_map] at hz'
      obtain ⟨y, hy, rfl⟩ := Option.map_eq_some_iff.mp hz'
      show (y == mn) = false
      exact beq_eq_false_iff_ne.mpr (j2 i y hi hy)
abbrev s_lask9 : Stmt := top 36
theorem sc_lask9 : FnScope ["_law_book", "_law_s", "_law_bound"] ["_law_book", "_law_s", "_law_bound"] (defScope s_lask9) := ⟨rfl, rfl, rfl, by decide +kernel, rfl, by decide +kernel, by decide +kernel⟩
def spAsk9 (C CB : Addr) : Sp := fun vs H Q _ => ∃ (b rl l : Addr) (R : List Rep) (bd : V) (m : Int) (L : List SetV), vs = [.ref b, .ref l, bd] ∧ BookAt C CB H b rl R ∧ R.length ≤ 20 ∧ ((bd = .non ∧ m = 1000 ∧ L.length ≤ 3) ∨ bd = .int m) ∧ 0 ≤ m ∧ m < 100000 ∧ SetsAt C H l L ∧ L.length ≤ 4 ∧
  (L = [] → ∀ H', Same H H' → Q .non H') ∧ ∀ (j : Nat) H', IsBest (partI (memL (meetV (partsV R)) m) L) j → Same H H' → Q (.int (j : Int)) H'
theorem ok_lask9 {f C CB : Addr} {fd : FuncData} (TT : Txt mg) (T : BkT K mg CB) (F : Fun K "_law_asked" "_law_asked" s_lask9 f fd) (m_best : MeSK P w K mg base 12 CB "best" "most" (.int 1000) (spBest C CB)) : FnOk P w K mg base CX0 13 f fd ["_law_book", "_law_s", "_law_bound"] (spAsk9 C CB) := by
  refine F.ok sc_lask9 (fun vs H Q E h => ?_) (fun cdv A outer s H vs Q E hr h => ?_)
  · obtain ⟨b, rl, l, R, bd, m, L, rfl, _⟩ := h
    rfl
  · obtain ⟨b, rl, l, R, bd, m, L, rfl, bk, few, hbd, m0, m1, hs, fewL, qn, qj⟩ := h
    obtain ⟨dx, ob⟩ := bk.ob
    obtain ⟨us, hl, lu, hm⟩ := hs
    refine ⟨_, (pss_cons (ps_if (pt_cmpR op_eq (pe_callB call_len_seq (by rfl) TT.len PySem.boot_len (pa_cons (pv 1) pa_nil)) pe_int (nomark _)) (pss_one (ps_ret (pe_meSK0 m_best T.cl hr (pv 0)))) pss_nil)
 (pss_cons (ps_if (pw_and (pt_cmpR op_isN (pv 2) pe_non (nomark _)) (pw_and1 (pt_cmpR op_eq (pe_callB call_len_seq (by rfl) TT.len PySem.boot_len (pa_cons (pv 1) pa_nil)) pe_int (nomark _)))).pt (pss_one (ps_ret (pe_meSK m_best T.cl hr (pv 0) (pa_cons (pe_ix ix_list (pv 1) pe_int (fun _ _ => rfl)) pa_nil)))) pss_nil)
 (pss_cons (ps_if (pw_and (pt_cmpR op_isN (pv 2) pe_non (nomark _)) (pw_and1 (pt_cmpR op_eq (pe_callB call_len_seq (by rfl) TT.len PySem.boot_len (pa_cons (pv 1) pa_nil)) pe_int (nomark _)))).pt (pss_one (ps_ret (pe_meSK m_best T.cl hr (pv 0) (pa_cons (pe_ix ix_list (pv 1) pe_int (fun _ _ => rfl)) (pa_cons (pe_ix ix_list (pv 1) pe_int (fun _ _ => rfl)) pa_nil))))) pss_nil)
 (pss_cons (ps_if (pt_cmpR op_isN (pv 2) pe_non (nomark _)) (pss_one (ps_ret (pe_meSK m_best T.cl hr (pv 0) (pa_cons (pe_ix ix_list (pv 1) pe_int (fun _ _ => rfl)) (pa_cons (pe_ix ix_list (pv 1) pe_int (fun _ _ => rfl)) (pa_cons (pe_ix ix_list (pv 1) pe_int (fun _ _ => rfl)) pa_nil)))))) pss_nil)
 (pss_cons (ps_if (pt_cmpR op_eq (pe_callB call_len_seq (by rfl) TT.len PySem.boot_len (pa_cons (pv 1) pa_nil)) pe_int (nomark _)) (pss_one (ps_ret (pe_meSKw m_best T.cl hr (pv 0) (pa_cons (pe_ix ix_list (pv 1) pe_int (fun _ _ => rfl)) pa_nil) (pk_cons (pv 2) pk_nil)))) pss_nil)
 (pss_cons (ps_if (pt_cmpR op_eq (pe_callB call_len_seq (by rfl) TT.len PySem.boot_len (pa_cons (pv 1) pa_nil)) pe_int (nomark _)) (pss_one (ps_ret (pe_meSKw m_best T.cl hr (pv 0) (pa_cons (pe_ix ix_list (pv 1) pe_int (fun _ _ => rfl)) (pa_cons (pe_ix ix_list (pv 1) pe_int (fun _ _ => rfl)) pa_nil)) (pk_cons (pv 2) pk_nil)))) pss_nil)
 (pss_cons (ps_if (pt_cmpR op_eq (pe_callB call_len_seq (by rfl) TT.len PySem.boot_len (pa_cons (pv 1) pa_nil)) pe_int (nomark _)) (pss_one (ps_ret (pe_meSKw m_best T.cl hr (pv 0) (pa_cons (pe_ix ix_list (pv 1) pe_int (fun _ _ => rfl)) (pa_cons (pe_ix ix_list (pv 1) pe_int (fun _ _ => rfl)) (pa_cons (pe_ix ix_list (pv 1) pe_int (fun _ _ => rfl)) pa_nil))) (pk_cons (pv 2) pk_nil)))) pss_nil)
 (pss_one (ps_ret (pe_meSKw m_best T.cl hr (pv 0) (pa_cons (pe_ix ix_list (pv 1) pe_int (fun _ _ => rfl)) (pa_cons (pe_ix ix_list (pv 1) pe_int (fun _ _ => rfl)) (pa_cons (pe_ix ix_list (pv 1) pe_int (fun _ _ => rfl)) (pa_cons (pe_ix ix_list (pv 1) pe_int (fun _ _ => rfl)) pa_nil)))) (pk_cons (pv 2) pk_nil))))))))))), ?_⟩
    have st : setsT C H us L := ⟨lu, hm⟩
    have best : ∀ (z : V) (p : Addr), z = .int m → H p = none → spBest C CB [.ref b, z, .ref p] (upd H p (.tup us)) Q E0 := fun z p ez np => by
      subst ez
      have k := same_upd (o := .tup us) np
      exact ⟨b, rl, p, R, m, us, L, rfl, bk.same k, few, m0, m1, upd_same, st.same k, by omega, fun e H' s => qn e H' (k.trans s), fun j H' h s => qj j H' h (k.trans s)⟩
    have nob := bk_no rl (m := "best") (by decide +kernel)
    have small : us.length ≤ sizeLine := by rw [sizeLine_eq]; omega
    refine ⟨_, rfl, l, us, rfl, .inl (SqL.of hl), rfl, _, rfl, ?_⟩
    match us, hl, lu, small, best with
    | [], hl, lu, small, best =>
      refine if_pos_of rfl ⟨_, rfl, b, dx, _, rfl, ob, nob, by decide, fun p np => ?_⟩
      rcases hbd with ⟨_, rfl, _⟩ | _
      · exact best _ p rfl np
      · have e0 : L = [] := List.length_eq_zero_iff.mp lu.symm
        subst e0
        have k := same_upd (o := .tup ([] : List V)) np
        exact ⟨b, rl, p, R, 1000, [], [], rfl, bk.same k, few, by decide, by decide, upd_same, ⟨rfl, fun i s h => by cases h⟩, by decide, fun e H' s => qn rfl H' (k.trans s), fun j H' h s => by obtain ⟨mm, h1, _⟩ := h; cases h1⟩
    | [x0], hl, lu, small, best =>
      refine if_neg_of rfl ⟨_, rfl, rfl, _, rfl, ?_⟩
      rcases hbd with ⟨rfl, rfl, l3⟩ | rfl
      · refine if_pos_of rfl ⟨_, rfl, l, _, rfl, .inl (SqL.of hl), rfl, _, rfl, if_pos_of rfl ?_⟩
        exact ⟨_, rfl, b, dx, _, rfl, ob, nob, _, rfl, l, _, _, _, rfl, rfl, SqL.of hl, rfl, small, fun p np => best _ p rfl np⟩
      · refine if_neg_of rfl ⟨_, rfl, rfl, _, rfl, if_neg_of rfl ⟨_, rfl, rfl, _, rfl, if_neg_of rfl ?_⟩⟩
        refine ⟨_, rfl, l, _, rfl, .inl (SqL.of hl), rfl, _, rfl, if_pos_of rfl ?_⟩
        exact ⟨_, rfl, b, dx, _, rfl, ob, nob, _, rfl, l, _, _, _, rfl, rfl, SqL.of hl, rfl, _, rfl, _, rfl, small, fun p np => best _ p rfl np⟩
    | [x0, x1], hl, lu, small, best =>
      refine if_neg_of rfl ⟨_, rfl, rfl, _, rfl, ?_⟩
      rcases hbd with ⟨rfl, rfl, l3⟩ | rfl
      · refine if_pos_of rfl ⟨_, rfl, l, _, rfl, .inl (SqL.of hl), rfl, _, rfl, if_neg_of rfl ?_⟩
        refine ⟨_, rfl, rfl, _, rfl, if_pos_of rfl ⟨_, rfl, l, _, rfl, .inl (SqL.of hl), rfl, _, rfl, if_pos_of rfl ?_⟩⟩
        exact ⟨_, rfl, b, dx, _, rfl, ob, nob, _, rfl, l, _, _, _, rfl, rfl, SqL.of hl, rfl, _, rfl, l, _, _, _, rfl, rfl, SqL.of hl, rfl, small, fun p np => best _ p rfl np⟩
      · refine if_neg_of rfl ⟨_, rfl, rfl, _, rfl, if_neg_of rfl ⟨_, rfl, rfl, _, rfl, if_neg_of rfl ?_⟩⟩
        refine ⟨_, rfl, l, _, rfl, .inl (SqL.of hl), rfl, _, rfl, if_neg_of rfl ?_⟩
        refine ⟨_, rfl, l, _, rfl, .inl (SqL.of hl), rfl, _, rfl, if_pos_of rfl ?_⟩
        exact ⟨_, rfl, b, dx, _, rfl, ob, nob, _, rfl, l, _, _, _, rfl, rfl, SqL.of hl, rfl, _, rfl, l, _, _, _, rfl, rfl, SqL.of hl, rfl, _, rfl, _, rfl, small, fun p np => best _ p rfl np⟩
    | [x0, x1, x2], hl, lu, small, best =>
      refine if_neg_of rfl ⟨_, rfl, rfl, _, rfl, ?_⟩
      rcases hbd with ⟨rfl, rfl, l3⟩ | rfl
      · refine if_pos_of rfl ⟨_, rfl, l, _, rfl, .inl (SqL.of hl), rfl, _, rfl, if_neg_of rfl ?_⟩
        refine ⟨_, rfl, rfl, _, rfl, if_pos_of rfl ⟨_, rfl, l, _, rfl, .inl (SqL.of hl), rfl, _, rfl, if_neg_of rfl ?_⟩⟩
        refine ⟨_, rfl, rfl, _, rfl, if_pos_of rfl ?_⟩
        exact ⟨_, rfl, b, dx, _, rfl, ob, nob, _, rfl, l, _, _, _, rfl, rfl, SqL.of hl, rfl, _, rfl, l, _, _, _, rfl, rfl, SqL.of hl, rfl, _, rfl, l, _, _, _, rfl, rfl, SqL.of hl, rfl, small, fun p np => best _ p rfl np⟩
      · refine if_neg_of rfl ⟨_, rfl, rfl, _, rfl, if_neg_of rfl ⟨_, rfl, rfl, _, rfl, if_neg_of rfl ?_⟩⟩
        refine ⟨_, rfl, l, _, rfl, .inl (SqL.of hl), rfl, _, rfl, if_neg_of rfl ?_⟩
        refine ⟨_, rfl, l, _, rfl, .inl (SqL.of hl), rfl, _, rfl, if_neg_of rfl ?_⟩
        refine ⟨_, rfl, l, _, rfl, .inl (SqL.of hl), rfl, _, rfl, if_pos_of rfl ?_⟩
        exact ⟨_, rfl, b, dx, _, rfl, ob, nob, _, rfl, l, _, _, _, rfl, rfl, SqL.of hl, rfl, _, rfl, l, _, _, _, rfl, rfl, SqL.of hl, rfl, _, rfl, l, _, _, _, rfl, rfl, SqL.of hl, rfl, _, rfl, _, rfl, small, fun p np => best _ p rfl np⟩
    | [x0, x1, x2, x3], hl, lu, small, best =>
      refine if_neg_of rfl ⟨_, rfl, rfl, _, rfl, ?_⟩
      rcases hbd with ⟨rfl, rfl, l3⟩ | rfl
      · simp only [List.length_cons, List.length_nil] at lu
        omega
      · refine if_neg_of rfl ⟨_, rfl, rfl, _, rfl, if_neg_of rfl ⟨_, rfl, rfl, _, rfl, if_neg_of rfl ?_⟩⟩
        refine ⟨_, rfl, l, _, rfl, .inl (SqL.of hl), rfl, _, rfl, if_neg_of rfl ?_⟩
        refine ⟨_, rfl, l, _, rfl, .inl (SqL.of hl), rfl, _, rfl, if_neg_of rfl ?_⟩
        refine ⟨_, rfl, l, _, rfl, .inl (SqL.of hl), rfl, _, rfl, if_neg_of rfl ?_⟩
        exact ⟨_, rfl, b, dx, _, rfl, ob, nob, _, rfl, l, _, _, _, rfl, rfl, SqL.of hl, rfl, _, rfl, l, _, _, _, rfl, rfl, SqL.of hl, rfl, _, rfl, l, _, _, _, rfl, rfl, SqL.of hl, rfl, _, rfl, l, _, _, _, rfl, rfl, SqL.of hl, rfl, _, rfl, _, rfl, small, fun p np => best _ p rfl np⟩
    | _ :: _ :: _ :: _ :: _ :: _, hl, lu, small, best =>
      simp only [List.length_cons] at lu
      omega
-- part law_k89
theorem op_eqNilK {X : Cx} {K : PySem.W.Frag} {k : Nat} (hK : X.K = K) (hr : Room k X.A) : OpR X (compareOp .Eq) (rEqNil K) := by
  subst hK
  exact op_eqNil hr
theorem notin_SU {C : Addr} {H : Hp} {a : Addr} {s : SetV} {p : Int} {Q : VK} (su : SU C H a s) (k : Q (.bl (!memB s.1 s.2 p)) H) : rOwnIn true C (spCont C) (.int p) (.ref a) H Q := by
  obtain ⟨dx, t, h1, _⟩ := su.ch.ob
  exact ⟨a, dx, _, rfl, h1, a, s.1, s.2, p, rfl, su.ch, _, rfl, k⟩
def allB (L : List SetV) (n : Int) : Bool := L.all fun t => memB t.1 t.2 n
theorem allB_snoc {L : List SetV} {i : Nat} {z : SetV} (h : L[i]? = some z) (n : Int) : allB (L.take (i + 1)) n = (allB (L.take i) n && memB z.1 z.2 n) := by
  unfold allB
  rw [List.take_add_one, h, List.all_append]
  show (_ && (memB z.1 z.2 n && true)) = _
  rw [Bool.and_true]
abbrev s_ldue9 : Stmt := top 37
theorem sc_ldue9 : FnScope ["_law_sets", "_law_questions", "_law_primes", "_law_fit", "_law_n", "_law_one", "_law_due_here", "_law_fewest", "_law_at", "_law_many", "_law_worst"] ["_law_sets", "_law_questions", "_law_primes"] (defScope s_ldue9) := ⟨rfl, rfl, rfl, by decide +kernel, rfl, by decide +kernel, by decide +kernel⟩
def spDue9 (C : Addr) (K : PySem.W.Frag) : Sp := fun vs H Q _ => ∃ (a b c : Addr) (L M : List SetV) (ps : List Int), vs = [.ref a, .ref b, .ref c] ∧ SetsAt C H a L ∧ L.length ≤ 20 ∧ SetsAt C H b M ∧ M.length ≤ 20 ∧ H c = some (.lst (ps.map V.int)) ∧ ps.length ≤ 2000 ∧
  (M = [] → ∀ H', Same H H' → Q .non H') ∧ ∀ (j : Nat) H', IsBest (partI (ps.filter (allB L)) M) j → Same H H' → Q (.int (j : Int)) H'
theorem ok_ldue9 {f C : Addr} {fd : FuncData} (TT : Txt mg) (F : Fun K "_law_due" "_law_due" s_ldue9 f fd) (m_cont : Me P w K mg base 1 C "__contains__" (spCont C)) : FnOk P w K mg base CX0 2 f fd ["_law_sets", "_law_questions", "_law_primes"] (spDue9 C K) := by
  refine F.ok sc_ldue9 (fun vs H Q E h => ?_) (fun cdv A outer s H vs Q E hr h => ?_)
  · obtain ⟨a, b, c, L, M, ps, rfl, _⟩ := h
    rfl
  · obtain ⟨a, b, c, L, M, ps, rfl, hs, fewL, hq, fewM, hp, fewP, qn, qj⟩ := h
    obtain ⟨us, hu, lu, hm⟩ := hs
    obtain ⟨ws, hw, lw, hn⟩ := hq
    refine ⟨_, (pss_cons (ps_setLc (i := 3) (own := [("_law_n", 4)]) (g := (gName 4)) rfl sc_ldue9.nd rfl rfl (sw_true rfl rfl rfl (by decide +kernel)) (pi_list (pv 2)) (blkOk_by (N := ["_law_sets", "_law_questions", "_law_primes", "_law_fit", "_law_n", "_law_one", "_law_due_here", "_law_fewest", "_law_at", "_law_many", "_law_worst"]) (sc := defScope s_ldue9) (by decide +kernel)) (fun _ _ _ _ _ => (pg_name (i := 4) sc_ldue9.nd rfl (Or.inr rfl))) (fun _ _ _ _ _ => (pts_one (pt_cmpR (op_eqNilK (K := K) rfl (by exact hr)) (pe_lc (own := [("_law_one", 5)]) (g := (gName 5)) rfl sc_ldue9.nd (pi_listK (K := K) rfl (pv 0)) (blkOk_by (N := ["_law_sets", "_law_questions", "_law_primes", "_law_fit", "_law_n", "_law_one", "_law_due_here", "_law_fewest", "_law_at", "_law_many", "_law_worst"]) (sc := ({ kind := .function, names := [(".0", .local), ("_law_n", .cell), ("_law_sets", .cell)], isGenerator := false, isCoroutine := false, more := [] } : Scope)) (by decide +kernel)) (fun _ _ _ _ _ => (pg_name (i := 5) sc_ldue9.nd rfl (Or.inl rfl))) (fun _ _ _ _ _ => (pts_one (pt_cmpR (op_notIn_own m_cont (by exact hr)) (pv 4) (pv 5) (by with_unfolding_all rfl)))) (fun _ _ _ _ _ => (pv 5))) (pe_lst pa_nil) (nomark _)))) (fun _ _ _ _ _ => (pv 4)))
 (pss_cons (ps_set (i := 6) sc_ldue9.nd rfl (Or.inl rfl) pe_non)
 (pss_cons (ps_set (i := 7) sc_ldue9.nd rfl (Or.inl rfl) pe_int)
 (pss_cons (ps_for PassesOwn.never rfl (pi_range1 rfl TT.range (pa_cons (pe_callB call_len_seq (by rfl) TT.len PySem.boot_len (pa_cons (pv 1) pa_nil)) pa_nil)) (pg_name (i := 8) sc_ldue9.nd rfl (Or.inr rfl)) (Evl.pss_cut (ps_set (i := 9) sc_ldue9.nd rfl (Or.inl rfl) (pe_callB call_len_seq (by rfl) TT.len PySem.boot_len (pa_cons (pe_lc (own := [("_law_n", 4)]) (g := (gName 4)) rfl sc_ldue9.nd (pi_list (pv 3)) (blkOk_by (N := ["_law_sets", "_law_questions", "_law_primes", "_law_fit", "_law_n", "_law_one", "_law_due_here", "_law_fewest", "_law_at", "_law_many", "_law_worst"]) (sc := defScope s_ldue9) (by decide +kernel)) (fun _ _ _ _ _ => (pg_name (i := 4) sc_ldue9.nd rfl (Or.inl rfl))) (fun _ _ _ _ _ => (pts_one (pt_cmpR (op_in_own m_cont (by exact hr)) (pv 4) (pe_ix (r := rIxL K) (by exact ix_list) (pv 1) (pv 8) (fun _ _ => rfl)) (by with_unfolding_all rfl)))) (fun _ _ _ _ _ => (pv 4))) pa_nil)))
 (pss_cons (ps_set (i := 10) sc_ldue9.nd rfl (Or.inl rfl) (pe_callB (call_max2 rfl) (by rfl) TT.max boot_max (pa_cons (pv 9) (pa_cons (pe_op op_sub (pe_callB call_len_seq (by rfl) TT.len PySem.boot_len (pa_cons (pv 3) pa_nil)) (pv 9)) pa_nil))))
 (pss_one (ps_if (pw_or (pt_cmpR op_isN (pv 6) pe_non (nomark _)) (pw_or1 (pt_cmpR op_lt (pv 10) (pv 7) (nomark _)))).pt (pss_cons (ps_set (i := 6) sc_ldue9.nd rfl (Or.inl rfl) (pv 8))
 (pss_one (ps_set (i := 7) sc_ldue9.nd rfl (Or.inl rfl) (pv 10)))) pss_nil)))))
 (pss_one (ps_ret (pv 6))))))), ?_⟩
    refine ⟨_, rfl, c, rfl, ⟨_, SqL.of hp⟩, fun D nD => lc_it walk_list (fun i G => Same H G ∧ G D = some (.lst (((ps.take i).filter (allB L)).map V.int))) ⟨same_upd nD, upd_same⟩ (fun i G _ h => SqL.of (h.1 _ _ hp)) ?_ ?_⟩
    · rintro i x _ G hi ⟨s1, hD⟩ ⟨rfl, hx⟩
      obtain ⟨z, rfl, hz⟩ := item_int hx
      have ft := filter_take (g := allB L) hz
      refine ⟨rfl, _, rfl, a, rfl, ⟨_, SqL.of (s1 _ _ hu)⟩, fun D2 nD2 => lc_it walk_list (fun i G2 => Same G G2 ∧ ∃ acc, G2 D2 = some (.lst acc) ∧ acc.length ≤ i ∧ acc.isEmpty = allB (L.take i) z) ⟨same_upd nD2, [], upd_same, Nat.le_refl _, rfl⟩ (fun i G2 _ h => SqL.of (h.1 _ _ (s1 _ _ hu))) ?_ ?_⟩
      · rintro i2 x2 _ G2 hi2 ⟨s2, acc, hD2, hl2, em⟩ ⟨rfl, hx2⟩
        rw [lu] at hi2
        have hz2 : L[i2]? = some L[i2] := List.getElem?_eq_getElem hi2
        generalize L[i2] = y at hz2
        obtain ⟨q1, e1, su1⟩ := hm i2 y hz2
        obtain rfl := Option.some.inj (hx2.symm.trans e1)
        have sn := allB_snoc hz2 z
        refine ⟨rfl, _, rfl, _, rfl, notin_SU ((su1.same s1).same s2) ⟨_, rfl, ?_⟩⟩
        cases cm : memB y.1 y.2 z with
        | true =>
          rw [cm, Bool.and_true] at sn
          exact if_neg_of rfl ⟨s2, acc, hD2, by omega, by rw [em, sn]⟩
        | false =>
          rw [cm, Bool.and_false] at sn
          refine if_pos_of rfl ⟨_, rfl, acc, hD2, by rw [sizeLine_eq]; omega, fun b' o eb => ?_, acc ++ [.ref q1], upd_same, by rw [List.length_append]; show acc.length + 1 ≤ _; omega, ?_⟩
          · rw [upd_ne (ne_of_none eb nD2)]
            exact s2 b' o eb
          · rw [sn]
            cases acc <;> rfl
      · rintro G2 ⟨s2, acc, hD2, hl2, em⟩
        rw [lu, List.take_length] at em
        refine ⟨(by show 0 ≤ sizeLine; decide), fun n nn => ?_⟩
        have k3 := same_upd (o := .lst []) nn
        have s3 := s2.trans k3
        refine ⟨D2, n, acc, rfl, rfl, SqL.of (k3 _ _ hD2), SqL.of upd_same, _, rfl, ?_⟩
        rw [em]
        cases cc : allB L z with
        | true =>
          rw [cc, if_pos rfl] at ft
          refine if_pos_of rfl ⟨_, rfl, _, s3 _ _ hD, ?_, fun b' o eb => ?_, ?_⟩
          · rw [List.length_map]
            have h3 := List.length_filter_le (allB L) (ps.take i)
            have h4 : (ps.take i).length ≤ ps.length := by rw [List.length_take]; omega
            rw [sizeLine_eq]
            omega
          · rw [upd_ne (ne_of_none eb nD)]
            exact s3 _ _ (s1 b' o eb)
          · rw [ft, List.map_append]
            exact upd_same
        | false =>
          rw [cc, if_neg (by decide), List.append_nil] at ft
          exact if_neg_of rfl ⟨s1.trans s3, by rw [ft]; exact s3 _ _ hD⟩
    · rintro G ⟨s1, hD⟩
      rw [List.length_map, List.take_length] at hD
      have lenF : (ps.filter (allB L)).length ≤ 2000 := Nat.le_trans (List.length_filter_le _ _) fewP
      generalize ps.filter (allB L) = fit at hD lenF qj
      refine ⟨_, rfl, b, ws, rfl, .inl (SqL.of (s1 _ _ hw)), _, rfl, by omega, by omega, ?_⟩
      refine for_it (walk_range0 (n := ws.length)) (fun i σ G2 => Same G G2 ∧ ∃ (v f : V) (x4 x5 x8 x9 x10 : Option V), σ = [some (.ref a), some (.ref b), some (.ref c), some (.ref D), x4, x5, some v, some f, x8, x9, x10] ∧
          ((i = 0 ∧ v = .non ∧ f = .int 0) ∨ ∃ (j : Nat) (m : Int), v = .int (j : Int) ∧ f = .int m ∧ j < i ∧ (partI fit M)[j]? = some m ∧ (∀ (k : Nat) y, k < i → (partI fit M)[k]? = some y → m ≤ y) ∧ ∀ (k : Nat) y, k < j → (partI fit M)[k]? = some y → y ≠ m))
        ⟨Same.refl _, .non, .int 0, none, none, none, none, none, rfl, .inl ⟨rfl, rfl, rfl⟩⟩ (fun _ _ _ _ _ => trivial) ?_ ?_
      · rintro i x σ _ G2 hi ⟨s2, v, f, x4, x5, x8, x9, x10, rfl, inv⟩ ⟨rfl, rfl⟩
        rw [lw] at hi
        have hz : M[i]? = some M[i] := List.getElem?_eq_getElem hi
        generalize M[i] = z at hz
        obtain ⟨q1, e1, su1⟩ := hn i z hz
        have s12 := s1.trans s2
        have su2 := su1.same s12
        have hpi : (partI fit M)[i]? = some (grtV fit z) := by unfold partI; rw [List.getElem?_map, hz]; rfl
        -- how many
        refine ⟨fun σ G3 => Same G2 G3 ∧ ∃ x4, σ = [some (.ref a), some (.ref b), some (.ref c), some (.ref D), x4, x5, some v, some f, some (.int (i : Int)), some (.int (cntV fit z : Int)), x10], ?_, ?_⟩
        · refine ⟨_, rfl, D, rfl, ⟨_, SqL.of (s2 _ _ hD)⟩, fun D2 nD2 => lc_it walk_list (fun k G3 => Same G2 G3 ∧ G3 D2 = some (.lst (((fit.take k).filter (memB z.1 z.2)).map V.int))) ⟨same_upd nD2, upd_same⟩ (fun k G3 _ h => SqL.of (h.1 _ _ (s2 _ _ hD))) ?_ ?_⟩
          · rintro k x3 _ G3 hk ⟨s3, hD2⟩ ⟨rfl, hx3⟩
            obtain ⟨y, rfl, hy⟩ := item_int hx3
            have ft := filter_take (g := memB z.1 z.2) hy
            refine ⟨rfl, _, rfl, _, rfl, _, rfl, b, ws, _, _, rfl, rfl, SqL.of (s3 _ _ (s12 _ _ hw)), atI_nat e1, in_SU (su2.same s3) ⟨_, rfl, ?_⟩⟩
            cases cm : memB z.1 z.2 y with
            | true =>
              rw [cm, if_pos rfl] at ft
              refine if_pos_of rfl ⟨_, rfl, _, hD2, ?_, fun b' o eb => ?_, ?_⟩
              · rw [List.length_map]
                have h3 := List.length_filter_le (memB z.1 z.2) (fit.take k)
                have h4 : (fit.take k).length ≤ fit.length := by rw [List.length_take]; omega
                rw [sizeLine_eq]
                omega
              · rw [upd_ne (ne_of_none eb nD2)]
                exact s3 b' o eb
              · rw [ft, List.map_append]
                exact upd_same
            | false =>
              rw [cm, if_neg (by decide), List.append_nil] at ft
              exact if_neg_of rfl ⟨s3, by rw [ft]; exact hD2⟩
          · rintro G3 ⟨s3, hD2⟩
            rw [List.length_map, List.take_length] at hD2
            refine ⟨D2, _, rfl, .inl (SqL.of hD2), s3, x4, ?_⟩
            rw [List.length_map]
            rfl
        rintro σ G3 ⟨s3, y4, rfl⟩
        have s13 := s12.trans s3
        have hD3 := s3 _ _ (s2 _ _ hD)
        refine ⟨_, rfl, _, rfl, D, _, rfl, .inl (SqL.of hD3), _, rfl, _, _, rfl, rfl, _, _, rfl, ?_⟩
        rw [List.length_map]
        refine ⟨_, rfl, rfl, _, rfl, ?_⟩
        rcases inv with ⟨rfl, rfl, rfl⟩ | ⟨j, m, rfl, rfl, hj, hjm, le, ne⟩
        · refine if_pos_of rfl ⟨_, rfl, _, rfl, s2.trans s3, _, _, _, _, _, _, _, rfl, .inr ⟨0, grtV fit z, rfl, rfl, Nat.zero_lt_one, hpi, fun k y hk hy => ?_, fun k y hk => absurd hk (Nat.not_lt_zero k)⟩⟩
          have ek : k = 0 := by omega
          subst ek
          rw [hpi] at hy
          rw [← Option.some.inj hy]
          exact Int.le_refl _
        · refine if_neg_of rfl ⟨_, rfl, _, rfl, _, _, rfl, rfl, _, rfl, ?_⟩
          by_cases cl : grtV fit z < m
          · refine if_pos_of (decide_eq_true cl) ⟨_, rfl, _, rfl, s2.trans s3, _, _, _, _, _, _, _, rfl, .inr ⟨i, grtV fit z, rfl, rfl, Nat.lt_succ_self i, hpi, fun k y hk hy => ?_, fun k y hk hy e => ?_⟩⟩
            · by_cases ek : k = i
              · subst ek
                rw [hpi] at hy
                rw [← Option.some.inj hy]
                exact Int.le_refl _
              · have := le k y (by omega) hy
                omega
            · have := le k y (by omega) hy
              omega
          · refine if_neg_of (decide_eq_false cl) ⟨s2.trans s3, _, _, _, _, _, _, _, rfl, .inr ⟨j, m, rfl, rfl, by omega, hjm, fun k y hk hy => ?_, ne⟩⟩
            by_cases ek : k = i
            · subst ek
              rw [hpi] at hy
              rw [← Option.some.inj hy]
              omega
            · exact le k y (by omega) hy
      · rintro σ G2 ⟨s2, v, f, x4, x5, x8, x9, x10, rfl, inv⟩
        rw [lw] at inv
        refine ⟨_, rfl, ?_⟩
        have lp : (partI fit M).length = M.length := by unfold partI; rw [List.length_map]
        rcases inv with ⟨h0, rfl, rfl⟩ | ⟨j, m, rfl, rfl, hj, hjm, le, ne⟩
        · exact qn (List.length_eq_zero_iff.mp h0) G2 (s1.trans s2)
        · refine qj j G2 ⟨m, hjm, fun y hy => ?_, ne⟩ (s1.trans s2)
          obtain ⟨k, hk⟩ := List.mem_iff_getElem?.mp hy
          have := (List.getElem?_eq_some_iff.mp hk).1
          exact le k y (by omega) hk
theorem meet_ex {L : List SetV} (h : ∀ s ∈ L, ∀ p ∈ s.2, p ∈ U9) : IsMeet L (meetV L) := by
  have key : IsMeet L (L.all (·.1), U9.filter fun p => !decide (allB L p = L.all (·.1))) := by
    refine ⟨List.Pairwise.filter _ (by decide), rfl, fun p => ?_⟩
    show memB (L.all (·.1)) _ p = allB L p
    by_cases c : p ∈ U9
    · by_cases d : allB L p = L.all (·.1)
      · rw [memB_nin (by rw [List.mem_filter]; exact fun z => by rw [decide_eq_true d] at z; exact Bool.noConfusion z.2)]
        exact d.symm
      · rw [memB_in (List.mem_filter.mpr ⟨c, by rw [decide_eq_false d]; rfl⟩)]
        cases e : allB L p <;> cases e2 : L.all (·.1) <;> simp_all
    · have d : allB L p = L.all (·.1) := by
        have go : ∀ M : List SetV, (∀ s ∈ M, ∀ p ∈ s.2, p ∈ U9) → allB M p = M.all (·.1) := fun M => by
          induction M with
          | nil => exact fun _ => rfl
          | cons s M ih =>
            intro hM
            unfold allB at ih ⊢
            rw [List.all_cons, List.all_cons, ih fun t ht => hM t (List.mem_cons_of_mem _ ht), memB_nin fun z => c (hM s List.mem_cons_self p z)]
        exact go L h
      rw [memB_nin (by rw [List.mem_filter]; exact fun z => c z.1)]
      exact d.symm
  rw [← meetV_eq key]
  exact key
theorem meet_mem {L : List SetV} (h : ∀ s ∈ L, ∀ p ∈ s.2, p ∈ U9) (n : Int) : memB (meetV L).1 (meetV L).2 n = allB L n := (meet_ex h).2.2 n
theorem tr_mem {s : SetV} {n : Int} (h : memB s.1 s.2 n = true) : trV s = true := by
  unfold trV
  cases e : s.1 with
  | true => rfl
  | false =>
    unfold memB at h
    rw [e, if_neg (by decide)] at h
    have := of_decide_eq_true h
    cases z : s.2 with
    | nil => rw [z] at this; cases this
    | cons _ _ => rfl
/-- 0 and the primes up to m -/
noncomputable def evL (m : Int) : List Int := 0 :: (upR m).filter prB
theorem fit_perm {L : List SetV} (h : ∀ s ∈ L, ∀ p ∈ s.2, p ∈ U9) (m : Int) : ((evL m).filter (allB L)).Perm (memL (meetV L) m) := by
  unfold memL evL
  have e : upL (meetV L).1 (meetV L).2 m = ((upR m).filter prB).filter (allB L) := by
    unfold upL
    rw [List.filter_filter]
    refine List.filter_congr fun n _ => ?_
    rw [meet_mem h, Bool.and_comm]
  rw [e, meet_mem h, List.filter_cons]
  cases allB L 0 with
  | true =>
    rw [if_pos rfl, if_pos rfl]
    exact (List.perm_append_comm (l₁ := [0])).trans (List.Perm.refl _)
  | false =>
    rw [if_neg (by decide), if_neg (by decide), List.append_nil]
theorem upR_cut {m b : Int} (h : b ≤ m) : (upR m).filter (fun n => decide (n ≤ b)) = upR b :=
  sorted_uniq ((upR_srt m).filter _) (upR_srt b) fun q => by
    rw [List.mem_filter, upR_mem, upR_mem, decide_eq_true_eq]
    omega
theorem evL_cut {m b : Int} (h : b ≤ m) (h0 : 0 ≤ b) : (evL m).filter (fun n => decide (n ≤ b)) = evL b := by
  unfold evL
  rw [List.filter_cons, if_pos (decide_eq_true h0), List.filter_filter, ← upR_cut h, List.filter_filter]
  congr 1
  exact List.filter_congr fun n _ => by rw [Bool.and_comm]
theorem evL_srt (m : Int) : (evL m).Pairwise (· < ·) := by
  unfold evL
  refine List.pairwise_cons.mpr ⟨fun n hn => ?_, (upR_srt m).filter _⟩
  have := upR_mem.mp (List.mem_filter.mp hn).1
  omega
theorem evL_mem {m n : Int} (h0 : 0 ≤ m) : n ∈ evL m ↔ (n = 0 ∨ Pr n) ∧ n ≤ m := by
  unfold evL
  rw [List.mem_cons, List.mem_filter, upR_mem, prB_iff]
  constructor
  · rintro (rfl | ⟨⟨h1, h2⟩, h3⟩)
    · exact ⟨.inl rfl, h0⟩
    · exact ⟨.inr h3, h2⟩
  · rintro ⟨rfl | h3, h2⟩
    · exact .inl rfl
    · exact .inr ⟨⟨h3.1, h2⟩, h3⟩
theorem evL_len (m : Int) : (evL m).length ≤ (m - 1).toNat + 1 := by
  unfold evL
  rw [List.length_cons, ← upR_len]
  exact Nat.succ_le_succ (List.length_filter_le _ _)
/-- what is wanted of every n of range(k): the filter of a range of naturals -/
noncomputable def evT (i : Nat) : List Int := ((List.range i).map fun (k : Nat) => (k : Int)).filter fun n => decide (n = 0) || prB n
theorem evT_succ (i : Nat) : evT (i + 1) = evT i ++ (if (decide ((i : Int) = 0) || prB (i : Int)) = true then [(i : Int)] else []) := by
  unfold evT
  rw [List.range_succ, List.map_append, List.filter_append, List.map_cons, List.map_nil, List.filter_cons, List.filter_nil]
theorem evT_len (i : Nat) : (evT i).length ≤ i := by
  unfold evT
  refine Nat.le_trans (List.length_filter_le _ _) ?_
  rw [List.length_map, List.length_range]
  exact Nat.le_refl _
theorem evT_eq (m : Nat) : evT (m + 1) = evL (m : Int) := by
  refine sorted_uniq ?_ (evL_srt _) fun q => ?_
  · unfold evT
    exact (List.Pairwise.map _ (fun a b h => by show (a : Int) < (b : Int); omega) List.pairwise_lt_range).filter _
  · rw [evL_mem (by omega)]
    unfold evT
    rw [List.mem_filter, List.mem_map, Bool.or_eq_true, decide_eq_true_eq, prB_iff]
    constructor
    · rintro ⟨⟨k, hk, rfl⟩, h⟩
      have := List.mem_range.mp hk
      exact ⟨h, by omega⟩
    · rintro ⟨h, hq⟩
      have h0 : 0 ≤ q := by
        rcases h with h | h
        · omega
        · have := h.1
          omega
      exact ⟨⟨q.toNat, List.mem_range.mpr (by omega), by omega⟩, h⟩
def secs : List Int := [0, 2, 3, 5, 7, 11, 13, 997]
theorem parts_un {C : Addr} {H : Hp} {us : List V} {R : List Rep} (h : RepsAt C H us R) : ∀ s ∈ partsV R, ∀ p ∈ s.2, p ∈ U9 := fun s hs => by
  unfold partsV at hs
  obtain ⟨x, hx, rfl⟩ := List.mem_map.mp hs
  obtain ⟨i, hi⟩ := List.mem_iff_getElem?.mp hx
  obtain ⟨t, a, _, _, su⟩ := h.2 i x hi
  unfold partV
  split
  · exact su.un
  · exact su.un
theorem part_mem (s : SetV) (n : Int) : memB (partV s (memB s.1 s.2 n)).1 (partV s (memB s.1 s.2 n)).2 n = true := by
  unfold partV
  cases c : memB s.1 s.2 n with
  | true => rw [if_pos rfl]; exact c
  | false =>
    rw [if_neg (by decide)]
    show memB (!s.1) s.2 n = true
    rw [memB_not, c]
    rfl
theorem allB_parts_snoc (R : List Rep) (x : Rep) (n : Int) : allB (partsV (R ++ [x])) n = (allB (partsV R) n && memB (partV x.s x.h).1 (partV x.s x.h).2 n) := by
  rw [parts_snoc]
  unfold allB
  rw [List.all_append]
  show (_ && (_ && true)) = _
  rw [Bool.and_true]
-- part breps
abbrev s_breps : Stmt := inClass (top 26) 6
theorem sc_breps : FnScope ["self"] ["self"] (defScope s_breps) := ⟨rfl, rfl, rfl, by decide +kernel, rfl, by decide +kernel, by decide +kernel⟩
def spReps (C CB : Addr) : Sp := fun vs H Q _ => ∃ b rl R, vs = [.ref b] ∧ BookAt C CB H b rl R ∧ ∀ l us, RepsAt C H us R → H l = none → Q (.ref l) (upd H l (.lst us))
theorem ok_breps {f C CB : Addr} {fd : FuncData} (TT : Txt mg) (T : BkT K mg CB) (F : Fun K "reports" "Book.reports" s_breps f fd) : FnOk P w K mg base CX0 1 f fd ["self"] (spReps C CB) := by
  refine F.ok sc_breps (fun vs H Q E h => ?_) (fun cdv A outer s H vs Q E hr h => ?_)
  · obtain ⟨b, rl, R, rfl, _⟩ := h
    rfl
  · obtain ⟨b, rl, R, rfl, bk, q⟩ := h
    obtain ⟨dx, ob⟩ := bk.ob
    obtain ⟨us, hl, rp⟩ := bk.li
    refine ⟨_, (pss_one (ps_ret (pe_callTy call_list_of (by rfl) TT.list boot_list (pa_cons (pe_fld (pv 0) rfl) pa_nil)))), ?_⟩
    exact ⟨_, rfl, b, CB, dx, _, _, rfl, ob, T.cl, T.nR, bk_r _, rl, us, rfl, .inl (SqL.of hl), fun l nl => q l us rp nl⟩
-- part law_k89z
theorem op_in_seqK {X : Cx} {K : PySem.W.Frag} (hK : X.K = K) : OpR X (compareOp .In) (rIn K false) := by
  subst hK
  exact op_in_seq
theorem pe_meD0 {X : Cx} {C : Addr} {m : Str} {dvs : List V} {sp : Sp} {k j : Nat} {o e : Expr} {es : List Expr} {ta : TE} {t : TA} {apos pos : Pos} {pl : Sem Bool} (c : MeD X.prog X.w X.K X.mg X.base k C m dvs sp) (cl : Cls X.K C) (hr : Room j X.A) (he : PE X o ta) (ha : PA X (e :: es) t) (hk : k ≤ j := by decide)
    (hst : starEach (e :: es) X.env = (false, eval e X.env) :: starEach es X.env := by rfl) (hpl : (backTo pos (starEach es X.env)).any (·.1) = false := by rfl)
    (ht : eval (.Call (.Attribute o m apos) (e :: es) [] pos) X.env = (do
      let ov ← eval o X.env
      standAt apos.atName
      let (f, first) ← holding [ov] (getMethod ov m pl)
      callWith pos f first (backTo pos (starEach (e :: es) X.env)) (backToKw pos (keywordEach [] X.env))) := by rfl) :
    PE X (.Call (.Attribute o m apos) (e :: es) [] pos) (tMethD C m dvs sp (fun _ => E0) ta t) := by
  obtain ⟨f, fd, ps, ds, M, F, b, d⟩ := c.ex
  refine ⟨fun pins s σ H Q I h => ?_⟩
  refine PySem.W.methodCall_KW (pl := pl) (thn (he.run pins s σ H _ I h) fun u s1 ⟨x, H1, I1, rx, a, dx, fs, ex, ea, l, q⟩ => ?_) ht
  subst ex
  obtain rfl : u = Value.ref a := rx
  refine getmeth_ok I1 ea cl M l ?_
  exact PySem.W.callWith_K (first := [.ref a]) (h₀ := X.base) I1.ok.mod.kin M.kp (thn (ha.run pos pins s1 σ H1 _ I1 q) fun us s2 ⟨vs, H2, I2, r, q2⟩ => ⟨I2.kIn, run_fnSD (us := .ref a :: us) (vs := .ref a :: vs) (E := fun _ => E0) F (hr.mono hk) b d (passEN σ) I2 (.cons rfl r) q2⟩) hst hpl
theorem setsT.push {C : Addr} {H H4 : Hp} {D q : Addr} {us : List V} {L : List SetV} {s : SetV} {acc : List V} (h : setsT C H us L) (k : Same H H4) (hD : H4 D = some (.lst acc)) (o : HO) (su : SU C H4 q s) : setsT C (upd H4 D o) (us ++ [.ref q]) (L ++ [s]) := by
  refine ⟨by rw [List.length_append, List.length_append, h.1]; rfl, fun i t ht => ?_⟩
  by_cases c : i < L.length
  · rw [List.getElem?_append_left c] at ht
    obtain ⟨r, r1, r2⟩ := h.2 i t ht
    exact ⟨r, by rw [List.getElem?_append_left (by rw [h.1]; exact c)]; exact r1, (r2.same k).updL hD⟩
  · have hi := (List.getElem?_eq_some_iff.mp ht).1
    rw [List.length_append] at hi
    have e : i = L.length := by
      have : [s].length = 1 := rfl
      omega
    subst e
    rw [List.getElem?_append_right (Nat.le_refl _), Nat.sub_self] at ht
    cases ht
    exact ⟨q, by rw [← h.1, List.getElem?_append_right (Nat.le_refl _), Nat.sub_self]; rfl, su.updL hD⟩
/-- the two answers -/
def AnsB (M : List SetV) (ps : List Int) (v : V) : Prop := (v = .non ∧ M = []) ∨ ∃ j : Nat, v = .int (j : Int) ∧ IsBest ps j
theorem best_nil {ps : List Int} {M : List SetV} {j : Nat} (h : IsBest (partI ps M) j) : M ≠ [] := fun e => by
  subst e
  obtain ⟨m, h1, _⟩ := h
  cases h1
theorem ask_use {C CB b rl l : Addr} {G : Hp} {R : List Rep} {bd : V} {m : Int} {M : List SetV} {Kt : VK} (bk : BookAt C CB G b rl R) (few : R.length ≤ 20) (hbd : (bd = .non ∧ m = 1000 ∧ M.length ≤ 3) ∨ bd = .int m) (m0 : 0 ≤ m) (m1 : m < 100000) (sM : SetsAt C G l M) (l4 : M.length ≤ 4)
    (h : ∀ v G1, Same G G1 → AnsB M (partI (memL (meetV (partsV R)) m) M) v → Kt v G1) : spAsk9 C CB [.ref b, .ref l, bd] G Kt E0 :=
  ⟨b, rl, l, R, bd, m, M, rfl, bk, few, hbd, m0, m1, sM, l4, fun e H' s => h _ _ s (.inl ⟨rfl, e⟩), fun j H' hj s => h _ _ s (.inr ⟨j, rfl, hj⟩)⟩
theorem due_use {C a b c : Addr} {G : Hp} {L M : List SetV} {m : Int} {v : V} {Kt : VK} (hv : AnsB M (partI (memL (meetV L) m) M) v) (un : ∀ s ∈ L, ∀ p ∈ s.2, p ∈ U9) (sL : SetsAt C G a L) (fewL : L.length ≤ 20) (sM : SetsAt C G b M) (fewM : M.length ≤ 20) (hc : G c = some (.lst ((evL m).map V.int))) (len : (evL m).length ≤ 2000)
    (h : ∀ G2, Same G G2 → Kt v G2) : spDue9 C K [.ref a, .ref b, .ref c] G Kt E0 := by
  rw [← partI_perm (fit_perm un m)] at hv
  refine ⟨a, b, c, L, M, evL m, rfl, sL, fewL, sM, fewM, hc, len, fun e H' s => ?_, fun j H' hj s => ?_⟩
  · rcases hv with ⟨rfl, _⟩ | ⟨j, rfl, hj⟩
    · exact h H' s
    · exact absurd e (best_nil hj)
  · rcases hv with ⟨rfl, e⟩ | ⟨k, rfl, hk⟩
    · exact absurd e (best_nil hj)
    · rw [hj.uniq hk]
      exact h H' s
theorem AnsB.sc {M : List SetV} {ps : List Int} {v : V} (h : AnsB M ps v) : scal v v = true := by
  rcases h with ⟨rfl, _⟩ | ⟨_, rfl, _⟩ <;> rfl
theorem sec_small : ∀ z ∈ secs, True := fun _ _ => trivial
abbrev s_law : Stmt := top 38
theorem sc_law : FnScope ["_law_script", "_law_head", "_law_secret", "_law_questions", "_law_k", "_law_every", "_law_n", "_law_bound", "_law_near", "_law_book", "_law_sets", "_law_cell_here", "_law_found"] ["_law_script"] (defScope s_law) := ⟨rfl, rfl, rfl, by decide +kernel, rfl, by decide +kernel, by decide +kernel⟩
theorem ok_law {f C CB CN CO CU : Addr} {fd : FuncData} (TT : Txt mg) (TC : ChT K mg C) (T : BkT K mg CB) (F : Fun K "law" "law" s_law f fd) (c_cell : Cl P w K mg base CX0 1 "_law_cell" (spCellL K)) (c_draws : Cl P w K mg base CX0 1 "_law_draws" (spDraws K)) (c_set : Cl P w K mg base CX0 8 "_law_set" (spLset C)) (c_lisp : Cl P w K mg base CX0 1 "_law_is_prime" spLisp) (c_ask : Cl P w K mg base CX0 13 "_law_asked" (spAsk9 C CB)) (c_due : Cl P w K mg base CX0 2 "_law_due" (spDue9 C K))
    (c_bk : Ma P w K mg base 1 CB (spBI CB)) (m_inv : Me P w K mg base 5 C "__invert__" (spInv C)) (m_back : MeN P w K mg base 3 CB "take_back" (spBack C CB CU)) (m_tell : MeD P w K mg base 8 CB "tell" [.str ""] (spTell C CB CN CO)) (m_fits : Me P w K mg base 8 CB "fits" (spBfits C CB)) (m_reps : Me P w K mg base 1 CB "reports" (spReps C CB)) (m_cont : Me P w K mg base 1 C "__contains__" (spCont C)) : FnOk P w K mg base CX0 14 f fd ["_law_script"] (spLaw K) := by
  refine F.ok sc_law (fun vs H Q E h => ?_) (fun cdv A outer s H vs Q E hr h => ?_)
  · obtain ⟨a, ns, rfl, _⟩ := h
    rfl
  · obtain ⟨sc, ns, rfl, hS, hlen, q⟩ := h
    refine ⟨_, (pss_cons (ps_set (i := 1) sc_law.nd rfl (Or.inl rfl) (pe_cl c_draws hr (pa_cons (pe_cl c_cell hr (pa_cons (pv 0) (pa_cons pe_int pa_nil))) (pa_cons (pe_lst (pa_cons pe_int (pa_cons pe_int (pa_cons pe_int (pa_cons pe_int pa_nil))))) pa_nil))))
 (Evl.pss_cut (ps_set (i := 2) sc_law.nd rfl (Or.inl rfl) (pe_ix ix_list (pe_lst (pa_cons pe_int (pa_cons pe_int (pa_cons pe_int (pa_cons pe_int (pa_cons pe_int (pa_cons pe_int (pa_cons pe_int (pa_cons pe_int pa_nil))))))))) (pe_ix ix_list (pv 1) pe_int (fun _ _ => rfl)) (fun _ _ => rfl)))
 (Evl.pss_cut (ps_setLc (i := 3) (own := [("_law_k", 4)]) (g := (gName 4)) (tt := tYes) rfl sc_law.nd rfl rfl (sw_true rfl rfl rfl (by decide +kernel)) (pi_range1 rfl TT.range (pa_cons (pe_ix ix_list (pv 1) pe_int (fun _ _ => rfl)) pa_nil)) (blkOk_by (N := ["_law_script", "_law_head", "_law_secret", "_law_questions", "_law_k", "_law_every", "_law_n", "_law_bound", "_law_near", "_law_book", "_law_sets", "_law_cell_here", "_law_found"]) (sc := defScope s_law) (by decide +kernel)) (fun _ _ _ _ _ => (pg_name (i := 4) sc_law.nd rfl (Or.inl rfl))) (fun _ _ _ _ _ => pts_nil) (fun _ _ _ _ _ => (pe_cl c_set (by exact hr) (pa_cons (pe_cl c_draws (by exact hr) (pa_cons (pe_cl c_cell (by exact hr) (pa_cons (pv 0) (pa_cons (pe_op op_add pe_int (pv 4)) pa_nil))) (pa_cons (pe_lst (pa_cons pe_int (pa_cons pe_int (pa_cons pe_int pa_nil)))) pa_nil))) pa_nil))))
 (Evl.pss_cut (ps_setLc (i := 5) (own := [("_law_n", 6)]) (g := (gName 6)) rfl sc_law.nd rfl rfl (sw_true rfl rfl rfl (by decide +kernel)) (pi_range1 rfl TT.range (pa_cons pe_int pa_nil)) (blkOk_by (N := ["_law_script", "_law_head", "_law_secret", "_law_questions", "_law_k", "_law_every", "_law_n", "_law_bound", "_law_near", "_law_book", "_law_sets", "_law_cell_here", "_law_found"]) (sc := defScope s_law) (by decide +kernel)) (fun _ _ _ _ _ => (pg_name (i := 6) sc_law.nd rfl (Or.inl rfl))) (fun _ _ _ _ _ => (pts_one (pw_or (pt_cmpR (op_in_seqK (K := K) rfl) (pv 6) (pe_tup (pa_cons pe_int (pa_cons pe_int pa_nil))) (by with_unfolding_all rfl)) (pw_or1 (pw_and (pt_cmpR op_gt (pv 6) pe_int (nomark _)) (pw_and1 (pt_val (pe_cl c_lisp (by exact hr) (pa_cons (pv 6) pa_nil))))).pt)).pt)) (fun _ _ _ _ _ => (pv 6)))
 (pss_cons (ps_set (i := 7) sc_law.nd rfl (Or.inr rfl) (pe_op op_add pe_int (pe_ix ix_list (pv 1) pe_int (fun _ _ => rfl))))
 (Evl.pss_cut (ps_setLc (i := 8) (own := [("_law_n", 6)]) (g := (gName 6)) rfl sc_law.nd rfl rfl (sw_true rfl rfl rfl (by decide +kernel)) (pi_list (pv 5)) (blkOk_by (N := ["_law_script", "_law_head", "_law_secret", "_law_questions", "_law_k", "_law_every", "_law_n", "_law_bound", "_law_near", "_law_book", "_law_sets", "_law_cell_here", "_law_found"]) (sc := defScope s_law) (by decide +kernel)) (fun _ _ _ _ _ => (pg_name (i := 6) sc_law.nd rfl (Or.inl rfl))) (fun _ _ _ _ _ => (pts_one (pt_cmpR op_le (pv 6) (pv 7) (nomark _)))) (fun _ _ _ _ _ => (pv 6)))
 (pss_cons (ps_set (i := 9) sc_law.nd rfl (Or.inl rfl) (pe_ma0 c_bk hr T.g))
 (pss_cons (ps_set (i := 10) sc_law.nd rfl (Or.inl rfl) (pe_lst pa_nil))
 (pss_cons (ps_for PassesOwn.never rfl (pi_list (pe_op op_cat (pe_lst (pa_cons pe_non pa_nil)) (pe_callTy call_list_of (by rfl) TT.list boot_list (pa_cons (pe_slice sl_list (pv 0) (po_some pe_int) (po_some pe_int)) pa_nil)))) (pg_name (i := 11) sc_law.nd rfl (Or.inl rfl)) (Evl.pss_cut (ps_if (pt_cmpR op_notN (pv 11) pe_non (nomark _)) (pss_cons (ps_set (i := 12) sc_law.nd rfl (Or.inl rfl) (pe_cl c_set hr (pa_cons (pe_cl c_draws hr (pa_cons (pv 11) (pa_cons (pe_lst (pa_cons pe_int (pa_cons pe_int (pa_cons pe_int pa_nil)))) pa_nil))) pa_nil)))
 (pss_cons (ps_expr (pe_meD0 m_tell T.cl hr (pv 9) (pa_cons (pv 12) (pa_cons (pe_cmpR (op_in_own m_cont hr) (pv 2) (pv 12) (by with_unfolding_all rfl)) pa_nil))))
 (Evl.pss_cut (ps_if (pt_cmpR (op_notIn_own m_cont hr) (pv 2) (pv 12) (by with_unfolding_all rfl)) (pss_one (ps_set (i := 12) sc_law.nd rfl (Or.inl rfl) (pe_un (un_inv1 m_inv hr) (pv 12)))) pss_nil)
 (pss_one (ps_set (i := 10) sc_law.nd rfl (Or.inl rfl) (pe_op op_cat (pv 10) (pe_lst (pa_cons (pv 12) pa_nil)))))))) pss_nil)
 (pss_cons (ps_if (pt_cmpR op_ne (pe_cl c_ask hr (pa_cons (pv 9) (pa_cons (pv 3) (pa_cons (pv 7) pa_nil)))) (pe_cl c_due hr (pa_cons (pv 10) (pa_cons (pv 3) (pa_cons (pv 8) pa_nil)))) (nomark _)) (pss_one (ps_ret pe_bl)) pss_nil)
 (pss_cons (ps_if (pt_cmpR op_ne (pe_cl c_ask hr (pa_cons (pv 9) (pa_cons (pe_revL (pv 3)) (pa_cons (pv 7) pa_nil)))) (pe_cl c_due hr (pa_cons (pv 10) (pa_cons (pe_revL (pv 3)) (pa_cons (pv 8) pa_nil)))) (nomark _)) (pss_one (ps_ret pe_bl)) pss_nil)
 (pss_cons (ps_if (pt_cmpR op_ne (pe_cl c_ask hr (pa_cons (pv 9) (pa_cons (pe_slice sl_list (pv 3) po_none (po_some pe_int)) (pa_cons pe_non pa_nil)))) (pe_cl c_due hr (pa_cons (pv 10) (pa_cons (pe_slice sl_list (pv 3) po_none (po_some pe_int)) (pa_cons (pv 5) pa_nil)))) (nomark _)) (pss_one (ps_ret pe_bl)) pss_nil)
 (pss_one (ps_if (pw_or (pt_cmpR (op_notIn_own m_cont hr) (pv 2) (pe_me0 m_fits T.cl hr (pv 9) ) (by with_unfolding_all rfl)) (pw_or1 (pt_cmpR op_ne (pe_callB call_len_seq (by rfl) TT.len PySem.boot_len (pa_cons (pe_me0 m_reps T.cl hr (pv 9) ) pa_nil)) (pe_callB call_len_seq (by rfl) TT.len PySem.boot_len (pa_cons (pv 10) pa_nil)) (nomark _)))).pt (pss_one (ps_ret pe_bl)) pss_nil)))))))
 (pss_cons (ps_if (pt_cmpR (op_eqNil hr) (pv 10) (pe_lst pa_nil) (nomark _)) (pss_one (ps_ret (pe_cmpR op_isN (pe_cl c_ask hr (pa_cons (pv 9) (pa_cons (pe_lst pa_nil) (pa_cons (pv 7) pa_nil)))) pe_non (nomark _)))) pss_nil)
 (pss_cons (ps_expr (pe_meN0 m_back T.cl hr (pv 9) ))
 (pss_one (ps_ret (pe_cmpR op_eq (pe_cl c_ask hr (pa_cons (pv 9) (pa_cons (pv 3) (pa_cons (pv 7) pa_nil)))) (pe_cl c_due hr (pa_cons (pe_slice sl_list (pv 10) po_none (po_some (pe_un un_neg pe_int))) (pa_cons (pv 3) (pa_cons (pv 8) pa_nil)))) (nomark _))))))))))))))), ?_⟩
    refine ⟨_, rfl, sc, ns, 0, rfl, hS, fun c0 => ⟨(by show 4 ≤ sizeLine; decide), fun z nz => ?_⟩⟩
    have gz := same_upd (o := .lst [.int 8, .int 399, .int 5, .int 3]) nz
    refine ⟨c0, z, [8, 399, 5, 3], rfl, SqL.of upd_same, by decide, by decide +kernel, fun hd ds H1 nhd dr s1 hh => ?_⟩
    obtain ⟨d0, ds, rfl, b0, dr⟩ := dr.cons
    obtain ⟨d1, ds, rfl, b1, dr⟩ := dr.cons
    obtain ⟨d2, ds, rfl, b2, dr⟩ := dr.cons
    have at0 : atI ((d0 :: d1 :: d2 :: ds).map V.int) 0 = some (.int d0) := atI_nat (j := 0) rfl
    have at1 : atI ((d0 :: d1 :: d2 :: ds).map V.int) 1 = some (.int d1) := atI_nat (j := 1) rfl
    have at2 : atI ((d0 :: d1 :: d2 :: ds).map V.int) 2 = some (.int d2) := atI_nat (j := 2) rfl
    have s01 := gz.trans s1
    -- the secret
    refine ⟨fun σ G => Same H G ∧ ∃ sec : Int, σ = some (.ref sc) :: some (.ref hd) :: some (.int sec) :: List.replicate 10 none ∧ G hd = some (.lst ((d0 :: d1 :: d2 :: ds).map V.int)), ?_, ?_⟩
    · refine ⟨(by show 8 ≤ sizeLine; decide), fun l nl => ?_⟩
      have kl := same_upd (o := .lst (secs.map V.int)) nl
      obtain ⟨k, rfl⟩ := Int.eq_ofNat_of_zero_le b0.1
      have hk : k < secs.length := by
        have := b0.2
        show k < 8
        omega
      exact ⟨_, rfl, hd, _, _, _, rfl, rfl, SqL.of (kl _ _ hh), at0, l, _, _, _, rfl, rfl, SqL.of (upd_same (o := .lst (secs.map V.int))), atI_nat (map_at (f := V.int) (List.getElem?_eq_getElem hk)), s01.trans kl, _, rfl, kl _ _ hh⟩
    rintro σ H2 ⟨s2, sec, rfl, hh2⟩
    -- the questions
    refine ⟨fun σ G => Same H2 G ∧ ∃ ql M, SetsAt C G ql M ∧ M.length ≤ 4 ∧ σ = some (.ref sc) :: some (.ref hd) :: some (.int sec) :: some (.ref ql) :: List.replicate 9 none, ?_, ?_⟩
    · refine ⟨_, rfl, hd, _, _, _, rfl, rfl, SqL.of hh2, at2, d2, rfl, by omega, by omega, fun D nD => lc_it (walk_range0 (n := d2.toNat)) (fun i G => Same H2 G ∧ ∃ acc L, G D = some (.lst acc) ∧ L.length = i ∧ setsT C G acc L) ⟨same_upd nD, [], [], upd_same, rfl, rfl, fun i s h => by cases h⟩ (fun _ _ _ _ => trivial) ?_ ?_⟩
      · rintro i x _ G hi ⟨k1, acc, L, hD, hl, st⟩ ⟨rfl, rfl⟩
        refine ⟨rfl, _, rfl, _, rfl, _, _, rfl, rfl, sc, ns, 4 + i, rfl, (s2.trans k1).seq hS, fun c => ⟨(by show 3 ≤ sizeLine; decide), fun z2 nz2 => ?_⟩⟩
        have g2 := same_upd (o := .lst [.int 12, .int 2, .int 3]) nz2
        refine ⟨c, z2, [12, 2, 3], rfl, SqL.of upd_same, by decide, by decide +kernel, fun p ds' G2 np dr' s3 hp => ?_⟩
        obtain ⟨e0, ds', rfl, f0, dr'⟩ := dr'.cons
        obtain ⟨e1, ds', rfl, f1, dr'⟩ := dr'.cons
        obtain ⟨e2, ds', rfl, f2, dr'⟩ := dr'.cons
        refine ⟨p, e0, e1, e2, ds', rfl, hp, f0.1, f0.2, fun r v G3 su s4 => ?_⟩
        have g3 := g2.trans (s3.trans s4)
        have hD3 := g3 _ _ hD
        refine ⟨acc, hD3, by rw [sizeLine_eq, st.1]; omega, fun b o eb => ?_, acc ++ [.ref r], L ++ [v], upd_same, by rw [List.length_append, hl]; rfl, st.push g3 hD3 _ su⟩
        rw [upd_ne (ne_of_none eb nD)]
        exact g3 _ _ (k1 b o eb)
      · rintro G ⟨k1, acc, L, hD, hl, st⟩
        exact ⟨k1, D, L, ⟨acc, hD, st.1, st.2⟩, by omega, rfl⟩
    rintro σ H3 ⟨s3, ql, M, sM, l4, rfl⟩
    have s23 := s2.trans s3
    -- 0 and the primes
    refine ⟨fun σ G => Same H3 G ∧ ∃ ev, G ev = some (.lst ((evL 1000).map V.int)) ∧ σ = some (.ref sc) :: some (.ref hd) :: some (.int sec) :: some (.ref ql) :: none :: some (.ref ev) :: List.replicate 7 none, ?_, ?_⟩
    · refine ⟨1001, rfl, by decide, by decide, fun D nD => lc_it (walk_range0 (n := 1001)) (fun i G => Same H3 G ∧ G D = some (.lst ((evT i).map V.int))) ⟨same_upd nD, upd_same⟩ (fun _ _ _ _ => trivial) ?_ ?_⟩
      · rintro i x _ G hi ⟨k1, hD⟩ ⟨rfl, rfl⟩
        have es := evT_succ i
        have el := evT_len i
        have push : ∀ G2, Same G G2 → (decide ((i : Int) = 0) || prB (i : Int)) = true → ∃ acc, G2 D = some (.lst acc) ∧ acc.length < sizeLine ∧ Same H3 (upd G2 D (.lst (acc ++ [V.int (i : Int)]))) ∧ upd G2 D (.lst (acc ++ [V.int (i : Int)])) D = some (.lst ((evT (i + 1)).map V.int)) := fun G2 k2 c => by
          rw [if_pos c] at es
          refine ⟨_, k2 _ _ hD, by rw [List.length_map, sizeLine_eq]; omega, fun b o eb => ?_, ?_⟩
          · rw [upd_ne (ne_of_none eb nD)]
            exact k2 _ _ (k1 b o eb)
          · rw [upd_same, es, List.map_append]
            rfl
        refine ⟨rfl, _, rfl, (by show 2 ≤ sizeLine; decide), fun t nt => ⟨t, [.int 0, .int 2], rfl, .inr (SqT.of upd_same), rfl, rfl, _, rfl, ?_⟩⟩
        have kt := same_upd (o := .tup [.int 0, .int 2]) nt
        by_cases c02 : (i : Int) = 0 ∨ (i : Int) = 2
        · refine if_pos_of ?_ ?_
          · show ((0 : Int) == (i : Int) || ((2 : Int) == (i : Int) || false)) = true
            rcases c02 with c | c <;> rw [c] <;> rfl
          · refine ⟨_, rfl, push _ kt ?_⟩
            rcases c02 with c | c
            · rw [c]
              rfl
            · rw [c, prB_true ⟨by decide, fun m h1 h2 => by omega⟩, Bool.or_true]
        · refine if_neg_of ?_ ?_
          · have n0 : ¬ (0 : Int) = (i : Int) := fun e => c02 (.inl e.symm)
            have n2 : ¬ (2 : Int) = (i : Int) := fun e => c02 (.inr e.symm)
            show ((0 : Int) == (i : Int) || ((2 : Int) == (i : Int) || false)) = false
            rw [beq_eq_false_iff_ne.mpr n0, beq_eq_false_iff_ne.mpr n2]
            rfl
          refine ⟨_, rfl, _, _, rfl, rfl, _, rfl, ?_⟩
          by_cases c2 : (i : Int) > 2
          · refine if_pos_of (decide_eq_true c2) ⟨_, rfl, (i : Int), rfl, by omega, by omega, _, rfl, ?_⟩
            cases cp : prB (i : Int) with
            | true => exact if_pos_of rfl ⟨_, rfl, push _ kt (by rw [cp, Bool.or_true])⟩
            | false =>
              refine if_neg_of rfl ⟨k1.trans kt, ?_⟩
              rw [es, decide_eq_false (by omega), cp, if_neg (by decide), List.append_nil]
              exact kt _ _ hD
          · refine if_neg_of (decide_eq_false c2) ⟨k1.trans kt, ?_⟩
            rw [es, decide_eq_false (by omega), prB_false (fun p => by have := p.1; omega), if_neg (by decide), List.append_nil]
            exact kt _ _ hD
      · rintro G ⟨k1, hD⟩
        rw [evT_eq 1000] at hD
        exact ⟨k1, D, hD, rfl⟩
    rintro σ H4 ⟨s4, ev, hev, rfl⟩
    have s24 := s23.trans s4
    have hh4 := (s3.trans s4) _ _ hh2
    -- the near ones
    refine ⟨_, rfl, hd, _, _, _, rfl, rfl, SqL.of hh4, at1, _, _, rfl, rfl, ?_⟩
    have bd0 : 0 ≤ (2 + d1) := by omega
    have bd1 : (2 + d1) ≤ 1000 := by omega
    have len1000 : (evL 1000).length ≤ 2000 := by
      have := evL_len 1000
      omega
    refine ⟨fun σ G => Same H4 G ∧ ∃ nr, G nr = some (.lst ((evL (2 + d1)).map V.int)) ∧ σ = some (.ref sc) :: some (.ref hd) :: some (.int sec) :: some (.ref ql) :: none :: some (.ref ev) :: none :: some (.int (2 + d1)) :: some (.ref nr) :: List.replicate 4 none, ?_, ?_⟩
    · refine ⟨_, rfl, ev, rfl, ⟨_, SqL.of hev⟩, fun D nD => lc_it walk_list (fun i G => Same H4 G ∧ G D = some (.lst ((((evL 1000).take i).filter fun n => decide (n ≤ (2 + d1))).map V.int))) ⟨same_upd nD, upd_same⟩ (fun i G _ h => SqL.of (h.1 _ _ hev)) ?_ ?_⟩
      · rintro i x _ G hi ⟨k1, hD⟩ ⟨rfl, hx⟩
        obtain ⟨y, rfl, hy⟩ := item_int hx
        have ft := filter_take (g := fun n => decide (n ≤ (2 + d1))) hy
        refine ⟨rfl, _, rfl, _, rfl, _, _, rfl, rfl, _, rfl, ?_⟩
        by_cases c : y ≤ (2 + d1)
        · rw [decide_eq_true c, if_pos rfl] at ft
          refine if_pos_of (decide_eq_true c) ⟨_, rfl, _, hD, ?_, fun b o eb => ?_, ?_⟩
          · rw [List.length_map]
            have h3 := List.length_filter_le (fun n => decide (n ≤ (2 + d1))) ((evL 1000).take i)
            have h4 : ((evL 1000).take i).length ≤ (evL 1000).length := by rw [List.length_take]; omega
            rw [sizeLine_eq]
            omega
          · rw [upd_ne (ne_of_none eb nD)]
            exact k1 b o eb
          · rw [ft, List.map_append]
            exact upd_same
        · rw [decide_eq_false c, if_neg (by decide), List.append_nil] at ft
          exact if_neg_of (decide_eq_false c) ⟨k1, by rw [ft]; exact hD⟩
      · rintro G ⟨k1, hD⟩
        rw [List.length_map, List.take_length, evL_cut bd1 bd0] at hD
        exact ⟨k1, D, hD, rfl⟩
    rintro σ H5 ⟨s5, nr, hnr, rfl⟩
    have s25 := s24.trans s5
    have hev5 := s5 _ _ hev
    have sM5 := (sM.same s4).same s5
    have lenB : (evL (2 + d1)).length ≤ 2000 := by
      have := evL_len (2 + d1)
      omega
    -- the book
    refine fun x dx nx ndx ne => ⟨x, dx, rfl, upd_same, fun rl nrl => ?_⟩
    have k1 : Same H5 (upd (upd H5 dx (.own x)) x (.ins CB dx [])) := fun b o eb => by
      rw [upd_ne (ne_of_none eb nx), upd_ne (ne_of_none eb ndx)]
      exact eb
    have rx : rl ≠ x := fun e => by rw [e, upd_same] at nrl; cases nrl
    have nrl5 : H5 rl = none := by
      cases e : H5 rl with
      | none => rfl
      | some o => rw [k1 _ _ e] at nrl; cases nrl
    have k2 : Same H5 (upd (upd (upd (upd H5 dx (.own x)) x (.ins CB dx [])) rl (.lst [])) x (.ins CB dx (bkF rl))) := fun b o eb => by
      rw [upd_ne (ne_of_none eb nx), upd_ne (ne_of_none eb nrl5)]
      exact k1 _ _ eb
    have bk0 : BookAt C CB (upd (upd (upd (upd H5 dx (.own x)) x (.ins CB dx [])) rl (.lst [])) x (.ins CB dx (bkF rl))) x rl [] := ⟨⟨dx, upd_same⟩, [], by rw [upd_ne rx]; exact upd_same, rfl, fun i y hy => by cases hy⟩
    refine ⟨rfl, ?_⟩
    generalize upd (upd (upd (upd H5 dx (.own x)) x (.ins CB dx [])) rl (.lst [])) x (.ins CB dx (bkF rl)) = H6 at k2 bk0
    refine ⟨(by show 0 ≤ sizeLine; decide), fun S0 nS0 => ?_⟩
    have k3 := same_upd (o := .lst []) nS0
    have rl6 : ∃ us, H6 rl = some (.lst us) := by
      obtain ⟨us, e1, _⟩ := bk0.li
      exact ⟨us, e1⟩
    have S0rl : S0 ≠ rl := fun e => by
      obtain ⟨us, e1⟩ := rl6
      rw [← e, nS0] at e1
      cases e1
    have k23 := k2.trans k3
    have S7 : upd H6 S0 (.lst []) S0 = some (.lst []) := upd_same
    have bk7 := bk0.same k3
    generalize upd H6 S0 (.lst []) = H7 at k23 S7 bk7
    have s27 := s25.trans k23
    -- what is walked
    refine ⟨(by show 1 ≤ sizeLine; decide), fun l1 nl1 => ?_⟩
    have g1 := same_upd (o := .lst [.non]) nl1
    refine ⟨_, rfl, 1, rfl, 4, rfl, sc, _, rfl, (s27.trans g1).seq hS, fun cl ncl => ?_⟩
    rw [show cutV (ns.map V.int) (some 1) (some 4) = ((ns.drop 1).take 3).map V.int from cut_mid V.int ns 1 4]
    have g2 := same_upd (o := .lst (((ns.drop 1).take 3).map V.int)) ncl
    refine ⟨cl, _, rfl, .inl (SqL.of upd_same), fun l2 nl2 => ?_⟩
    have g3 := same_upd (o := .lst (((ns.drop 1).take 3).map V.int)) nl2
    have len3 : (((ns.drop 1).take 3).map V.int).length ≤ 3 := by
      rw [List.length_map, List.length_take]
      omega
    refine ⟨l1, l2, _, _, rfl, rfl, g3 _ _ (g2 _ _ upd_same), upd_same, (by rw [sizeLine_eq]; show 1 + _ ≤ _; omega), fun it nit => ?_⟩
    have g4 := same_upd (o := .lst ([.non] ++ ((ns.drop 1).take 3).map V.int)) nit
    have g14 := ((g1.trans g2).trans g3).trans g4
    have hit : upd (upd (upd (upd H7 l1 (.lst [.non])) cl (.lst (((ns.drop 1).take 3).map V.int))) l2 (.lst (((ns.drop 1).take 3).map V.int))) it (.lst ([.non] ++ ((ns.drop 1).take 3).map V.int)) it = some (.lst ([.non] ++ ((ns.drop 1).take 3).map V.int)) := upd_same
    have S8 := g14 _ _ S7
    have bk8 := bk7.same g14
    have itrl : it ≠ rl := fun e => by
      obtain ⟨us, e1, _⟩ := (bk7.same ((g1.trans g2).trans g3)).li
      rw [← e, nit] at e1
      cases e1
    generalize upd (upd (upd (upd H7 l1 (.lst [.non])) cl (.lst (((ns.drop 1).take 3).map V.int))) l2 (.lst (((ns.drop 1).take 3).map V.int))) it (.lst ([.non] ++ ((ns.drop 1).take 3).map V.int)) = H8 at g14 hit S8 bk8
    have k58 := k23.trans g14
    have ne5 : ∀ {b : Addr} {o : HO}, H5 b = some o → b ≠ rl := fun e c => by rw [c, nrl5] at e; cases e
    obtain ⟨mu, hmu, _⟩ := id sM5
    have qlrl := ne5 hmu
    have evrl := ne5 hev5
    have nrrl := ne5 hnr
    have sM8 := sM5.same k58
    have hev8 := k58 _ _ hev5
    have hnr8 := k58 _ _ hnr
    have len4 : ([V.non] ++ ((ns.drop 1).take 3).map V.int).length ≤ 4 := by
      rw [List.length_append, List.length_map, List.length_take, List.length_singleton]
      omega
    refine ⟨it, rfl, ⟨_, SqL.of hit⟩, for_list (K := K) (a := it) (xs := [.non] ++ ((ns.drop 1).take 3).map V.int) (fun i σ G => SameBut rl H8 G ∧ ∃ R S x11 x12, BookAt C CB G x rl R ∧ SetsAt C G S (partsV R) ∧ S ≠ rl ∧ R.length ≤ i ∧ allB (partsV R) sec = true ∧ σ = [some (.ref sc), some (.ref hd), some (.int sec), some (.ref ql), none, some (.ref ev), none, some (.int (2 + d1)), some (.ref nr), some (.ref x), some (.ref S), x11, x12])
      ⟨sbut (Same.refl _), [], S0, none, none, bk8, ⟨[], S8, rfl, fun i s h => by cases h⟩, S0rl, Nat.le_refl _, rfl, rfl⟩ (fun i σ G _ h => SqL.of (h.1 _ _ itrl hit)) ?_ ?_⟩
    · rintro i y σ G hy ⟨b9, R, S, x11, x12, bk, sS, Srl, few, sec_in, rfl⟩
      have hi4 : i < 4 := Nat.lt_of_lt_of_le (List.getElem?_eq_some_iff.mp hy).1 len4
      obtain ⟨dxx, obx⟩ := bk.ob
      refine ⟨fun σ G2 => SameBut rl H8 G2 ∧ ∃ R S x12, BookAt C CB G2 x rl R ∧ SetsAt C G2 S (partsV R) ∧ S ≠ rl ∧ R.length ≤ i + 1 ∧ allB (partsV R) sec = true ∧ σ = [some (.ref sc), some (.ref hd), some (.int sec), some (.ref ql), none, some (.ref ev), none, some (.int (2 + d1)), some (.ref nr), some (.ref x), some (.ref S), some y, x12], ?_, ?_⟩
      · refine ⟨_, rfl, rfl, _, rfl, ?_⟩
        have ycase : y = .non ∨ ∃ c, y = .int c := by
          match i, hy with
          | 0, hy =>
            cases hy
            exact .inl rfl
          | i + 1, hy =>
            have hy : (((ns.drop 1).take 3).map V.int)[i]? = some y := hy
            obtain ⟨c, e, _⟩ := item_int hy
            exact .inr ⟨c, e⟩
        rcases ycase with rfl | ⟨c, rfl⟩
        · exact if_neg_of rfl ⟨b9, R, S, _, bk, sS, Srl, by omega, sec_in, rfl⟩
        refine if_pos_of rfl ?_
        refine ⟨_, rfl, (by show 3 ≤ sizeLine; decide), fun z2 nz2 => ?_⟩
        have j1 := same_upd (o := .lst [.int 12, .int 2, .int 3]) nz2
        refine ⟨c, z2, [12, 2, 3], rfl, SqL.of upd_same, by decide, by decide +kernel, fun p ds' G2 np dr' j2 hp => ?_⟩
        obtain ⟨e0, ds', rfl, f0, dr'⟩ := dr'.cons
        obtain ⟨e1, ds', rfl, f1, dr'⟩ := dr'.cons
        obtain ⟨e2, ds', rfl, f2, dr'⟩ := dr'.cons
        refine ⟨p, e0, e1, e2, ds', rfl, hp, f0.1, f0.2, fun r v G3 su j3 => ?_⟩
        have j13 := (j1.trans j2).trans j3
        have bk3 := bk.same j13
        obtain ⟨dx3, ob3⟩ := bk3.ob
        obtain ⟨rs3, hrl3, rp3⟩ := bk3.li
        have snoc_in : allB (partsV (R ++ [⟨v, memB v.1 v.2 sec, ""⟩])) sec = true := by
          rw [allB_parts_snoc, sec_in]
          exact part_mem v sec
        refine ⟨_, rfl, x, dx3, _, rfl, ob3, bk_no _ (by decide +kernel), _, rfl, _, rfl, _, rfl, in_SU su ⟨x, rl, R, r, v, memB v.1 v.2 sec, "", rfl, bk3, by omega, su, by decide +kernel, fun cc => absurd rfl cc, fun _ cc => ?_, fun _ cc G4 b4 bk4 => ?_⟩⟩
        · exfalso
          have un : ∀ s ∈ partsV R ++ [partV v (memB v.1 v.2 sec)], ∀ p ∈ s.2, p ∈ U9 := fun s hs p hp => by
            rcases List.mem_append.mp hs with hs | hs
            · exact parts_un rp3 s hs p hp
            · rw [List.mem_singleton.mp hs] at hp
              unfold partV at hp
              split at hp
              · exact su.un p hp
              · exact su.un p hp
          have := tr_mem (s := meetV (partsV R ++ [partV v (memB v.1 v.2 sec)])) (n := sec) (by
            rw [meet_mem un]
            rw [parts_snoc] at snoc_in
            exact snoc_in)
          rw [this] at cc
          cases cc
        have su4 := su.but hrl3 b4
        have sS4 := (sS.same j13).but hrl3 Srl b4
        have b94 := (b9.trans (sbut j13)).trans b4
        refine ⟨fun σ G5 => Same G4 G5 ∧ ∃ r5, SU C G5 r5 (partV v (memB v.1 v.2 sec)) ∧ σ = [some (.ref sc), some (.ref hd), some (.int sec), some (.ref ql), none, some (.ref ev), none, some (.int (2 + d1)), some (.ref nr), some (.ref x), some (.ref S), some (.int c), some (.ref r5)], ?_, ?_⟩
        · refine ⟨_, rfl, _, rfl, notin_SU su4 ⟨_, rfl, ?_⟩⟩
          unfold partV
          cases cm : memB v.1 v.2 sec with
          | true =>
            refine if_neg_of rfl ⟨Same.refl _, r, ?_, rfl⟩
            rw [if_pos rfl]
            exact su4
          | false =>
            obtain ⟨dy, ty, oy, _⟩ := su4.ch.ob
            have f7 := su4.few
            refine if_pos_of rfl ⟨_, rfl, r, dy, _, rfl, oy, r, _, _, rfl, su4.ch, by omega, fun r5 G5 ch5 j5 => ⟨j5, r5, ?_, rfl⟩⟩
            rw [if_neg (by decide)]
            exact ⟨ch5, su4.un⟩
        rintro σ G5 ⟨j5, r5, su5, rfl⟩
        have sS5 := sS4.same j5
        obtain ⟨us5, hu5, lu5, hm5⟩ := id sS5
        refine ⟨_, rfl, _, rfl, (by show 1 ≤ sizeLine; decide), fun l5 nl5 => ?_⟩
        have j6 := same_upd (o := .lst [.ref r5]) nl5
        have lp5 : (partsV R).length = R.length := by unfold partsV; rw [List.length_map]
        refine ⟨S, l5, us5, [.ref r5], rfl, rfl, j6 _ _ hu5, upd_same, (by rw [sizeLine_eq]; show _ + 1 ≤ _; omega), fun S' nS' => ?_⟩
        have j7 := same_upd (o := .lst (us5 ++ [.ref r5])) nS'
        have bk5 := bk4.same j5
        have bk7' := (bk5.same j6).same j7
        have S'rl : S' ≠ rl := fun e => by
          obtain ⟨us, e1, _⟩ := (bk5.same j6).li
          rw [← e, nS'] at e1
          cases e1
        refine ⟨(b94.trans (sbut ((j5.trans j6).trans j7))), R ++ [⟨v, memB v.1 v.2 sec, ""⟩], S', _, bk7', ?_, S'rl, by rw [List.length_append]; show R.length + 1 ≤ _; omega, snoc_in, rfl⟩
        rw [parts_snoc]
        refine ⟨us5 ++ [.ref r5], upd_same, by rw [List.length_append, List.length_append, lu5]; rfl, fun k t ht => ?_⟩
        by_cases ck : k < (partsV R).length
        · rw [List.getElem?_append_left ck] at ht
          obtain ⟨q1, q2, q3⟩ := hm5 k t ht
          exact ⟨q1, by rw [List.getElem?_append_left (by omega)]; exact q2, (q3.same j6).same j7⟩
        · have hk := (List.getElem?_eq_some_iff.mp ht).1
          rw [List.length_append, List.length_singleton] at hk
          have e : k = (partsV R).length := by omega
          subst e
          rw [List.getElem?_append_right (Nat.le_refl _), Nat.sub_self] at ht
          cases ht
          exact ⟨r5, by rw [← lu5, List.getElem?_append_right (Nat.le_refl _), Nat.sub_self]; rfl, (su5.same j6).same j7⟩
      rintro σ G2 ⟨b2', R, S, x12, bk, sS, Srl, few, sec_in, rfl⟩
      obtain ⟨rs, hrl, rp⟩ := id bk.li
      have un := parts_un rp
      have lp : (partsV R).length = R.length := by unfold partsV; rw [List.length_map]
      have hev2 := b2' _ _ evrl hev8
      have hnr2 := b2' _ _ nrrl hnr8
      have sM2 : SetsAt C G2 ql M := by
        obtain ⟨us, e1, e2, e3⟩ := sM8
        obtain ⟨acc8, ha8⟩ : ∃ acc, H8 rl = some (.lst acc) := by
          obtain ⟨us, e1, _⟩ := bk8.li
          exact ⟨us, e1⟩
        exact SetsAt.but ha8 qlrl b2' ⟨us, e1, e2, e3⟩
      -- first
      refine ⟨_, rfl, _, rfl, _, rfl, ?_⟩
      try delta tNil
      refine ask_use bk (by omega) (.inr rfl) bd0 (by omega) sM2 l4 fun v1 G3 t1 hv1 => ?_
      refine ⟨_, rfl, _, rfl, _, rfl, ?_⟩
      try delta tNil
      refine due_use hv1 un (sS.same t1) (by omega) (sM2.same t1) (by omega) (t1 _ _ hnr2) lenB fun G4 t2 => ⟨hv1.sc, _, rfl, if_neg_of (by rw [decide_eq_true rfl]; rfl) ?_⟩
      have t12 := t1.trans t2
      -- reversed
      have sM4 := sM2.same t12
      obtain ⟨mu4, hm4, lm4, am4⟩ := id sM4
      have rev : ∀ {G : Hp} {n : Addr}, G n = none → (∀ b o, G4 b = some o → G b = some o) → SetsAt C (upd G n (.lst mu4.reverse)) n M.reverse := fun {G n} nn k => by
        refine ⟨_, upd_same, by rw [List.length_reverse, List.length_reverse, lm4], fun k2 t ht => ?_⟩
        have hk := (List.getElem?_eq_some_iff.mp ht).1
        rw [List.length_reverse] at hk
        rw [List.getElem?_reverse hk] at ht
        obtain ⟨q1, q2, q3⟩ := am4 _ t ht
        refine ⟨q1, ?_, (q3.same k).same (same_upd nn)⟩
        rw [List.getElem?_reverse (by omega), lm4]
        exact q2
      refine ⟨_, rfl, _, rfl, ql, _, rfl, SqL.of hm4, fun n1 nn1 => ?_⟩
      have t3 := same_upd (o := .lst mu4.reverse) nn1
      have t13 := t12.trans t3
      refine ⟨_, rfl, ?_⟩
      try delta tNil
      refine ask_use (bk.same t13) (by omega) (.inr rfl) bd0 (by omega) (rev nn1 (fun _ _ e => e)) (by rw [List.length_reverse]; exact l4) fun v2 G5 t4 hv2 => ?_
      have t14 := t13.trans t4
      refine ⟨_, rfl, _, rfl, ql, mu4, rfl, SqL.of (t4 _ _ (t3 _ _ hm4)), fun n2 nn2 => ?_⟩
      have t5 := same_upd (o := .lst mu4.reverse) nn2
      have t15 := t14.trans t5
      refine ⟨_, rfl, ?_⟩
      try delta tNil
      refine due_use hv2 un (sS.same t15) (by omega) (rev nn2 (fun _ _ e => t4 _ _ (t3 _ _ e))) (by rw [List.length_reverse]; omega) (t15 _ _ hnr2) lenB fun G6 t6 => ⟨hv2.sc, _, rfl, if_neg_of (by rw [decide_eq_true rfl]; rfl) ?_⟩
      have t16 := t15.trans t6
      -- three
      have t46 := ((t3.trans t4).trans t5).trans t6
      have hm6 := t46 _ _ hm4
      have thr : ∀ {G : Hp} {n : Addr}, G n = none → (∀ b o, G4 b = some o → G b = some o) → SetsAt C (upd G n (.lst (mu4.take 3))) n (M.take 3) := fun {G n} nn k => by
        refine ⟨_, upd_same, by rw [List.length_take, List.length_take, lm4], fun k2 t ht => ?_⟩
        have hk := (List.getElem?_eq_some_iff.mp ht).1
        rw [List.length_take] at hk
        rw [List.getElem?_take, if_pos (by omega)] at ht
        obtain ⟨q1, q2, q3⟩ := am4 _ t ht
        refine ⟨q1, ?_, (q3.same k).same (same_upd nn)⟩
        rw [List.getElem?_take, if_pos (by omega)]
        exact q2
      refine ⟨_, rfl, _, rfl, 3, rfl, ql, _, rfl, SqL.of hm6, fun n3 nn3 => ?_⟩
      rw [show cutV mu4 none (some 3) = mu4.take 3 from cutV_to (k := 3) ..]
      have t7 := same_upd (o := .lst (mu4.take 3)) nn3
      have t17 := t16.trans t7
      try delta tNil
      try delta tCons
      try delta tC
      refine ask_use (bk.same t17) (by omega) (.inl ⟨rfl, rfl, by rw [List.length_take]; omega⟩) (by decide) (by decide) (thr nn3 (fun _ _ e => t46 _ _ e)) (by rw [List.length_take]; omega) fun v3 G7 t8 hv3 => ?_
      have t18 := t17.trans t8
      refine ⟨_, rfl, _, rfl, 3, rfl, ql, mu4, rfl, SqL.of (t8 _ _ (t7 _ _ hm6)), fun n4 nn4 => ?_⟩
      rw [show cutV mu4 none (some 3) = mu4.take 3 from cutV_to (k := 3) ..]
      have t9 := same_upd (o := .lst (mu4.take 3)) nn4
      have t19 := t18.trans t9
      refine ⟨_, rfl, ?_⟩
      try delta tNil
      refine due_use hv3 un (sS.same t19) (by omega) (thr nn4 (fun _ _ e => t8 _ _ (t7 _ _ (t46 _ _ e)))) (by rw [List.length_take]; omega) (t19 _ _ hev2) len1000 fun G8 t10 => ⟨hv3.sc, _, rfl, if_neg_of (by rw [decide_eq_true rfl]; rfl) ?_⟩
      have t110 := t19.trans t10
      have bk10 := bk.same t110
      obtain ⟨dx10, ob10⟩ := bk10.ob
      -- it fits
      refine ⟨_, rfl, _, rfl, x, dx10, _, rfl, ob10, bk_no _ (by decide +kernel), x, rl, R, rfl, bk10, by omega, fun fi G9 su9 t11 => ?_⟩
      refine notin_SU su9 ⟨_, rfl, ?_⟩
      rw [meet_mem un, sec_in]
      refine if_neg_of rfl ?_
      have bk11 := bk10.same t11
      obtain ⟨dx11, ob11⟩ := bk11.ob
      refine ⟨_, rfl, x, dx11, _, rfl, ob11, bk_no _ (by decide +kernel), x, rl, R, rfl, bk11, fun lr ur rpr nlr => ?_⟩
      have t12' := same_upd (o := .lst ur) nlr
      have t112 := (t110.trans t11).trans t12'
      have sS12 := sS.same t112
      obtain ⟨us12, hu12, lu12, _⟩ := id sS12
      refine ⟨lr, ur, rfl, .inl (SqL.of upd_same), _, rfl, S, us12, rfl, .inl (SqL.of hu12), rfl, _, rfl, ?_⟩
      rw [rpr.1, lu12, lp]
      refine if_neg_of (by rw [decide_eq_true rfl]; rfl) ?_
      exact ⟨b2'.trans (sbut t112), R, S, _, _, bk.same t112, sS12, Srl, few, sec_in, rfl⟩
    · rintro σ G ⟨b9, R, S, x11, x12, bk, sS, Srl, few, sec_in, rfl⟩
      have few4 : R.length ≤ 4 := Nat.le_trans few len4
      obtain ⟨rs, hrl, rp⟩ := id bk.li
      have un := parts_un rp
      have lp : (partsV R).length = R.length := by unfold partsV; rw [List.length_map]
      have hnr2 := b9 _ _ nrrl hnr8
      have sM2 : SetsAt C G ql M := by
        obtain ⟨us, e1, e2, e3⟩ := sM8
        obtain ⟨acc8, ha8⟩ : ∃ acc, H8 rl = some (.lst acc) := by
          obtain ⟨us, e1, _⟩ := bk8.li
          exact ⟨us, e1⟩
        exact SetsAt.but ha8 qlrl b9 ⟨us, e1, e2, e3⟩
      obtain ⟨us, hu, lu, hm⟩ := id sS
      refine ⟨_, rfl, (by show 0 ≤ sizeLine; decide), fun n0 nn0 => ?_⟩
      have u1 := same_upd (o := .lst []) nn0
      refine ⟨S, n0, us, rfl, rfl, SqL.of (u1 _ _ hu), SqL.of upd_same, _, rfl, ?_⟩
      by_cases cR : R = []
      · have ue : us = [] := List.length_eq_zero_iff.mp (by rw [lu, lp, cR]; rfl)
        refine if_pos_of (by rw [ue]; rfl) ?_
        refine ⟨_, rfl, (by show 0 ≤ sizeLine; decide), fun n1 nn1 => ⟨_, rfl, ?_⟩⟩
        have u2 := same_upd (o := .lst []) nn1
        try delta tNil
        refine ask_use (M := []) ((bk.same u1).same u2) (by omega) (.inr rfl) bd0 (by omega) ⟨[], upd_same, rfl, fun i s h => by cases h⟩ (by decide) fun v G3 t1 hv => ?_
        rcases hv with ⟨rfl, _⟩ | ⟨j, _, hj⟩
        · exact ⟨rfl, q _⟩
        · exact absurd rfl (best_nil hj)
      · refine if_neg_of (by
          cases us with
          | nil => exact absurd (List.length_eq_zero_iff.mp (by rw [← lp, ← lu]; rfl)) cR
          | cons _ _ => rfl) ?_
        have bk1 := bk.same u1
        obtain ⟨dx1, ob1⟩ := bk1.ob
        obtain ⟨rs1, hrl1, _⟩ := bk1.li
        refine ⟨_, rfl, x, dx1, _, rfl, ob1, bk_no _ (by decide +kernel), x, rl, R, rfl, bk1, by omega, fun c => absurd c cR, fun _ G2 b2 bk2 => ?_⟩
        have sS2 := (sS.same u1).but hrl1 Srl b2
        have sM3 := (sM2.same u1).but hrl1 qlrl b2
        have hnr3 := b2 _ _ nrrl (u1 _ _ hnr2)
        obtain ⟨rs2, hrl2, rp2⟩ := id bk2.li
        have un2 := parts_un rp2
        have l2' : R.dropLast.length ≤ 20 := by rw [List.length_dropLast]; omega
        refine ⟨_, rfl, _, rfl, _, rfl, ?_⟩
        try delta tNil
        refine ask_use bk2 l2' (.inr rfl) bd0 (by omega) sM3 l4 fun v G3 t1 hv => ?_
        have sS3 := sS2.same t1
        obtain ⟨us3, hu3, lu3, hm3⟩ := id sS3
        refine ⟨_, rfl, _, rfl, -1, rfl, S, us3, rfl, SqL.of hu3, fun n1 nn1 => ?_⟩
        rw [cut_last]
        have u3 := same_upd (o := .lst (us3.take (us3.length - 1))) nn1
        have sS4 : SetsAt C (upd G3 n1 (.lst (us3.take (us3.length - 1)))) n1 (partsV R.dropLast) := by
          rw [parts_drop]
          refine ⟨_, upd_same, by rw [List.length_take, List.length_dropLast, lu3]; omega, fun j y hy => ?_⟩
          have hj := (List.getElem?_eq_some_iff.mp hy).1
          rw [List.length_dropLast] at hj
          rw [List.getElem?_dropLast, if_pos (by omega)] at hy
          obtain ⟨q1, q2, q3⟩ := hm3 j y hy
          exact ⟨q1, by rw [List.getElem?_take, if_pos (by omega)]; exact q2, q3.same u3⟩
        have ld : (partsV R.dropLast).length ≤ 20 := by unfold partsV; rw [List.length_map]; exact l2'
        refine ⟨_, rfl, _, rfl, ?_⟩
        try delta tNil
        refine due_use hv un2 sS4 ld ((sM3.same t1).same u3) (by omega) (u3 _ _ (t1 _ _ hnr3)) lenB fun G4 t2 => ⟨hv.sc, ?_⟩
        rw [decide_eq_true rfl]
        exact q _
end
theorem all_mk {P : Program} {w : World} {K : PySem.W.Frag} {h : Heap} {mg : Str → Option Value} {fa : Addr} (X : K.In h) (G : h.Ns mainGlobals mg) (hfa : mg "law" = some (.ref fa))
    {f_least : Addr} {od_least an_least : Option Addr} {sl_least : Array (Option Value)} {oc_least kV_least dc_least pm_least cd_least ct_least : Value}
    {f_prime : Addr} {od_prime an_prime : Option Addr} {sl_prime : Array (Option Value)} {oc_prime kV_prime dc_prime pm_prime cd_prime ct_prime : Value}
    {f_divs : Addr} {od_divs an_divs : Option Addr} {sl_divs : Array (Option Value)} {oc_divs kV_divs dc_divs pm_divs cd_divs ct_divs : Value}
    {f_inall : Addr} {od_inall an_inall : Option Addr} {sl_inall : Array (Option Value)} {oc_inall kV_inall dc_inall pm_inall cd_inall ct_inall : Value}
    {f_clash : Addr} {od_clash an_clash : Option Addr} {sl_clash : Array (Option Value)} {oc_clash kV_clash dc_clash pm_clash cd_clash ct_clash : Value}
    {f_stold : Addr} {od_stold an_stold : Option Addr} {sl_stold : Array (Option Value)} {oc_stold kV_stold dc_stold pm_stold cd_stold ct_stold : Value}
    {f_grt : Addr} {od_grt an_grt : Option Addr} {sl_grt : Array (Option Value)} {oc_grt kV_grt dc_grt pm_grt cd_grt ct_grt : Value}
    {f_cell : Addr} {od_cell an_cell : Option Addr} {sl_cell : Array (Option Value)} {oc_cell kV_cell dc_cell pm_cell cd_cell ct_cell : Value}
    {f_draws : Addr} {od_draws an_draws : Option Addr} {sl_draws : Array (Option Value)} {oc_draws kV_draws dc_draws pm_draws cd_draws ct_draws : Value}
    {f_lisp : Addr} {od_lisp an_lisp : Option Addr} {sl_lisp : Array (Option Value)} {oc_lisp kV_lisp dc_lisp pm_lisp cd_lisp ct_lisp : Value}
    {f_lset : Addr} {od_lset an_lset : Option Addr} {sl_lset : Array (Option Value)} {oc_lset kV_lset dc_lset pm_lset cd_lset ct_lset : Value}
    {f_lask9 : Addr} {od_lask9 an_lask9 : Option Addr} {sl_lask9 : Array (Option Value)} {oc_lask9 kV_lask9 dc_lask9 pm_lask9 cd_lask9 ct_lask9 : Value}
    {f_ldue9 : Addr} {od_ldue9 an_ldue9 : Option Addr} {sl_ldue9 : Array (Option Value)} {oc_ldue9 kV_ldue9 dc_ldue9 pm_ldue9 cd_ldue9 ct_ldue9 : Value}
    {f_law : Addr} {od_law an_law : Option Addr} {sl_law : Array (Option Value)} {oc_law kV_law dc_law pm_law cd_law ct_law : Value}
    {CF : Addr}
    {C_ibn f_ibn : Addr} {nm_ibn q_ibn : Str} {N_ibn : Addr} {bs_ibn sb_ibn : List Value} {sn_ibn : List Str} {ab_ibn : Bool} {co_ibn : Option Bool} {dd_ibn : Option Addr} {x0_ibn x1_ibn x2_ibn x3_ibn x5_ibn : Option Value} {od_ibn an_ibn : Option Addr} {sl_ibn : Array (Option Value)} {oc_ibn kV_ibn dc_ibn pm_ibn cd_ibn ct_ibn : Value}
    {C_ibc f_ibc : Addr} {nm_ibc q_ibc : Str} {N_ibc : Addr} {bs_ibc sb_ibc : List Value} {sn_ibc : List Str} {ab_ibc : Bool} {co_ibc : Option Bool} {dd_ibc : Option Addr} {x0_ibc x1_ibc x2_ibc x3_ibc x5_ibc : Option Value} {od_ibc an_ibc : Option Addr} {sl_ibc : Array (Option Value)} {oc_ibc kV_ibc dc_ibc pm_ibc cd_ibc ct_ibc : Value}
    {C_int f_int : Addr} {nm_int q_int : Str} {N_int : Addr} {bs_int sb_int : List Value} {sn_int : List Str} {ab_int : Bool} {co_int : Option Bool} {dd_int : Option Addr} {x0_int x1_int x2_int x3_int x5_int : Option Value} {od_int an_int : Option Addr} {sl_int : Array (Option Value)} {oc_int kV_int dc_int pm_int cd_int ct_int : Value}
    {C_co f_co : Addr} {nm_co q_co : Str} {N_co : Addr} {bs_co sb_co : List Value} {sn_co : List Str} {ab_co : Bool} {co_co : Option Bool} {dd_co : Option Addr} {x0_co x1_co x2_co x3_co x5_co : Option Value} {od_co an_co : Option Addr} {sl_co : Array (Option Value)} {oc_co kV_co dc_co pm_co cd_co ct_co : Value}
    {C_nu f_nu : Addr} {nm_nu q_nu : Str} {N_nu : Addr} {bs_nu sb_nu : List Value} {sn_nu : List Str} {ab_nu : Bool} {co_nu : Option Bool} {dd_nu : Option Addr} {x0_nu x1_nu x2_nu x3_nu x5_nu : Option Value} {od_nu an_nu : Option Addr} {sl_nu : Array (Option Value)} {oc_nu kV_nu dc_nu pm_nu cd_nu ct_nu : Value}
    {C_ch : Addr}
    {f_cinit : Addr} {od_cinit an_cinit : Option Addr} {sl_cinit : Array (Option Value)} {oc_cinit kV_cinit dc_cinit pm_cinit cd_cinit ct_cinit : Value}
    {f_ccont : Addr} {od_ccont an_ccont : Option Addr} {sl_ccont : Array (Option Value)} {oc_ccont kV_ccont dc_ccont pm_ccont cd_ccont ct_ccont : Value}
    {f_cand : Addr} {od_cand an_cand : Option Addr} {sl_cand : Array (Option Value)} {oc_cand kV_cand dc_cand pm_cand cd_cand ct_cand : Value}
    {f_cor : Addr} {od_cor an_cor : Option Addr} {sl_cor : Array (Option Value)} {oc_cor kV_cor dc_cor pm_cor cd_cor ct_cor : Value}
    {f_cinv : Addr} {od_cinv an_cinv : Option Addr} {sl_cinv : Array (Option Value)} {oc_cinv kV_cinv dc_cinv pm_cinv cd_cinv ct_cinv : Value}
    {f_ceq : Addr} {od_ceq an_ceq : Option Addr} {sl_ceq : Array (Option Value)} {oc_ceq kV_ceq dc_ceq pm_ceq cd_ceq ct_ceq : Value}
    {f_cbool : Addr} {od_cbool an_cbool : Option Addr} {sl_cbool : Array (Option Value)} {oc_cbool kV_cbool dc_cbool pm_cbool cd_cbool ct_cbool : Value}
    {f_cupto : Addr} {od_cupto an_cupto : Option Addr} {sl_cupto : Array (Option Value)} {oc_cupto kV_cupto dc_cupto pm_cupto cd_cupto ct_cupto : Value}
    {f_cevery : Addr} {od_cevery an_cevery : Option Addr} {sl_cevery : Array (Option Value)} {oc_cevery kV_cevery dc_cevery pm_cevery cd_cevery ct_cevery : Value}
    {p_cevery : Addr} {r_cevery : List Value}
    {f_czero : Addr} {od_czero an_czero : Option Addr} {sl_czero : Array (Option Value)} {oc_czero kV_czero dc_czero pm_czero cd_czero ct_czero : Value}
    {p_czero : Addr} {r_czero : List Value}
    {f_cunit : Addr} {od_cunit an_cunit : Option Addr} {sl_cunit : Array (Option Value)} {oc_cunit kV_cunit dc_cunit pm_cunit cd_cunit ct_cunit : Value}
    {p_cunit : Addr} {r_cunit : List Value}
    {f_conly : Addr} {od_conly an_conly : Option Addr} {sl_conly : Array (Option Value)} {oc_conly kV_conly dc_conly pm_conly cd_conly ct_conly : Value}
    {p_conly : Addr} {r_conly : List Value}
    {C_bk : Addr}
    {f_binit : Addr} {od_binit an_binit : Option Addr} {sl_binit : Array (Option Value)} {oc_binit kV_binit dc_binit pm_binit cd_binit ct_binit : Value}
    {f_btell : Addr} {od_btell an_btell : Option Addr} {sl_btell : Array (Option Value)} {oc_btell dc_btell pm_btell cd_btell ct_btell : Value}
    {D_btell : Addr} {t0_btell : Tok}
    {f_bback : Addr} {od_bback an_bback : Option Addr} {sl_bback : Array (Option Value)} {oc_bback kV_bback dc_bback pm_bback cd_bback ct_bback : Value}
    {f_bparts : Addr} {od_bparts an_bparts : Option Addr} {sl_bparts : Array (Option Value)} {oc_bparts kV_bparts dc_bparts pm_bparts cd_bparts ct_bparts : Value}
    {f_bidx : Addr} {od_bidx an_bidx : Option Addr} {sl_bidx : Array (Option Value)} {oc_bidx kV_bidx dc_bidx pm_bidx cd_bidx ct_bidx : Value}
    {f_bfits : Addr} {od_bfits an_bfits : Option Addr} {sl_bfits : Array (Option Value)} {oc_bfits kV_bfits dc_bfits pm_bfits cd_bfits ct_bfits : Value}
    {f_breps : Addr} {od_breps an_breps : Option Addr} {sl_breps : Array (Option Value)} {oc_breps kV_breps dc_breps pm_breps cd_breps ct_breps : Value}
    {f_bbest : Addr} {od_bbest an_bbest : Option Addr} {sl_bbest : Array (Option Value)} {oc_bbest dc_bbest pm_bbest cd_bbest ct_bbest : Value}
    {D_bbest : Addr} {t0_bbest : Tok}
    (a_least : PySem.W.nsIn K mainGlobals "_least_divisor" = some (some (.ref f_least))) (l_least : K.lookup f_least = some ⟨oc_least, od_least, .func (PySem.W.fnOf "_least_divisor" "_least_divisor" (defArgs s_least) (defBody s_least) (defScope s_least) .none kV_least dc_least pm_least an_least cd_least ct_least), sl_least⟩) (c_least : PySem.W.codeIn K cd_least "_least_divisor" = true) (k_least : PySem.W.keepIn K (.ref f_least) = true)
    (a_prime : PySem.W.nsIn K mainGlobals "is_prime" = some (some (.ref f_prime))) (l_prime : K.lookup f_prime = some ⟨oc_prime, od_prime, .func (PySem.W.fnOf "is_prime" "is_prime" (defArgs s_prime) (defBody s_prime) (defScope s_prime) .none kV_prime dc_prime pm_prime an_prime cd_prime ct_prime), sl_prime⟩) (c_prime : PySem.W.codeIn K cd_prime "is_prime" = true) (k_prime : PySem.W.keepIn K (.ref f_prime) = true)
    (a_divs : PySem.W.nsIn K mainGlobals "prime_divisors" = some (some (.ref f_divs))) (l_divs : K.lookup f_divs = some ⟨oc_divs, od_divs, .func (PySem.W.fnOf "prime_divisors" "prime_divisors" (defArgs s_divs) (defBody s_divs) (defScope s_divs) .none kV_divs dc_divs pm_divs an_divs cd_divs ct_divs), sl_divs⟩) (c_divs : PySem.W.codeIn K cd_divs "prime_divisors" = true) (k_divs : PySem.W.keepIn K (.ref f_divs) = true)
    (a_inall : PySem.W.nsIn K mainGlobals "in_all" = some (some (.ref f_inall))) (l_inall : K.lookup f_inall = some ⟨oc_inall, od_inall, .func (PySem.W.fnOf "in_all" "in_all" (defArgs s_inall) (defBody s_inall) (defScope s_inall) .none kV_inall dc_inall pm_inall an_inall cd_inall ct_inall), sl_inall⟩) (c_inall : PySem.W.codeIn K cd_inall "in_all" = true) (k_inall : PySem.W.keepIn K (.ref f_inall) = true)
    (a_clash : PySem.W.nsIn K mainGlobals "clash_of" = some (some (.ref f_clash))) (l_clash : K.lookup f_clash = some ⟨oc_clash, od_clash, .func (PySem.W.fnOf "clash_of" "clash_of" (defArgs s_clash) (defBody s_clash) (defScope s_clash) .none kV_clash dc_clash pm_clash an_clash cd_clash ct_clash), sl_clash⟩) (c_clash : PySem.W.codeIn K cd_clash "clash_of" = true) (k_clash : PySem.W.keepIn K (.ref f_clash) = true)
    (a_stold : PySem.W.nsIn K mainGlobals "told" = some (some (.ref f_stold))) (l_stold : K.lookup f_stold = some ⟨oc_stold, od_stold, .func (PySem.W.fnOf "told" "told" (defArgs s_stold) (defBody s_stold) (defScope s_stold) .none kV_stold dc_stold pm_stold an_stold cd_stold ct_stold), sl_stold⟩) (c_stold : PySem.W.codeIn K cd_stold "told" = true) (k_stold : PySem.W.keepIn K (.ref f_stold) = true)
    (a_grt : PySem.W.nsIn K mainGlobals "_greater_part" = some (some (.ref f_grt))) (l_grt : K.lookup f_grt = some ⟨oc_grt, od_grt, .func (PySem.W.fnOf "_greater_part" "_greater_part" (defArgs s_grt) (defBody s_grt) (defScope s_grt) .none kV_grt dc_grt pm_grt an_grt cd_grt ct_grt), sl_grt⟩) (c_grt : PySem.W.codeIn K cd_grt "_greater_part" = true) (k_grt : PySem.W.keepIn K (.ref f_grt) = true)
    (a_cell : PySem.W.nsIn K mainGlobals "_law_cell" = some (some (.ref f_cell))) (l_cell : K.lookup f_cell = some ⟨oc_cell, od_cell, .func (PySem.W.fnOf "_law_cell" "_law_cell" (defArgs s_cell) (defBody s_cell) (defScope s_cell) .none kV_cell dc_cell pm_cell an_cell cd_cell ct_cell), sl_cell⟩) (c_cell : PySem.W.codeIn K cd_cell "_law_cell" = true) (k_cell : PySem.W.keepIn K (.ref f_cell) = true)
    (a_draws : PySem.W.nsIn K mainGlobals "_law_draws" = some (some (.ref f_draws))) (l_draws : K.lookup f_draws = some ⟨oc_draws, od_draws, .func (PySem.W.fnOf "_law_draws" "_law_draws" (defArgs s_draws) (defBody s_draws) (defScope s_draws) .none kV_draws dc_draws pm_draws an_draws cd_draws ct_draws), sl_draws⟩) (c_draws : PySem.W.codeIn K cd_draws "_law_draws" = true) (k_draws : PySem.W.keepIn K (.ref f_draws) = true)
    (a_lisp : PySem.W.nsIn K mainGlobals "_law_is_prime" = some (some (.ref f_lisp))) (l_lisp : K.lookup f_lisp = some ⟨oc_lisp, od_lisp, .func (PySem.W.fnOf "_law_is_prime" "_law_is_prime" (defArgs s_lisp) (defBody s_lisp) (defScope s_lisp) .none kV_lisp dc_lisp pm_lisp an_lisp cd_lisp ct_lisp), sl_lisp⟩) (c_lisp : PySem.W.codeIn K cd_lisp "_law_is_prime" = true) (k_lisp : PySem.W.keepIn K (.ref f_lisp) = true)
    (a_lset : PySem.W.nsIn K mainGlobals "_law_set" = some (some (.ref f_lset))) (l_lset : K.lookup f_lset = some ⟨oc_lset, od_lset, .func (PySem.W.fnOf "_law_set" "_law_set" (defArgs s_lset) (defBody s_lset) (defScope s_lset) .none kV_lset dc_lset pm_lset an_lset cd_lset ct_lset), sl_lset⟩) (c_lset : PySem.W.codeIn K cd_lset "_law_set" = true) (k_lset : PySem.W.keepIn K (.ref f_lset) = true)
    (a_lask9 : PySem.W.nsIn K mainGlobals "_law_asked" = some (some (.ref f_lask9))) (l_lask9 : K.lookup f_lask9 = some ⟨oc_lask9, od_lask9, .func (PySem.W.fnOf "_law_asked" "_law_asked" (defArgs s_lask9) (defBody s_lask9) (defScope s_lask9) .none kV_lask9 dc_lask9 pm_lask9 an_lask9 cd_lask9 ct_lask9), sl_lask9⟩) (c_lask9 : PySem.W.codeIn K cd_lask9 "_law_asked" = true) (k_lask9 : PySem.W.keepIn K (.ref f_lask9) = true)
    (a_ldue9 : PySem.W.nsIn K mainGlobals "_law_due" = some (some (.ref f_ldue9))) (l_ldue9 : K.lookup f_ldue9 = some ⟨oc_ldue9, od_ldue9, .func (PySem.W.fnOf "_law_due" "_law_due" (defArgs s_ldue9) (defBody s_ldue9) (defScope s_ldue9) .none kV_ldue9 dc_ldue9 pm_ldue9 an_ldue9 cd_ldue9 ct_ldue9), sl_ldue9⟩) (c_ldue9 : PySem.W.codeIn K cd_ldue9 "_law_due" = true) (k_ldue9 : PySem.W.keepIn K (.ref f_ldue9) = true)
    (a_law : PySem.W.nsIn K mainGlobals "law" = some (some (.ref f_law))) (l_law : K.lookup f_law = some ⟨oc_law, od_law, .func (PySem.W.fnOf "law" "law" (defArgs s_law) (defBody s_law) (defScope s_law) .none kV_law dc_law pm_law an_law cd_law ct_law), sl_law⟩) (c_law : PySem.W.codeIn K cd_law "law" = true) (k_law : PySem.W.keepIn K (.ref f_law) = true)
    (aF : PySem.W.nsIn K mainGlobals "FieldError" = some (some (.ref CF))) (rF : PySem.W.readsIn K CF (.type "type") = true) (gF : PySem.W.specialIn K (.ref CF) "__getattribute__" = some (some (.builtin "type.__getattribute__"))) (iF : PySem.W.findCls K (.ref CF) (.type "type") "__init__" = some (.val (.builtin "ValueError.__init__")))
    (aC_ibn : PySem.W.nsIn K mainGlobals "BadNumber" = some (some (.ref C_ibn))) (xC_ibn : K.lookup C_ibn = some (excClassObj nm_ibn q_ibn C_ibn N_ibn bs_ibn [.ref CF, .type "ValueError", .type "Exception", .type "BaseException", .type "object"] true sn_ibn sb_ibn ab_ibn co_ibn dd_ibn x0_ibn x1_ibn x2_ibn x3_ibn x5_ibn "ValueError.__new__")) (sa_ibn : PySem.W.findIn K (.ref C_ibn) "__setattr__" = some (some (.builtin "object.__setattr__"))) (ga_ibn : PySem.W.findIn K (.ref C_ibn) "__getattribute__" = some (some (.builtin "BaseException.__getattribute__"))) (gg_ibn : PySem.W.findIn K (.ref C_ibn) "__getattr__" = some none) (no_ibn : PySem.W.findIn K (.ref C_ibn) "n" = some none) (ic_ibn : PySem.W.findIn K (.ref C_ibn) "__init__" = some (some (.ref f_ibn))) (ti_ibn : PySem.W.typeIn K (.ref f_ibn) = some (.type "function")) (kc_ibn : PySem.W.keepIn K (.ref C_ibn) = true) (ec_ibn : PySem.W.subIn K (.ref C_ibn) (.type "BaseException") = some true) (tc_ibn : PySem.W.typeIn K (.ref C_ibn) = some (.type "type")) (hd_ibn : PySem.W.hasDictIn K C_ibn = true) (is_ibn : PySem.W.isClsIn K C_ibn = true) (sc_ibn : PySem.W.subIn K (.ref C_ibn) (.ref C_ibn) = some true) (l_ibn : K.lookup f_ibn = some ⟨oc_ibn, od_ibn, .func (PySem.W.fnOf "__init__" "BadNumber.__init__" (defArgs s_ibn) (defBody s_ibn) (defScope s_ibn) .none kV_ibn dc_ibn pm_ibn an_ibn cd_ibn ct_ibn), sl_ibn⟩) (c_ibn : PySem.W.codeIn K cd_ibn "BadNumber.__init__" = true) (k_ibn : PySem.W.keepIn K (.ref f_ibn) = true)
    (aC_ibc : PySem.W.nsIn K mainGlobals "BadCharacteristic" = some (some (.ref C_ibc))) (xC_ibc : K.lookup C_ibc = some (excClassObj nm_ibc q_ibc C_ibc N_ibc bs_ibc [.ref CF, .type "ValueError", .type "Exception", .type "BaseException", .type "object"] true sn_ibc sb_ibc ab_ibc co_ibc dd_ibc x0_ibc x1_ibc x2_ibc x3_ibc x5_ibc "ValueError.__new__")) (sa_ibc : PySem.W.findIn K (.ref C_ibc) "__setattr__" = some (some (.builtin "object.__setattr__"))) (ga_ibc : PySem.W.findIn K (.ref C_ibc) "__getattribute__" = some (some (.builtin "BaseException.__getattribute__"))) (gg_ibc : PySem.W.findIn K (.ref C_ibc) "__getattr__" = some none) (no_ibc : PySem.W.findIn K (.ref C_ibc) "p" = some none) (ic_ibc : PySem.W.findIn K (.ref C_ibc) "__init__" = some (some (.ref f_ibc))) (ti_ibc : PySem.W.typeIn K (.ref f_ibc) = some (.type "function")) (kc_ibc : PySem.W.keepIn K (.ref C_ibc) = true) (ec_ibc : PySem.W.subIn K (.ref C_ibc) (.type "BaseException") = some true) (tc_ibc : PySem.W.typeIn K (.ref C_ibc) = some (.type "type")) (hd_ibc : PySem.W.hasDictIn K C_ibc = true) (is_ibc : PySem.W.isClsIn K C_ibc = true) (sc_ibc : PySem.W.subIn K (.ref C_ibc) (.ref C_ibc) = some true) (l_ibc : K.lookup f_ibc = some ⟨oc_ibc, od_ibc, .func (PySem.W.fnOf "__init__" "BadCharacteristic.__init__" (defArgs s_ibc) (defBody s_ibc) (defScope s_ibc) .none kV_ibc dc_ibc pm_ibc an_ibc cd_ibc ct_ibc), sl_ibc⟩) (c_ibc : PySem.W.codeIn K cd_ibc "BadCharacteristic.__init__" = true) (k_ibc : PySem.W.keepIn K (.ref f_ibc) = true)
    (aC_int : PySem.W.nsIn K mainGlobals "NameTaken" = some (some (.ref C_int))) (xC_int : K.lookup C_int = some (excClassObj nm_int q_int C_int N_int bs_int [.ref CF, .type "ValueError", .type "Exception", .type "BaseException", .type "object"] true sn_int sb_int ab_int co_int dd_int x0_int x1_int x2_int x3_int x5_int "ValueError.__new__")) (sa_int : PySem.W.findIn K (.ref C_int) "__setattr__" = some (some (.builtin "object.__setattr__"))) (ga_int : PySem.W.findIn K (.ref C_int) "__getattribute__" = some (some (.builtin "BaseException.__getattribute__"))) (gg_int : PySem.W.findIn K (.ref C_int) "__getattr__" = some none) (no_int : PySem.W.findIn K (.ref C_int) "name" = some none) (ic_int : PySem.W.findIn K (.ref C_int) "__init__" = some (some (.ref f_int))) (ti_int : PySem.W.typeIn K (.ref f_int) = some (.type "function")) (kc_int : PySem.W.keepIn K (.ref C_int) = true) (ec_int : PySem.W.subIn K (.ref C_int) (.type "BaseException") = some true) (tc_int : PySem.W.typeIn K (.ref C_int) = some (.type "type")) (hd_int : PySem.W.hasDictIn K C_int = true) (is_int : PySem.W.isClsIn K C_int = true) (sc_int : PySem.W.subIn K (.ref C_int) (.ref C_int) = some true) (l_int : K.lookup f_int = some ⟨oc_int, od_int, .func (PySem.W.fnOf "__init__" "NameTaken.__init__" (defArgs s_int) (defBody s_int) (defScope s_int) .none kV_int dc_int pm_int an_int cd_int ct_int), sl_int⟩) (c_int : PySem.W.codeIn K cd_int "NameTaken.__init__" = true) (k_int : PySem.W.keepIn K (.ref f_int) = true)
    (ecF : PySem.W.subIn K (.ref CF) (.type "BaseException") = some true) (isF : PySem.W.isClsIn K CF = true) (tcF : PySem.W.typeIn K (.ref CF) = some (.type "type")) (hnE : PySem.W.specialIn K (.builtin "object.__class__") "__get__" = some (some (.builtin "getset_descriptor.__get__"))) (htE : PySem.W.takesIn K (.builtin "object.__class__") = some true)
    (aC_co : PySem.W.nsIn K mainGlobals "Contradiction" = some (some (.ref C_co))) (xC_co : K.lookup C_co = some (excClassObj nm_co q_co C_co N_co bs_co [.ref CF, .type "ValueError", .type "Exception", .type "BaseException", .type "object"] true sn_co sb_co ab_co co_co dd_co x0_co x1_co x2_co x3_co x5_co "ValueError.__new__")) (sa_co : PySem.W.findIn K (.ref C_co) "__setattr__" = some (some (.builtin "object.__setattr__"))) (ga_co : PySem.W.findIn K (.ref C_co) "__getattribute__" = some (some (.builtin "BaseException.__getattribute__"))) (gg_co : PySem.W.findIn K (.ref C_co) "__getattr__" = some none) (ha_co : PySem.W.findIn K (.ref C_co) "__class__" = some (some (.builtin "object.__class__"))) (ic_co : PySem.W.findIn K (.ref C_co) "__init__" = some (some (.ref f_co))) (ti_co : PySem.W.typeIn K (.ref f_co) = some (.type "function")) (kc_co : PySem.W.keepIn K (.ref C_co) = true) (tc_co : PySem.W.typeIn K (.ref C_co) = some (.type "type")) (l_co : K.lookup f_co = some ⟨oc_co, od_co, .func (PySem.W.fnOf "__init__" "Contradiction.__init__" (defArgs s_ico) (defBody s_ico) (defScope s_ico) .none kV_co dc_co pm_co an_co cd_co ct_co), sl_co⟩) (c_co : PySem.W.codeIn K cd_co "Contradiction.__init__" = true) (k_co : PySem.W.keepIn K (.ref f_co) = true) (no_clash_co : PySem.W.findIn K (.ref C_co) "clash" = some none)
    (aC_nu : PySem.W.nsIn K mainGlobals "NothingToUndo" = some (some (.ref C_nu))) (xC_nu : K.lookup C_nu = some (excClassObj nm_nu q_nu C_nu N_nu bs_nu [.ref CF, .type "ValueError", .type "Exception", .type "BaseException", .type "object"] true sn_nu sb_nu ab_nu co_nu dd_nu x0_nu x1_nu x2_nu x3_nu x5_nu "ValueError.__new__")) (sa_nu : PySem.W.findIn K (.ref C_nu) "__setattr__" = some (some (.builtin "object.__setattr__"))) (ga_nu : PySem.W.findIn K (.ref C_nu) "__getattribute__" = some (some (.builtin "BaseException.__getattribute__"))) (gg_nu : PySem.W.findIn K (.ref C_nu) "__getattr__" = some none) (ha_nu : PySem.W.findIn K (.ref C_nu) "__class__" = some (some (.builtin "object.__class__"))) (ic_nu : PySem.W.findIn K (.ref C_nu) "__init__" = some (some (.ref f_nu))) (ti_nu : PySem.W.typeIn K (.ref f_nu) = some (.type "function")) (kc_nu : PySem.W.keepIn K (.ref C_nu) = true) (tc_nu : PySem.W.typeIn K (.ref C_nu) = some (.type "type")) (l_nu : K.lookup f_nu = some ⟨oc_nu, od_nu, .func (PySem.W.fnOf "__init__" "NothingToUndo.__init__" (defArgs s_inu) (defBody s_inu) (defScope s_inu) .none kV_nu dc_nu pm_nu an_nu cd_nu ct_nu), sl_nu⟩) (c_nu : PySem.W.codeIn K cd_nu "NothingToUndo.__init__" = true) (k_nu : PySem.W.keepIn K (.ref f_nu) = true)
    (K_aK : PySem.W.nsIn K mainGlobals "Chars" = some (some (.ref C_ch)))
    (K_pg : PySem.W.plainGet K C_ch Str.empty = true)
    (K_hd : PySem.W.hasDictIn K C_ch = true)
    (K_po : PySem.W.plainOver K C_ch = true)
    (K_sa : PySem.W.findIn K (.ref C_ch) "__setattr__" = some (some (.builtin "object.__setattr__")))
    (K_sf : PySem.W.selfFirst K C_ch = true)
    (K_ha : PySem.W.findIn K (.ref C_ch) "__class__" = some (some (.builtin "object.__class__")))
    (K_hn : PySem.W.specialIn K (.builtin "object.__class__") "__get__" = some (some (.builtin "getset_descriptor.__get__")))
    (K_htk : PySem.W.takesIn K (.builtin "object.__class__") = some true)
    (K_hm : PySem.W.mroIn K C_ch (.type "object") = some true)
    (K_mk : PySem.W.makesIn K C_ch = true)
    (K_kp : PySem.W.keepIn K (.ref C_ch) = true)
    (K_no_endless : PySem.W.findIn K (.ref C_ch) "endless" = some none)
    (K_no_primes : PySem.W.findIn K (.ref C_ch) "primes" = some none)
    (K_rd : PySem.W.readsIn K C_ch (.type "type") = true)
    (K_sg : PySem.W.specialIn K (.ref C_ch) "__getattribute__" = some (some (.builtin "type.__getattribute__")))
    (K_at_cinit : PySem.W.findIn K (.ref C_ch) "__init__" = some (some (.ref f_cinit)))
    (K_fn_cinit : PySem.W.isFn K (.ref f_cinit) = true)
    (K_l_cinit : K.lookup f_cinit = some ⟨oc_cinit, od_cinit, .func (PySem.W.fnOf "__init__" "Chars.__init__" (defArgs s_cinit) (defBody s_cinit) (defScope s_cinit) .none kV_cinit dc_cinit pm_cinit an_cinit cd_cinit ct_cinit), sl_cinit⟩)
    (K_c_cinit : PySem.W.codeIn K cd_cinit "Chars.__init__" = true)
    (K_k_cinit : PySem.W.keepIn K (.ref f_cinit) = true)
    (K_at_ccont : PySem.W.findIn K (.ref C_ch) "__contains__" = some (some (.ref f_ccont)))
    (K_fn_ccont : PySem.W.isFn K (.ref f_ccont) = true)
    (K_l_ccont : K.lookup f_ccont = some ⟨oc_ccont, od_ccont, .func (PySem.W.fnOf "__contains__" "Chars.__contains__" (defArgs s_ccont) (defBody s_ccont) (defScope s_ccont) .none kV_ccont dc_ccont pm_ccont an_ccont cd_ccont ct_ccont), sl_ccont⟩)
    (K_c_ccont : PySem.W.codeIn K cd_ccont "Chars.__contains__" = true)
    (K_k_ccont : PySem.W.keepIn K (.ref f_ccont) = true)
    (K_at_cand : PySem.W.findIn K (.ref C_ch) "__and__" = some (some (.ref f_cand)))
    (K_fn_cand : PySem.W.isFn K (.ref f_cand) = true)
    (K_l_cand : K.lookup f_cand = some ⟨oc_cand, od_cand, .func (PySem.W.fnOf "__and__" "Chars.__and__" (defArgs s_cand) (defBody s_cand) (defScope s_cand) .none kV_cand dc_cand pm_cand an_cand cd_cand ct_cand), sl_cand⟩)
    (K_c_cand : PySem.W.codeIn K cd_cand "Chars.__and__" = true)
    (K_k_cand : PySem.W.keepIn K (.ref f_cand) = true)
    (K_at_cor : PySem.W.findIn K (.ref C_ch) "__or__" = some (some (.ref f_cor)))
    (K_fn_cor : PySem.W.isFn K (.ref f_cor) = true)
    (K_l_cor : K.lookup f_cor = some ⟨oc_cor, od_cor, .func (PySem.W.fnOf "__or__" "Chars.__or__" (defArgs s_cor) (defBody s_cor) (defScope s_cor) .none kV_cor dc_cor pm_cor an_cor cd_cor ct_cor), sl_cor⟩)
    (K_c_cor : PySem.W.codeIn K cd_cor "Chars.__or__" = true)
    (K_k_cor : PySem.W.keepIn K (.ref f_cor) = true)
    (K_at_cinv : PySem.W.findIn K (.ref C_ch) "__invert__" = some (some (.ref f_cinv)))
    (K_fn_cinv : PySem.W.isFn K (.ref f_cinv) = true)
    (K_l_cinv : K.lookup f_cinv = some ⟨oc_cinv, od_cinv, .func (PySem.W.fnOf "__invert__" "Chars.__invert__" (defArgs s_cinv) (defBody s_cinv) (defScope s_cinv) .none kV_cinv dc_cinv pm_cinv an_cinv cd_cinv ct_cinv), sl_cinv⟩)
    (K_c_cinv : PySem.W.codeIn K cd_cinv "Chars.__invert__" = true)
    (K_k_cinv : PySem.W.keepIn K (.ref f_cinv) = true)
    (K_at_ceq : PySem.W.findIn K (.ref C_ch) "__eq__" = some (some (.ref f_ceq)))
    (K_fn_ceq : PySem.W.isFn K (.ref f_ceq) = true)
    (K_l_ceq : K.lookup f_ceq = some ⟨oc_ceq, od_ceq, .func (PySem.W.fnOf "__eq__" "Chars.__eq__" (defArgs s_ceq) (defBody s_ceq) (defScope s_ceq) .none kV_ceq dc_ceq pm_ceq an_ceq cd_ceq ct_ceq), sl_ceq⟩)
    (K_c_ceq : PySem.W.codeIn K cd_ceq "Chars.__eq__" = true)
    (K_k_ceq : PySem.W.keepIn K (.ref f_ceq) = true)
    (K_at_cbool : PySem.W.findIn K (.ref C_ch) "__bool__" = some (some (.ref f_cbool)))
    (K_fn_cbool : PySem.W.isFn K (.ref f_cbool) = true)
    (K_l_cbool : K.lookup f_cbool = some ⟨oc_cbool, od_cbool, .func (PySem.W.fnOf "__bool__" "Chars.__bool__" (defArgs s_cbool) (defBody s_cbool) (defScope s_cbool) .none kV_cbool dc_cbool pm_cbool an_cbool cd_cbool ct_cbool), sl_cbool⟩)
    (K_c_cbool : PySem.W.codeIn K cd_cbool "Chars.__bool__" = true)
    (K_k_cbool : PySem.W.keepIn K (.ref f_cbool) = true)
    (K_at_cupto : PySem.W.findIn K (.ref C_ch) "upto" = some (some (.ref f_cupto)))
    (K_fn_cupto : PySem.W.isFn K (.ref f_cupto) = true)
    (K_l_cupto : K.lookup f_cupto = some ⟨oc_cupto, od_cupto, .func (PySem.W.fnOf "upto" "Chars.upto" (defArgs s_cupto) (defBody s_cupto) (defScope s_cupto) .none kV_cupto dc_cupto pm_cupto an_cupto cd_cupto ct_cupto), sl_cupto⟩)
    (K_c_cupto : PySem.W.codeIn K cd_cupto "Chars.upto" = true)
    (K_k_cupto : PySem.W.keepIn K (.ref f_cupto) = true)
    (K_at_cevery : PySem.W.findCls K (.ref C_ch) (.type "type") "every" = some (.get (.builtin "classmethod.__get__") (.ref p_cevery) .none (.ref C_ch)))
    (K_rc_cevery : PySem.W.recIn K p_cevery "classmethod" = some (.ref f_cevery :: r_cevery))
    (K_fi_cevery : PySem.W.fnIn K f_cevery = true)
    (K_l_cevery : K.lookup f_cevery = some ⟨oc_cevery, od_cevery, .func (PySem.W.fnOf "every" "Chars.every" (defArgs s_cevery) (defBody s_cevery) (defScope s_cevery) .none kV_cevery dc_cevery pm_cevery an_cevery cd_cevery ct_cevery), sl_cevery⟩)
    (K_c_cevery : PySem.W.codeIn K cd_cevery "Chars.every" = true)
    (K_k_cevery : PySem.W.keepIn K (.ref f_cevery) = true)
    (K_at_czero : PySem.W.findCls K (.ref C_ch) (.type "type") "zero_of" = some (.get (.builtin "classmethod.__get__") (.ref p_czero) .none (.ref C_ch)))
    (K_rc_czero : PySem.W.recIn K p_czero "classmethod" = some (.ref f_czero :: r_czero))
    (K_fi_czero : PySem.W.fnIn K f_czero = true)
    (K_l_czero : K.lookup f_czero = some ⟨oc_czero, od_czero, .func (PySem.W.fnOf "zero_of" "Chars.zero_of" (defArgs s_czero) (defBody s_czero) (defScope s_czero) .none kV_czero dc_czero pm_czero an_czero cd_czero ct_czero), sl_czero⟩)
    (K_c_czero : PySem.W.codeIn K cd_czero "Chars.zero_of" = true)
    (K_k_czero : PySem.W.keepIn K (.ref f_czero) = true)
    (K_at_cunit : PySem.W.findCls K (.ref C_ch) (.type "type") "unit_of" = some (.get (.builtin "classmethod.__get__") (.ref p_cunit) .none (.ref C_ch)))
    (K_rc_cunit : PySem.W.recIn K p_cunit "classmethod" = some (.ref f_cunit :: r_cunit))
    (K_fi_cunit : PySem.W.fnIn K f_cunit = true)
    (K_l_cunit : K.lookup f_cunit = some ⟨oc_cunit, od_cunit, .func (PySem.W.fnOf "unit_of" "Chars.unit_of" (defArgs s_cunit) (defBody s_cunit) (defScope s_cunit) .none kV_cunit dc_cunit pm_cunit an_cunit cd_cunit ct_cunit), sl_cunit⟩)
    (K_c_cunit : PySem.W.codeIn K cd_cunit "Chars.unit_of" = true)
    (K_k_cunit : PySem.W.keepIn K (.ref f_cunit) = true)
    (K_at_conly : PySem.W.findCls K (.ref C_ch) (.type "type") "only" = some (.get (.builtin "classmethod.__get__") (.ref p_conly) .none (.ref C_ch)))
    (K_rc_conly : PySem.W.recIn K p_conly "classmethod" = some (.ref f_conly :: r_conly))
    (K_fi_conly : PySem.W.fnIn K f_conly = true)
    (K_l_conly : K.lookup f_conly = some ⟨oc_conly, od_conly, .func (PySem.W.fnOf "only" "Chars.only" (defArgs s_conly) (defBody s_conly) (defScope s_conly) .none kV_conly dc_conly pm_conly an_conly cd_conly ct_conly), sl_conly⟩)
    (K_c_conly : PySem.W.codeIn K cd_conly "Chars.only" = true)
    (K_k_conly : PySem.W.keepIn K (.ref f_conly) = true)
    (B_aK : PySem.W.nsIn K mainGlobals "Book" = some (some (.ref C_bk)))
    (B_pg : PySem.W.plainGet K C_bk Str.empty = true)
    (B_hd : PySem.W.hasDictIn K C_bk = true)
    (B_po : PySem.W.plainOver K C_bk = true)
    (B_sa : PySem.W.findIn K (.ref C_bk) "__setattr__" = some (some (.builtin "object.__setattr__")))
    (B_sf : PySem.W.selfFirst K C_bk = true)
    (B_ha : PySem.W.findIn K (.ref C_bk) "__class__" = some (some (.builtin "object.__class__")))
    (B_hn : PySem.W.specialIn K (.builtin "object.__class__") "__get__" = some (some (.builtin "getset_descriptor.__get__")))
    (B_htk : PySem.W.takesIn K (.builtin "object.__class__") = some true)
    (B_hm : PySem.W.mroIn K C_bk (.type "object") = some true)
    (B_mk : PySem.W.makesIn K C_bk = true)
    (B_kp : PySem.W.keepIn K (.ref C_bk) = true)
    (B_no__reports : PySem.W.findIn K (.ref C_bk) "_reports" = some none)
    (B_at_binit : PySem.W.findIn K (.ref C_bk) "__init__" = some (some (.ref f_binit)))
    (B_fn_binit : PySem.W.isFn K (.ref f_binit) = true)
    (B_l_binit : K.lookup f_binit = some ⟨oc_binit, od_binit, .func (PySem.W.fnOf "__init__" "Book.__init__" (defArgs s_binit) (defBody s_binit) (defScope s_binit) .none kV_binit dc_binit pm_binit an_binit cd_binit ct_binit), sl_binit⟩)
    (B_c_binit : PySem.W.codeIn K cd_binit "Book.__init__" = true)
    (B_k_binit : PySem.W.keepIn K (.ref f_binit) = true)
    (B_at_btell : PySem.W.findIn K (.ref C_bk) "tell" = some (some (.ref f_btell)))
    (B_fn_btell : PySem.W.isFn K (.ref f_btell) = true)
    (B_l_btell : K.lookup f_btell = some ⟨oc_btell, od_btell, .func (PySem.W.fnOf "tell" "Book.tell" (defArgs s_btell) (defBody s_btell) (defScope s_btell) .none (.ref D_btell) dc_btell pm_btell an_btell cd_btell ct_btell), sl_btell⟩)
    (B_c_btell : PySem.W.codeIn K cd_btell "Book.tell" = true)
    (B_k_btell : PySem.W.keepIn K (.ref f_btell) = true)
    (B_kd0_btell : PySem.W.nsIn K D_btell "name" = some (some (.str "" t0_btell)))
    (B_at_bback : PySem.W.findIn K (.ref C_bk) "take_back" = some (some (.ref f_bback)))
    (B_fn_bback : PySem.W.isFn K (.ref f_bback) = true)
    (B_l_bback : K.lookup f_bback = some ⟨oc_bback, od_bback, .func (PySem.W.fnOf "take_back" "Book.take_back" (defArgs s_bback) (defBody s_bback) (defScope s_bback) .none kV_bback dc_bback pm_bback an_bback cd_bback ct_bback), sl_bback⟩)
    (B_c_bback : PySem.W.codeIn K cd_bback "Book.take_back" = true)
    (B_k_bback : PySem.W.keepIn K (.ref f_bback) = true)
    (B_at_bparts : PySem.W.findIn K (.ref C_bk) "_parts" = some (some (.ref f_bparts)))
    (B_fn_bparts : PySem.W.isFn K (.ref f_bparts) = true)
    (B_l_bparts : K.lookup f_bparts = some ⟨oc_bparts, od_bparts, .func (PySem.W.fnOf "_parts" "Book._parts" (defArgs s_bparts) (defBody s_bparts) (defScope s_bparts) .none kV_bparts dc_bparts pm_bparts an_bparts cd_bparts ct_bparts), sl_bparts⟩)
    (B_c_bparts : PySem.W.codeIn K cd_bparts "Book._parts" = true)
    (B_k_bparts : PySem.W.keepIn K (.ref f_bparts) = true)
    (B_at_bidx : PySem.W.findIn K (.ref C_bk) "_index_of" = some (some (.ref f_bidx)))
    (B_fn_bidx : PySem.W.isFn K (.ref f_bidx) = true)
    (B_l_bidx : K.lookup f_bidx = some ⟨oc_bidx, od_bidx, .func (PySem.W.fnOf "_index_of" "Book._index_of" (defArgs s_bidx) (defBody s_bidx) (defScope s_bidx) .none kV_bidx dc_bidx pm_bidx an_bidx cd_bidx ct_bidx), sl_bidx⟩)
    (B_c_bidx : PySem.W.codeIn K cd_bidx "Book._index_of" = true)
    (B_k_bidx : PySem.W.keepIn K (.ref f_bidx) = true)
    (B_at_bfits : PySem.W.findIn K (.ref C_bk) "fits" = some (some (.ref f_bfits)))
    (B_fn_bfits : PySem.W.isFn K (.ref f_bfits) = true)
    (B_l_bfits : K.lookup f_bfits = some ⟨oc_bfits, od_bfits, .func (PySem.W.fnOf "fits" "Book.fits" (defArgs s_bfits) (defBody s_bfits) (defScope s_bfits) .none kV_bfits dc_bfits pm_bfits an_bfits cd_bfits ct_bfits), sl_bfits⟩)
    (B_c_bfits : PySem.W.codeIn K cd_bfits "Book.fits" = true)
    (B_k_bfits : PySem.W.keepIn K (.ref f_bfits) = true)
    (B_at_breps : PySem.W.findIn K (.ref C_bk) "reports" = some (some (.ref f_breps)))
    (B_fn_breps : PySem.W.isFn K (.ref f_breps) = true)
    (B_l_breps : K.lookup f_breps = some ⟨oc_breps, od_breps, .func (PySem.W.fnOf "reports" "Book.reports" (defArgs s_breps) (defBody s_breps) (defScope s_breps) .none kV_breps dc_breps pm_breps an_breps cd_breps ct_breps), sl_breps⟩)
    (B_c_breps : PySem.W.codeIn K cd_breps "Book.reports" = true)
    (B_k_breps : PySem.W.keepIn K (.ref f_breps) = true)
    (B_at_bbest : PySem.W.findIn K (.ref C_bk) "best" = some (some (.ref f_bbest)))
    (B_fn_bbest : PySem.W.isFn K (.ref f_bbest) = true)
    (B_l_bbest : K.lookup f_bbest = some ⟨oc_bbest, od_bbest, .func (PySem.W.fnOf "best" "Book.best" (defArgs s_bbest) (defBody s_bbest) (defScope s_bbest) .none (.ref D_bbest) dc_bbest pm_bbest an_bbest cd_bbest ct_bbest), sl_bbest⟩)
    (B_c_bbest : PySem.W.codeIn K cd_bbest "Book.best" = true)
    (B_k_bbest : PySem.W.keepIn K (.ref f_bbest) = true)
    (B_kd0_bbest : PySem.W.nsIn K D_bbest "most" = some (some (.int 1000 t0_bbest)))
    (z_int : PySem.W.nsIn K mainGlobals "int" = some none)
    (z_len : PySem.W.nsIn K mainGlobals "len" = some none)
    (z_abs : PySem.W.nsIn K mainGlobals "abs" = some none)
    (z_isinstance : PySem.W.nsIn K mainGlobals "isinstance" = some none)
    (z_bool : PySem.W.nsIn K mainGlobals "bool" = some none)
    (z_tuple : PySem.W.nsIn K mainGlobals "tuple" = some none)
    (z_list : PySem.W.nsIn K mainGlobals "list" = some none)
    (z_str : PySem.W.nsIn K mainGlobals "str" = some none)
    (z_range : PySem.W.nsIn K mainGlobals "range" = some none)
    (z_max : PySem.W.nsIn K mainGlobals "max" = some none)
    (z_min : PySem.W.nsIn K mainGlobals "min" = some none)
    (z_sorted : PySem.W.nsIn K mainGlobals "sorted" = some none)
    (z_set : PySem.W.nsIn K mainGlobals "set" = some none)
    (z_enumerate : PySem.W.nsIn K mainGlobals "enumerate" = some none)
    (g_isqrt : PySem.W.nsIn K mainGlobals "isqrt" = some (some (.builtin "math.isqrt"))) :
    ∃ fd : FuncData, (∀ (s : Shared) (v : Value), BindsTo s fd ⟨[v], []⟩ [("_law_script", v)]) ∧ ∀ base : Heap, K.In base → base.Ns mainGlobals mg → FnOk P w K mg base CX0 14 fa fd ["_law_script"] (spLaw K) := by
  have e := hfa.symm.trans (PySem.W.mg_of X G a_law)
  cases e
  have T : Txt mg := ⟨PySem.W.mg_none_of X G z_int, PySem.W.mg_none_of X G z_len, PySem.W.mg_none_of X G z_abs, PySem.W.mg_none_of X G z_isinstance, PySem.W.mg_none_of X G z_bool, PySem.W.mg_none_of X G z_tuple, PySem.W.mg_none_of X G z_list, PySem.W.mg_none_of X G z_str, PySem.W.mg_none_of X G z_range, PySem.W.mg_none_of X G z_max, PySem.W.mg_none_of X G z_min, PySem.W.mg_none_of X G z_sorted, PySem.W.mg_none_of X G z_set⟩
  have n_enumerate := PySem.W.mg_none_of X G z_enumerate
  have TF : FErr K mg CF := ⟨PySem.W.mg_of X G aF, rF, gF, iF⟩
  have F_ibn := fun_mk (st := s_ibn) l_ibn c_ibn k_ibn
  have b_ibn := F_ibn.binds (ps := ["self", "n"]) fun _ _ _ _ _ _ us hl => match us, hl with | [_, _], _ => rfl
  have E_ibn : ErrC K mg "BadNumber" "n" C_ibn f_ibn := ⟨PySem.W.mg_of X G aC_ibn, ⟨⟨_, _, _, _, _, _, _, _, _, _, _, _, _, _, _, xC_ibn, rfl⟩, sa_ibn, ec_ibn, tc_ibn, kc_ibn⟩, no_ibn, ic_ibn, ti_ibn, ⟨ga_ibn, gg_ibn, ec_ibn, hd_ibn⟩, exm_me ec_ibn is_ibn tc_ibn sc_ibn⟩
  have F_ibc := fun_mk (st := s_ibc) l_ibc c_ibc k_ibc
  have b_ibc := F_ibc.binds (ps := ["self", "p"]) fun _ _ _ _ _ _ us hl => match us, hl with | [_, _], _ => rfl
  have E_ibc : ErrC K mg "BadCharacteristic" "p" C_ibc f_ibc := ⟨PySem.W.mg_of X G aC_ibc, ⟨⟨_, _, _, _, _, _, _, _, _, _, _, _, _, _, _, xC_ibc, rfl⟩, sa_ibc, ec_ibc, tc_ibc, kc_ibc⟩, no_ibc, ic_ibc, ti_ibc, ⟨ga_ibc, gg_ibc, ec_ibc, hd_ibc⟩, exm_me ec_ibc is_ibc tc_ibc sc_ibc⟩
  have F_int := fun_mk (st := s_int) l_int c_int k_int
  have b_int := F_int.binds (ps := ["self", "name"]) fun _ _ _ _ _ _ us hl => match us, hl with | [_, _], _ => rfl
  have E_int : ErrC K mg "NameTaken" "name" C_int f_int := ⟨PySem.W.mg_of X G aC_int, ⟨⟨_, _, _, _, _, _, _, _, _, _, _, _, _, _, _, xC_int, rfl⟩, sa_int, ec_int, tc_int, kc_int⟩, no_int, ic_int, ti_int, ⟨ga_int, gg_int, ec_int, hd_int⟩, exm_me ec_int is_int tc_int sc_int⟩
  have F_co := fun_mk (st := s_ico) l_co c_co k_co
  have b_co := F_co.binds (ps := ["self", "clash"]) fun _ _ _ _ _ _ us hl => match us, hl with | [_, _], _ => rfl
  have X_co : ExcT K CF C_co := ⟨⟨_, _, _, _, _, _, _, _, _, _, _, _, _, _, xC_co⟩, sa_co, ga_co, gg_co, kc_co, tc_co, ha_co, hnE, htE⟩
  have F_nu := fun_mk (st := s_inu) l_nu c_nu k_nu
  have b_nu := F_nu.binds (ps := ["self"]) fun _ _ _ _ _ _ us hl => match us, hl with | [_], _ => rfl
  have X_nu : ExcT K CF C_nu := ⟨⟨_, _, _, _, _, _, _, _, _, _, _, _, _, _, xC_nu⟩, sa_nu, ga_nu, gg_nu, kc_nu, tc_nu, ha_nu, hnE, htE⟩
  have TC : ChT K mg C_ch := ⟨PySem.W.mg_of X G K_aK, ⟨K_pg, K_hd, K_po, K_sa⟩, K_no_endless, K_no_primes, K_sf, ⟨⟨K_pg, K_hd, K_po, K_sa⟩, K_ha, K_hn, K_htk, K_hm, if_pos (beq_self_eq_true _)⟩⟩
  have F_cinit := fun_mk (st := s_cinit) K_l_cinit K_c_cinit K_k_cinit
  have b_cinit := F_cinit.binds (ps := ["self", "endless", "primes"]) fun _ _ _ _ _ _ us hl => match us, hl with | [_, _, _], _ => rfl
  have F_ccont := fun_mk (st := s_ccont) K_l_ccont K_c_ccont K_k_ccont
  have b_ccont := F_ccont.binds (ps := ["self", "p"]) fun _ _ _ _ _ _ us hl => match us, hl with | [_, _], _ => rfl
  have M_ccont : Meth K C_ch "__contains__" f_ccont := ⟨K_at_ccont, K_fn_ccont, K_k_ccont⟩
  have F_cand := fun_mk (st := s_cand) K_l_cand K_c_cand K_k_cand
  have b_cand := F_cand.binds (ps := ["self", "other"]) fun _ _ _ _ _ _ us hl => match us, hl with | [_, _], _ => rfl
  have M_cand : Meth K C_ch "__and__" f_cand := ⟨K_at_cand, K_fn_cand, K_k_cand⟩
  have F_cor := fun_mk (st := s_cor) K_l_cor K_c_cor K_k_cor
  have b_cor := F_cor.binds (ps := ["self", "other"]) fun _ _ _ _ _ _ us hl => match us, hl with | [_, _], _ => rfl
  have M_cor : Meth K C_ch "__or__" f_cor := ⟨K_at_cor, K_fn_cor, K_k_cor⟩
  have F_cinv := fun_mk (st := s_cinv) K_l_cinv K_c_cinv K_k_cinv
  have b_cinv := F_cinv.binds (ps := ["self"]) fun _ _ _ _ _ _ us hl => match us, hl with | [_], _ => rfl
  have M_cinv : Meth K C_ch "__invert__" f_cinv := ⟨K_at_cinv, K_fn_cinv, K_k_cinv⟩
  have F_ceq := fun_mk (st := s_ceq) K_l_ceq K_c_ceq K_k_ceq
  have b_ceq := F_ceq.binds (ps := ["self", "other"]) fun _ _ _ _ _ _ us hl => match us, hl with | [_, _], _ => rfl
  have M_ceq : Meth K C_ch "__eq__" f_ceq := ⟨K_at_ceq, K_fn_ceq, K_k_ceq⟩
  have F_cbool := fun_mk (st := s_cbool) K_l_cbool K_c_cbool K_k_cbool
  have b_cbool := F_cbool.binds (ps := ["self"]) fun _ _ _ _ _ _ us hl => match us, hl with | [_], _ => rfl
  have M_cbool : Meth K C_ch "__bool__" f_cbool := ⟨K_at_cbool, K_fn_cbool, K_k_cbool⟩
  have F_cupto := fun_mk (st := s_cupto) K_l_cupto K_c_cupto K_k_cupto
  have b_cupto := F_cupto.binds (ps := ["self", "most"]) fun _ _ _ _ _ _ us hl => match us, hl with | [_, _], _ => rfl
  have M_cupto : Meth K C_ch "upto" f_cupto := ⟨K_at_cupto, K_fn_cupto, K_k_cupto⟩
  have F_cevery := fun_mk (st := s_cevery) K_l_cevery K_c_cevery K_k_cevery
  have b_cevery := F_cevery.binds (ps := ["cls"]) fun _ _ _ _ _ _ us hl => match us, hl with | [_], _ => rfl
  have M_cevery : ClX.CMet K C_ch (.type "type") "every" p_cevery f_cevery := ⟨K_at_cevery, ⟨_, K_rc_cevery⟩, K_fi_cevery⟩
  have F_czero := fun_mk (st := s_czero) K_l_czero K_c_czero K_k_czero
  have b_czero := F_czero.binds (ps := ["cls", "n"]) fun _ _ _ _ _ _ us hl => match us, hl with | [_, _], _ => rfl
  have M_czero : ClX.CMet K C_ch (.type "type") "zero_of" p_czero f_czero := ⟨K_at_czero, ⟨_, K_rc_czero⟩, K_fi_czero⟩
  have F_cunit := fun_mk (st := s_cunit) K_l_cunit K_c_cunit K_k_cunit
  have b_cunit := F_cunit.binds (ps := ["cls", "n"]) fun _ _ _ _ _ _ us hl => match us, hl with | [_, _], _ => rfl
  have M_cunit : ClX.CMet K C_ch (.type "type") "unit_of" p_cunit f_cunit := ⟨K_at_cunit, ⟨_, K_rc_cunit⟩, K_fi_cunit⟩
  have F_conly := fun_mk (st := s_conly) K_l_conly K_c_conly K_k_conly
  have M_conly : ClX.CMet K C_ch (.type "type") "only" p_conly f_conly := ⟨K_at_conly, ⟨_, K_rc_conly⟩, K_fi_conly⟩
  have CR : ClX.CRead K C_ch (.type "type") := ⟨K_rd, K_sg⟩
  have TB : BkT K mg C_bk := ⟨PySem.W.mg_of X G B_aK, ⟨B_pg, B_hd, B_po, B_sa⟩, B_no__reports, B_sf, ⟨⟨B_pg, B_hd, B_po, B_sa⟩, B_ha, B_hn, B_htk, B_hm, if_pos (beq_self_eq_true _)⟩⟩
  have F_binit := fun_mk (st := s_binit) B_l_binit B_c_binit B_k_binit
  have b_binit := F_binit.binds (ps := ["self"]) fun _ _ _ _ _ _ us hl => match us, hl with | [_], _ => rfl
  have F_btell := fun_mk (st := s_btell) B_l_btell B_c_btell B_k_btell
  have G_btell : FunD K "tell" "Book.tell" (defArgs s_btell) (defBody s_btell) (defScope s_btell) [] [("name", .str "")] f_btell _ := ⟨⟨_, _, _, _, _, _, _, _, _, _, rfl, B_l_btell, B_c_btell, .inl ⟨rfl, rfl⟩, .inr ⟨D_btell, rfl, fun q hq => by rw [List.mem_singleton.mp hq]; exact ⟨_, B_kd0_btell, ⟨_, rfl⟩⟩⟩⟩, B_k_btell⟩
  obtain ⟨ds_btell, v_btell, b_btell⟩ := G_btell.binds0 (ps := ["self", "found", "holds", "name"]) 3 (by simp) rfl (fun D doc pm an cdv ct us ks h1 h2 => match us, ks, h1, h2 with | [_, _, _], [_], _, _ => ⟨_, _, _, _, _, _, rfl, rfl, rfl⟩)
  have M_btell : Meth K C_bk "tell" f_btell := ⟨B_at_btell, B_fn_btell, B_k_btell⟩
  have F_bback := fun_mk (st := s_bback) B_l_bback B_c_bback B_k_bback
  have b_bback := F_bback.binds (ps := ["self"]) fun _ _ _ _ _ _ us hl => match us, hl with | [_], _ => rfl
  have M_bback : Meth K C_bk "take_back" f_bback := ⟨B_at_bback, B_fn_bback, B_k_bback⟩
  have F_bparts := fun_mk (st := s_bparts) B_l_bparts B_c_bparts B_k_bparts
  have b_bparts := F_bparts.binds (ps := ["self"]) fun _ _ _ _ _ _ us hl => match us, hl with | [_], _ => rfl
  have M_bparts : Meth K C_bk "_parts" f_bparts := ⟨B_at_bparts, B_fn_bparts, B_k_bparts⟩
  have F_bidx := fun_mk (st := s_bidx) B_l_bidx B_c_bidx B_k_bidx
  have b_bidx := F_bidx.binds (ps := ["self", "name"]) fun _ _ _ _ _ _ us hl => match us, hl with | [_, _], _ => rfl
  have M_bidx : Meth K C_bk "_index_of" f_bidx := ⟨B_at_bidx, B_fn_bidx, B_k_bidx⟩
  have F_bfits := fun_mk (st := s_bfits) B_l_bfits B_c_bfits B_k_bfits
  have b_bfits := F_bfits.binds (ps := ["self"]) fun _ _ _ _ _ _ us hl => match us, hl with | [_], _ => rfl
  have M_bfits : Meth K C_bk "fits" f_bfits := ⟨B_at_bfits, B_fn_bfits, B_k_bfits⟩
  have F_breps := fun_mk (st := s_breps) B_l_breps B_c_breps B_k_breps
  have b_breps := F_breps.binds (ps := ["self"]) fun _ _ _ _ _ _ us hl => match us, hl with | [_], _ => rfl
  have M_breps : Meth K C_bk "reports" f_breps := ⟨B_at_breps, B_fn_breps, B_k_breps⟩
  have F_bbest := fun_mk (st := s_bbest) B_l_bbest B_c_bbest B_k_bbest
  have M_bbest : Meth K C_bk "best" f_bbest := ⟨B_at_bbest, B_fn_bbest, B_k_bbest⟩
  have F_least := fun_mk (st := s_least) l_least c_least k_least
  have b_least := F_least.binds (ps := ["n"]) fun _ _ _ _ _ _ us hl => match us, hl with | [_], _ => rfl
  have F_prime := fun_mk (st := s_prime) l_prime c_prime k_prime
  have b_prime := F_prime.binds (ps := ["n"]) fun _ _ _ _ _ _ us hl => match us, hl with | [_], _ => rfl
  have F_divs := fun_mk (st := s_divs) l_divs c_divs k_divs
  have b_divs := F_divs.binds (ps := ["n"]) fun _ _ _ _ _ _ us hl => match us, hl with | [_], _ => rfl
  have F_inall := fun_mk (st := s_inall) l_inall c_inall k_inall
  have b_inall := F_inall.binds (ps := ["sets"]) fun _ _ _ _ _ _ us hl => match us, hl with | [_], _ => rfl
  have F_clash := fun_mk (st := s_clash) l_clash c_clash k_clash
  have b_clash := F_clash.binds (ps := ["known", "sets"]) fun _ _ _ _ _ _ us hl => match us, hl with | [_, _], _ => rfl
  have F_stold := fun_mk (st := s_stold) l_stold c_stold k_stold
  have b_stold := F_stold.binds (ps := ["found", "holds"]) fun _ _ _ _ _ _ us hl => match us, hl with | [_, _], _ => rfl
  have F_grt := fun_mk (st := s_grt) l_grt c_grt k_grt
  have b_grt := F_grt.binds (ps := ["members", "question"]) fun _ _ _ _ _ _ us hl => match us, hl with | [_, _], _ => rfl
  have F_cell := fun_mk (st := s_cell) l_cell c_cell k_cell
  have b_cell := F_cell.binds (ps := ["_law_script", "_law_k"]) fun _ _ _ _ _ _ us hl => match us, hl with | [_, _], _ => rfl
  have F_draws := fun_mk (st := s_draws) l_draws c_draws k_draws
  have b_draws := F_draws.binds (ps := ["_law_cell_here", "_law_sizes"]) fun _ _ _ _ _ _ us hl => match us, hl with | [_, _], _ => rfl
  have F_lisp := fun_mk (st := s_lisp) l_lisp c_lisp k_lisp
  have b_lisp := F_lisp.binds (ps := ["_law_n"]) fun _ _ _ _ _ _ us hl => match us, hl with | [_], _ => rfl
  have F_lset := fun_mk (st := s_lset) l_lset c_lset k_lset
  have b_lset := F_lset.binds (ps := ["_law_drawn"]) fun _ _ _ _ _ _ us hl => match us, hl with | [_], _ => rfl
  have F_lask9 := fun_mk (st := s_lask9) l_lask9 c_lask9 k_lask9
  have b_lask9 := F_lask9.binds (ps := ["_law_book", "_law_s", "_law_bound"]) fun _ _ _ _ _ _ us hl => match us, hl with | [_, _, _], _ => rfl
  have F_ldue9 := fun_mk (st := s_ldue9) l_ldue9 c_ldue9 k_ldue9
  have b_ldue9 := F_ldue9.binds (ps := ["_law_sets", "_law_questions", "_law_primes"]) fun _ _ _ _ _ _ us hl => match us, hl with | [_, _, _], _ => rfl
  have F_law := fun_mk (st := s_law) l_law c_law k_law
  have m_isqrt := PySem.W.mg_of X G g_isqrt
  refine ⟨PySem.W.fnOf "law" "law" (defArgs s_law) (defBody s_law) (defScope s_law) .none kV_law dc_law pm_law an_law cd_law ct_law, fun s v => .of_eq rfl, fun base _ _ => ?_⟩
  have x_ibn : Er P w K mg base "BadNumber" "n" C_ibn := ⟨_, _, _, E_ibn, ok_ibn TF E_ibn.oex E_ibn.no F_ibn, b_ibn⟩
  have x_ibc : Er P w K mg base "BadCharacteristic" "p" C_ibc := ⟨_, _, _, E_ibc, ok_ibc TF E_ibc.oex E_ibc.no F_ibc, b_ibc⟩
  have x_int : ErP P w K mg base "NameTaken" "name" C_int okS := ⟨_, _, _, E_int, ok_int TF E_int.oex E_int.no F_int, b_int⟩
  have d_least : Cl P w K mg base CX0 1 "_least_divisor" spLeast := ⟨_, _, _, ok_least T m_isqrt F_least, PySem.W.mg_of X G a_least, k_least, b_least⟩
  have d_prime : Cl P w K mg base CX0 2 "is_prime" spPrime := ⟨_, _, _, ok_prime F_prime d_least, PySem.W.mg_of X G a_prime, k_prime, b_prime⟩
  have d_divs : Cl P w K mg base (L2N.CX P w) 3 "prime_divisors" (spDivs C_ibn) := ⟨_, _, _, ok_divs T F_divs d_least x_ibn, PySem.W.mg_of X G a_divs, k_divs, b_divs⟩
  have d_cell : Cl P w K mg base CX0 1 "_law_cell" (spCellL K) := ⟨_, _, _, ok_cell T F_cell, PySem.W.mg_of X G a_cell, k_cell, b_cell⟩
  have d_draws : Cl P w K mg base CX0 1 "_law_draws" (spDraws K) := ⟨_, _, _, ok_draws T F_draws, PySem.W.mg_of X G a_draws, k_draws, b_draws⟩
  have d_lisp : Cl P w K mg base CX0 1 "_law_is_prime" spLisp := ⟨_, _, _, ok_lisp F_lisp, PySem.W.mg_of X G a_lisp, k_lisp, b_lisp⟩
  have c_cit : Ma P w K mg base 3 C_ch (spCI C_ch C_ibc true K) := ⟨_, _, _, ⟨K_mk, K_at_cinit, K_fn_cinit, K_kp⟩, ok_cinit true T TC F_cinit d_prime x_ibc, b_cinit⟩
  have c_cil : Ma P w K mg base 3 C_ch (spCI C_ch C_ibc false K) := ⟨_, _, _, ⟨K_mk, K_at_cinit, K_fn_cinit, K_kp⟩, ok_cinit false T TC F_cinit d_prime x_ibc, b_cinit⟩
  have m_cont : Me P w K mg base 1 C_ch "__contains__" (spCont C_ch) := ⟨_, _, _, M_ccont, ok_ccont TC F_ccont, b_ccont⟩
  have m_inv : Me P w K mg base 5 C_ch "__invert__" (spInv C_ch) := ⟨_, _, _, M_cinv, ok_cinv TC F_cinv c_cit, b_cinv⟩
  have m_and : Me P w K mg base 5 C_ch "__and__" (spAnd C_ch and) := ⟨_, _, _, M_cand, ok_cand TC F_cand c_cit c_cil m_cont, b_cand⟩
  have m_or : Me P w K mg base 5 C_ch "__or__" (spAnd C_ch or) := ⟨_, _, _, M_cor, ok_cor TC F_cor c_cit c_cil m_cont, b_cor⟩
  have m_eq : Me P w K mg base 1 C_ch "__eq__" (spCeq C_ch) := ⟨_, _, _, M_ceq, ok_ceq T TC F_ceq, b_ceq⟩
  have m_bool : Me P w K mg base 1 C_ch "__bool__" (spCbool C_ch) := ⟨_, _, _, M_cbool, ok_cbool T TC F_cbool, b_cbool⟩
  have m_every : Cm P w K mg base 5 C_ch "every" (spCevery C_ch true) := ⟨_, _, _, _, _, CR, M_cevery, ok_cevery TC F_cevery c_cit, b_cevery⟩
  have m_zero : Cm P w K mg base 6 C_ch "zero_of" (spCzero C_ch false) := ⟨_, _, _, _, _, CR, M_czero, ok_czero TC F_czero c_cil m_every d_divs, b_czero⟩
  have m_unit : Cm P w K mg base 7 C_ch "unit_of" (spCzero C_ch true) := ⟨_, _, _, _, _, CR, M_cunit, ok_cunit F_cunit m_zero m_inv, b_cunit⟩
  have m_only : CmR P w K mg base 5 C_ch "only" (spStar C_ch false) := ⟨_, _, _, CR, M_conly, ok_conly TC F_conly c_cit⟩
  have x_co : ErG P w K mg base "Contradiction" C_co (spInitL K C_co "clash") := ⟨_, _, _, PySem.W.mg_of X G aC_co, X_co.oex, ic_co, ti_co, ok_ico T TF X_co.oex no_clash_co F_co, b_co⟩
  have x_nu : ErG P w K mg base "NothingToUndo" C_nu (spInit0 C_nu) := ⟨_, _, _, PySem.W.mg_of X G aC_nu, X_nu.oex, ic_nu, ti_nu, ok_inu TF X_nu.oex F_nu, b_nu⟩
  have TO : ExN K mg "Contradiction" C_co := ⟨PySem.W.mg_of X G aC_co, exm_me X_co.ec X_co.is X_co.tc (by rw [X_co.sub]; simp)⟩
  have d_inall : Cl P w K mg base CX0 6 "in_all" (spMeet C_ch) := ⟨_, _, _, ok_inall TC F_inall m_every m_and, PySem.W.mg_of X G a_inall, k_inall, b_inall⟩
  have d_stold : Cl P w K mg base CX0 6 "told" (spStold C_ch) := ⟨_, _, _, ok_stold F_stold m_inv, PySem.W.mg_of X G a_stold, k_stold, b_stold⟩
  have d_clash : Cl P w K mg base CX0 7 "clash_of" (spClash C_ch) := ⟨_, _, _, ok_clash T TC F_clash d_inall m_bool, PySem.W.mg_of X G a_clash, k_clash, b_clash⟩
  have d_lset : Cl P w K mg base CX0 8 "_law_set" (spLset C_ch) := ⟨_, _, _, ok_lset TC F_lset m_zero m_unit m_or m_only, PySem.W.mg_of X G a_lset, k_lset, b_lset⟩
  have c_bk : Ma P w K mg base 1 C_bk (spBI C_bk) := ⟨_, _, _, ⟨B_mk, B_at_binit, B_fn_binit, B_kp⟩, ok_binit TB F_binit, b_binit⟩
  have m_parts : Me P w K mg base 7 C_bk "_parts" (spBparts C_ch C_bk) := ⟨_, _, _, M_bparts, ok_bparts TB F_bparts d_stold, b_bparts⟩
  have m_idx : Me P w K mg base 1 C_bk "_index_of" (spBidx C_ch C_bk) := ⟨_, _, _, M_bidx, ok_bidx n_enumerate TB F_bidx, b_bidx⟩
  have m_fits : Me P w K mg base 8 C_bk "fits" (spBfits C_ch C_bk) := ⟨_, _, _, M_bfits, ok_bfits TB F_bfits m_parts d_inall, b_bfits⟩
  have m_tell : MeD P w K mg base 8 C_bk "tell" [.str ""] (spTell C_ch C_bk C_int C_co) := ⟨_, _, _, _, M_btell, ok_btell TC TB F_btell m_idx m_parts d_stold d_inall d_clash m_every m_bool x_int x_co, b_btell, v_btell⟩
  have m_back : MeN P w K mg base 3 C_bk "take_back" (spBack C_ch C_bk C_nu) := ⟨_, _, _, M_bback, ok_bback TB F_bback x_nu, b_bback⟩
  have m_upto : MeG P w K mg base 3 C_ch "upto" (spUpto C_ch) := ⟨_, _, _, M_cupto, g_cupto T TC K_l_cupto K_c_cupto d_prime m_cont, b_cupto⟩
  have d_grt : Cl P w K mg base CX0 2 "_greater_part" (spGrt C_ch) := ⟨_, _, _, ok_grt T F_grt m_cont, PySem.W.mg_of X G a_grt, k_grt, b_grt⟩
  have m_best : MeSK P w K mg base 12 C_bk "best" "most" (.int 1000) (spBest C_ch C_bk) := ⟨_, M_bbest, fn_sk B_l_bbest B_c_bbest sc_bbest B_kd0_bbest ⟨_, rfl⟩ (fun a rest => match rest with | [] => ⟨_, _, _, _, _, _, rfl, rfl, rfl⟩ | _ :: _ => ⟨_, _, _, _, _, _, rfl, rfl, rfl⟩) (fun a rest u => match rest with | [] => rfl | _ :: _ => rfl) (ok_bbest T TC TB m_fits m_upto m_cont d_grt)⟩
  have m_reps : Me P w K mg base 1 C_bk "reports" (spReps C_ch C_bk) := ⟨_, _, _, M_breps, ok_breps T TB F_breps, b_breps⟩
  have d_lask9 : Cl P w K mg base CX0 13 "_law_asked" (spAsk9 C_ch C_bk) := ⟨_, _, _, ok_lask9 T TB F_lask9 m_best, PySem.W.mg_of X G a_lask9, k_lask9, b_lask9⟩
  have d_ldue9 : Cl P w K mg base CX0 2 "_law_due" (spDue9 C_ch K) := ⟨_, _, _, ok_ldue9 T F_ldue9 m_cont, PySem.W.mg_of X G a_ldue9, k_ldue9, b_ldue9⟩
  exact ok_law T TC TB F_law d_cell d_draws d_lset d_lisp d_lask9 d_ldue9 c_bk m_inv m_back m_tell m_fits m_reps m_cont
theorem walk {l : PySem.W.OpenLaw} {q : Program} {loose : List Str} {XP : (Str → Option Value) → Heap → Prop} {YP : World → Heap → Prop} {d : DefRec} {K : Params → PySem.W.Frag} (hn : l.most = some 63) (hdf : d.params.defaults = [])
    (hY : ∀ (w : World) (h : Heap), YP w h → (K w.params).In h)
    (F : ∀ (w : World) (mg : Str → Option Value) (fa : Addr) (h : Heap), (K w.params).In h → h.Ns mainGlobals mg → mg d.name = some (.ref fa) →
      ∃ fd : FuncData, (∀ (s : Shared) (u : Value), BindsTo s fd ⟨[u], []⟩ [("_law_script", u)]) ∧ ∀ base : Heap, (K w.params).In base → base.Ns mainGlobals mg → FnOk l.prog w (K w.params) mg base CX0 14 fa fd ["_law_script"] (spLaw (K w.params))) :
    PySem.W.WalkO q loose XP YP l.row.toRowW d [] (fun f vs => PySem.call f vs) :=
  L2.walk_of (n := 63) (k := 14) (x := "_law_script") (CX := fun _ => CX0) (sp := fun w => spLaw (K w.params)) hn (by decide) hdf ⟨rfl, by decide, by decide⟩ hY F (fun _ _ a ns hl _ hS => ⟨a, ns, rfl, hS, hl, fun _ => rfl⟩) fun _ _ _ _ _ z => z
end My
open PySem PySem.W PyProof.Rows
set_option maxRecDepth 100000 in
set_option maxHeartbeats 0 in
theorem PySem.Challenge.cw_everyfield_k89_best_questions_holds : PySem.Challenge.rw_everyfield_k89_best_questions.Holds := by
  w_on; o_law; k_head; (case hw => w_witness2)
  k_fill
  refine My.walk (l := PySem.Challenge.rw_everyfield_k89_best_questions) rfl rfl (fun w h Y => PySem.W.kIn_of Y) ?F
  case F =>
    intro w mg fa h KX G hmg
    refine' My.all_mk KX G hmg ?a_least ?l_least ?c_least ?k_least ?a_prime ?l_prime ?c_prime ?k_prime ?a_divs ?l_divs ?c_divs ?k_divs ?a_inall ?l_inall ?c_inall ?k_inall ?a_clash ?l_clash ?c_clash ?k_clash ?a_stold ?l_stold ?c_stold ?k_stold ?a_grt ?l_grt ?c_grt ?k_grt ?a_cell ?l_cell ?c_cell ?k_cell ?a_draws ?l_draws ?c_draws ?k_draws ?a_lisp ?l_lisp ?c_lisp ?k_lisp ?a_lset ?l_lset ?c_lset ?k_lset ?a_lask9 ?l_lask9 ?c_lask9 ?k_lask9 ?a_ldue9 ?l_ldue9 ?c_ldue9 ?k_ldue9 ?a_law ?l_law ?c_law ?k_law ?aF ?rF ?gF ?iF ?aC_ibn ?xC_ibn ?sa_ibn ?ga_ibn ?gg_ibn ?no_ibn ?ic_ibn ?ti_ibn ?kc_ibn ?ec_ibn ?tc_ibn ?hd_ibn ?is_ibn ?sc_ibn ?l_ibn ?c_ibn ?k_ibn ?aC_ibc ?xC_ibc ?sa_ibc ?ga_ibc ?gg_ibc ?no_ibc ?ic_ibc ?ti_ibc ?kc_ibc ?ec_ibc ?tc_ibc ?hd_ibc ?is_ibc ?sc_ibc ?l_ibc ?c_ibc ?k_ibc ?aC_int ?xC_int ?sa_int ?ga_int ?gg_int ?no_int ?ic_int ?ti_int ?kc_int ?ec_int ?tc_int ?hd_int ?is_int ?sc_int ?l_int ?c_int ?k_int ?ecF ?isF ?tcF ?hnE ?htE ?aC_co ?xC_co ?sa_co ?ga_co ?gg_co ?ha_co ?ic_co ?ti_co ?kc_co ?tc_co ?l_co ?c_co ?k_co ?no_clash_co ?aC_nu ?xC_nu ?sa_nu ?ga_nu ?gg_nu ?ha_nu ?ic_nu ?ti_nu ?kc_nu ?tc_nu ?l_nu ?c_nu ?k_nu ?K_aK ?K_pg ?K_hd ?K_po ?K_sa ?K_sf ?K_ha ?K_hn ?K_htk ?K_hm ?K_mk ?K_kp ?K_no_endless ?K_no_primes ?K_rd ?K_sg ?K_at_cinit ?K_fn_cinit ?K_l_cinit ?K_c_cinit ?K_k_cinit ?K_at_ccont ?K_fn_ccont ?K_l_ccont ?K_c_ccont ?K_k_ccont ?K_at_cand ?K_fn_cand ?K_l_cand ?K_c_cand ?K_k_cand ?K_at_cor ?K_fn_cor ?K_l_cor ?K_c_cor ?K_k_cor ?K_at_cinv ?K_fn_cinv ?K_l_cinv ?K_c_cinv ?K_k_cinv ?K_at_ceq ?K_fn_ceq ?K_l_ceq ?K_c_ceq ?K_k_ceq ?K_at_cbool ?K_fn_cbool ?K_l_cbool ?K_c_cbool ?K_k_cbool ?K_at_cupto ?K_fn_cupto ?K_l_cupto ?K_c_cupto ?K_k_cupto ?K_at_cevery ?K_rc_cevery ?K_fi_cevery ?K_l_cevery ?K_c_cevery ?K_k_cevery ?K_at_czero ?K_rc_czero ?K_fi_czero ?K_l_czero ?K_c_czero ?K_k_czero ?K_at_cunit ?K_rc_cunit ?K_fi_cunit ?K_l_cunit ?K_c_cunit ?K_k_cunit ?K_at_conly ?K_rc_conly ?K_fi_conly ?K_l_conly ?K_c_conly ?K_k_conly ?B_aK ?B_pg ?B_hd ?B_po ?B_sa ?B_sf ?B_ha ?B_hn ?B_htk ?B_hm ?B_mk ?B_kp ?B_no__reports ?B_at_binit ?B_fn_binit ?B_l_binit ?B_c_binit ?B_k_binit ?B_at_btell ?B_fn_btell ?B_l_btell ?B_c_btell ?B_k_btell ?B_kd0_btell ?B_at_bback ?B_fn_bback ?B_l_bback ?B_c_bback ?B_k_bback ?B_at_bparts ?B_fn_bparts ?B_l_bparts ?B_c_bparts ?B_k_bparts ?B_at_bidx ?B_fn_bidx ?B_l_bidx ?B_c_bidx ?B_k_bidx ?B_at_bfits ?B_fn_bfits ?B_l_bfits ?B_c_bfits ?B_k_bfits ?B_at_breps ?B_fn_breps ?B_l_breps ?B_c_breps ?B_k_breps ?B_at_bbest ?B_fn_bbest ?B_l_bbest ?B_c_bbest ?B_k_bbest ?B_kd0_bbest ?z_int ?z_len ?z_abs ?z_isinstance ?z_bool ?z_tuple ?z_list ?z_str ?z_range ?z_max ?z_min ?z_sorted ?z_set ?z_enumerate ?g_isqrt
    (case a_least => k_is)
    (case l_least => k_is)
    (case c_least => k_is)
    (case k_least => k_is)
    (case a_prime => k_is)
    (case l_prime => k_is)
    (case c_prime => k_is)
    (case k_prime => k_is)
    (case a_divs => k_is)
    (case l_divs => k_is)
    (case c_divs => k_is)
    (case k_divs => k_is)
    (case a_inall => k_is)
    (case l_inall => k_is)
    (case c_inall => k_is)
    (case k_inall => k_is)
    (case a_clash => k_is)
    (case l_clash => k_is)
    (case c_clash => k_is)
    (case k_clash => k_is)
    (case a_stold => k_is)
    (case l_stold => k_is)
    (case c_stold => k_is)
    (case k_stold => k_is)
    (case a_grt => k_is)
    (case l_grt => k_is)
    (case c_grt => k_is)
    (case k_grt => k_is)
    (case a_cell => k_is)
    (case l_cell => k_is)
    (case c_cell => k_is)
    (case k_cell => k_is)
    (case a_draws => k_is)
    (case l_draws => k_is)
    (case c_draws => k_is)
    (case k_draws => k_is)
    (case a_lisp => k_is)
    (case l_lisp => k_is)
    (case c_lisp => k_is)
    (case k_lisp => k_is)
    (case a_lset => k_is)
    (case l_lset => k_is)
    (case c_lset => k_is)
    (case k_lset => k_is)
    (case a_lask9 => k_is)
    (case l_lask9 => k_is)
    (case c_lask9 => k_is)
    (case k_lask9 => k_is)
    (case a_ldue9 => k_is)
    (case l_ldue9 => k_is)
    (case c_ldue9 => k_is)
    (case k_ldue9 => k_is)
    (case a_law => k_is)
    (case l_law => k_is)
    (case c_law => k_is)
    (case k_law => k_is)
    (case aF => k_is)
    (case rF => k_is)
    (case gF => k_is)
    (case iF => k_is)
    (case aC_ibn => k_is)
    (case xC_ibn => k_is)
    (case sa_ibn => k_is)
    (case ga_ibn => k_is)
    (case gg_ibn => k_is)
    (case no_ibn => k_is)
    (case ic_ibn => k_is)
    (case ti_ibn => k_is)
    (case kc_ibn => k_is)
    (case ec_ibn => k_is)
    (case tc_ibn => k_is)
    (case hd_ibn => k_is)
    (case is_ibn => k_is)
    (case sc_ibn => k_is)
    (case l_ibn => k_is)
    (case c_ibn => k_is)
    (case k_ibn => k_is)
    (case aC_ibc => k_is)
    (case xC_ibc => k_is)
    (case sa_ibc => k_is)
    (case ga_ibc => k_is)
    (case gg_ibc => k_is)
    (case no_ibc => k_is)
    (case ic_ibc => k_is)
    (case ti_ibc => k_is)
    (case kc_ibc => k_is)
    (case ec_ibc => k_is)
    (case tc_ibc => k_is)
    (case hd_ibc => k_is)
    (case is_ibc => k_is)
    (case sc_ibc => k_is)
    (case l_ibc => k_is)
    (case c_ibc => k_is)
    (case k_ibc => k_is)
    (case aC_int => k_is)
    (case xC_int => k_is)
    (case sa_int => k_is)
    (case ga_int => k_is)
    (case gg_int => k_is)
    (case no_int => k_is)
    (case ic_int => k_is)
    (case ti_int => k_is)
    (case kc_int => k_is)
    (case ec_int => k_is)
    (case tc_int => k_is)
    (case hd_int => k_is)
    (case is_int => k_is)
    (case sc_int => k_is)
    (case l_int => k_is)
    (case c_int => k_is)
    (case k_int => k_is)
    (case ecF => k_is)
    (case isF => k_is)
    (case tcF => k_is)
    (case hnE => k_is)
    (case htE => k_is)
    (case aC_co => k_is)
    (case xC_co => k_is)
    (case sa_co => k_is)
    (case ga_co => k_is)
    (case gg_co => k_is)
    (case ha_co => k_is)
    (case ic_co => k_is)
    (case ti_co => k_is)
    (case kc_co => k_is)
    (case tc_co => k_is)
    (case l_co => k_is)
    (case c_co => k_is)
    (case k_co => k_is)
    (case no_clash_co => k_is)
    (case aC_nu => k_is)
    (case xC_nu => k_is)
    (case sa_nu => k_is)
    (case ga_nu => k_is)
    (case gg_nu => k_is)
    (case ha_nu => k_is)
    (case ic_nu => k_is)
    (case ti_nu => k_is)
    (case kc_nu => k_is)
    (case tc_nu => k_is)
    (case l_nu => k_is)
    (case c_nu => k_is)
    (case k_nu => k_is)
    (case K_aK => k_is)
    (case K_pg => k_is)
    (case K_hd => k_is)
    (case K_po => k_is)
    (case K_sa => k_is)
    (case K_sf => k_is)
    (case K_ha => k_is)
    (case K_hn => k_is)
    (case K_htk => k_is)
    (case K_hm => k_is)
    (case K_mk => k_is)
    (case K_kp => k_is)
    (case K_no_endless => k_is)
    (case K_no_primes => k_is)
    (case K_rd => k_is)
    (case K_sg => k_is)
    (case K_at_cinit => k_is)
    (case K_fn_cinit => k_is)
    (case K_l_cinit => k_is)
    (case K_c_cinit => k_is)
    (case K_k_cinit => k_is)
    (case K_at_ccont => k_is)
    (case K_fn_ccont => k_is)
    (case K_l_ccont => k_is)
    (case K_c_ccont => k_is)
    (case K_k_ccont => k_is)
    (case K_at_cand => k_is)
    (case K_fn_cand => k_is)
    (case K_l_cand => k_is)
    (case K_c_cand => k_is)
    (case K_k_cand => k_is)
    (case K_at_cor => k_is)
    (case K_fn_cor => k_is)
    (case K_l_cor => k_is)
    (case K_c_cor => k_is)
    (case K_k_cor => k_is)
    (case K_at_cinv => k_is)
    (case K_fn_cinv => k_is)
    (case K_l_cinv => k_is)
    (case K_c_cinv => k_is)
    (case K_k_cinv => k_is)
    (case K_at_ceq => k_is)
    (case K_fn_ceq => k_is)
    (case K_l_ceq => k_is)
    (case K_c_ceq => k_is)
    (case K_k_ceq => k_is)
    (case K_at_cbool => k_is)
    (case K_fn_cbool => k_is)
    (case K_l_cbool => k_is)
    (case K_c_cbool => k_is)
    (case K_k_cbool => k_is)
    (case K_at_cupto => k_is)
    (case K_fn_cupto => k_is)
    (case K_l_cupto => k_is)
    (case K_c_cupto => k_is)
    (case K_k_cupto => k_is)
    (case K_at_cevery => k_is)
    (case K_rc_cevery => k_is)
    (case K_fi_cevery => k_is)
    (case K_l_cevery => k_is)
    (case K_c_cevery => k_is)
    (case K_k_cevery => k_is)
    (case K_at_czero => k_is)
    (case K_rc_czero => k_is)
    (case K_fi_czero => k_is)
    (case K_l_czero => k_is)
    (case K_c_czero => k_is)
    (case K_k_czero => k_is)
    (case K_at_cunit => k_is)
    (case K_rc_cunit => k_is)
    (case K_fi_cunit => k_is)
    (case K_l_cunit => k_is)
    (case K_c_cunit => k_is)
    (case K_k_cunit => k_is)
    (case K_at_conly => k_is)
    (case K_rc_conly => k_is)
    (case K_fi_conly => k_is)
    (case K_l_conly => k_is)
    (case K_c_conly => k_is)
    (case K_k_conly => k_is)
    (case B_aK => k_is)
    (case B_pg => k_is)
    (case B_hd => k_is)
    (case B_po => k_is)
    (case B_sa => k_is)
    (case B_sf => k_is)
    (case B_ha => k_is)
    (case B_hn => k_is)
    (case B_htk => k_is)
    (case B_hm => k_is)
    (case B_mk => k_is)
    (case B_kp => k_is)
    (case B_no__reports => k_is)
    (case B_at_binit => k_is)
    (case B_fn_binit => k_is)
    (case B_l_binit => k_is)
    (case B_c_binit => k_is)
    (case B_k_binit => k_is)
    (case B_at_btell => k_is)
    (case B_fn_btell => k_is)
    (case B_l_btell => k_is)
    (case B_c_btell => k_is)
    (case B_k_btell => k_is)
    (case B_kd0_btell => k_is)
    (case B_at_bback => k_is)
    (case B_fn_bback => k_is)
    (case B_l_bback => k_is)
    (case B_c_bback => k_is)
    (case B_k_bback => k_is)
    (case B_at_bparts => k_is)
    (case B_fn_bparts => k_is)
    (case B_l_bparts => k_is)
    (case B_c_bparts => k_is)
    (case B_k_bparts => k_is)
    (case B_at_bidx => k_is)
    (case B_fn_bidx => k_is)
    (case B_l_bidx => k_is)
    (case B_c_bidx => k_is)
    (case B_k_bidx => k_is)
    (case B_at_bfits => k_is)
    (case B_fn_bfits => k_is)
    (case B_l_bfits => k_is)
    (case B_c_bfits => k_is)
    (case B_k_bfits => k_is)
    (case B_at_breps => k_is)
    (case B_fn_breps => k_is)
    (case B_l_breps => k_is)
    (case B_c_breps => k_is)
    (case B_k_breps => k_is)
    (case B_at_bbest => k_is)
    (case B_fn_bbest => k_is)
    (case B_l_bbest => k_is)
    (case B_c_bbest => k_is)
    (case B_k_bbest => k_is)
    (case B_kd0_bbest => k_is)
    (case z_int => k_is)
    (case z_len => k_is)
    (case z_abs => k_is)
    (case z_isinstance => k_is)
    (case z_bool => k_is)
    (case z_tuple => k_is)
    (case z_list => k_is)
    (case z_str => k_is)
    (case z_range => k_is)
    (case z_max => k_is)
    (case z_min => k_is)
    (case z_sorted => k_is)
    (case z_set => k_is)
    (case z_enumerate => k_is)
    (case g_isqrt => k_is)
