import PyProof.Rows.All
import Wide.All
import OpenK.AllK
import Wide.FinOn
import PyProof.NoPylong
import Flt.Len
import HandS.ForMost
import HandS.ForExc
import HandS.Wide
import HandS.Gcd
import HandS.IsInst
import HandS.Evl
import HandS.Flow
import HandS.Iter
import HandS.ExcInit
import HandS.ExcField
import HandS.ExcCtx
import HandS.HotCalls
import HandS.ExcInitHot
import HandS.TupLe
import HandS.TupAny
import HandS.Conv
import HandS.Strs
import HandS.SetFor
import HandS.Zip
import HandS.Star
import HandS.ClsMeth
import HandS.Codes
import HandS.SlotsOwn
import HandS.Walk
import HandS.StrMore
import HandS.FStr
import HandS.FStrTup
import HandS.Style
import HandS.TryMany
import HandS.ExcIs
import HandS.Rev
import HandS.ListEq
import HandS.Small
import KE.GoesMore
import KE.GoesEnum
import PyProof.Draws
import Flt.RightSqrt
import HandS.NoneIn
import HandS.Defaults
import KE.KDictZip
import HandS.CallSlots
import HandS.DictTup
import HandS.DictComp
import HandS.Dict
import KE.KDictDisplayH
import KE.KEqNest
import KE.KDictList
import HandS.TupAny
import HandS.SetBool
import HandS.SetKeys
import HandS.More
import KE.KUnpackStar
import HandS.HeadHook3
import HandS.CallLocal
import HandS.ReplaceLit
import PySem.Challenge.RW_everyfield_k85_joins_and_meets_shown
set_option Elab.async false
set_option linter.all false
set_option maxRecDepth 100000
set_option maxHeartbeats 4000000
set_option exponentiation.threshold 20000
namespace My
open PySem PySem.Spec PyProof.Rows L2
def top (i : Nat) : Stmt := PySem.Challenge.pw_everyfield_k85_joins_and_meets_shown.main.body.getD i (.Pass ⟨0, 0, 0, 0⟩)
-- part prime_math
def Pr (n : Int) : Prop := 2 ≤ n ∧ ∀ m : Int, 2 ≤ m → m < n → ¬ m ∣ n
noncomputable def prB (n : Int) : Bool := @decide (Pr n) (Classical.propDecidable _)
theorem prB_true {n : Int} (h : Pr n) : prB n = true := by unfold prB; exact @decide_eq_true _ (Classical.propDecidable _) h
theorem prB_false {n : Int} (h : ¬ Pr n) : prB n = false := by unfold prB; exact @decide_eq_false _ (Classical.propDecidable _) h
theorem prB_iff {n : Int} : prB n = true ↔ Pr n := by unfold prB; exact @decide_eq_true_iff _ (Classical.propDecidable _)
/-- r is the least divisor of n from 2 on -/
structure Least (n r : Int) : Prop where
  two : 2 ≤ r
  dvd : r ∣ n
  min : ∀ m : Int, 2 ≤ m → m < r → ¬ m ∣ n
theorem Least.le {n r : Int} (h : Least n r) (hn : 2 ≤ n) : r ≤ n := Int.le_of_dvd (by omega) h.dvd
theorem Least.pr {n r : Int} (h : Least n r) : Pr r := ⟨h.two, fun m h1 h2 h3 => h.min m h1 h2 (Int.dvd_trans h3 h.dvd)⟩
theorem Least.uniq {n r r' : Int} (h : Least n r) (h' : Least n r') : r = r' := by
  rcases Int.lt_trichotomy r r' with c | c | c
  · exact absurd h.dvd (h'.min r h.two c)
  · exact c
  · exact absurd h'.dvd (h.min r' h'.two c)
theorem Least.self {n r : Int} (h : Least n r) (hn : 2 ≤ n) : r = n ↔ Pr n := by
  constructor
  · intro e
    rw [e] at h
    exact h.pr
  · intro p
    have := h.le hn
    by_cases c : r = n
    · exact c
    · exact absurd h.dvd (p.2 r h.two (by omega))
/-- a proper divisor: one at most the root -/
theorem small_div {n m s : Int} (hn : 2 ≤ n) (h2 : 2 ≤ m) (hm : m < n) (hd : m ∣ n) (hs0 : 0 ≤ s) (hs : n < (s + 1) * (s + 1)) : ∃ d : Int, 2 ≤ d ∧ d ≤ s ∧ d ≤ m ∧ d ∣ n := by
  obtain ⟨k, e⟩ := hd
  have hk : 2 ≤ k := by
    rcases Int.lt_trichotomy k 1 with c | c | c
    · have : m * k ≤ m * 0 := Int.mul_le_mul_of_nonneg_left (by omega) (by omega)
      omega
    · subst c
      omega
    · omega
  by_cases c : m ≤ s
  · exact ⟨m, h2, c, Int.le_refl _, ⟨k, e⟩⟩
  · refine ⟨k, hk, ?_, ?_, ⟨m, by rw [e, Int.mul_comm]⟩⟩
    · by_cases c2 : k ≤ s
      · exact c2
      · have : (s + 1) * (s + 1) ≤ m * k := Int.mul_le_mul (by omega) (by omega) (by omega) (by omega)
        omega
    · by_cases c2 : k ≤ m
      · exact c2
      · have c3 : k ≤ s := by
          by_cases c4 : k ≤ s
          · exact c4
          · have : (s + 1) * (s + 1) ≤ m * k := Int.mul_le_mul (by omega) (by omega) (by omega) (by omega)
            omega
        omega
/-- the trial over the odd ints: what is left at its end -/
theorem least_of_odd {n s : Int} (hn : 2 ≤ n) (h2 : ¬ (2 : Int) ∣ n) (hs0 : 0 ≤ s) (hs : n < (s + 1) * (s + 1)) (h : ∀ i : Nat, 3 + (i : Int) * 2 ≤ s → ¬ (3 + (i : Int) * 2) ∣ n) : Least n n := by
  refine ⟨hn, Int.dvd_refl n, fun m h1 hm hd => ?_⟩
  obtain ⟨d, d2, ds, _, dn⟩ := small_div hn h1 hm hd hs0 hs
  have odd : d % 2 = 1 := by
    have := Int.emod_two_eq d
    rcases this with e | e
    · exact absurd (Int.dvd_trans (Int.dvd_of_emod_eq_zero e) dn) h2
    · exact e
  have e : d = 3 + ((((d - 3) / 2).toNat : Nat) : Int) * 2 := by omega
  exact h ((d - 3) / 2).toNat (by omega) (e ▸ dn)
theorem least_at {n : Int} {i : Nat} (h2 : ¬ (2 : Int) ∣ n) (hd : (3 + (i : Int) * 2) ∣ n) (h : ∀ j : Nat, j < i → ¬ (3 + (j : Int) * 2) ∣ n) : Least n (3 + (i : Int) * 2) := by
  refine ⟨by omega, hd, fun m h1 hm hdv => ?_⟩
  have odd : m % 2 = 1 := by
    have := Int.emod_two_eq m
    rcases this with e | e
    · exact absurd (Int.dvd_trans (Int.dvd_of_emod_eq_zero e) hdv) h2
    · exact e
  have e : m = 3 + ((((m - 3) / 2).toNat : Nat) : Int) * 2 := by omega
  exact h ((m - 3) / 2).toNat (by omega) (e ▸ hdv)
theorem least_two {n : Int} (h : (2 : Int) ∣ n) : Least n 2 := ⟨by omega, h, fun m h1 h2 => by omega⟩
/-- every int from 2 on has a least divisor -/
theorem least_ex {n : Int} (hn : 2 ≤ n) : ∃ r, Least n r := by
  have key : ∀ (k : Nat) (r : Int), n - r ≤ k → 2 ≤ r → r ≤ n → (∀ m : Int, 2 ≤ m → m < r → ¬ m ∣ n) → ∃ r, Least n r := by
    intro k
    induction k with
    | zero =>
      intro r h1 h2 h3 h4
      have : r = n := by omega
      subst this
      exact ⟨r, h2, Int.dvd_refl r, h4⟩
    | succ k ih =>
      intro r h1 h2 h3 h4
      by_cases c : r ∣ n
      · exact ⟨r, h2, c, h4⟩
      · by_cases e : r = n
        · exact absurd (e ▸ Int.dvd_refl r) c
        · refine ih (r + 1) (by omega) (by omega) (by omega) fun m hm1 hm2 => ?_
          by_cases e2 : m = r
          · rw [e2]
            exact c
          · exact h4 m hm1 (by omega)
  exact key (n - 2).toNat 2 (by omega) (by omega) hn (fun m h1 h2 => by omega)
/-- a check of a prime by trial, for the kernel -/
def trial (n : Nat) : Nat → Nat → Bool
  | 0, _ => false
  | f + 1, k => if n < k * k then true else if n % k = 0 then false else trial n f (k + 1)
theorem trial_ok {n : Nat} (hn : 2 ≤ n) : ∀ (f k : Nat), 2 ≤ k → (∀ m : Nat, 2 ≤ m → m < k → ¬ m ∣ n) → trial n f k = true → Pr (n : Int) := by
  intro f
  induction f with
  | zero => intro k _ _ h; exact absurd h (by simp [trial])
  | succ f ih =>
    intro k hk hm h
    unfold trial at h
    by_cases c : n < k * k
    · refine ⟨by omega, fun m h1 h2 h3 => ?_⟩
      obtain ⟨d, d2, ds, _, dn⟩ := small_div (n := n) (s := (k : Int) - 1) (by omega) h1 h2 h3 (by omega) (by
        rw [Int.sub_add_cancel]
        exact_mod_cast c)
      refine hm d.toNat (by omega) (by omega) ?_
      have : ((d.toNat : Nat) : Int) ∣ (n : Int) := by rw [Int.toNat_of_nonneg (by omega)]; exact dn
      exact Int.natCast_dvd_natCast.mp this
    · rw [if_neg c] at h
      by_cases c2 : n % k = 0
      · rw [if_pos c2] at h
        exact absurd h (by simp)
      · rw [if_neg c2] at h
        refine ih (k + 1) (by omega) (fun m h1 h2 h3 => ?_) h
        by_cases e : m = k
        · subst e
          exact c2 (Nat.mod_eq_zero_of_dvd h3)
        · exact hm m h1 (by omega) h3
theorem pr_of_trial {n : Nat} (f : Nat) (h : (decide (2 ≤ n) && trial n f 2) = true) : Pr (n : Int) := by
  rw [Bool.and_eq_true] at h
  exact trial_ok (of_decide_eq_true h.1) f 2 (by omega) (fun m h1 h2 => by omega) h.2
theorem pr_10007 : Pr 10007 := pr_of_trial (n := 10007) 200 (by decide +kernel)
-- part fact_math
/-- a prime divides a factor -/
theorem pr_mul {q a b : Int} (hq : Pr q) (h : q ∣ a * b) : q ∣ a ∨ q ∣ b := by
  by_cases c : q ∣ a
  · exact .inl c
  · refine .inr ?_
    have hco : Nat.Coprime q.natAbs a.natAbs := by
      have g1 : Nat.gcd q.natAbs a.natAbs ∣ q.natAbs := Nat.gcd_dvd_left _ _
      have g2 : Nat.gcd q.natAbs a.natAbs ∣ a.natAbs := Nat.gcd_dvd_right _ _
      have hq2 := hq.1
      generalize hg : Nat.gcd q.natAbs a.natAbs = g at *
      have gi : (g : Int) ∣ q := Int.natAbs_dvd_natAbs.mp (by rw [Int.natAbs_natCast]; exact g1)
      have ga : (g : Int) ∣ a := Int.natAbs_dvd_natAbs.mp (by rw [Int.natAbs_natCast]; exact g2)
      have gpos : 0 < g := by
        rcases Nat.eq_zero_or_pos g with z | z
        · rw [z] at gi
          have := Int.zero_dvd.mp gi
          omega
        · exact z
      have gle : (g : Int) ≤ q := Int.le_of_dvd (by omega) gi
      by_cases g1' : g = 1
      · unfold Nat.Coprime
        rw [hg, g1']
      · by_cases g2' : (g : Int) = q
        · rw [g2'] at ga
          exact absurd ga c
        · exact absurd gi (hq.2 g (by omega) (by omega))
    have h2 : q.natAbs ∣ a.natAbs * b.natAbs := by
      rw [← Int.natAbs_mul]
      exact Int.natAbs_dvd_natAbs.mpr h
    exact Int.natAbs_dvd_natAbs.mp (Nat.Coprime.dvd_of_dvd_mul_left hco h2)
theorem pr_dvd_pr {p q : Int} (hp : Pr p) (hq : Pr q) (h : q ∣ p) : q = p := by
  have := Int.le_of_dvd (by have := hp.1; omega) h
  by_cases c : q = p
  · exact c
  · exact absurd h (hp.2 q hq.1 (by omega))
/-- l tells the primes that divide n, ascending -/
def PD (n : Int) (l : List Int) : Prop := l.Pairwise (· < ·) ∧ ∀ q, q ∈ l ↔ Pr q ∧ q ∣ n
theorem sorted_uniq : ∀ {l m : List Int}, l.Pairwise (· < ·) → m.Pairwise (· < ·) → (∀ q, q ∈ l ↔ q ∈ m) → l = m
  | [], [], _, _, _ => rfl
  | [], b :: m, _, _, h => absurd ((h b).mpr List.mem_cons_self) (by simp)
  | a :: l, [], _, _, h => absurd ((h a).mp List.mem_cons_self) (by simp)
  | a :: l, b :: m, hl, hm, h => by
    rw [List.pairwise_cons] at hl hm
    have hab : a = b := by
      rcases List.mem_cons.mp ((h a).mp List.mem_cons_self) with e | e
      · exact e
      · rcases List.mem_cons.mp ((h b).mpr List.mem_cons_self) with e2 | e2
        · exact e2.symm
        · have := hm.1 a e
          have := hl.1 b e2
          omega
    subst hab
    rw [sorted_uniq hl.2 hm.2 fun q => ?_]
    constructor
    · intro hq
      have := hl.1 q hq
      rcases List.mem_cons.mp ((h q).mp (List.mem_cons_of_mem _ hq)) with e | e
      · omega
      · exact e
    · intro hq
      have := hm.1 q hq
      rcases List.mem_cons.mp ((h q).mpr (List.mem_cons_of_mem _ hq)) with e | e
      · omega
      · exact e
theorem PD.uniq {n : Int} {l m : List Int} (h : PD n l) (h' : PD n m) : l = m := sorted_uniq h.1 h'.1 fun q => (h.2 q).trans (h'.2 q).symm
/-- what holds between two turns: fs found, r left of n; every prime of r is at least d, those found are less -/
structure Fac (n : Int) (fs : List Int) (r d : Int) : Prop where
  pos : 1 ≤ r
  dv : r ∣ n
  asc : fs.Pairwise (· < ·)
  low : ∀ f ∈ fs, f < d
  mem : ∀ f ∈ fs, Pr f ∧ f ∣ n
  all : ∀ q, Pr q → q ∣ n → q ∣ r ∨ q ∈ fs
  up : ∀ q, Pr q → q ∣ r → d ≤ q
  len : (2 : Int) ^ fs.length * r ≤ n
theorem fac0 {n : Int} (hn : 1 ≤ n) : Fac n [] n 2 := ⟨hn, Int.dvd_refl n, List.Pairwise.nil, (fun _ h => nomatch h), (fun _ h => nomatch h), (fun q _ h => .inl h), (fun q h _ => h.1), by show (2 : Int) ^ 0 * n ≤ n; omega⟩
/-- within the inner loop: r0 at its start, p taken out -/
structure Tak (r0 p r : Int) : Prop where
  pos : 1 ≤ r
  dv : r ∣ r0
  keep : ∀ q, Pr q → q ∣ r0 → q ∣ r ∨ q = p
  half : r = r0 ∨ 2 * r ≤ r0
theorem tak0 {r0 p : Int} (h : 1 ≤ r0) : Tak r0 p r0 := ⟨h, Int.dvd_refl _, fun q _ h => .inl h, .inl rfl⟩
theorem tak_step {r0 p r : Int} (hp : Pr p) (h : Tak r0 p r) (hd : p ∣ r) : Tak r0 p (r / p) ∧ r / p < r := by
  have hp2 := hp.1
  have hpos := h.pos
  obtain ⟨k, e⟩ := hd
  have ek : r / p = k := by rw [e, Int.mul_ediv_cancel_left _ (by omega)]
  rw [ek]
  have k1 : 1 ≤ k := by
    by_cases c : 1 ≤ k
    · exact c
    · have : p * k ≤ p * 0 := Int.mul_le_mul_of_nonneg_left (by omega) (by omega)
      omega
  have k2 : 2 * k ≤ r := by
    have : 2 * k ≤ p * k := Int.mul_le_mul_of_nonneg_right hp2 (by omega)
    omega
  refine ⟨⟨k1, Int.dvd_trans ⟨p, by rw [e, Int.mul_comm]⟩ h.dv, fun q hq hd => ?_, .inr ?_⟩, by omega⟩
  · rcases h.keep q hq hd with c | c
    · rw [e] at c
      rcases pr_mul hq c with c2 | c2
      · exact .inr (pr_dvd_pr hp hq c2)
      · exact .inl c2
    · exact .inr c
  · rcases h.half with c | c <;> omega
/-- behind the inner loop -/
theorem fac_step {n : Int} {fs : List Int} {r0 d p r : Int} (F : Fac n fs r0 d) (hp : Pr p) (hd : p ∣ r0) (T : Tak r0 p r) (hn : ¬ p ∣ r) (hmin : ∀ q, Pr q → q ∣ r0 → p ≤ q) : Fac n (fs ++ [p]) r (p + 1) ∧ r < r0 := by
  have hr : 2 * r ≤ r0 := T.half.resolve_left fun e => hn (e ▸ hd)
  have hdp : d ≤ p := F.up p hp hd
  refine ⟨⟨T.pos, Int.dvd_trans T.dv F.dv, ?_, ?_, ?_, ?_, ?_, ?_⟩, by have := T.pos; omega⟩
  · rw [List.pairwise_append]
    refine ⟨F.asc, List.pairwise_singleton _ _, fun a ha b hb => ?_⟩
    rw [List.mem_singleton.mp hb]
    have := F.low a ha
    omega
  · intro f hf
    rcases List.mem_append.mp hf with h | h
    · have := F.low f h
      omega
    · rw [List.mem_singleton.mp h]
      omega
  · intro f hf
    rcases List.mem_append.mp hf with h | h
    · exact F.mem f h
    · rw [List.mem_singleton.mp h]
      exact ⟨hp, Int.dvd_trans hd F.dv⟩
  · intro q hq h
    rcases F.all q hq h with c | c
    · rcases T.keep q hq c with c2 | c2
      · exact .inl c2
      · exact .inr (List.mem_append_right _ (by rw [c2]; exact List.mem_singleton.mpr rfl))
    · exact .inr (List.mem_append_left _ c)
  · intro q hq h
    have h1 := hmin q hq (Int.dvd_trans h T.dv)
    by_cases c : q = p
    · exact absurd (c ▸ h) hn
    · omega
  · rw [List.length_append]
    show (2 : Int) ^ (fs.length + 1) * r ≤ n
    rw [Int.pow_succ, Int.mul_assoc]
    have h1 : (2 : Int) ^ fs.length * (2 * r) ≤ 2 ^ fs.length * r0 := Int.mul_le_mul_of_nonneg_left hr (Int.pow_nonneg (by decide))
    have := F.len
    omega
theorem fac_end {n : Int} {fs : List Int} {d : Int} (F : Fac n fs 1 d) : PD n fs := by
  refine ⟨F.asc, fun q => ⟨F.mem q, fun ⟨h1, h2⟩ => (F.all q h1 h2).resolve_left fun c => ?_⟩⟩
  have := Int.le_of_dvd (by decide) c
  have := h1.1
  omega
theorem fac_len {n : Int} {fs : List Int} {r d : Int} (F : Fac n fs r d) (hn : n < 2 ^ 62) : fs.length < 62 := by
  by_cases c : fs.length < 62
  · exact c
  · have h1 : (2 : Int) ^ 62 ≤ 2 ^ fs.length := by
      have : (2 : Nat) ^ 62 ≤ 2 ^ fs.length := Nat.pow_le_pow_right (by decide) (by omega)
      have h2 := Int.ofNat_le.mpr this
      rw [Int.natCast_pow, Int.natCast_pow] at h2
      exact h2
    have h2 : (2 : Int) ^ fs.length * 1 ≤ 2 ^ fs.length * r := Int.mul_le_mul_of_nonneg_left F.pos (Int.pow_nonneg (by decide))
    have := F.len
    omega
theorem fac_up {n : Int} {fs : List Int} {r d : Int} (F : Fac n fs r d) (h : ¬ d ∣ r) : Fac n fs r (d + 1) := by
  refine ⟨F.pos, F.dv, F.asc, fun f hf => by have := F.low f hf; omega, F.mem, F.all, fun q h1 h2 => ?_, F.len⟩
  have := F.up q h1 h2
  by_cases c : q = d
  · exact absurd (c ▸ h2) h
  · omega
/-- d divides what is left: it is a prime -/
theorem fac_pr {n : Int} {fs : List Int} {r d : Int} (F : Fac n fs r d) (h2 : 2 ≤ d) (h : d ∣ r) : Pr d := by
  obtain ⟨q, hq⟩ := least_ex h2
  have h1 := F.up q hq.pr (Int.dvd_trans hq.dvd h)
  have := hq.le h2
  have e : q = d := by omega
  exact e ▸ hq.pr
/-- d * d above what is left: that is a prime -/
theorem fac_jump {n : Int} {fs : List Int} {r d : Int} (F : Fac n fs r d) (h2 : 2 ≤ d) (hr : 1 < r) (h : r < d * d) : Pr r ∧ ∀ q, Pr q → q ∣ r → r ≤ q := by
  have hp : Pr r := by
    refine ⟨by omega, fun m h1 h3 h4 => ?_⟩
    obtain ⟨e, e2, es, _, en⟩ := small_div (n := r) (s := d - 1) (by omega) h1 h3 h4 (by omega) (by rw [Int.sub_add_cancel]; exact h)
    obtain ⟨q, hq⟩ := least_ex e2
    have := F.up q hq.pr (Int.dvd_trans hq.dvd en)
    have := hq.le e2
    omega
  exact ⟨hp, fun q hq hd => by have := pr_dvd_pr hp hq hd; omega⟩
-- part trim
/-! rows without zeros at the end -/
def tsz (l : List Int) : Nat → Nat
  | 0 => 0
  | k + 1 => if l.getD k 0 = 0 then tsz l k else k + 1
def trim (l : List Int) : List Int := l.take (tsz l l.length)
/-- the last one is not 0 -/
def Trim (l : List Int) : Prop := ∀ k, l.length = k + 1 → l.getD k 0 ≠ 0
theorem tsz_le (l : List Int) : ∀ k, tsz l k ≤ k
  | 0 => Nat.le_refl _
  | k + 1 => by
    unfold tsz
    split
    · exact Nat.le_succ_of_le (tsz_le l k)
    · exact Nat.le_refl _
theorem tsz_zero (l : List Int) : ∀ k i, tsz l k ≤ i → i < k → l.getD i 0 = 0
  | 0, i, _, h => absurd h (Nat.not_lt_zero i)
  | k + 1, i, h1, h2 => by
    unfold tsz at h1
    split at h1
    · rename_i c
      by_cases e : i = k
      · rw [e]
        exact c
      · exact tsz_zero l k i h1 (by omega)
    · omega
theorem tsz_last (l : List Int) : ∀ k n, tsz l k = n + 1 → l.getD n 0 ≠ 0
  | 0, n, h => by cases h
  | k + 1, n, h => by
    unfold tsz at h
    split at h
    · exact tsz_last l k n h
    · rename_i c
      cases h
      exact c
theorem getD_of {l : List Int} {i : Nat} {z : Int} (h : l[i]? = some z) : l.getD i 0 = z := by
  rw [List.getD_eq_getElem?_getD, h] <;> rfl
theorem getD_ge {l : List Int} {i : Nat} (h : l.length ≤ i) : l.getD i 0 = 0 := by
  rw [List.getD_eq_getElem?_getD, List.getElem?_eq_none h] <;> rfl
theorem getD_at {l : List Int} {i : Nat} (h : i < l.length) : l[i]? = some (l.getD i 0) := by
  rw [List.getD_eq_getElem?_getD, List.getElem?_eq_getElem h] <;> rfl
theorem getD_take (l : List Int) (n i : Nat) : (l.take n).getD i 0 = if i < n then l.getD i 0 else 0 := by
  rw [List.getD_eq_getElem?_getD, List.getElem?_take]
  split
  · rw [List.getD_eq_getElem?_getD]
  · rfl
theorem getD_map {f : Int → Int} (h0 : f 0 = 0) (l : List Int) (i : Nat) : (l.map f).getD i 0 = f (l.getD i 0) := by
  rw [List.getD_eq_getElem?_getD, List.getD_eq_getElem?_getD, List.getElem?_map]
  cases l[i]? with
  | none => exact h0.symm
  | some z => rfl
theorem getD_app0 (l : List Int) (k i : Nat) : (l ++ List.replicate k 0).getD i 0 = l.getD i 0 := by
  rw [List.getD_eq_getElem?_getD, List.getD_eq_getElem?_getD]
  by_cases c : i < l.length
  · rw [List.getElem?_append_left c]
  · rw [List.getElem?_append_right (by omega), List.getElem?_eq_none (show l.length ≤ i by omega), List.getElem?_replicate]
    split <;> rfl
theorem trim_len (l : List Int) : (trim l).length = tsz l l.length := by
  unfold trim
  rw [List.length_take]
  have := tsz_le l l.length
  omega
theorem trim_few (l : List Int) : (trim l).length ≤ l.length := by
  rw [trim_len]
  exact tsz_le l l.length
theorem trim_mem {l : List Int} {z : Int} (h : z ∈ trim l) : z ∈ l := List.mem_of_mem_take h
theorem trim_get (l : List Int) (i : Nat) : (trim l).getD i 0 = l.getD i 0 := by
  unfold trim
  rw [getD_take]
  split
  · rfl
  · rename_i c
    by_cases d : i < l.length
    · exact (tsz_zero l l.length i (by omega) d).symm
    · exact (getD_ge (by omega)).symm
theorem trim_trim (l : List Int) : Trim (trim l) := fun k h => by
  rw [trim_len] at h
  rw [trim_get]
  exact tsz_last l l.length k h
theorem Trim.ext {a b : List Int} (ha : Trim a) (hb : Trim b) (h : ∀ i, a.getD i 0 = b.getD i 0) : a = b := by
  have hl : a.length = b.length := by
    rcases Nat.lt_trichotomy a.length b.length with c | c | c
    · obtain ⟨k, hk⟩ : ∃ k, b.length = k + 1 := ⟨b.length - 1, by omega⟩
      have := hb k hk
      rw [← h k, getD_ge (by omega)] at this
      exact absurd rfl this
    · exact c
    · obtain ⟨k, hk⟩ : ∃ k, a.length = k + 1 := ⟨a.length - 1, by omega⟩
      have := ha k hk
      rw [h k, getD_ge (by omega)] at this
      exact absurd rfl this
  refine List.ext_getElem? fun i => ?_
  by_cases c : i < a.length
  · rw [getD_at c, getD_at (by omega), h i]
  · rw [List.getElem?_eq_none (by omega), List.getElem?_eq_none (by omega)]
theorem trim_ext {a b : List Int} (h : ∀ i, a.getD i 0 = b.getD i 0) : trim a = trim b :=
  (trim_trim a).ext (trim_trim b) fun i => by rw [trim_get, trim_get, h i]
theorem trim_of {l : List Int} (h : Trim l) : trim l = l := (trim_trim l).ext h fun i => trim_get l i
theorem trim_nil : trim [] = [] := rfl
theorem Trim.nil : Trim [] := fun k h => by cases h
theorem Trim.map {l : List Int} {f : Int → Int} (h : Trim l) (h0 : f 0 = 0) (hf : ∀ z, f z = 0 → z = 0) : Trim (l.map f) := fun k hk => by
  rw [List.length_map] at hk
  rw [getD_map h0]
  exact fun e => h k hk (hf _ e)
/-- sums and differences by places -/
theorem getD_zip {f : Int → Int → Int} (a b : List Int) (hl : a.length = b.length) (h0 : f 0 0 = 0) (i : Nat) : (List.zipWith f a b).getD i 0 = f (a.getD i 0) (b.getD i 0) := by
  rw [List.getD_eq_getElem?_getD, List.getElem?_zipWith]
  by_cases c : i < a.length
  · rw [getD_at c, getD_at (show i < b.length by omega)] <;> rfl
  · rw [List.getElem?_eq_none (by omega), List.getElem?_eq_none (show b.length ≤ i by omega), getD_ge (by omega), getD_ge (show b.length ≤ i by omega), h0] <;> rfl
def rngN (n : Nat) (f : Nat → Int) : List Int := (List.range n).map f
theorem rngN_len (n : Nat) (f : Nat → Int) : (rngN n f).length = n := by
  unfold rngN
  rw [List.length_map, List.length_range]
theorem rngN_at {n : Nat} {f : Nat → Int} {i : Nat} (h : i < n) : (rngN n f)[i]? = some (f i) := by
  unfold rngN
  rw [List.getElem?_map, List.getElem?_range h] <;> rfl
theorem rngN_get (n : Nat) (f : Nat → Int) (i : Nat) : (rngN n f).getD i 0 = if i < n then f i else 0 := by
  split
  · rename_i c
    exact getD_of (rngN_at c)
  · rename_i c
    exact getD_ge (by rw [rngN_len]; omega)
/-- the polynomial's rows: sum (sign s), product -/
def pplus (s : Int) (a b : List Int) : List Int := trim (rngN (max a.length b.length) fun i => a.getD i 0 + s * b.getD i 0)
theorem pplus_get (s : Int) (a b : List Int) (i : Nat) : (pplus s a b).getD i 0 = a.getD i 0 + s * b.getD i 0 := by
  unfold pplus
  rw [trim_get, rngN_get]
  split
  · rfl
  · rw [getD_ge (show a.length ≤ i by omega), getD_ge (show b.length ≤ i by omega)]
    simp
/-- the sum of f below n -/
def sumN (f : Nat → Int) : Nat → Int
  | 0 => 0
  | n + 1 => sumN f n + f n
theorem sumN_congr {f g : Nat → Int} : ∀ n, (∀ i, i < n → f i = g i) → sumN f n = sumN g n
  | 0, _ => rfl
  | n + 1, h => by
    unfold sumN
    rw [sumN_congr n fun i hi => h i (by omega), h n (by omega)]
theorem sumN_zero (n : Nat) : sumN (fun _ => 0) n = 0 := by
  induction n with
  | zero => rfl
  | succ n ih => unfold sumN; rw [ih]; rfl
theorem sumN_more {f : Nat → Int} {n : Nat} : ∀ m, (∀ i, n ≤ i → f i = 0) → n ≤ m → sumN f m = sumN f n
  | 0, _, h => by rw [show n = 0 by omega]
  | m + 1, h0, h => by
    by_cases e : n = m + 1
    · rw [e]
    · show sumN f m + f m = sumN f n
      rw [sumN_more m h0 (by omega), h0 m (by omega), Int.add_zero]
/-- the coefficient at k of the product -/
def cnv (a b : List Int) (k : Nat) : Int := sumN (fun i => a.getD i 0 * (if i ≤ k then b.getD (k - i) 0 else 0)) a.length
def pmul (a b : List Int) : List Int := trim (rngN (a.length + b.length) (cnv a b))
theorem cnv_far {a b : List Int} {k : Nat} (h : a.length + b.length ≤ k + 1) : cnv a b k = 0 := by
  unfold cnv
  rw [sumN_congr (g := fun _ => 0) _ fun i hi => ?_, sumN_zero]
  split
  · rw [getD_ge (show b.length ≤ k - i by omega), Int.mul_zero]
  · rw [Int.mul_zero]
theorem pmul_get (a b : List Int) (k : Nat) : (pmul a b).getD k 0 = cnv a b k := by
  unfold pmul
  rw [trim_get, rngN_get]
  split
  · rfl
  · exact (cnv_far (by omega)).symm
/-- the value at x -/
def pev : List Int → Int → Int
  | [], _ => 0
  | c :: l, x => c + x * pev l x
theorem pev_trim (l : List Int) (x : Int) : pev (trim l) x = pev l x := by
  unfold trim
  have key : ∀ (l : List Int) (n : Nat), (∀ i, n ≤ i → l.getD i 0 = 0) → pev (l.take n) x = pev l x := fun l => by
    induction l with
    | nil => intro n _; rw [List.take_nil]
    | cons c l ih =>
      intro n h
      cases n with
      | zero =>
        have hc : c = 0 := h 0 (Nat.le_refl _)
        have hl := ih 0 fun i _ => h (i + 1) (Nat.zero_le _)
        rw [List.take_zero] at hl ⊢
        show 0 = c + x * pev l x
        rw [← hl, hc]
        show (0 : Int) = 0 + x * 0
        rw [Int.mul_zero] <;> rfl
      | succ n =>
        rw [List.take_succ_cons]
        show c + x * pev (l.take n) x = c + x * pev l x
        rw [ih n fun i hi => h (i + 1) (by omega)]
  refine key l _ fun i hi => ?_
  by_cases c : i < l.length
  · exact tsz_zero l _ i hi c
  · exact getD_ge (by omega)
theorem pev_drop {l : List Int} {i : Nat} {c : Int} (h : l[i]? = some c) (x : Int) : pev (l.drop i) x = c + x * pev (l.drop (i + 1)) x := by
  have hi := (List.getElem?_eq_some_iff.mp h).1
  rw [List.drop_eq_getElem_cons hi]
  rw [List.getElem?_eq_getElem hi] at h
  cases h
  rfl
/-- the value, term by term -/
theorem pev_take {l : List Int} {i : Nat} {c : Int} (h : l[i]? = some c) (x : Int) : pev (l.take (i + 1)) x = pev (l.take i) x + c * x ^ i := by
  induction l generalizing i with
  | nil => cases h
  | cons d l ih =>
    cases i with
    | zero =>
      cases h
      rw [List.take_succ_cons, List.take_zero, List.take_zero]
      show c + x * 0 = 0 + c * x ^ 0
      simp
    | succ i =>
      have := ih (i := i) h
      rw [List.take_succ_cons, List.take_succ_cons]
      show d + x * pev (l.take (i + 1)) x = d + x * pev (l.take i) x + c * x ^ (i + 1)
      rw [this, Int.mul_add, Int.pow_succ]
      have e : x * (c * x ^ i) = c * (x ^ i * x) := by rw [Int.mul_left_comm, Int.mul_comm x]
      rw [e]
      omega
-- part gauss
/-! contents: the lemma of Gauss; derivatives -/
/-- the greatest common divisor of a row -/
def cont (l : List Int) : Nat := l.foldl (fun (g : Nat) (z : Int) => Int.gcd (g : Int) z) 0
theorem cont_go (l : List Int) : ∀ g : Nat, (∀ z ∈ l, ((l.foldl (fun (g : Nat) (z : Int) => Int.gcd (g : Int) z) g : Nat) : Int) ∣ z) ∧ ((l.foldl (fun (g : Nat) (z : Int) => Int.gcd (g : Int) z) g : Nat) : Int) ∣ (g : Int) ∧
    ∀ d : Int, d ∣ (g : Int) → (∀ z ∈ l, d ∣ z) → d ∣ ((l.foldl (fun (g : Nat) (z : Int) => Int.gcd (g : Int) z) g : Nat) : Int) := by
  induction l with
  | nil => exact fun g => ⟨fun z h => (nomatch h), Int.dvd_refl _, fun d h _ => h⟩
  | cons c l ih =>
    intro g
    obtain ⟨h1, h2, h3⟩ := ih (Int.gcd (g : Int) c)
    rw [List.foldl_cons]
    refine ⟨fun z hz => ?_, Int.dvd_trans h2 (Int.gcd_dvd_left _ _), fun d hg hd => h3 d (Int.dvd_coe_gcd hg (hd c List.mem_cons_self)) fun z hz => hd z (List.mem_cons_of_mem _ hz)⟩
    rcases List.mem_cons.mp hz with rfl | h
    · exact Int.dvd_trans h2 (Int.gcd_dvd_right _ _)
    · exact h1 z h
theorem cont_dvd {l : List Int} {z : Int} (h : z ∈ l) : ((cont l : Nat) : Int) ∣ z := (cont_go l 0).1 z h
theorem dvd_cont {l : List Int} {d : Int} (h : ∀ z ∈ l, d ∣ z) : d ∣ ((cont l : Nat) : Int) := (cont_go l 0).2.2 d (Int.dvd_zero d) h
theorem cont_get {l : List Int} (i : Nat) : ((cont l : Nat) : Int) ∣ l.getD i 0 := by
  by_cases c : i < l.length
  · exact cont_dvd (List.mem_of_getElem? (getD_at c))
  · rw [getD_ge (by omega)]
    exact Int.dvd_zero _
theorem dvd_cont_get {l : List Int} {d : Int} (h : ∀ i, d ∣ l.getD i 0) : d ∣ ((cont l : Nat) : Int) := dvd_cont fun z hz => by
  obtain ⟨i, hi⟩ := List.mem_iff_getElem?.mp hz
  have := h i
  rw [getD_of hi] at this
  exact this
theorem nat_antisymm {a b : Nat} (h1 : (a : Int) ∣ (b : Int)) (h2 : (b : Int) ∣ (a : Int)) : a = b := Nat.dvd_antisymm (Int.ofNat_dvd.mp h1) (Int.ofNat_dvd.mp h2)
/-- rows with the same places have the same content -/
theorem cont_ext {l m : List Int} (h : ∀ i, l.getD i 0 = m.getD i 0) : cont l = cont m :=
  nat_antisymm (dvd_cont_get fun i => by rw [← h i]; exact cont_get i) (dvd_cont_get fun i => by rw [h i]; exact cont_get i)
theorem cont_trim (l : List Int) : cont (trim l) = cont l := cont_ext fun i => trim_get l i
theorem cont_zero {l : List Int} (h : cont l = 0) (i : Nat) : l.getD i 0 = 0 := by
  have := cont_get (l := l) i
  rw [h] at this
  exact Int.zero_dvd.mp this
theorem cont_nil {l : List Int} (ht : Trim l) (h : cont l = 0) : l = [] := ht.ext Trim.nil fun i => by rw [cont_zero h i, getD_ge (Nat.zero_le _)]
/-- the row with its content taken out -/
def pprim (l : List Int) : List Int := l.map fun z => z / ((cont l : Nat) : Int)
theorem pprim_get (l : List Int) (i : Nat) : (pprim l).getD i 0 = l.getD i 0 / ((cont l : Nat) : Int) := getD_map (f := fun z => z / ((cont l : Nat) : Int)) (Int.zero_ediv _) l i
theorem pprim_mul (l : List Int) (i : Nat) : (pprim l).getD i 0 * ((cont l : Nat) : Int) = l.getD i 0 := by
  rw [pprim_get]
  exact Int.ediv_mul_cancel (cont_get i)
theorem cont_scale {l m : List Int} {c : Nat} (h : ∀ i, m.getD i 0 = l.getD i 0 * (c : Int)) : cont m = cont l * c := by
  refine nat_antisymm ?_ ?_
  · by_cases c0 : c = 0
    · subst c0
      rw [Nat.mul_zero]
      exact Int.dvd_zero _
    · -- m's content is a multiple of c
      have h1 : (c : Int) ∣ ((cont m : Nat) : Int) := dvd_cont_get fun i => by rw [h i]; exact Int.dvd_mul_left _ _
      obtain ⟨k, hk⟩ := h1
      rw [hk, Int.natCast_mul, Int.mul_comm]
      refine Int.mul_dvd_mul_right (c : Int) (dvd_cont_get fun i => ?_)
      have := cont_get (l := m) i
      rw [hk, h i, Int.mul_comm (l.getD i 0)] at this
      exact Int.dvd_of_mul_dvd_mul_left (by omega) this
  · refine dvd_cont_get fun i => ?_
    rw [h i, Int.natCast_mul]
    exact Int.mul_dvd_mul_right _ (cont_get i)
theorem cont_pprim {l : List Int} (h : cont l ≠ 0) : cont (pprim l) = 1 := by
  have := cont_scale (l := pprim l) (m := l) (c := cont l) fun i => (pprim_mul l i).symm
  have h2 : cont (pprim l) * cont l = 1 * cont l := by rw [Nat.one_mul]; exact this.symm
  exact Nat.eq_of_mul_eq_mul_right (Nat.pos_of_ne_zero h) h2
theorem pprim_trim {l : List Int} (h : Trim l) : Trim (pprim l) := fun k hk => by
  have hk' : l.length = k + 1 := by
    unfold pprim at hk
    rw [List.length_map] at hk
    exact hk
  have h1 := h k hk'
  intro e
  have := pprim_mul l k
  rw [e, Int.zero_mul] at this
  exact h1 this.symm
/-! sums -/
theorem sumN_add (f g : Nat → Int) : ∀ n, sumN (fun i => f i + g i) n = sumN f n + sumN g n
  | 0 => rfl
  | n + 1 => by
    show sumN (fun i => f i + g i) n + (f n + g n) = sumN f n + f n + (sumN g n + g n)
    rw [sumN_add f g n]
    omega
theorem sumN_mul (c : Int) (f : Nat → Int) : ∀ n, sumN (fun i => c * f i) n = c * sumN f n
  | 0 => by show 0 = c * 0; rw [Int.mul_zero]
  | n + 1 => by
    show sumN (fun i => c * f i) n + c * f n = c * (sumN f n + f n)
    rw [sumN_mul c f n, Int.mul_add]
theorem sumN_head (f : Nat → Int) : ∀ n, sumN f (n + 1) = f 0 + sumN (fun i => f (i + 1)) n
  | 0 => by show 0 + f 0 = f 0 + 0; omega
  | n + 1 => by
    have := sumN_head f n
    show sumN f (n + 1) + f (n + 1) = f 0 + (sumN (fun i => f (i + 1)) n + f (n + 1))
    rw [this]
    omega
/-- the coefficient, in full -/
theorem cnv_eq (a b : List Int) (k : Nat) : cnv a b k = sumN (fun i => a.getD i 0 * b.getD (k - i) 0) (k + 1) := by
  have e : ∀ n, a.length ≤ n → sumN (fun i => a.getD i 0 * (if i ≤ k then b.getD (k - i) 0 else 0)) n = cnv a b k := fun n hn =>
    sumN_more n (fun i hi => by rw [getD_ge hi, Int.zero_mul]) hn
  have e2 : ∀ n, k + 1 ≤ n → sumN (fun i => a.getD i 0 * (if i ≤ k then b.getD (k - i) 0 else 0)) n = sumN (fun i => a.getD i 0 * (if i ≤ k then b.getD (k - i) 0 else 0)) (k + 1) := fun n hn =>
    sumN_more n (fun i hi => by rw [if_neg (by omega), Int.mul_zero]) hn
  rw [← e (a.length + k + 1) (by omega), e2 (a.length + k + 1) (by omega)]
  exact sumN_congr _ fun i hi => by rw [if_pos (by omega)]
theorem sumN_dvd {p : Int} {f : Nat → Int} : ∀ n, (∀ i, i < n → p ∣ f i) → p ∣ sumN f n
  | 0, _ => Int.dvd_zero p
  | n + 1, h => Int.dvd_add (sumN_dvd n fun i hi => h i (by omega)) (h n (by omega))
theorem sumN_but {p : Int} {f : Nat → Int} {j : Nat} : ∀ n, j < n → (∀ i, i < n → i ≠ j → p ∣ f i) → p ∣ sumN f n → p ∣ f j
  | 0, h, _, _ => absurd h (Nat.not_lt_zero j)
  | n + 1, hj, h, hd => by
    have hd' : p ∣ sumN f n + f n := hd
    by_cases e : j = n
    · subst e
      exact (Int.dvd_iff_dvd_of_dvd_add hd').mp (sumN_dvd j fun i hi => h i (by omega) (by omega))
    · refine sumN_but n (by omega) (fun i hi => h i (by omega)) ?_
      exact (Int.dvd_iff_dvd_of_dvd_add hd').mpr (h n (by omega) (by omega))
/-- the first place that a prime does not divide -/
theorem first_not {p : Int} {f : Nat → Int} : ∀ n, ¬ p ∣ f n → ∃ i, ¬ p ∣ f i ∧ ∀ j, j < i → p ∣ f j := by
  intro n
  induction n using Nat.strongRecOn with
  | ind n ih =>
    intro h
    by_cases c : ∃ m, m < n ∧ ¬ p ∣ f m
    · obtain ⟨m, hm, hd⟩ := c
      exact ih m hm hd
    · exact ⟨n, h, fun j hj => Classical.byContradiction fun hd => c ⟨j, hj, hd⟩⟩
theorem gauss_one {a b : List Int} {p : Int} (hp : Pr p) (ha : ∃ i, ¬ p ∣ a.getD i 0) (hb : ∃ i, ¬ p ∣ b.getD i 0) : ∃ k, ¬ p ∣ cnv a b k := by
  obtain ⟨i0, h0⟩ := ha
  obtain ⟨j0, g0⟩ := hb
  obtain ⟨i, hi, mi⟩ := first_not (f := fun i => a.getD i 0) i0 h0
  obtain ⟨j, hj, mj⟩ := first_not (f := fun i => b.getD i 0) j0 g0
  refine ⟨i + j, fun hd => ?_⟩
  rw [cnv_eq] at hd
  have := sumN_but (j := i) (i + j + 1) (by omega) (fun s hs hne => ?_) hd
  · have e : i + j - i = j := by omega
    rw [e] at this
    rcases pr_mul hp this with h | h
    · exact hi h
    · exact hj h
  · by_cases c : s < i
    · exact Int.dvd_mul_of_dvd_left (mi s c)
    · exact Int.dvd_mul_of_dvd_right (mj (i + j - s) (by omega))
theorem prime_of {n : Nat} (h : n ≠ 1) : ∃ p : Int, Pr p ∧ p ∣ (n : Int) := by
  by_cases c : n = 0
  · subst c
    exact ⟨2, ⟨by decide, fun m h1 h2 => by omega⟩, Int.dvd_zero _⟩
  · obtain ⟨r, hr⟩ := least_ex (n := (n : Int)) (by omega)
    exact ⟨r, hr.pr, hr.dvd⟩
theorem cont_one_prime {l : List Int} (h : cont l = 1) {p : Int} (hp : Pr p) : ∃ i, ¬ p ∣ l.getD i 0 := Classical.byContradiction fun hn => by
  have hall : ∀ i, p ∣ l.getD i 0 := fun i => Classical.byContradiction fun hd => hn ⟨i, hd⟩
  have := dvd_cont_get hall
  rw [h] at this
  have := Int.le_of_dvd (by decide) this
  have := hp.1
  omega
theorem gauss_prim {a b : List Int} (ha : cont a = 1) (hb : cont b = 1) : cont (pmul a b) = 1 := Classical.byContradiction fun hn => by
  obtain ⟨p, hp, hd⟩ := prime_of hn
  obtain ⟨k, hk⟩ := gauss_one hp (cont_one_prime ha hp) (cont_one_prime hb hp)
  exact hk (by rw [← pmul_get]; exact Int.dvd_trans hd (cont_get k))
theorem cnv_scale (a b : List Int) (k : Nat) : cnv a b k = cnv (pprim a) (pprim b) k * ((cont a * cont b : Nat) : Int) := by
  rw [cnv_eq, cnv_eq, Int.mul_comm, ← sumN_mul]
  refine sumN_congr _ fun i _ => ?_
  rw [← pprim_mul a i, ← pprim_mul b (k - i), Int.natCast_mul]
  generalize (pprim a).getD i 0 = x
  generalize (pprim b).getD (k - i) 0 = y
  rw [Int.mul_assoc, Int.mul_left_comm _ y, ← Int.mul_assoc x y, Int.mul_comm (x * y)]
theorem gauss (a b : List Int) : cont (pmul a b) = cont a * cont b := by
  by_cases ha : cont a = 0
  · rw [ha, Nat.zero_mul]
    refine nat_antisymm (Int.dvd_zero _) (dvd_cont_get fun k => ?_)
    rw [pmul_get, cnv_eq]
    exact sumN_dvd _ fun i _ => by rw [cont_zero ha, Int.zero_mul]; exact Int.dvd_zero _
  · by_cases hb : cont b = 0
    · rw [hb, Nat.mul_zero]
      refine nat_antisymm (Int.dvd_zero _) (dvd_cont_get fun k => ?_)
      rw [pmul_get, cnv_eq]
      exact sumN_dvd _ fun i _ => by rw [cont_zero hb, Int.mul_zero]; exact Int.dvd_zero _
    · have := cont_scale (l := pmul (pprim a) (pprim b)) (m := pmul a b) (c := cont a * cont b) fun i => by rw [pmul_get, pmul_get]; exact cnv_scale a b i
      rw [gauss_prim (cont_pprim ha) (cont_pprim hb), Nat.one_mul] at this
      exact this
/-- the derivative -/
def pdrv (l : List Int) : List Int := trim (rngN (l.length - 1) fun k => ((k : Int) + 1) * l.getD (k + 1) 0)
theorem pdrv_get (l : List Int) (k : Nat) : (pdrv l).getD k 0 = ((k : Int) + 1) * l.getD (k + 1) 0 := by
  unfold pdrv
  rw [trim_get, rngN_get]
  split
  · rfl
  · rw [getD_ge (show l.length ≤ k + 1 by omega), Int.mul_zero]
theorem pdrv_mul (a b : List Int) : pdrv (pmul a b) = pplus 1 (pmul (pdrv a) b) (pmul a (pdrv b)) := by
  have t1 : Trim (pdrv (pmul a b)) := trim_trim _
  have t2 : Trim (pplus 1 (pmul (pdrv a) b) (pmul a (pdrv b))) := trim_trim _
  refine t1.ext t2 fun k => ?_
  rw [pdrv_get, pplus_get, pmul_get, pmul_get, pmul_get, cnv_eq, cnv_eq, cnv_eq, Int.one_mul, ← sumN_mul]
  have e1 : sumN (fun i => ((k : Int) + 1) * (a.getD i 0 * b.getD (k + 1 - i) 0)) (k + 1 + 1) =
      sumN (fun i => (i : Int) * (a.getD i 0 * b.getD (k + 1 - i) 0)) (k + 1 + 1) + sumN (fun i => ((k + 1 - i : Nat) : Int) * (a.getD i 0 * b.getD (k + 1 - i) 0)) (k + 1 + 1) := by
    rw [← sumN_add]
    refine sumN_congr _ fun i hi => ?_
    rw [← Int.add_mul]
    congr 1
    omega
  have e2 : sumN (fun i => (i : Int) * (a.getD i 0 * b.getD (k + 1 - i) 0)) (k + 1 + 1) = sumN (fun i => (pdrv a).getD i 0 * b.getD (k - i) 0) (k + 1) := by
    rw [sumN_head]
    show ((0 : Nat) : Int) * _ + _ = _
    rw [show ((0 : Nat) : Int) = 0 from rfl, Int.zero_mul, Int.zero_add]
    refine sumN_congr _ fun i hi => ?_
    rw [pdrv_get, show k + 1 - (i + 1) = k - i by omega, Int.mul_assoc, Int.natCast_add] <;> rfl
  have e3 : sumN (fun i => ((k + 1 - i : Nat) : Int) * (a.getD i 0 * b.getD (k + 1 - i) 0)) (k + 1 + 1) = sumN (fun i => a.getD i 0 * (pdrv b).getD (k - i) 0) (k + 1) := by
    show sumN (fun i => ((k + 1 - i : Nat) : Int) * (a.getD i 0 * b.getD (k + 1 - i) 0)) (k + 1) + ((k + 1 - (k + 1) : Nat) : Int) * _ = _
    rw [Nat.sub_self, show ((0 : Nat) : Int) = 0 from rfl, Int.zero_mul, Int.add_zero]
    refine sumN_congr _ fun i hi => ?_
    rw [pdrv_get, show k - i + 1 = k + 1 - i by omega, Int.mul_left_comm]
    congr 2
    omega
  rw [e1, e2, e3]
theorem pmul_const {l : List Int} {c : Int} : pmul l (trim [c]) = trim (l.map (· * c)) := by
  have t1 : Trim (pmul l (trim [c])) := trim_trim _
  refine t1.ext (trim_trim _) fun k => ?_
  rw [pmul_get, trim_get, getD_map (f := (· * c)) (Int.zero_mul c), cnv_eq]
  show sumN _ k + l.getD k 0 * (trim [c]).getD (k - k) 0 = _
  rw [sumN_congr (g := fun _ => 0) k fun i hi => ?_, sumN_zero, Int.zero_add, trim_get, Nat.sub_self]
  · rfl
  · rw [trim_get, getD_ge (l := [c]) (by show 1 ≤ k - i; omega), Int.mul_zero]
theorem pprim_whole {l : List Int} (h : Trim l) : pmul (pprim l) (trim [((cont l : Nat) : Int)]) = l := by
  have t1 : Trim (pmul (pprim l) (trim [((cont l : Nat) : Int)])) := trim_trim _
  refine t1.ext h fun k => ?_
  rw [pmul_const, trim_get, getD_map (f := (· * ((cont l : Nat) : Int))) (Int.zero_mul _)]
  exact pprim_mul l k
theorem pdrv_trim (l : List Int) : pdrv (trim l) = pdrv l := by
  have t1 : Trim (pdrv (trim l)) := trim_trim _
  have t2 : Trim (pdrv l) := trim_trim _
  exact t1.ext t2 fun k => by rw [pdrv_get, pdrv_get, trim_get]
theorem pprim_zero {l : List Int} (ht : Trim l) (h : cont l = 0) : l = [] ∧ pprim l = [] := by
  have := cont_nil ht h
  subst this
  exact ⟨rfl, rfl⟩
-- part euclid
/-- floor division: the rest is smaller and has the divisor's sign -/
theorem fd_parts (d r : Int) (hr : r ≠ 0) : ∃ m : Int, d - d.fdiv r * r = m ∧ m.natAbs < r.natAbs ∧ ((0 ≤ r ∧ 0 ≤ m) ∨ (r ≤ 0 ∧ m ≤ 0)) ∧ (d.fdiv r).natAbs ≤ d.natAbs ∧
    (((0 ≤ d ∧ 0 ≤ r) ∨ (d ≤ 0 ∧ r ≤ 0)) → d.natAbs = (d.fdiv r).natAbs * r.natAbs + m.natAbs) := by
  have key : ∀ d r : Int, 0 < r → ∃ m : Int, d - d.fdiv r * r = m ∧ m.natAbs < r.natAbs ∧ 0 ≤ m ∧ (d.fdiv r).natAbs ≤ d.natAbs ∧ (0 ≤ d → d.natAbs = (d.fdiv r).natAbs * r.natAbs + m.natAbs) := by
    intro d r h
    rw [Int.fdiv_eq_ediv_of_nonneg d (by omega)]
    have e := Int.mul_ediv_add_emod d r
    have e1 := Int.emod_nonneg d (show r ≠ 0 by omega)
    have e2 := Int.emod_lt_of_pos d h
    have e3 : d / r * r = r * (d / r) := Int.mul_comm _ _
    refine ⟨d % r, by omega, by omega, e1, Int.natAbs_ediv_le_natAbs d r, fun hd => ?_⟩
    have e4 : 0 ≤ d / r := Int.ediv_nonneg hd (by omega)
    have e5 : ((d / r).natAbs * r.natAbs : Nat) = (d / r * r).natAbs := (Int.natAbs_mul _ _).symm
    have e6 : 0 ≤ d / r * r := Int.mul_nonneg e4 (by omega)
    rw [e5]
    omega
  by_cases h : 0 < r
  · obtain ⟨m, h1, h2, h3, h4, h5⟩ := key d r h
    exact ⟨m, h1, h2, .inl ⟨by omega, h3⟩, h4, fun hh => h5 (by omega)⟩
  · obtain ⟨m, h1, h2, h3, h4, h5⟩ := key (-d) (-r) (by omega)
    rw [Int.neg_fdiv_neg] at h1 h4 h5
    have e : d.fdiv r * -r = -(d.fdiv r * r) := Int.mul_neg _ _
    refine ⟨-m, by omega, by omega, .inr ⟨by omega, by omega⟩, by omega, fun hh => ?_⟩
    have h6 := h5 (by omega)
    have e2 : (-r).natAbs = r.natAbs := by omega
    have e3 : (-d).natAbs = d.natAbs := by omega
    have e4 : (-m).natAbs = m.natAbs := by omega
    rw [e2, e3] at h6
    rw [e4]
    exact h6
/-- what holds between two turns -/
structure Euc (a b d r u u' : Int) : Prop where
  g : d.gcd r = a.gcd b
  c1 : ∃ v, d = u * a + v * b
  c2 : ∃ v, r = u' * a + v * b
  bd : d.natAbs ≤ a.natAbs + b.natAbs
  br : r.natAbs ≤ a.natAbs + b.natAbs
  bu : u.natAbs ≤ b.natAbs + 1
  bu' : u'.natAbs ≤ b.natAbs
  way : (u' = 0 ∧ u = 1 ∧ r = b) ∨ (((0 ≤ d ∧ 0 ≤ r) ∨ (d ≤ 0 ∧ r ≤ 0)) ∧ d ≠ 0 ∧ d.natAbs * u'.natAbs + r.natAbs * u.natAbs ≤ b.natAbs)
theorem euc0 (a b : Int) : Euc a b a b 1 0 := ⟨rfl, ⟨0, by omega⟩, ⟨1, by omega⟩, by omega, by omega, by omega, by omega, .inl ⟨rfl, rfl, rfl⟩⟩
theorem euc_step {a b d r u u' : Int} (h : Euc a b d r u u') (hr : r ≠ 0) :
    Euc a b r (d - d.fdiv r * r) u' (u - d.fdiv r * u') ∧ (d - d.fdiv r * r).natAbs < r.natAbs := by
  obtain ⟨m, e, hm, hs, hq, hd⟩ := fd_parts d r hr
  obtain ⟨v1, c1⟩ := h.c1
  obtain ⟨v2, c2⟩ := h.c2
  generalize hqq : d.fdiv r = q at *
  rw [e]
  have hg : r.gcd m = a.gcd b := by
    rw [← e, Int.gcd_sub_mul_right_right, Int.gcd_comm, h.g]
  have hc2 : ∃ v, m = (u - q * u') * a + v * b := by
    refine ⟨v1 - q * v2, ?_⟩
    rw [← e, Int.sub_mul, Int.sub_mul, Int.mul_assoc, Int.mul_assoc]
    have : q * r = q * (u' * a) + q * (v2 * b) := by rw [← Int.mul_add, ← c2]
    omega
  -- the bounds
  have hw : r.natAbs * (u - q * u').natAbs + m.natAbs * u'.natAbs ≤ b.natAbs := by
    rcases h.way with ⟨z1, z2, z3⟩ | ⟨s, z1, z2⟩
    · subst z1
      subst z2
      subst z3
      rw [Int.mul_zero]
      simp
    · have hd' := hd s
      have t1 : (u - q * u').natAbs ≤ u.natAbs + q.natAbs * u'.natAbs := by
        have := Int.natAbs_sub_le u (q * u')
        rw [Int.natAbs_mul] at this
        exact this
      have t2 := Nat.mul_le_mul_left r.natAbs t1
      rw [hd', Nat.add_mul] at z2
      rw [Nat.mul_add] at t2
      have t3 : r.natAbs * (q.natAbs * u'.natAbs) = q.natAbs * r.natAbs * u'.natAbs := by
        rw [← Nat.mul_assoc, Nat.mul_comm r.natAbs]
      omega
  have hrn : 1 ≤ r.natAbs := by omega
  have hu2 : (u - q * u').natAbs ≤ b.natAbs := by
    have := Nat.mul_le_mul_right (u - q * u').natAbs hrn
    omega
  exact ⟨⟨hg, ⟨v2, c2⟩, hc2, h.br, by have := h.br; omega, by have := h.bu'; omega, hu2, .inr ⟨hs, hr, hw⟩⟩, hm⟩
/-- the end -/
theorem euc_end {a b d u u' : Int} (h : Euc a b d 0 u u') : d.natAbs = a.gcd b := by
  have := h.g
  rwa [Int.gcd_zero_right] at this
theorem euc_last {a b d u v : Int} (hb : b ≠ 0) (c : d = u * a + v * b) : (d - u * a).fdiv b = v := by
  have : d - u * a = v * b := by omega
  rw [this, Int.mul_fdiv_cancel _ hb]
theorem natAbs_le_mul {v b : Int} (hb : b ≠ 0) : v.natAbs ≤ (v * b).natAbs := by
  rw [Int.natAbs_mul]
  exact Nat.le_mul_of_pos_right _ (by omega)

structure Cl (P : Program) (w : World) (K : PySem.W.Frag) (mg : Str → Option Value) (base : Heap) (CX : CXT) (k : Nat) (x : Str) (sp : Sp) : Prop where
  ex : ∃ (f : Addr) (fd : FuncData) (ps : List Str), FnOk P w K mg base CX k f fd ps sp ∧ mg x = some (.ref f) ∧ PySem.W.keepIn K (.ref f) = true ∧ Binds K fd ps []
theorem pe_cl {X : Cx} {k j : Nat} {x : Str} {sp : Sp} {p pos : Pos} {e : Expr} {es : List Expr} {t : TA} (c : Cl X.prog X.w X.K X.mg X.base CX0 k x sp) (hr : Room j X.A) (ha : PA X (e :: es) t) (hk : k ≤ j := by decide) (hg : Gl X x := by rfl)
    (hdb : (x == ("__debug__" : Str)) = false := by decide) (he : starEach (e :: es) X.env = (false, eval e X.env) :: starEach es X.env := by rfl) (hpl : (backTo pos (starEach es X.env)).any (·.1) = false := by rfl) :
    PE X (.Call (.Name x p) (e :: es) [] pos) (tCall sp [] E0 t) := by
  obtain ⟨f, fd, ps, F, hm, kp, b⟩ := c.ex
  exact pe_call F (hr.mono hk) hg hm kp b .nil pass0 ha hdb he hpl
structure Txt (mg : Str → Option Value) : Prop where
  int : mg "int" = none
  len : mg "len" = none
  abs : mg "abs" = none
  isinstance : mg "isinstance" = none
  bool : mg "bool" = none
  tuple : mg "tuple" = none
  list : mg "list" = none
  str : mg "str" = none
  range : mg "range" = none
  max : mg "max" = none
  min : mg "min" = none
  sorted : mg "sorted" = none
  set : mg "set" = none
theorem if_pos_of {c : Bool} {A B : Prop} (hc : c = true) (h : A) : if c = true then A else B := by
  rw [if_pos hc]
  exact h
theorem if_neg_of {c : Bool} {A B : Prop} (hc : c = false) (h : B) : if c = true then A else B := by
  rw [hc, if_neg Bool.false_ne_true]
  exact h
theorem same_upd {H : Hp} {p : Addr} {o : HO} (h : H p = none) : Same H (upd H p o) := fun b u e => by
  rw [upd_ne (ne_of_none e h)]
  exact e
/-- a call of a def that may raise, where it doesn't -/
theorem pe_cl0 {X : Cx} {k j : Nat} {x : Str} {sp : Sp} {p pos : Pos} {e : Expr} {es : List Expr} {t : TA} (c : Cl X.prog X.w X.K X.mg X.base (L2.CX X.prog X.w) k x sp) (hr : Room j X.A) (ha : PA X (e :: es) t) (hk : k ≤ j := by decide) (hg : Gl X x := by rfl)
    (hdb : (x == ("__debug__" : Str)) = false := by decide) (he : starEach (e :: es) X.env = (false, eval e X.env) :: starEach es X.env := by rfl) (hpl : (backTo pos (starEach es X.env)).any (·.1) = false := by rfl) :
    PE X (.Call (.Name x p) (e :: es) [] pos) (tCall sp [] E0 t) := by
  obtain ⟨f, fd, ps, F, hm, kp, b⟩ := c.ex
  exact pe_call F (hr.mono hk) hg hm kp b .nil passL ha hdb he hpl
/-- a call of a def that may raise, in a def or try that takes it -/
theorem pe_clX {X : Cx} {W : WX} {k j : Nat} {x : Str} {sp : Sp} {p pos : Pos} {e : Expr} {es : List Expr} {t : TA} (c : Cl X.prog X.w X.K X.mg X.base (L2.CX X.prog X.w) k x sp) (hr : Room j X.A) (tk : Takes X W) (ha : PA X (e :: es) t) (hk : k ≤ j := by decide) (hg : Gl X x := by rfl)
    (hdb : (x == ("__debug__" : Str)) = false := by decide) (he : starEach (e :: es) X.env = (false, eval e X.env) :: starEach es X.env := by rfl) (hpl : (backTo pos (starEach es X.env)).any (·.1) = false := by rfl) :
    PE X (.Call (.Name x p) (e :: es) [] pos) (tCallS sp (WE W) t) := by
  obtain ⟨f, fd, ps, F, hm, kp, b⟩ := c.ex
  exact pe_callS F (hr.mono hk) hg hm kp b (fun σ => passAt tk σ) ha hdb he hpl
/-- FieldError, and what its __init__ is -/
structure FErr (K : PySem.W.Frag) (mg : Str → Option Value) (C : Addr) : Prop where
  g : mg "FieldError" = some (.ref C)
  rd : PySem.W.readsIn K C (.type "type") = true
  ga : PySem.W.specialIn K (.ref C) "__getattribute__" = some (some (.builtin "type.__getattribute__"))
  fi : PySem.W.findCls K (.ref C) (.type "type") "__init__" = some (.val (.builtin "ValueError.__init__"))
theorem pe_feinit {X : Cx} {CF : Addr} {e : Expr} {es : List Expr} {ta : TA} {p1 p2 pos : Pos} {pl : Sem Bool} (F : FErr X.K X.mg CF) (ha : PA X (e :: es) ta) (hg : Gl X "FieldError" := by rfl)
    (hc : eval (.Call (.Attribute (.Name "FieldError" p1) "__init__" p2) (e :: es) [] pos) X.env = (do
      let ov ← eval (.Name "FieldError" p1) X.env
      standAt p2.atName
      let (f, first) ← holding [ov] (getMethod ov "__init__" pl)
      callWith pos f first (backTo pos (starEach (e :: es) X.env)) (backToKw pos (keywordEach [] X.env))) := by rfl)
    (he : starEach (e :: es) X.env = (false, eval e X.env) :: starEach es X.env := by rfl) (hpl : (backTo pos (starEach es X.env)).any (·.1) = false := by rfl) :
    PE X (.Call (.Attribute (.Name "FieldError" p1) "__init__" p2) (e :: es) [] pos) (tVeI X.K ta) := by
  refine ⟨fun pins s σ H Q I h => ?_⟩
  refine PySem.W.methodCall_KW (ld_glob I hg F.g ?_ (by decide)) hc
  refine PySem.W.method_cls I.kIn F.ga (PySem.W.cls_value I.kIn F.rd F.fi (by decide +kernel) ?_)
  show wpAny _ _ (callWith pos (Value.builtin "ValueError.__init__") [] (backTo pos (starEach (e :: es) X.env)) []) _ _ _
  refine PyProof.Rows.callWith_method1 (thn (ha.run pos pins _ σ H _ (I.tok _) h) fun us s1 ⟨vs, H1, I1, r1, a, C, ws, ev, hl, T, ea, q⟩ => ?_) he hpl
  subst ev
  cases r1 with
  | @cons _ u0 _ ur ra rw' =>
    obtain rfl : u0 = Value.ref a := ra
    have hlen : ur.length ≤ sizeLine := by
      rw [← Paired.length rw', sizeLine_eq]
      omega
    exact oinit_ok T I1 ea hlen fun s' J => ⟨.non, H1, J, rfl, q⟩
/-- an own error class with one attribute, and its __init__ by its promise -/
def spInit (C : Addr) (fld : Str) : Sp := fun vs H Q _ => ∃ (a : Addr) (v : V), vs = [.ref a, v] ∧ H a = some (exo a C none) ∧
  ∀ d, H d = none → d ≠ a → Q .non (upd (upd H d (exd d [(fld, v)])) a (exo a C (some d)))
structure ErrC (K : PySem.W.Frag) (mg : Str → Option Value) (nm fld : Str) (C fI : Addr) : Prop where
  g : mg nm = some (.ref C)
  oex : OexC K C
  no : PySem.W.findIn K (.ref C) fld = some none
  iC : PySem.W.findIn K (.ref C) "__init__" = some (some (.ref fI))
  tI : PySem.W.typeIn K (.ref fI) = some (.type "function")
  xf : XfC K C
  te : PySem.W.exmOne K (.ref C) (.ref C) = some true
structure Er (P : Program) (w : World) (K : PySem.W.Frag) (mg : Str → Option Value) (base : Heap) (nm fld : Str) (C : Addr) : Prop where
  ex : ∃ (fI : Addr) (fd : FuncData) (ps : List Str), ErrC K mg nm fld C fI ∧ FnOk P w K mg base CX0 1 fI fd ps (spInit C fld) ∧ Binds K fd ps []
theorem Er.c {P : Program} {w : World} {K : PySem.W.Frag} {mg : Str → Option Value} {base : Heap} {nm fld : Str} {C : Addr} (e : Er P w K mg base nm fld C) : ∃ fI, ErrC K mg nm fld C fI := by
  obtain ⟨fI, _, _, T, _⟩ := e.ex
  exact ⟨fI, T⟩
theorem exm_me {K : PySem.W.Frag} {S : Addr} (h1 : PySem.W.subIn K (.ref S) (.type "BaseException") = some true) (h2 : PySem.W.isClsIn K S = true) (h3 : PySem.W.typeIn K (.ref S) = some (.type "type")) (h4 : PySem.W.subIn K (.ref S) (.ref S) = some true) :
    PySem.W.exmOne K (.ref S) (.ref S) = some true := by
  have e1 : (PySem.W.subIn K (.ref S) (.type "BaseException") == some true) = true := by rw [h1] <;> rfl
  have h2' : (PySem.W.clsIn K S).isSome = true := h2
  have e2 : ((PySem.W.clsIn K S).isSome && PySem.W.typeIn K (.ref S) == some (.type "type")) = true := by rw [h2', h3] <;> rfl
  unfold PySem.W.exmOne
  rw [if_pos e1]
  show (if ((PySem.W.clsIn K S).isSome && PySem.W.typeIn K (.ref S) == some (.type "type")) = true then PySem.W.subIn K (.ref S) (.ref S) else none) = some true
  rw [if_pos e2]
  exact h4
/-- raise C(v): the argument, then what C's own __init__ asks (mk1 answers it) -/
theorem ps_raise1 {X : Cx} {W : WX} {x fld : Str} {C : Addr} {j : Nat} {e : Expr} {ta : TA} {p pos pos' : Pos} (c : Er X.prog X.w X.K X.mg X.base x fld C) (hr : Room j X.A) (tk : Takes X W) (ha : PA X [e] ta) (hj : 2 ≤ j := by decide) (hcalm : X.calm = true := by rfl) (hg : Gl X x := by rfl)
    (hdb : (x == ("__debug__" : Str)) = false := by decide) (he : starEach [e] X.env = (false, eval e X.env) :: starEach [] X.env := by rfl) (hpl : (backTo pos (starEach [] X.env)).any (·.1) = false := by rfl) :
    PS X (.Raise (some (.Call (.Name x p) [e] [] pos)) none pos') (fun _ σ H => tMkO C (spInit C fld) [] ta σ H fun cls d H' => W cls d σ H') := by
  obtain ⟨fI, fd, ps, T, F, b⟩ := c.ex
  exact ps_raise hcalm tk (pmk_oex (X := X) (p := p) (pos := pos) T.oex T.iC T.tI F (hr.mono hj) b .nil (fun _ _ _ _ _ _ _ h => h.elim) hg T.g ha hdb he hpl)
theorem mk1 {C : Addr} {fld : Str} {v : V} {H1 : Hp} {Q : XK} (k : ∀ d H2, Same H1 H2 → H1 d = none → H2 d = some (.xd [(fld, v)]) → Q (.ref C) (some d) H2) :
    ([v] : List V).length ≤ 1000 ∧ ∀ a, H1 a = none → spInit C fld (.ref a :: ([v] ++ [])) (upd H1 a (exo a C none))
      (fun u H2 => u = .non ∧ ∃ (d : Addr) (fs : List (Str × V)), H2 a = some (exo a C (some d)) ∧ H2 d = some (exd d fs) ∧ H1 d = none ∧ Q (.ref C) (some d) (upd (del H2 a) d (.xd fs))) (fun _ _ _ => False) := by
  refine ⟨(by show 1 ≤ 1000; decide), fun a ha => ⟨a, v, rfl, upd_same, fun d hd hda => ⟨rfl, d, [(fld, v)], upd_same, ?_, ?_, ?_⟩⟩⟩
  · rw [upd_ne hda, upd_same]
  · rw [upd_ne hda] at hd
    exact hd
  · rw [upd_ne hda] at hd
    refine k d _ (fun b o e => ?_) hd upd_same
    have hba := ne_of_none e ha
    have hbd := ne_of_none e hd
    rw [upd_ne hbd, del_ne hba, upd_ne hba, upd_ne hbd, upd_ne hba]
    exact e
/-! the same for exceptions whose context is None -/
theorem passN {X : Cx} : Passes (L2N.CX X.prog X.w) X E0 := fun _ _ _ _ _ _ _ ⟨_, _, _, _, _, _, _, _, _, _, _, _, z⟩ => z.elim
theorem takes0N {X : Cx} : L2N.Takes X (fun _ _ _ _ => False) := fun _ _ ⟨_, _, _, _, _, _, _, _, _, _, _, _, _, _, _, _, z⟩ => z.elim
theorem okN {P : Program} {w : World} {K : PySem.W.Frag} {mg : Str → Option Value} {base : Heap} {x qual : Str} {st : Stmt} {f : Addr} {fd : FuncData} {N ps : List Str} {k : Nat} {sp : Sp} (F : Fun K x qual st f fd) (S : FnScope N ps (defScope st)) (len : ∀ vs H Q E, sp vs H Q E → vs.length = ps.length)
    (body : ∀ (cdv : Value) (A : Around) (outer : List Env) (s : Shared) (H : Hp) (vs : List V) (Q : VK) (E : XK), Room k (A.deeper (envOfC qual (defScope st) s.heap.objs.size f cdv)) → sp vs H Q E →
      ∃ t, PSs (cxOf (L2N.CX P w) P w K mg base N qual (defScope st) f cdv A outer s H E) (defBody st) t ∧ t { nx := fun _ H' => Q .non H', rt := Q } (start N vs) H) : FnOk P w K mg base (L2N.CX P w) (k + 1) f fd ps sp := by
  obtain ⟨oc, od, kV, doc, pm, an, cdv, ct, osl, rfl, lk, hcd⟩ := F.ex
  exact fn_of lk hcd S len fun A outer s H vs Q E hr h => body cdv A outer s H vs Q E hr h
/-- a call of such a def, where it doesn't raise -/
theorem pe_clN0 {X : Cx} {k j : Nat} {x : Str} {sp : Sp} {p pos : Pos} {e : Expr} {es : List Expr} {t : TA} (c : Cl X.prog X.w X.K X.mg X.base (L2N.CX X.prog X.w) k x sp) (hr : Room j X.A) (ha : PA X (e :: es) t) (hk : k ≤ j := by decide) (hg : Gl X x := by rfl)
    (hdb : (x == ("__debug__" : Str)) = false := by decide) (he : starEach (e :: es) X.env = (false, eval e X.env) :: starEach es X.env := by rfl) (hpl : (backTo pos (starEach es X.env)).any (·.1) = false := by rfl) :
    PE X (.Call (.Name x p) (e :: es) [] pos) (tCall sp [] E0 t) := by
  obtain ⟨f, fd, ps, F, hm, kp, b⟩ := c.ex
  exact pe_call F (hr.mono hk) hg hm kp b .nil passN ha hdb he hpl
theorem pe_clNX {X : Cx} {W : WX} {k j : Nat} {x : Str} {sp : Sp} {p pos : Pos} {e : Expr} {es : List Expr} {t : TA} (c : Cl X.prog X.w X.K X.mg X.base (L2N.CX X.prog X.w) k x sp) (hr : Room j X.A) (tk : L2N.Takes X W) (ha : PA X (e :: es) t) (hk : k ≤ j := by decide) (hg : Gl X x := by rfl)
    (hdb : (x == ("__debug__" : Str)) = false := by decide) (he : starEach (e :: es) X.env = (false, eval e X.env) :: starEach es X.env := by rfl) (hpl : (backTo pos (starEach es X.env)).any (·.1) = false := by rfl) :
    PE X (.Call (.Name x p) (e :: es) [] pos) (tCallS sp (WE W) t) := by
  obtain ⟨f, fd, ps, F, hm, kp, b⟩ := c.ex
  exact pe_callS F (hr.mono hk) hg hm kp b (fun σ => L2N.passAt tk σ) ha hdb he hpl
theorem pmk_oexN {X : Cx} {e : Expr} {es : List Expr} {ta : TA} {p pos : Pos} {x : Str} {C fI : Addr} {k : Nat} {fd : FuncData} {ps : List Str} {sp : Sp} {ds : List Value} {dvs : List V} (T : OexC X.K C) (iC : PySem.W.findIn X.K (.ref C) "__init__" = some (some (.ref fI))) (tI : PySem.W.typeIn X.K (.ref fI) = some (.type "function"))
    (F1 : FnOk X.prog X.w X.K X.mg X.base CX0 k fI fd ps sp) (hr : Room (k + 1) X.A) (hb : Binds X.K fd ps ds) (hd : Vals dvs ds) (hg : Gl X x) (hm : X.mg x = some (.ref C)) (ha : PA X (e :: es) ta)
    (hdb : (x == ("__debug__" : Str)) = false) (he : starEach (e :: es) X.env = (false, eval e X.env) :: starEach es X.env) (hpl : (backTo pos (starEach es X.env)).any (·.1) = false) :
    L2N.PMk X (.Call (.Name x p) (e :: es) [] pos) (tMkO C sp dvs ta) := by
  intro pins s σ H Q I h
  obtain ⟨nm, q, N, bs, bm, sn, sub, ab, col, dd, k0, k1, k2, k3, k5, hC, hbm⟩ := T.cls
  refine wpAny_Call_Name_kw (ld_glob I hg hm ?_ hdb)
  refine PySem.W.callWith_K (h₀ := X.base) I.ok.mod.kin T.kC (thn (ha.run pos pins s σ H _ I h) fun us st got => ?_) he hpl
  obtain ⟨vs, G1, I1, r1, hz, q1⟩ := got
  refine ⟨I1.kIn, ?_⟩
  show wpAny _ _ (call (.ref C) us) _ _ _
  obtain ⟨hp, g, dr, tk, os⟩ := st
  generalize ex : hp.objs.size + 1 = x1 at *
  have le1 : hp.objs.size ≤ x1 := by omega
  have sp1 := q1 x1 (I1.hok.fresh le1)
  have old : ∀ b o, hp.get? b = some o → ((hp.push (PySem.W.kdv_tup us)).push (PySem.HandSPX.excO C hp.objs.size)).get? b = some o := fun b o z =>
    Heap.get?_push_of_some _ (Heap.get?_push_of_some _ z)
  have new1 : ((hp.push (PySem.W.kdv_tup us)).push (PySem.HandSPX.excO C hp.objs.size)).get? x1 = some (PySem.HandSPX.excO C hp.objs.size) := by
    subst ex
    heap_get
  have I2 := I1.laid (t' := tk) (a := x1) (o := exo x1 C none) old le1 (exo_ok new1)
  have rel : Vals (V.ref x1 :: (vs ++ dvs)) (Value.ref x1 :: (us ++ ds)) := .cons rfl (r1.append hd)
  have few : us.length ≤ sizeLine := by
    have := Paired.length r1
    rw [sizeLine_eq]
    omega
  have many : (Value.ref x1 :: us ++ ds).length = ps.length := by
    have z := rel.length
    rw [F1.len _ _ _ _ sp1] at z
    exact z.symm
  have run := F1.run _ X.stack _ _ ⟨Value.ref x1 :: us, []⟩ (Value.ref x1 :: (us ++ ds)) _ _ (fun _ _ _ => False) (hr.make C us []) (I2.env0.make C us []) (hb _ (Value.ref x1 :: us) I2.kIn many) rel sp1
  refine wpAny_call (PySem.HandSPX.call_own F.excBase_ValueError (fun Y => PySem.HandSPX.refsVE_contains Y bm hbm) (I1.kIn _ _ hC) (PySem.W.looks_findIn I1.kIn iC) (fun self => PySem.W.bind_fn I1.kIn self tI) few ?_)
  subst ex
  refine codeAny_mono run fun r s' back => ?_
  cases r with
  | error er => exact False.elim back
  | ok fl =>
    cases fl with
    | ret u =>
      obtain ⟨v, H2, os2, bare2, un2, hok2, rv, ev, d, fs, ea, ed, hd1, q2⟩ := back
      subst ev
      obtain ⟨h2, g2, d2, t2, os'⟩ := s'
      obtain ⟨t0, G, J, kG, ge, hoe, na⟩ := mk_end0 (d2 := d2) (t2 := t2) I1 le1 old un2 hok2 os2 bare2 ea ed hd1
      exact ⟨rv, _, _, _, ⟨G, g2, d2, t2, os'⟩, _, .ref C, some d, rfl, J, kG, ge, hoe, ⟨rfl, rfl, fun vs z => by cases z; rfl⟩, rfl, rfl, na, rfl, bare2, raises_own T.exC T.tyC, q2⟩
    | next => exact False.elim back
    | brk => exact False.elim back
    | cont => exact False.elim back
theorem ps_raise1N {X : Cx} {W : WX} {x fld : Str} {C : Addr} {j : Nat} {e : Expr} {ta : TA} {p pos pos' : Pos} (c : Er X.prog X.w X.K X.mg X.base x fld C) (hr : Room j X.A) (tk : L2N.Takes X W) (ha : PA X [e] ta) (hj : 2 ≤ j := by decide) (hcalm : X.calm = true := by rfl) (hg : Gl X x := by rfl)
    (hdb : (x == ("__debug__" : Str)) = false := by decide) (he : starEach [e] X.env = (false, eval e X.env) :: starEach [] X.env := by rfl) (hpl : (backTo pos (starEach [] X.env)).any (·.1) = false := by rfl) :
    PS X (.Raise (some (.Call (.Name x p) [e] [] pos)) none pos') (fun _ σ H => tMkO C (spInit C fld) [] ta σ H fun cls d H' => W cls d σ H') := by
  obtain ⟨fI, fd, ps, T, F, b⟩ := c.ex
  exact L2N.ps_raise hcalm tk (pmk_oexN (X := X) (p := p) (pos := pos) T.oex T.iC T.tI F (hr.mono hj) b .nil hg T.g ha hdb he hpl)
section
variable {P : Program} {w : World} {K : PySem.W.Frag} {mg : Str → Option Value} {base : Heap}
-- part divm
/-! division with rest in a prime characteristic -/
def prem (p : Int) (l : List Int) : List Int := trim (l.map (· % p))
theorem prem_get (p : Int) (l : List Int) (i : Nat) : (prem p l).getD i 0 = l.getD i 0 % p := by
  unfold prem
  rw [trim_get]
  exact getD_map (f := fun z => z % p) (Int.zero_emod p) l i
theorem prem_bd {p : Int} (hp : 0 < p) {l : List Int} : ∀ z ∈ prem p l, 0 ≤ z ∧ z < p := fun z hz => by
  obtain ⟨y, _, rfl⟩ := List.mem_map.mp (trim_mem hz)
  exact ⟨Int.emod_nonneg _ (by omega), Int.emod_lt_of_pos _ hp⟩
theorem prem_few (p : Int) (l : List Int) : (prem p l).length ≤ l.length := by
  have := trim_few (l.map (· % p))
  rw [List.length_map] at this
  exact this
theorem trim_short {l : List Int} {n : Nat} (ht : Trim l) (h : ∀ i, n ≤ i → l.getD i 0 = 0) : l.length ≤ n := by
  by_cases c : l.length ≤ n
  · exact c
  · exact absurd (h (l.length - 1) (by omega)) (ht (l.length - 1) (by omega))
theorem cnv_nil (d : List Int) (k : Nat) : cnv [] d k = 0 := rfl
theorem cnv_add (a b d : List Int) (k : Nat) : cnv (pplus 1 a b) d k = cnv a d k + cnv b d k := by
  rw [cnv_eq, cnv_eq, cnv_eq, ← sumN_add]
  refine sumN_congr _ fun i _ => ?_
  rw [pplus_get, Int.one_mul, Int.add_mul]
def trm (c : Int) (e : Nat) : List Int := trim (List.replicate e 0 ++ [c])
theorem trm_get (c : Int) (e i : Nat) : (trm c e).getD i 0 = if i = e then c else 0 := by
  unfold trm
  rw [trim_get]
  by_cases h : i < e
  · rw [if_neg (by omega), List.getD_eq_getElem?_getD, List.getElem?_append_left (by rw [List.length_replicate]; exact h), List.getElem?_replicate, if_pos h]
    rfl
  · rw [List.getD_eq_getElem?_getD, List.getElem?_append_right (by rw [List.length_replicate]; omega), List.length_replicate]
    by_cases h2 : i = e
    · rw [if_pos h2, show i - e = 0 by omega]
      rfl
    · rw [if_neg h2, List.getElem?_eq_none (by show [c].length ≤ i - e; show 1 ≤ i - e; omega)]
      rfl
theorem sumN_one {e : Nat} {v : Nat → Int} : ∀ n, sumN (fun i => if i = e then v i else 0) n = if e < n then v e else 0
  | 0 => by rw [if_neg (by omega)]; rfl
  | n + 1 => by
    show sumN (fun i => if i = e then v i else 0) n + (if n = e then v n else 0) = _
    rw [sumN_one n]
    by_cases h : n = e
    · rw [if_neg (by omega), if_pos h, if_pos (by omega), h, Int.zero_add]
    · by_cases h2 : e < n
      · rw [if_pos h2, if_neg h, if_pos (by omega), Int.add_zero]
      · rw [if_neg h2, if_neg h, if_neg (by omega)]
        rfl
theorem cnv_term (c : Int) (e : Nat) (d : List Int) (k : Nat) : cnv (trm c e) d k = if e ≤ k then c * d.getD (k - e) 0 else 0 := by
  rw [cnv_eq]
  have h := sumN_one (e := e) (v := fun i => c * d.getD (k - i) 0) (k + 1)
  rw [sumN_congr (g := fun i => if i = e then c * d.getD (k - i) 0 else 0) _ fun i _ => by
    rw [trm_get]
    split
    · rfl
    · exact Int.zero_mul _, h]
  by_cases hk : e ≤ k
  · rw [if_pos hk, if_pos (by omega)]
  · rw [if_neg hk, if_neg (by omega)]
theorem dvd_eq {p a b : Int} (h : p ∣ a) (e : a = b) : p ∣ b := e ▸ h
structure DivS (p : Int) (first d q r : List Int) : Prop where
  rt : Trim r
  rb : ∀ z ∈ r, 0 ≤ z ∧ z < p
  eq : ∀ i, p ∣ first.getD i 0 - cnv q d i - r.getD i 0
theorem div0 {p : Int} (hp : 0 < p) (first d : List Int) : DivS p first d [] (prem p first) := by
  refine ⟨trim_trim _, prem_bd hp, fun i => ?_⟩
  rw [prem_get, cnv_nil, Int.sub_zero]
  exact Int.dvd_self_sub_emod
theorem div_step {p : Int} {first d q r : List Int} {b : Int} (hp : 0 < p) (h : DivS p first d q r) (len : d.length ≤ r.length) (dn : 0 < d.length) (hb : p ∣ b * d.getD (d.length - 1) 0 - 1) {c : Int} {e : Nat} (hc : c = r.getD (r.length - 1) 0 * b) (he : e = r.length - d.length) :
    DivS p first d (pplus 1 q (trm c e)) (prem p (pplus (-1) r (pmul (trm c e) d))) ∧ (prem p (pplus (-1) r (pmul (trm c e) d))).length < r.length := by
  have g : ∀ i, (prem p (pplus (-1) r (pmul (trm c e) d))).getD i 0 = (r.getD i 0 + -1 * cnv (trm c e) d i) % p := fun i => by rw [prem_get, pplus_get, pmul_get]
  refine ⟨⟨trim_trim _, prem_bd hp, fun i => ?_⟩, ?_⟩
  · rw [g, cnv_add]
    have h1 := h.eq i
    have h2 : p ∣ (r.getD i 0 + -1 * cnv (trm c e) d i) - (r.getD i 0 + -1 * cnv (trm c e) d i) % p := Int.dvd_self_sub_emod
    have := Int.dvd_add h1 h2
    exact dvd_eq this (by omega)
  · have : (prem p (pplus (-1) r (pmul (trm c e) d))).length ≤ r.length - 1 := by
      refine trim_short (trim_trim _) fun i hi => ?_
      rw [g, cnv_term, if_pos (by omega)]
      by_cases c1 : r.length ≤ i
      · rw [getD_ge c1, getD_ge (show d.length ≤ i - e by omega), Int.mul_zero]
        exact Int.zero_emod _
      · have e1 : i = r.length - 1 := by omega
        rw [e1, show r.length - 1 - e = d.length - 1 by omega, hc]
        refine Int.emod_eq_zero_of_dvd ?_
        obtain ⟨k, hk⟩ := hb
        refine ⟨-(r.getD (r.length - 1) 0 * k), ?_⟩
        have : b * d.getD (d.length - 1) 0 = p * k + 1 := by omega
        rw [Int.mul_assoc, this, Int.mul_add, Int.mul_one, Int.mul_neg, ← Int.mul_assoc, ← Int.mul_assoc, Int.mul_comm p]
        omega
    omega
/-- what is told fits -/
theorem sumN_sub_dvd {p : Int} {f g : Nat → Int} (hf : ∀ j, p ∣ f j - g j) : ∀ n, p ∣ sumN f n - sumN g n
  | 0 => ⟨0, by rw [Int.mul_zero] <;> rfl⟩
  | n + 1 => by
    refine dvd_eq (Int.dvd_add (sumN_sub_dvd hf n) (hf n)) ?_
    show sumN f n - sumN g n + (f n - g n) = sumN f n + f n - (sumN g n + g n)
    omega
theorem rem_swap (p x y : Int) : p ∣ x * (y % p) - x % p * y := by
  have a1 := Int.emod_add_mul_ediv x p
  have a2 := Int.emod_add_mul_ediv y p
  have b1 : x * (y % p) = x * y - x * (p * (y / p)) := by rw [← Int.mul_sub]; congr 1; omega
  have b2 : x % p * y = x * y - p * (x / p) * y := by rw [← Int.sub_mul]; congr 1; omega
  refine ⟨x / p * y - x * (y / p), ?_⟩
  rw [b1, b2, Int.mul_sub, Int.mul_left_comm x p (y / p), Int.mul_assoc]
  omega
theorem cnv_swap (p : Int) (q second : List Int) (i : Nat) : p ∣ cnv q (prem p second) i - cnv (prem p q) second i := by
  rw [cnv_eq, cnv_eq]
  refine sumN_sub_dvd (fun j => ?_) _
  rw [prem_get, prem_get]
  exact rem_swap _ _ _
theorem div_fits {p : Int} {first second q r : List Int} (h : DivS p first (prem p second) q r) : prem p (pplus 1 (pmul (prem p q) second) r) = prem p first := by
  refine Trim.ext (show Trim (prem p _) from trim_trim _) (show Trim (prem p first) from trim_trim _) fun i => ?_
  rw [prem_get, prem_get, pplus_get, pmul_get, Int.one_mul]
  have h3 := Int.dvd_neg.mpr (Int.dvd_add (h.eq i) (cnv_swap p q second i))
  refine Int.emod_eq_emod_iff_emod_sub_eq_zero.mpr (Int.emod_eq_zero_of_dvd (dvd_eq h3 ?_))
  omega
/-- the reciprocal -/
theorem gcd_one {n p : Int} (hp : Pr p) (h0 : 0 < n) (h1 : n < p) : n.gcd p = 1 := by
  have d1 : ((n.gcd p : Nat) : Int) ∣ n := Int.gcd_dvd_left ..
  have d2 : ((n.gcd p : Nat) : Int) ∣ p := Int.gcd_dvd_right ..
  have le := Int.le_of_dvd h0 d1
  by_cases c : 2 ≤ ((n.gcd p : Nat) : Int)
  · exact absurd d2 (hp.2 _ c (by omega))
  · have : (n.gcd p) ≠ 0 := fun e => by
      rw [e] at d1
      have := Int.zero_dvd.mp d1
      omega
    omega
theorem recip_ok {n p u v : Int} (h : u * n + v * p = 1) (hp : 0 < p) : p ∣ (u % p) * n - 1 := by
  have a1 := Int.emod_add_mul_ediv u p
  have b2 : u % p * n = u * n - p * (u / p) * n := by rw [← Int.sub_mul]; congr 1; omega
  refine ⟨-v - u / p * n, ?_⟩
  rw [b2, Int.mul_sub, Int.mul_neg, Int.mul_comm p v, Int.mul_assoc]
  omega
-- part gen2
/-- an isinstance of an int -/
theorem isi_int {K : PySem.W.Frag} {i : Int} {T : String} {b : Bool} {H : Hp} {Q : VK} (h : kitB "int" T = some b) (q : Q (.bl b) H) : rIsi K [.int i, .ty T] H Q :=
  ⟨_, _, _, _, b, rfl, .ty T, .base (.int i), kit_ty h, q⟩
theorem isi_tup {K : PySem.W.Frag} {a : Addr} {xs : List V} {T : String} {b : Bool} {H : Hp} {Q : VK} (ha : H a = some (.tup xs)) (h : kitB "tuple" T = some b) (q : Q (.bl b) H) : rIsi K [.ref a, .ty T] H Q :=
  ⟨_, _, _, _, b, rfl, .ty T, .base (.tup ha), kit_ty h, q⟩
theorem isi_bl {K : PySem.W.Frag} {x : Bool} {T : String} {b : Bool} {H : Hp} {Q : VK} (h : kitB "bool" T = some b) (q : Q (.bl b) H) : rIsi K [.bl x, .ty T] H Q :=
  ⟨_, _, _, _, b, rfl, .ty T, .base (.bl x), kit_ty h, q⟩
theorem isi_lst {K : PySem.W.Frag} {a : Addr} {xs : List V} {T : String} {b : Bool} {H : Hp} {Q : VK} (ha : H a = some (.lst xs)) (h : kitB "list" T = some b) (q : Q (.bl b) H) : rIsi K [.ref a, .ty T] H Q :=
  ⟨_, _, _, _, b, rfl, .ty T, .base (.lst ha), kit_ty h, q⟩
/-- the law's own promise -/
def spLaw (K : PySem.W.Frag) : Sp := fun vs H Q _ => ∃ (a : Addr) (ns : List Int), vs = [.ref a] ∧ SqL K H a (ns.map V.int) ∧ ns.length ≤ 63 ∧ ∀ H', Q (.bl true) H'
/-- a test by an own truth -/
theorem pt_own {X : Cx} {a : Expr} {ta : TE} {r : V → Hp → (Bool → Hp → Prop) → Prop} (ha : PE X a ta) (hr : TruR X r) (he : ∀ whole, isTrue a X.env whole = (do let v ← whole; standAt a.pos; holding [v] (truthy v)) := by intro _; rfl) :
    PT X a (fun σ H Q => ta σ H fun x H' => r x H' Q) :=
  ⟨fun pins s σ H Q I h => isTrue_plain (thn (ha.run pins s σ H _ I h) fun v s1 ⟨x, H1, I1, r1, q1⟩ => hr pins s1 σ H1 x v Q I1 r1 q1) (he _)⟩
-- part errgr
/-! own errors whose __init__ keeps any promise; errors without arguments -/
structure ErG (P : Program) (w : World) (K : PySem.W.Frag) (mg : Str → Option Value) (base : Heap) (nm : Str) (C : Addr) (sp : Sp) : Prop where
  ex : ∃ (fI : Addr) (fd : FuncData) (ps : List Str), mg nm = some (.ref C) ∧ OexC K C ∧ PySem.W.findIn K (.ref C) "__init__" = some (some (.ref fI)) ∧ PySem.W.typeIn K (.ref fI) = some (.type "function") ∧ FnOk P w K mg base CX0 1 fI fd ps sp ∧ Binds K fd ps []
theorem ps_raiseG {X : Cx} {W : WX} {x : Str} {C : Addr} {sp : Sp} {j : Nat} {e : Expr} {es : List Expr} {ta : TA} {p pos pos' : Pos} (c : ErG X.prog X.w X.K X.mg X.base x C sp) (hr : Room j X.A) (tk : L2N.Takes X W) (ha : PA X (e :: es) ta) (hj : 2 ≤ j := by decide) (hcalm : X.calm = true := by rfl) (hg : Gl X x := by rfl)
    (hdb : (x == ("__debug__" : Str)) = false := by decide) (he : starEach (e :: es) X.env = (false, eval e X.env) :: starEach es X.env := by rfl) (hpl : (backTo pos (starEach es X.env)).any (·.1) = false := by rfl) :
    PS X (.Raise (some (.Call (.Name x p) (e :: es) [] pos)) none pos') (fun _ σ H => tMkO C sp [] ta σ H fun cls d H' => W cls d σ H') := by
  obtain ⟨fI, fd, ps, g, T, iC, tI, F, b⟩ := c.ex
  exact L2N.ps_raise hcalm tk (pmk_oexN (X := X) (p := p) (pos := pos) T iC tI F (hr.mono hj) b .nil hg g ha hdb he hpl)
-- part errz
/-- the exception is let go; it has no dict -/
theorem let_go {X : Cx} {pins : List (Addr × Obj)} {σ : L2.St} {H1 H2 : Hp} {hp hp2 h2 : Heap} {g1 g2 : Array GenState} {d1 d2 : Drawn} {t1 t2 : Nat} {os1 os2 : OsState} {a C : Addr} (I1 : Inv X pins σ H1 ⟨hp, g1, d1, t1, os1⟩)
    (ha : hp.objs.size ≤ a) (k : ∀ b o, hp.get? b = some o → hp2.get? b = some o) (un : Un (frs X.stack) [] (upd H1 a (exo a C none)) H2 hp2 h2) (hok : HOk X.prog X.w H2 h2) (ho : os2 = os1) (hb : AllBare g2) (ea : H2 a = some (exo a C none)) :
    ∃ (t0 : Addr) (G : Heap), Inv X pins σ (del H2 a) ⟨G, g2, d2, t2, os2⟩ ∧ (∀ b o, G.get? b = some o → h2.get? b = some o) ∧ G.get? a = none ∧
      h2.get? a = some ({ cls := .ref C, dict := none, data := .fields #[.ref t0, .none, .none, .none, .bool false, .none] } : Obj) ∧ del H2 a a = none := by
  obtain ⟨t0, stands⟩ := exo_at hok ea
  have n1 : H1 a = none := I1.hok.fresh ha
  obtain ⟨G, same, gone⟩ := restrict h2 fun b => decide (b ≠ a)
  have at_ : ∀ b, b ≠ a → G.get? b = h2.get? b := fun b q => same b (decide_eq_true q)
  have no : G.get? a = none := gone a (by simp)
  have old : ∀ {b : Addr} {o : Obj}, hp.get? b = some o → b ≠ a := fun {b o} z => Nat.ne_of_lt (Nat.lt_of_lt_of_le (Heap.lt_size z) ha)
  have un1 : ∀ {b : Addr}, b ≠ a → H1 b = none → upd H1 a (exo a C none) b = none := fun {b} q n => by
    rw [upd_ne q]
    exact n
  have U : Un (frs X.stack) [] H1 (del H2 a) hp G := {
    keep := fun b o z n f x => by
      rw [at_ b (old z)]
      exact un.keep b o (k b o z) (un1 (old z) n) f x
    slot := fun b o z n f x => by
      rw [at_ b (old z)]
      exact un.slot b o (k b o z) (un1 (old z) n) f x
    free := fun b o z n x => by
      rw [del_ne (old z)]
      exact un.free b o (k b o z) (un1 (old z) n) x
    there := fun b o z x => by
      rw [at_ b (old z)]
      exact un.there b o (k b o z) x
    tups := fun b xs z => by
      have q := ne_of_none z n1
      rw [del_ne q]
      exact un.tups b xs (by rw [upd_ne q]; exact z)
    frzs := fun b o v z => by
      have q := ne_of_none z n1
      rw [del_ne q]
      exact un.frzs b o v (by rw [upd_ne q]; exact z)
    tbls := fun b ps z => by
      have q := ne_of_none z n1
      rw [del_ne q]
      exact un.tbls b ps (by rw [upd_ne q]; exact z) }
  have good : HOk X.prog X.w (del H2 a) G := fun b o z => by
    have q : b ≠ a := fun e => by
      rw [e, del_same] at z
      cases z
    rw [del_ne q] at z
    have far : ∀ {c : Addr}, H2 c = some (.own b) → c ≠ a := fun {c} y => at_ne ea y exo_own
    exact (hok b o z).stay (fun c v hc y => by
        have q2 : c ≠ a := by
          rcases hc with hc | hc
          · rw [hc]
            exact q
          · exact far hc
        rw [at_ c q2]
        exact y)
      (fun c y => by rw [del_ne (far y)]; exact y) (fun c xs y => by rw [del_ne (at_ne ea y exo_tup)]; exact y)
  refine ⟨t0, G, I1.call' (ch := []) ho U good hb (fun b z => absurd z (by simp)), fun b o z => ?_, no, stands, del_same⟩
  by_cases q : b = a
  · rw [q, no] at z
    cases z
  · exact (at_ b q).symm.trans z
/-- C(), C's own __init__ gives it no field -/
def tMkZ (C : Addr) (sp : Sp) : L2.St → Hp → XK → Prop := fun _ H Q => ∀ a, H a = none → sp [.ref a] (upd H a (exo a C none)) (fun v H2 => v = .non ∧ H2 a = some (exo a C none) ∧ Q (.ref C) none (del H2 a)) (fun _ _ _ => False)
theorem pmk_z {X : Cx} {p pos : Pos} {x : Str} {C : Addr} {sp : Sp} {j : Nat} (c : ErG X.prog X.w X.K X.mg X.base x C sp) (hr : Room j X.A) (hj : 2 ≤ j) (hg : Gl X x) (hdb : (x == ("__debug__" : Str)) = false) : L2N.PMk X (.Call (.Name x p) [] [] pos) (tMkZ C sp) := by
  obtain ⟨fI, fd, ps, hm, T, iC, tI, F1, b⟩ := c.ex
  intro pins s σ H Q I h
  obtain ⟨nm, q, N, bs, bm, sn, sub, ab, col, dd, k0, k1, k2, k3, k5, hC, hbm⟩ := T.cls
  refine wpAny_Call_Name_kw (ld_glob I hg hm ?_ hdb)
  refine PySem.W.callWith_K0 I.kIn T.kC ?_
  obtain ⟨hp, g, dr, tk, os⟩ := s
  generalize ex : hp.objs.size + 1 = x1 at *
  have le1 : hp.objs.size ≤ x1 := by omega
  have sp1 := h x1 (I.hok.fresh le1)
  have old : ∀ b o, hp.get? b = some o → ((hp.push (PySem.W.kdv_tup [])).push (PySem.HandSPX.excO C hp.objs.size)).get? b = some o := fun b o z =>
    Heap.get?_push_of_some _ (Heap.get?_push_of_some _ z)
  have new1 : ((hp.push (PySem.W.kdv_tup [])).push (PySem.HandSPX.excO C hp.objs.size)).get? x1 = some (PySem.HandSPX.excO C hp.objs.size) := by
    subst ex
    heap_get
  have I2 := I.laid (t' := tk) (a := x1) (o := exo x1 C none) old le1 (exo_ok new1)
  have many : ([Value.ref x1] : List Value).length = ps.length := F1.len _ _ _ _ sp1
  have bound := b _ [Value.ref x1] I2.kIn (by rw [List.append_nil]; exact many)
  rw [List.append_nil] at bound
  have run := F1.run _ X.stack _ _ ⟨[Value.ref x1], []⟩ [Value.ref x1] [V.ref x1] _ (fun _ _ _ => False) ((hr.mono hj).make C [] []) (I2.env0.make C [] []) bound (.cons rfl .nil) sp1
  refine wpAny_call (PySem.HandSPX.call_own F.excBase_ValueError (fun Y => PySem.HandSPX.refsVE_contains Y bm hbm) (I.kIn _ _ hC) (PySem.W.looks_findIn I.kIn iC) (fun self => PySem.W.bind_fn I.kIn self tI) (Nat.zero_le _) ?_)
  subst ex
  refine codeAny_mono run fun r s' back => ?_
  cases r with
  | error er => exact False.elim back
  | ok fl =>
    cases fl with
    | ret u =>
      obtain ⟨v, H2, os2, bare2, un2, hok2, rv, ev, ea, q2⟩ := back
      subst ev
      obtain ⟨h2, g2, d2, t2, os'⟩ := s'
      obtain ⟨t0, G, J, kG, ge, hoe, na⟩ := let_go (d2 := d2) (t2 := t2) I le1 old un2 hok2 os2 bare2 ea
      exact ⟨rv, _, _, _, ⟨G, g2, d2, t2, os'⟩, _, .ref C, none, rfl, J, kG, ge, hoe, ⟨rfl, rfl, fun vs z => by cases z; rfl⟩, rfl, rfl, na, rfl, bare2, raises_own T.exC T.tyC, q2⟩
    | next => exact False.elim back
    | brk => exact False.elim back
    | cont => exact False.elim back
theorem ps_raiseZ {X : Cx} {W : WX} {x : Str} {C : Addr} {sp : Sp} {j : Nat} {p pos pos' : Pos} (c : ErG X.prog X.w X.K X.mg X.base x C sp) (hr : Room j X.A) (tk : L2N.Takes X W) (hj : 2 ≤ j := by decide) (hcalm : X.calm = true := by rfl) (hg : Gl X x := by rfl) (hdb : (x == ("__debug__" : Str)) = false := by decide) :
    PS X (.Raise (some (.Call (.Name x p) [] [] pos)) none pos') (fun _ σ H => tMkZ C sp σ H fun cls d H' => W cls d σ H') :=
  L2N.ps_raise hcalm tk (pmk_z c hr hj hg hdb)
/-- no field -/
def spInit0 (C : Addr) : Sp := fun vs H Q _ => ∃ a : Addr, vs = [.ref a] ∧ H a = some (exo a C none) ∧ Q .non H
theorem mk0 {C : Addr} {σ : L2.St} {H1 : Hp} {Q : XK} (k : ∀ H2, Same H1 H2 → Q (.ref C) none H2) : tMkZ C (spInit0 C) σ H1 Q := fun a ha => ⟨a, rfl, upd_same, rfl, upd_same, k _ fun b o e => by
  have hba := ne_of_none e ha
  rw [del_ne hba, upd_ne hba]
  exact e⟩
-- part pool
/-- a pool: three values -/
def PoolAt (H : Hp) (p : Addr) : Prop := ∃ (c n : Int) (b : Bool), H p = some (.lst [.int c, .int n, .bl b])
def spPool : Sp := fun vs H Q _ => ∃ c : Int, vs = [.int c] ∧ ∀ p H', H p = none → Same H H' → PoolAt H' p → Q (.ref p) H'
-- part cell

abbrev s_cell : Stmt := top 46
theorem sc_cell : FnScope ["_law_script", "_law_k"] ["_law_script", "_law_k"] (defScope s_cell) := ⟨rfl, rfl, rfl, by decide +kernel, rfl, by decide +kernel, by decide +kernel⟩
def spCellL (K : PySem.W.Frag) : Sp := fun vs H Q _ => ∃ (a : Addr) (ns : List Int) (k : Nat), vs = [.ref a, .int (k : Int)] ∧ SqL K H a (ns.map V.int) ∧ ∀ v, Q (.int v) H
theorem ok_cell {f : Addr} {fd : FuncData} (T : Txt mg) (F : Fun K "_law_cell" "_law_cell" s_cell f fd) : FnOk P w K mg base CX0 1 f fd ["_law_script", "_law_k"] (spCellL K) := by
  refine F.ok sc_cell (fun vs H Q E h => ?_) (fun cdv A outer s H vs Q E hr h => ?_)
  · obtain ⟨a, ns, k, rfl, _⟩ := h
    rfl
  · obtain ⟨a, ns, k, rfl, hS, q⟩ := h
    refine ⟨_, (pss_cons (ps_if (pt_cmpR op_lt (pv 1) (pe_callB call_len_seq (by rfl) T.len PySem.boot_len (pa_cons (pv 0) pa_nil)) (nomark _)) (pss_one (ps_ret (pe_ix ix_list (pv 0) (pv 1) (fun _ _ => rfl)))) pss_nil)
 (pss_one (ps_ret pe_int))), ?_⟩
    refine ⟨_, rfl, _, rfl, a, _, rfl, .inl hS, _, _, rfl, rfl, _, rfl, ?_⟩
    rw [List.length_map]
    by_cases c : k < ns.length
    · refine if_pos_of (decide_eq_true (by omega)) ?_
      refine ⟨_, rfl, _, rfl, a, _, _, .int ns[k], rfl, rfl, hS, atI_nat (by rw [List.getElem?_map, List.getElem?_eq_getElem c]; rfl), ?_⟩
      exact q _
    · refine if_neg_of (decide_eq_false (by omega)) ?_
      exact q _
-- part maps
/-! comprehensions and loops whose turns leave what stood before as it was -/
/-- the list that a comprehension makes: f i behind i turns -/
def PvM (H1 : Hp) (D : Addr) (f : Nat → List V) (i : Nat) (H : Hp) : Prop := Same H1 H ∧ H D = some (.lst (f i))
theorem PvM.zero {H1 : Hp} {D : Addr} {f : Nat → List V} (hD : H1 D = none) (h0 : f 0 = []) : PvM H1 D f 0 (upd H1 D (.lst [])) := ⟨same_upd hD, by rw [h0]; exact upd_same⟩
theorem PvM.push {H1 H4 : Hp} {D : Addr} {f : Nat → List V} {i : Nat} {y : V} (hD : H1 D = none) (s : Same H1 H4) (hd : H4 D = some (.lst (f i))) (few : (f i).length < 1000) (hf : f (i + 1) = f i ++ [y]) :
    ∃ acc, H4 D = some (.lst acc) ∧ acc.length < sizeLine ∧ PvM H1 D f (i + 1) (upd H4 D (.lst (acc ++ [y]))) :=
  ⟨f i, hd, small1000 (by omega), fun b o eb => by
    rw [upd_ne (ne_of_none eb hD)]
    exact s b o eb, by rw [hf]; exact upd_same⟩
theorem PvM.skip {H1 H4 : Hp} {D : Addr} {f : Nat → List V} {i : Nat} (s : Same H1 H4) (hd : H4 D = some (.lst (f i))) (hf : f (i + 1) = f i) : PvM H1 D f (i + 1) H4 := ⟨s, by rw [hf]; exact hd⟩
section
variable {J : It} {n : Nat} {G : Hp → Prop} {Y : Nat → Hp → V → Hp → Prop}
theorem lcW (w : Walk J n G Y) {g : TG} {tt : TT} {te : TE} {vs : List Nat} {σ : L2.St} {H1 : Hp} {D : Addr} {Qd : Hp → Prop} (f : Nat → List V) (hD : H1 D = none) (h0 : f 0 = []) (hG : ∀ H, Same H1 H → G H)
    (hs : ∀ i x H H', i < n → Same H1 H → H D = some (.lst (f i)) → Y i H x H' → g x (wipe σ vs) H' fun σ2 H2 => wipe σ2 vs = wipe σ vs ∧ tt σ2 H2 fun b H3 =>
      if b = true then te σ2 H3 fun y H4 => ∃ acc, H4 D = some (.lst acc) ∧ acc.length < sizeLine ∧ PvM H1 D f (i + 1) (upd H4 D (.lst (acc ++ [y]))) else PvM H1 D f (i + 1) H3) (hd : ∀ H, Same H1 H → H D = some (.lst (f n)) → Qd H) :
    ∃ W : Nat → Nat → Hp → Prop, (∃ m, W 0 m (upd H1 D (.lst []))) ∧ ∀ i m H, W i m H →
      (J.stop i H ∧ Qd H) ∨ (J.go i H ∧ ∃ Nx : Hp → Prop, (∀ H', Nx H' → ∃ m', m' < m ∧ W (i + 1) m' H') ∧ ∀ x H', J.yld i H x H' → g x (wipe σ vs) H' fun σ2 H2 => wipe σ2 vs = wipe σ vs ∧ tt σ2 H2 fun b H3 =>
        if b = true then te σ2 H3 fun y H4 => ∃ acc, H4 D = some (.lst acc) ∧ acc.length < sizeLine ∧ Nx (upd H4 D (.lst (acc ++ [y]))) else Nx H3) :=
  lc_it w (PvM H1 D f) (PvM.zero hD h0) (fun _ H _ h => hG H h.1) (fun i x H H' hi h y => hs i x H H' hi h.1 h.2 y) fun H h => hd H h.1 h.2
end
/-- the first i of a row -/
abbrev tkV (l : List V) (i : Nat) : List V := l.take i
theorem tkV_succ {l : List V} {i : Nat} {y : V} (h : l[i]? = some y) : tkV l (i + 1) = tkV l i ++ [y] := by
  show l.take (i + 1) = l.take i ++ [y]
  rw [List.take_add_one, h]
  rfl
theorem tkV_len (l : List V) (i : Nat) : (tkV l i).length ≤ l.length := by
  show (l.take i).length ≤ l.length
  rw [List.length_take]
  omega
theorem tkV_all (l : List V) : tkV l l.length = l := List.take_length
/-- the turn of a map ends -/
theorem mapEnd {H1 H4 : Hp} {D : Addr} {ys : List V} {i : Nat} {y : V} (hD : H1 D = none) (few : ys.length < 1000) (s : Same H1 H4) (hd : H4 D = some (.lst (tkV ys i))) (hy : ys[i]? = some y) :
    ∃ acc, H4 D = some (.lst acc) ∧ acc.length < sizeLine ∧ PvM H1 D (tkV ys) (i + 1) (upd H4 D (.lst (acc ++ [y]))) :=
  PvM.push hD s hd (Nat.lt_of_le_of_lt (tkV_len ys i) few) (tkV_succ hy)
theorem map_at {α : Type} {f : α → V} {l : List α} {i : Nat} {z : α} (h : l[i]? = some z) : (l.map f)[i]? = some (f z) := by
  rw [List.getElem?_map, h]
  rfl
theorem pow_small {z : Int} {n m : Nat} (h : z.natAbs < 2 ^ n) (hnm : n ≤ m) : z.natAbs < 2 ^ m := Nat.lt_of_lt_of_le h (Nat.pow_le_pow_right (by decide) hnm)
theorem flat_rep {α : Type} (x : α) : ∀ m : Nat, (List.replicate m [x]).flatten = List.replicate m x
  | 0 => rfl
  | m + 1 => by rw [List.replicate_succ, List.flatten_cons, flat_rep x m, List.replicate_succ, List.singleton_append]
/-- len of a list or tuple, the frame named -/
def rLenS (K : PySem.W.Frag) : List V → Hp → VK → Prop := fun xs H Q => ∃ p ys, xs = [V.ref p] ∧ (SqL K H p ys ∨ SqT K H p ys) ∧ Q (V.int (ys.length : Int)) H
theorem call_len_seqK {X : Cx} {K : PySem.W.Frag} (hK : X.K = K) : CallR X (.builtin "len") (rLenS K) := by
  subst hK
  exact call_len_seq
/-- o.f, the frame named -/
theorem pe_fldK {X : Cx} {K : PySem.W.Frag} {e : Expr} {f : Str} {pos : Pos} {ta : TE} (hK : X.K = K) (he : PE X e ta) (hb : attributeBase e f X.env (eval e X.env) = eval e X.env) : PE X (.Attribute e f pos) (tFld K ta f) := by
  subst hK
  exact pe_fld he hb
/-- range(n): 0, 1, .. -/
theorem walk_range0 {n : Nat} : Walk (Itr 0 n) n (fun _ => True) (YFn fun i => .int (i : Int)) :=
  walk_range.mono (fun _ _ => trivial) fun i H x H' _ _ y => ⟨y.1, y.2.trans (congrArg V.int (Int.zero_add _))⟩
section
variable {J : It} {n : Nat} {G : Hp → Prop} {Y : Nat → Hp → V → Hp → Prop}
/-- a comprehension that makes the row ys -/
theorem lcMap (w : Walk J n G Y) {g : TG} {tt : TT} {te : TE} {vs : List Nat} {σ : L2.St} {H1 : Hp} {D : Addr} {Qd : Hp → Prop} (ys : List V) (hl : ys.length = n) (hD : H1 D = none) (hG : ∀ H, Same H1 H → G H)
    (hs : ∀ i x H H', i < n → Same H1 H → H D = some (.lst (tkV ys i)) → Y i H x H' → g x (wipe σ vs) H' fun σ2 H2 => wipe σ2 vs = wipe σ vs ∧ tt σ2 H2 fun b H3 =>
      if b = true then te σ2 H3 fun y H4 => ∃ acc, H4 D = some (.lst acc) ∧ acc.length < sizeLine ∧ PvM H1 D (tkV ys) (i + 1) (upd H4 D (.lst (acc ++ [y]))) else PvM H1 D (tkV ys) (i + 1) H3) (hd : ∀ H, Same H1 H → H D = some (.lst ys) → Qd H) :
    ∃ W : Nat → Nat → Hp → Prop, (∃ m, W 0 m (upd H1 D (.lst []))) ∧ ∀ i m H, W i m H →
      (J.stop i H ∧ Qd H) ∨ (J.go i H ∧ ∃ Nx : Hp → Prop, (∀ H', Nx H' → ∃ m', m' < m ∧ W (i + 1) m' H') ∧ ∀ x H', J.yld i H x H' → g x (wipe σ vs) H' fun σ2 H2 => wipe σ2 vs = wipe σ vs ∧ tt σ2 H2 fun b H3 =>
        if b = true then te σ2 H3 fun y H4 => ∃ acc, H4 D = some (.lst acc) ∧ acc.length < sizeLine ∧ Nx (upd H4 D (.lst (acc ++ [y]))) else Nx H3) :=
  lcW w (tkV ys) hD rfl hG hs fun H s h => hd H s (by rw [h, ← hl, tkV_all])
end
-- part menu
theorem allN {R : V → Prop} : ∀ x ∈ ([] : List V), R x := fun _ h => nomatch h
theorem allC {R : V → Prop} {a : V} {l : List V} (h : R a) (t : ∀ x ∈ l, R x) : ∀ x ∈ a :: l, R x := fun x hx => by
  rcases List.mem_cons.mp hx with e | e
  · rw [e]
    exact h
  · exact t x e
/-- an item at an open place in bounds -/
theorem at_some {xs : List V} {v : Int} (h0 : 0 ≤ v) (h1 : v < xs.length) : ∃ x, atI xs v = some x ∧ x ∈ xs := by
  have hv : ((v.toNat : Nat) : Int) = v := Int.toNat_of_nonneg h0
  have hl : v.toNat < xs.length := by omega
  have z : atI xs ((v.toNat : Nat) : Int) = some xs[v.toNat] := atI_nat (List.getElem?_eq_getElem hl)
  rw [hv] at z
  exact ⟨xs[v.toNat], z, List.getElem_mem hl⟩
def SameBut (p : Addr) (H H' : Hp) : Prop := ∀ b o, b ≠ p → H b = some o → H' b = some o
theorem SameBut.of {p : Addr} {H H' : Hp} (e : ∀ q, q ≠ p → H' q = H q) : SameBut p H H' := fun b o hb h => by
  rw [e b hb]
  exact h
theorem SameBut.trans {p : Addr} {H H1 H2 : Hp} (a : SameBut p H H1) (b : SameBut p H1 H2) : SameBut p H H2 := fun c o hc h => b c o hc (a c o hc h)
theorem sbut {p : Addr} {H H' : Hp} (s : Same H H') : SameBut p H H' := fun b o _ h => s b o h
/-- what was tracked ahead of the pool -/
theorem SameBut.same {p : Addr} {H0 H H' : Hp} (s : Same H0 H) (np : H0 p = none) (e : SameBut p H H') : Same H0 H' := fun b o h => e b o (ne_of_none h np) (s b o h)
theorem PoolAt.same {H H' : Hp} {p : Addr} (h : PoolAt H p) (s : Same H H') : PoolAt H' p := by
  obtain ⟨x, y, z, e⟩ := h
  exact ⟨x, y, z, s _ _ e⟩
theorem PoolAt.new {H : Hp} {p a : Addr} (h : PoolAt H p) (n : H a = none) : a ≠ p := fun e => by
  obtain ⟨x, y, z, q⟩ := h
  rw [e, q] at n
  cases n
-- part eqints
theorem eqvAll_ints : ∀ l m : List Int, PyData.eqvAll (l.map PyData.int) (m.map PyData.int) = decide (l = m)
  | [], [] => by rw [List.map_nil, PyData.eqvAll]; rfl
  | [], b :: m => by rw [List.map_nil, List.map_cons, PyData.eqvAll] <;> first | (exact (decide_eq_false (by simp)).symm) | skip
  | a :: l, [] => by rw [List.map_nil, List.map_cons, PyData.eqvAll] <;> first | (exact (decide_eq_false (by simp)).symm) | skip
  | a :: l, b :: m => by
    rw [List.map_cons, List.map_cons, PyData.eqvAll, PyData.eqv, eqvAll_ints l m]
    by_cases c : a = b
    · subst c
      by_cases c2 : l = m
      · subst c2
        simp
      · simp [c2]
    · simp [c]
theorem eqv_ints (l m : List Int) : PyData.eqv (.list (l.map PyData.int)) (.list (m.map PyData.int)) = decide (l = m) := by
  rw [PyData.eqv]
  exact eqvAll_ints l m
theorem eqv_intsT (l m : List Int) : PyData.eqv (.tuple (l.map PyData.int)) (.tuple (m.map PyData.int)) = decide (l = m) := by
  rw [PyData.eqv]
  exact eqvAll_ints l m
theorem canLay_ints : ∀ l : List Int, PyData.canLayAll0 (l.map PyData.int) = true
  | [] => by rw [List.map_nil, PyData.canLayAll0]
  | a :: l => by rw [List.map_cons, PyData.canLayAll0, PyData.canLay0, canLay_ints l]; rfl
theorem depth_ints : ∀ l : List Int, PyData.depthAll (l.map PyData.int) = 0
  | [] => by rw [List.map_nil, PyData.depthAll]
  | a :: l => by rw [List.map_cons, PyData.depthAll, PyData.depth, depth_ints l]; rfl
theorem shaped_ints (l : List Int) : SeqAt.shaped (.list (l.map PyData.int)) = true := by
  unfold SeqAt.shaped
  rw [PyData.canLay0, canLay_ints, PyData.depth, depth_ints]
  rfl
theorem shaped_intsT (l : List Int) : SeqAt.shaped (.tuple (l.map PyData.int)) = true := by
  unfold SeqAt.shaped
  rw [PyData.canLay0, canLay_ints, PyData.depth, depth_ints]
  rfl
theorem dpAll_ints {K : PySem.W.Frag} {H : Hp} : ∀ l : List Int, DpAll K H (l.map V.int) (l.map PyData.int)
  | [] => .nil
  | a :: l => .cons (.int a) (dpAll_ints l)
theorem dp_lst {K : PySem.W.Frag} {H : Hp} {a : Addr} {l : List Int} (h : SqL K H a (l.map V.int)) : Dp K H (.ref a) (.list (l.map PyData.int)) := .lst h (dpAll_ints l)
theorem dp_tup {K : PySem.W.Frag} {H : Hp} {a : Addr} {l : List Int} (h : SqT K H a (l.map V.int)) : Dp K H (.ref a) (.tuple (l.map PyData.int)) := .tup h (dpAll_ints l)
theorem hu64 {k : Nat} {A : Around} (hr : Room k A) : A.units + 64 < cLine := by
  have := hr.un
  omega
theorem item_int {l : List Int} {i : Nat} {y : V} (h : (l.map V.int)[i]? = some y) : ∃ z : Int, y = .int z ∧ l[i]? = some z := by
  rw [List.getElem?_map] at h
  cases e : l[i]? with
  | none =>
    rw [e] at h
    cases h
  | some z =>
    rw [e] at h
    exact ⟨z, (Option.some.inj h).symm, rfl⟩
-- part draws
abbrev s_draws : Stmt := top 47
theorem sc_draws : FnScope ["_law_cell_here", "_law_sizes", "_law_drawn", "_law_left", "_law_at", "_law_mixed"] ["_law_cell_here", "_law_sizes"] (defScope s_draws) := ⟨rfl, rfl, rfl, by decide +kernel, rfl, by decide +kernel, by decide +kernel⟩
/-- numbers drawn below their sizes -/
def Drawn (zs ds : List Int) : Prop := ds.length = zs.length ∧ ∀ (i : Nat) (d z : Int), ds[i]? = some d → zs[i]? = some z → 0 ≤ d ∧ d < z
def spDraws (K : PySem.W.Frag) : Sp := fun vs H Q _ => ∃ (c : Int) (s : Addr) (zs : List Int), vs = [.int c, .ref s] ∧ SqL K H s (zs.map V.int) ∧ zs.length < 100 ∧ (∀ z ∈ zs, 0 < z ∧ z.natAbs < 2 ^ 300) ∧
  ∀ p ds H', H p = none → Drawn zs ds → Same H H' → H' p = some (.lst (ds.map V.int)) → Q (.ref p) H'
theorem mix_small2 (z : Int) : -(2 ^ 64) < z % 2147483647 ∧ z % 2147483647 < 2 ^ 64 := by
  have h1 := Int.emod_nonneg z (show (2147483647 : Int) ≠ 0 by decide)
  have h2 := Int.emod_lt_of_pos z (show (0 : Int) < 2147483647 by decide)
  omega
theorem ok_draws {f : Addr} {fd : FuncData} (T : Txt mg) (F : Fun K "_law_draws" "_law_draws" s_draws f fd) : FnOk P w K mg base CX0 1 f fd ["_law_cell_here", "_law_sizes"] (spDraws K) := by
  refine F.ok sc_draws (fun vs H Q E h => ?_) (fun cdv A outer s H vs Q E hr h => ?_)
  · obtain ⟨c, s, zs, rfl, _⟩ := h
    rfl
  · obtain ⟨c, s, zs, rfl, hS, few, hz, q⟩ := h
    refine ⟨_, (pss_cons (ps_set (i := 2) sc_draws.nd rfl (Or.inl rfl) (pe_lst pa_nil))
 (pss_cons (ps_set (i := 3) sc_draws.nd rfl (Or.inl rfl) (pe_callB call_abs (by rfl) T.abs boot_abs (pa_cons (pv 0) pa_nil)))
 (pss_cons (ps_for PassesOwn.never rfl (pi_range1 rfl T.range (pa_cons (pe_callB call_len_seq (by rfl) T.len PySem.boot_len (pa_cons (pv 1) pa_nil)) pa_nil)) (pg_name (i := 4) sc_draws.nd rfl (Or.inl rfl)) (pss_one (ps_if (pt_cmpR op_ge (pe_callB call_abs (by rfl) T.abs boot_abs (pa_cons (pv 0) pa_nil)) (pe_op op_pow pe_int pe_int) (nomark _)) (pss_cons (ps_expr (pe_bm PySem.F.plainAttrs_list PySem.F.slot_list_append PySem.F.type_list_append mt_append (pv 2) (pa_cons (pe_op op_mod (pe_callTy call_int1 (by rfl) T.int boot_int (pa_cons (pv 3) pa_nil)) (pe_ix ix_list (pv 1) (pv 4) (fun _ _ => rfl))) pa_nil)))
 (pss_one (ps_set (i := 3) sc_draws.nd rfl (Or.inl rfl) (pe_op op_fdivW (pv 3) (pe_ix ix_list (pv 1) (pv 4) (fun _ _ => rfl)))))) (pss_cons (ps_set (i := 5) sc_draws.nd rfl (Or.inl rfl) (pe_op op_mod (pe_callTy call_int1 (by rfl) T.int boot_int (pa_cons (pe_op op_mul (pe_op op_add (pe_op op_add (pv 3) (pe_op op_mul pe_int (pv 4))) pe_int) pe_int) pa_nil)) pe_int))
 (pss_cons (ps_set (i := 5) sc_draws.nd rfl (Or.inl rfl) (pe_op op_mod (pe_callTy call_int1 (by rfl) T.int boot_int (pa_cons (pe_op op_add (pe_op op_add (pe_op op_mul (pe_op op_mul (pv 5) (pv 5)) pe_int) (pe_op op_mul pe_int (pv 4))) (pv 5)) pa_nil)) pe_int))
 (pss_one (ps_expr (pe_bm PySem.F.plainAttrs_list PySem.F.slot_list_append PySem.F.type_list_append mt_append (pv 2) (pa_cons (pe_op op_mod (pe_op op_fdivW (pv 5) pe_int) (pe_ix ix_list (pv 1) (pv 4) (fun _ _ => rfl))) pa_nil)))))))))
 (pss_one (ps_ret (pv 2)))))), ?_⟩
    refine ⟨(by show 0 ≤ sizeLine; decide), fun D nD => ⟨_, rfl, _, rfl, ?_⟩⟩
    have g1 := same_upd (o := .lst []) nD
    refine ⟨_, rfl, s, _, rfl, .inl (g1.seq hS), _, rfl, (by rw [List.length_map]; omega), (by rw [List.length_map]; omega), ?_⟩
    refine for_range (lo := 0) (n := _) (fun i σ H' => ∃ (ds : List Int) (left : Int) (x4 x5 : Option V), σ = [some (.int c), some (.ref s), some (.ref D), some (.int left), x4, x5] ∧ Same H H' ∧ H' D = some (.lst (ds.map V.int)) ∧ ds.length = i ∧
        ∀ (j : Nat) (d z : Int), ds[j]? = some d → zs[j]? = some z → 0 ≤ d ∧ d < z) ⟨[], _, none, none, rfl, g1, upd_same, rfl, fun j d z h => by cases h⟩ ?_ ?_
    · rintro i σ H' hi ⟨ds, left, x4, x5, rfl, s1, hD, hl, hds⟩
      have hi : i < zs.length := by
        have hi' : i < (zs.map V.int).length := by simpa using hi
        rwa [List.length_map] at hi'
      have hzi : zs[i]? = some zs[i] := List.getElem?_eq_getElem hi
      obtain ⟨zp, zb⟩ := hz _ (List.mem_of_getElem? hzi)
      generalize ez : zs[i] = z at hzi zp zb
      have at_z : atI (zs.map V.int) (0 + (i : Int)) = some (V.int z) := by
        rw [Int.zero_add]
        exact atI_nat (map_at hzi)
      have more : ∀ d : Int, 0 ≤ d → d < z → ∀ (j : Nat) (d' z' : Int), (ds ++ [d])[j]? = some d' → zs[j]? = some z' → 0 ≤ d' ∧ d' < z' := fun d h0 h1 j d' z' hd' hz' => by
        by_cases c : j < ds.length
        · rw [List.getElem?_append_left c] at hd'
          exact hds j d' z' hd' hz'
        · rw [List.getElem?_append_right (by omega)] at hd'
          have e : j = i := by
            by_cases e : j - ds.length = 0
            · omega
            · rw [List.getElem?_eq_none (by show 1 ≤ j - ds.length; omega)] at hd'
              cases hd'
          subst e
          rw [hl, Nat.sub_self] at hd'
          cases hd'
          rw [hzi] at hz'
          cases hz'
          exact ⟨h0, h1⟩
      have fin : ∀ (d left : Int) (x4 x5 : Option V), 0 ≤ d → d < z → ∃ (ds' : List Int) (left' : Int) (y4 y5 : Option V), [some (.int c), some (.ref s), some (.ref D), some (.int left), x4, x5] = [some (.int c), some (.ref s), some (.ref D), some (.int left'), y4, y5] ∧
          Same H (upd H' D (.lst (ds.map V.int ++ [.int d]))) ∧ (upd H' D (.lst (ds.map V.int ++ [.int d]))) D = some (.lst (ds'.map V.int)) ∧ ds'.length = i + 1 ∧ ∀ (j : Nat) (d z : Int), ds'[j]? = some d → zs[j]? = some z → 0 ≤ d ∧ d < z := fun d left x4 x5 h0 h1 =>
        ⟨ds ++ [d], left, x4, x5, rfl, fun b o eb => by
          rw [upd_ne (ne_of_none eb nD)]
          exact s1 b o eb, by rw [List.map_append]; exact upd_same, by rw [List.length_append, hl]; rfl, more d h0 h1⟩
      have few2 : (ds.map V.int).length < sizeLine := by rw [List.length_map]; exact small1000 (by omega)
      refine ⟨_, rfl, _, rfl, _, _, rfl, rfl, ⟨by decide, by decide, by decide⟩, _, _, rfl, rfl, _, rfl, ?_⟩
      by_cases c1 : (10 : Int) ^ 18 ≤ if c < 0 then -c else c
      · refine if_pos_of (decide_eq_true c1) ?_
        refine ⟨_, rfl, .inl ⟨rfl, _, SqL.of hD⟩, _, rfl, .inl ⟨_, rfl, _, rfl, _, rfl, s, _, _, _, rfl, rfl, s1.seq hS, at_z, _, _, rfl, rfl, zp, D, _, _, rfl, rfl, hD, few2, ?_⟩⟩
        have s2 : Same H (upd H' D (.lst (ds.map V.int ++ [.int (left % z)]))) := fun b o eb => by
          rw [upd_ne (ne_of_none eb nD)]
          exact s1 b o eb
        refine ⟨_, rfl, _, rfl, _, rfl, s, _, _, _, rfl, rfl, s2.seq hS, at_z, _, _, rfl, rfl, ⟨zp, PySem.Flt.log2_lt_of (by decide) (pow_small zb (by decide))⟩, ?_⟩
        exact fin _ _ _ _ (Int.emod_nonneg _ (by omega)) (Int.emod_lt_of_pos _ zp)
      · refine if_neg_of (decide_eq_false c1) ?_
        refine ⟨_, rfl, _, rfl, _, _, rfl, rfl, .inl ⟨by decide, by decide⟩, _, _, rfl, rfl, _, _, rfl, rfl, _, _, rfl, rfl, .inr ⟨by decide, by decide⟩, .inl ⟨_, rfl, _, _, rfl, rfl, (by show (0 : Int) < 2147483647; decide), ?_⟩⟩
        refine ⟨_, rfl, _, rfl, _, _, rfl, rfl, .inl (mix_small2 _), _, _, rfl, rfl, .inr ⟨by decide, by decide⟩, _, rfl, _, _, rfl, rfl, .inl ⟨by decide, by decide⟩, _, _, rfl, rfl, _, rfl, _, _, rfl, rfl, .inl ⟨_, rfl, _, _, rfl, rfl, (by show (0 : Int) < 2147483629; decide), ?_⟩⟩
        refine ⟨_, rfl, .inl ⟨rfl, _, SqL.of hD⟩, _, rfl, _, _, rfl, rfl, ⟨by decide, by decide⟩, _, rfl, _, rfl, s, _, _, _, rfl, rfl, s1.seq hS, at_z, _, _, rfl, rfl, zp, D, _, _, rfl, rfl, hD, few2, ?_⟩
        exact fin _ _ _ _ (Int.emod_nonneg _ (by omega)) (Int.emod_lt_of_pos _ zp)
    · rintro σ H' ⟨ds, left, x4, x5, rfl, s1, hD, hl, hds⟩
      have hl' : ds.length = zs.length := by simpa using hl
      exact ⟨_, rfl, q D ds H' nD ⟨hl', hds⟩ s1 hD⟩
-- part ownops
/-! operators of an own class -/
/-- a method of the class at C, by its promise -/
structure Me (P : Program) (w : World) (K : PySem.W.Frag) (mg : Str → Option Value) (base : Heap) (k : Nat) (C : Addr) (m : Str) (sp : Sp) : Prop where
  ex : ∃ (f : Addr) (fd : FuncData) (ps : List Str), Meth K C m f ∧ FnOk P w K mg base CX0 k f fd ps sp ∧ Binds K fd ps []
section
variable {X : Cx} {C : Addr} {m : Str} {sp : Sp} {k j : Nat}
theorem inst_of {pins : List (Addr × Obj)} {σ : L2.St} {H : Hp} {s : Shared} {a dx : Addr} {fs : List (Str × V)} (I : Inv X pins σ H s) (e : H a = some (.ins C dx fs)) : ∃ ox od, PySem.W.InstAt s.heap a ox C od := by
  obtain ⟨mA, O, _⟩ := ins_get I.hok e
  obtain ⟨od, J, _⟩ := O.look
  exact ⟨_, _, J⟩
/-- x op y of two instances -/
def rOwn2 (C : Addr) (sp : Sp) : R2 := fun x y H Q => ∃ a b dx dy fs gs, x = .ref a ∧ y = .ref b ∧ H a = some (.ins C dx fs) ∧ H b = some (.ins C dy gs) ∧ sp [x, y] H Q E0
theorem op_own2 {op : Operator} (c : Me X.prog X.w X.K X.mg X.base k C m sp) (hr : Room j X.A) (sf : PySem.W.selfFirst X.K C = true) (hm : PySem.dunder op.info.2 = m := by decide +kernel) (hk : k ≤ j := by decide) : OpR X (binaryOp op) (rOwn2 C sp) := by
  obtain ⟨f, fd, ps, M, F, b⟩ := c.ex
  intro pins s σ H x y v u Q I rx ry h
  obtain ⟨a, b', dx, dy, fs, gs, rfl, rfl, ha, hb, q⟩ := h
  cases (show v = Value.ref a from rx)
  cases (show u = Value.ref b' from ry)
  obtain ⟨ox, od, J⟩ := inst_of I ha
  obtain ⟨oy, od', J'⟩ := inst_of I hb
  obtain ⟨mm, hF⟩ := I.fr
  refine PySem.W.binop_K hF I.ok.mod.kin J J'.type sf (by rw [hm]; exact M.at_) M.fn ?_
  refine wpAny_mono (run_fn (us := [.ref a, .ref b']) (vs := [.ref a, .ref b']) F (hr.mono hk) b .nil pass0 I (.cons rfl (.cons rfl .nil)) q) (fun u' s' z => ?_) fun _ _ x => x
  obtain ⟨z', H', I', rz, qz⟩ := z
  exact SlX.cmpback rz ⟨z', H', I', rz, qz⟩
/-- op x of an instance -/
def rOwn1 (C : Addr) (sp : Sp) : V → Hp → VK → Prop := fun x H Q => ∃ a dx fs, x = .ref a ∧ H a = some (.ins C dx fs) ∧ sp [x] H Q E0
theorem un_inv1 (c : Me X.prog X.w X.K X.mg X.base k C "__invert__" sp) (hr : Room j X.A) (hk : k ≤ j := by decide) : UnR X (unaryOp .Invert) (rOwn1 C sp) := by
  obtain ⟨f, fd, ps, M, F, b⟩ := c.ex
  intro pins s σ H x v Q I rx h
  obtain ⟨a, dx, fs, rfl, ha, q⟩ := h
  cases (show v = Value.ref a from rx)
  obtain ⟨ox, od, J⟩ := inst_of I ha
  obtain ⟨mm, hF⟩ := I.fr
  exact PySem.W.ksp_inv hF I.ok.mod.kin J M.at_ M.fn (run_fn (us := [.ref a]) (vs := [.ref a]) F (hr.mono hk) b .nil pass0 I (.cons rfl .nil) q)
theorem un_neg1 (c : Me X.prog X.w X.K X.mg X.base k C "__neg__" sp) (hr : Room j X.A) (hk : k ≤ j := by decide) : UnR X (unaryOp .USub) (rOwn1 C sp) := by
  obtain ⟨f, fd, ps, M, F, b⟩ := c.ex
  intro pins s σ H x v Q I rx h
  obtain ⟨a, dx, fs, rfl, ha, q⟩ := h
  cases (show v = Value.ref a from rx)
  obtain ⟨ox, od, J⟩ := inst_of I ha
  obtain ⟨mm, hF⟩ := I.fr
  exact PySem.W.ksp_neg hF I.ok.mod.kin J M.at_ M.fn (run_fn (us := [.ref a]) (vs := [.ref a]) F (hr.mono hk) b .nil pass0 I (.cons rfl .nil) q)
/-- x in y, y an instance: the answer a bool -/
def rOwnIn (neg : Bool) (C : Addr) (sp : Sp) : R2 := fun x y H Q => ∃ b dx fs, y = .ref b ∧ H b = some (.ins C dx fs) ∧ sp [y, x] H (fun v H' => ∃ c : Bool, v = .bl c ∧ Q (.bl (if neg then !c else c)) H') E0
theorem op_in_own (c : Me X.prog X.w X.K X.mg X.base k C "__contains__" sp) (hr : Room j X.A) (hk : k ≤ j := by decide) : OpR X (compareOp .In) (rOwnIn false C sp) := by
  obtain ⟨f, fd, ps, M, F, b⟩ := c.ex
  intro pins s σ H x y v u Q I rx ry h
  obtain ⟨a, dx, fs, rfl, ha, q⟩ := h
  cases (show u = Value.ref a from ry)
  obtain ⟨ox, od, J⟩ := inst_of I ha
  obtain ⟨mm, hF⟩ := I.fr
  refine PySem.W.in_K hF I.ok.mod.kin J M.at_ M.fn (wpAny_mono (run_fn (us := [.ref a, v]) (vs := [.ref a, x]) F (hr.mono hk) b .nil pass0 I (.cons rfl (.cons rx .nil)) q) (fun u' s' z => ?_) fun _ _ x => x)
  obtain ⟨z', H', I', rz, d, ez, qz⟩ := z
  subst ez
  cases (show u' = Value.bool d from rz)
  exact wpAny_truthy_bool ⟨.bl d, H', I', rfl, qz⟩
theorem op_notIn_own (c : Me X.prog X.w X.K X.mg X.base k C "__contains__" sp) (hr : Room j X.A) (hk : k ≤ j := by decide) : OpR X (compareOp .NotIn) (rOwnIn true C sp) := by
  obtain ⟨f, fd, ps, M, F, b⟩ := c.ex
  intro pins s σ H x y v u Q I rx ry h
  obtain ⟨a, dx, fs, rfl, ha, q⟩ := h
  cases (show u = Value.ref a from ry)
  obtain ⟨ox, od, J⟩ := inst_of I ha
  obtain ⟨mm, hF⟩ := I.fr
  refine PySem.W.notIn_K hF I.ok.mod.kin J M.at_ M.fn (wpAny_mono (run_fn (us := [.ref a, v]) (vs := [.ref a, x]) F (hr.mono hk) b .nil pass0 I (.cons rfl (.cons rx .nil)) q) (fun u' s' z => ?_) fun _ _ x => x)
  obtain ⟨z', H', I', rz, d, ez, qz⟩ := z
  subst ez
  cases (show u' = Value.bool d from rz)
  exact wpAny_truthy_bool ⟨.bl (!d), H', I', rfl, qz⟩
/-- x == y of two instances -/
theorem op_eq_own (c : Me X.prog X.w X.K X.mg X.base k C "__eq__" sp) (hr : Room j X.A) (hk : k ≤ j := by decide) : OpR X (compareOp .Eq) (rOwn2 C sp) := by
  obtain ⟨f, fd, ps, M, F, b⟩ := c.ex
  intro pins s σ H x y v u Q I rx ry h
  obtain ⟨a, b', dx, dy, fs, gs, rfl, rfl, ha, hb, q⟩ := h
  cases (show v = Value.ref a from rx)
  cases (show u = Value.ref b' from ry)
  obtain ⟨ox, od, J⟩ := inst_of I ha
  obtain ⟨oy, od', J'⟩ := inst_of I hb
  obtain ⟨mm, hF⟩ := I.fr
  show wpAny _ _ (richCompare .Eq (.ref a) (.ref b')) _ _ _
  refine PySem.W.cmp_K (op := .Eq) (tb := .ref C) hr.units0 hF I.ok.mod.kin J J'.type (by unfold PySem.W.notFirst; simp) M.at_ M.fn ?_
  refine wpAny_mono (run_fn (us := [.ref a, .ref b']) (vs := [.ref a, .ref b']) F (hr.mono hk) b .nil pass0 I (.cons rfl (.cons rfl .nil)) q) (fun u' s' z => ?_) fun _ _ x => x
  obtain ⟨z', H', I', rz, qz⟩ := z
  exact SlX.cmpback rz ⟨z', H', I', rz, qz⟩
/-- the truth of an instance, by its __bool__ -/
def rTruOwn (C : Addr) (sp : Sp) : V → Hp → (Bool → Hp → Prop) → Prop := fun x H Q => ∃ a dx fs, x = .ref a ∧ H a = some (.ins C dx fs) ∧ sp [x] H (fun v H' => ∃ c : Bool, v = .bl c ∧ Q c H') E0
theorem tru_own (c : Me X.prog X.w X.K X.mg X.base k C "__bool__" sp) (hr : Room j X.A) (hk : k ≤ j := by decide) : TruR X (rTruOwn C sp) := by
  obtain ⟨f, fd, ps, M, F, b⟩ := c.ex
  intro pins s σ H x v Q I rx h
  obtain ⟨a, dx, fs, rfl, ha, q⟩ := h
  cases (show v = Value.ref a from rx)
  obtain ⟨ox, od, J⟩ := inst_of I ha
  obtain ⟨mm, hF⟩ := I.fr
  refine PySem.W.truthy_K hF I.ok.mod.kin J M.at_ M.fn (wpAny_mono (run_fn (us := [.ref a]) (vs := [.ref a]) F (hr.mono hk) b .nil pass0 I (.cons rfl .nil) q) (fun u' s' z => ?_) fun _ _ x => x)
  obtain ⟨z', H', I', rz, d, ez, qz⟩ := z
  subst ez
  cases (show u' = Value.bool d from rz)
  exact ⟨H', I', qz⟩
end
/-- a class that makes instances, its __init__ by its promise (it may raise, and here doesn't) -/
structure Ma (P : Program) (w : World) (K : PySem.W.Frag) (mg : Str → Option Value) (base : Heap) (k : Nat) (C : Addr) (sp : Sp) : Prop where
  ex : ∃ (f : Addr) (fd : FuncData) (ps : List Str), Mk K C f ∧ FnOk P w K mg base (L2N.CX P w) k f fd ps sp ∧ Binds K fd ps []
section
variable {X : Cx} {C : Addr} {x : Str} {sp : Sp} {k j i : Nat} {p pos : Pos} {e : Expr} {es : List Expr} {t : TA}
theorem pe_ma (c : Ma X.prog X.w X.K X.mg X.base k C sp) (hr : Room j X.A) (hm : X.mg x = some (.ref C)) (ha : PA X (e :: es) t) (hk : k + 1 ≤ j := by decide) (hg : Gl X x := by rfl)
    (hdb : (x == ("__debug__" : Str)) = false := by decide) (he : starEach (e :: es) X.env = (false, eval e X.env) :: starEach es X.env := by rfl) (hpl : (backTo pos (starEach es X.env)).any (·.1) = false := by rfl) :
    PE X (.Call (.Name x p) (e :: es) [] pos) (tMake C sp [] E0 t) := by
  obtain ⟨f, fd, ps, M, F, b⟩ := c.ex
  exact pe_make M F (hr.mono hk) hg hm b .nil passN ha hdb he hpl
/-- cls(..), cls a parameter that holds the class -/
def tMakeL (i : Nat) (C : Addr) (sp : Sp) (t : TA) : TE := fun σ H Q => σ[i]? = some (some (.ref C)) ∧ tMake C sp [] E0 t σ H Q
theorem pe_maL (c : Ma X.prog X.w X.K X.mg X.base k C sp) (hr : Room j X.A) (hN : X.N[i]? = some x) (ha : PA X (e :: es) t) (hk : k + 1 ≤ j := by decide)
    (hv : Vis X.env.scope x := by first | exact Or.inl rfl | exact Or.inr (Or.inl rfl) | exact Or.inr (Or.inr rfl))
    (hdb : (x == ("__debug__" : Str)) = false := by decide) (hcd : (x == ("__classdict__" : Str)) = false := by decide)
    (he : starEach (e :: es) X.env = (false, eval e X.env) :: starEach es X.env := by rfl) (hpl : (backTo pos (starEach es X.env)).any (·.1) = false := by rfl) :
    PE X (.Call (.Name x p) (e :: es) [] pos) (tMakeL i C sp t) := by
  obtain ⟨f, fd, ps, M, F, b⟩ := c.ex
  refine ⟨fun pins s σ H Q I h => ?_⟩
  obtain ⟨at_i, rest⟩ := h
  refine wpAny_Call_Name_kw (thn ((pe_var (pos := p) hN hv hdb hcd).run pins s σ H (fun v G => v = .ref C ∧ G = H) I ⟨.ref C, at_i, rfl, rfl⟩) fun u s1 ⟨v, G, I1, r1, e1, e2⟩ => ?_)
  subst e1
  subst e2
  cases r1
  refine PySem.W.callWith_K (h₀ := X.base) I.ok.mod.kin M.kp (thn (ha.run pos pins s1 σ _ _ I1 rest) fun us s2 ⟨vs, G2, I2, r, q⟩ => ⟨I2.kIn, ?_⟩) he hpl
  exact run_make M F (hr.mono hk) b .nil passN I2 r q
end
-- part ownops2
/-! bool(x) and x == y, where y is no instance; classmethods by FnR; C(..) in a try -/
section
variable {X : Cx} {C : Addr} {m : Str} {sp : Sp} {k j : Nat}
/-- bool(x) of an instance -/
def rBoolOwn (C : Addr) (sp : Sp) : List V → Hp → VK → Prop := fun xs H Q => ∃ a dx fs, xs = [.ref a] ∧ H a = some (.ins C dx fs) ∧ sp [.ref a] H (fun v H' => ∃ c : Bool, v = .bl c ∧ Q (.bl c) H') E0
theorem new_bool_any {prog : Program} {w : World} (x : Value) : MeetsIn prog w (Builtin.«bool.__new__» ⟨[.type "bool", x], []⟩)
    (fun A R s => wpAny (model prog w) A.in1 (truthy x) (fun b s1 => R (.ok (.ret (.bool b))) s1) (fun e s1 => R (.error e) s1) s) :=
  .of_wp fun A R s h => by
    have no_bool := F.conv_sub_bool
    unfold Builtin.«bool.__new__»
    generalize same : truthy = TX
    wp_walk
    subst same
    refine wpAny_mono h (fun b s1 hR => ?_) fun _ _ z => z
    exact wpAny_pure ⟨_, rfl, hR⟩
theorem cr_boolOwn (c : Me X.prog X.w X.K X.mg X.base k C "__bool__" sp) (hr : Room j X.A) (hk : k + 2 ≤ j := by decide) : CallR X (.type "bool") (rBoolOwn C sp) := by
  obtain ⟨f, fd, ps, M, F, b⟩ := c.ex
  intro pins s σ H xs us Q I r h
  obtain ⟨a, dx, fs, rfl, ha, q⟩ := h
  obtain rfl := Vals.ref1 r
  obtain ⟨ox, od, J⟩ := inst_of I ha
  obtain ⟨mm, hF⟩ := I.fr
  have many : ([Value.ref a] : List Value).length = ps.length := F.len [.ref a] _ _ _ q
  have bound := b s [.ref a] I.kIn (by rw [List.append_nil]; exact many)
  rw [List.append_nil] at bound
  refine callType_newIn PySem.F.called_bool PySem.F.newNe_bool (PySem.F.typeCall_bool_1 _) (PySem.F.newCall_bool_1 _) (fun obj => PySem.F.args_object_init_2 obj _) PySem.F.entry_bool_new (new_bool_any _) ?_
  refine PySem.W.truthy_K hF I.ok.mod.kin J M.at_ M.fn (wpAny_call (codeAny_mono (F.run _ X.stack s H ⟨[.ref a], []⟩ [.ref a] [.ref a] _ E0 ((hr.mono hk).in1.in1) (I.env0.in1.in1) bound (.cons rfl .nil) q) fun r s' hq => ?_))
  cases r with
  | error e => exact False.elim hq
  | ok fl =>
    cases fl with
    | ret u =>
      obtain ⟨z', H', I', rz, d, ez, qz⟩ := I.after hq
      subst ez
      cases (show u = Value.bool d from rz)
      exact ⟨rfl, .bl d, H', I', rfl, qz⟩
    | next => exact False.elim hq
    | brk => exact False.elim hq
    | cont => exact False.elim hq
/-- x == y, y a tuple -/
def rOwnT (C : Addr) (sp : Sp) : R2 := fun x y H Q => ∃ a b dx fs zs, x = .ref a ∧ y = .ref b ∧ H a = some (.ins C dx fs) ∧ H b = some (.tup zs) ∧ sp [x, y] H Q E0
theorem op_eq_ownT (c : Me X.prog X.w X.K X.mg X.base k C "__eq__" sp) (hr : Room j X.A) (nf : PySem.W.subIn X.K (.type "tuple") (.ref C) = some false) (hk : k ≤ j := by decide) : OpR X (compareOp .Eq) (rOwnT C sp) := by
  obtain ⟨f, fd, ps, M, F, b⟩ := c.ex
  intro pins s σ H x y v u Q I rx ry h
  obtain ⟨a, b', dx, fs, zs, rfl, rfl, ha, hb, q⟩ := h
  cases (show v = Value.ref a from rx)
  cases (show u = Value.ref b' from ry)
  obtain ⟨ox, od, J⟩ := inst_of I ha
  obtain ⟨_, _, _, o, h1, h2, _⟩ := (show ObjOk X.prog X.w H s.heap b' (.tup zs) from I.hok b' _ hb)
  obtain ⟨mm, hF⟩ := I.fr
  show wpAny _ _ (richCompare .Eq (.ref a) (.ref b')) _ _ _
  refine PySem.W.cmp_K (op := .Eq) (tb := .type "tuple") hr.units0 hF I.ok.mod.kin J (fun A Q E s k q => wpAny_typeOf_ref (k _ _ h1) (by rw [h2]; exact q)) (by unfold PySem.W.notFirst; rw [nf]; simp) M.at_ M.fn ?_
  refine wpAny_mono (run_fn (us := [.ref a, .ref b']) (vs := [.ref a, .ref b']) F (hr.mono hk) b .nil pass0 I (.cons rfl (.cons rfl .nil)) q) (fun u' s' z => ?_) fun _ _ x => x
  obtain ⟨z', H', I', rz, qz⟩ := z
  exact SlX.cmpback rz ⟨z', H', I', rz, qz⟩
end
/-- a classmethod by what its call does -/
structure CmR (P : Program) (w : World) (K : PySem.W.Frag) (mg : Str → Option Value) (base : Heap) (k : Nat) (C : Addr) (m : Str) (sp : Sp) : Prop where
  ex : ∃ (mc : Value) (p g : Addr), ClX.CRead K C mc ∧ ClX.CMet K C mc m p g ∧ FnR P w K mg base CX0 k g sp
theorem pe_cmR {X : Cx} {C : Addr} {m : Str} {sp : Sp} {k j : Nat} {o e : Expr} {es : List Expr} {ta : TE} {t : TA} {apos pos : Pos} {pl : Sem Bool} (c : CmR X.prog X.w X.K X.mg X.base k C m sp) (hr : Room j X.A) (he : PE X o ta) (ha : PA X (e :: es) t) (hk : k ≤ j := by decide)
    (hst : starEach (e :: es) X.env = (false, eval e X.env) :: starEach es X.env := by rfl) (hpl : (backTo pos (starEach es X.env)).any (·.1) = false := by rfl)
    (ht : eval (.Call (.Attribute o m apos) (e :: es) [] pos) X.env = (do
      let got ← eval o X.env
      standAt apos.atName
      let (fn, fst) ← holding [got] (getMethod got m pl)
      callWith pos fn fst (backTo pos (starEach (e :: es) X.env)) (backToKw pos (keywordEach [] X.env))) := by rfl) :
    PE X (.Call (.Attribute o m apos) (e :: es) [] pos) (ClX.tCMeth C sp E0 ta t) := by
  obtain ⟨mc, p, g, r, c, F⟩ := c.ex
  exact ClX.pe_cmeth he r c F (hr.mono hk) pass0 ha hst hpl ht
theorem pe_cmR0 {X : Cx} {C : Addr} {m : Str} {sp : Sp} {k j : Nat} {o : Expr} {ta : TE} {apos pos : Pos} {pl : Sem Bool} (c : CmR X.prog X.w X.K X.mg X.base k C m sp) (hr : Room j X.A) (he : PE X o ta) (hk : k ≤ j := by decide)
    (ht : eval (.Call (.Attribute o m apos) [] [] pos) X.env = (do
      let got ← eval o X.env
      standAt apos.atName
      let (fn, fst) ← holding [got] (getMethod got m pl)
      callWith pos fn fst (backTo pos (starEach [] X.env)) (backToKw pos (keywordEach [] X.env))) := by rfl) :
    PE X (.Call (.Attribute o m apos) [] [] pos) (ClX.tCMeth C sp E0 ta tNil) := by
  obtain ⟨mc, p, g, r, c, F⟩ := c.ex
  refine ⟨fun pins s σ H Q I h => ?_⟩
  refine PySem.W.methodCall_KW (pl := pl) (thn (he.run pins s σ H _ I h) fun u s1 ⟨x, H1, I1, rx, ex, q⟩ => ?_) ht
  subst ex
  obtain rfl : u = Value.ref C := rx
  refine ClX.getmethcm_ok I1 r c fun s2 I2 => ?_
  have hq := ClX.pin_at I2
  show wpAny _ _ (callWith pos (Value.ref s1.heap.objs.size) [] (backTo pos (starEach [] X.env)) []) _ _ _
  refine PySem.W.callWith_M0 (K := X.K) (g := g) (self := .ref C) ?_ c.fi ?_
  · exact ⟨hq, I2.kIn⟩
  · exact ClX.run_cm (us := []) (vs := []) F (hr.mono hk) pass0 I2 .nil q
/-- C(..) whose __init__ may raise, in a try that takes it -/
def tMakeS (C : Addr) (sp : Sp) (E : L2.St → XK) (t : TA) : TE := fun σ H Q => tMake C sp [] (E σ) t σ H Q
theorem pe_maX {X : Cx} {W : WX} {C : Addr} {x : Str} {sp : Sp} {k j : Nat} {p pos : Pos} {e : Expr} {es : List Expr} {t : TA} (c : Ma X.prog X.w X.K X.mg X.base k C sp) (hr : Room j X.A) (tk : L2N.Takes X W) (hm : X.mg x = some (.ref C)) (ha : PA X (e :: es) t) (hk : k + 1 ≤ j := by decide) (hg : Gl X x := by rfl)
    (hdb : (x == ("__debug__" : Str)) = false := by decide) (he : starEach (e :: es) X.env = (false, eval e X.env) :: starEach es X.env := by rfl) (hpl : (backTo pos (starEach es X.env)).any (·.1) = false := by rfl) :
    PE X (.Call (.Name x p) (e :: es) [] pos) (tMakeS C sp (WE W) t) := by
  obtain ⟨f, fd, ps, M, F, b⟩ := c.ex
  refine ⟨fun pins s σ H Q I h => ?_⟩
  refine wpAny_Call_Name_kw (ld_glob I hg hm ?_ hdb)
  refine PySem.W.callWith_K (h₀ := X.base) I.ok.mod.kin M.kp (thn (ha.run pos pins s σ H _ I h) fun us s1 ⟨vs, H1, I1, r, q⟩ => ⟨I1.kIn, ?_⟩) he hpl
  generalize ez : s1.heap.objs.size = z
  have le0 : s1.heap.objs.size ≤ z := by rw [ez]; exact Nat.le_refl z
  have asks := q (z + 1) z (I1.hok.fresh (Nat.le_succ_of_le le0)) (I1.hok.fresh le0) (Nat.ne_of_lt (Nat.lt_succ_self z))
  have laid := Inv.made (C := C) I1
  rw [ez] at laid
  have rel : Vals (V.ref (z + 1) :: vs) (Value.ref (z + 1) :: us) := .cons rfl r
  rw [List.append_nil] at asks
  have many : (Value.ref (z + 1) :: us).length = ps.length := by
    rw [← rel.length]
    exact F.len _ _ _ _ asks
  have bound := b _ (Value.ref (z + 1) :: us) laid.kIn (by rw [List.append_nil]; exact many)
  rw [List.append_nil] at bound
  have runs := F.run _ X.stack _ _ ⟨Value.ref (z + 1) :: us, []⟩ (Value.ref (z + 1) :: us) _ _ (WE W σ) ((hr.mono hk).make C us []) (laid.env0.make C us []) bound rel asks
  subst ez
  refine wpAny_call (make_map (f := f) I1.kIn M.makes M.init (beq_iff_eq.mp M.fn) (codeAny_mono runs fun r' s' back => ?_))
  cases r' with
  | error er => exact L2N.passAt tk σ pins _ _ er s' laid back
  | ok fl =>
    cases fl with
    | ret u =>
      obtain ⟨v, H', I3, rv, ev, q3⟩ := laid.after back
      subst ev
      cases (show u = Value.none from rv)
      exact ⟨rfl, .ref _, H', I3, rfl, q3⟩
    | next => exact False.elim back
    | brk => exact False.elim back
    | cont => exact False.elim back
theorem kit_ownF {C : Addr} {U : String} (h2 : PySem.W.isClsIn K C = true) (h3 : PySem.W.typeIn K (.ref C) = some (.type "type")) (h : PySem.W.subIn K (.type U) (.ref C) = some false) : PySem.W.kitOne K (.type U) (.ref C) = some false := by
  have h2' : (PySem.W.clsIn K C).isSome = true := h2
  have e2 : ((PySem.W.clsIn K C).isSome && PySem.W.typeIn K (.ref C) == some (.type "type")) = true := by rw [h2', h3] <;> rfl
  unfold PySem.W.kitOne
  rw [if_neg (by simp)]
  show (if ((PySem.W.clsIn K C).isSome && PySem.W.typeIn K (.ref C) == some (.type "type")) = true then PySem.W.subIn K (.type U) (.ref C) else none) = some false
  rw [if_pos e2]
  exact h
-- part clsm
/-- a call of a classmethod without arguments -/
structure Cm (P : Program) (w : World) (K : PySem.W.Frag) (mg : Str → Option Value) (base : Heap) (k : Nat) (C : Addr) (m : Str) (sp : Sp) : Prop where
  ex : ∃ (mc : Value) (p g : Addr) (fd : FuncData) (ps : List Str), ClX.CRead K C mc ∧ ClX.CMet K C mc m p g ∧ FnOk P w K mg base CX0 k g fd ps sp ∧ Binds K fd ps []
theorem fnR_of {P : Program} {w : World} {K : PySem.W.Frag} {mg : Str → Option Value} {base : Heap} {CX : CXT} {k : Nat} {f : Addr} {fd : FuncData} {ps : List Str} {sp : Sp} (F : FnOk P w K mg base CX k f fd ps sp) (b : Binds K fd ps []) : FnR P w K mg base CX k f sp :=
  fun A outer s H us vs Q E hr e0 r h => by
    have hl : us.length = ps.length := by
      rw [← r.length]
      exact F.len _ _ _ _ h
    have z := b s us (e0.mod.kin.keeps fun b o e => (e0.bs b o e).1) (by rw [List.append_nil]; exact hl)
    rw [List.append_nil] at z
    exact F.run A outer s H ⟨us, []⟩ us vs Q E hr e0 z r h
theorem pe_cm {X : Cx} {C : Addr} {m : Str} {sp : Sp} {k j : Nat} {o e : Expr} {es : List Expr} {ta : TE} {t : TA} {apos pos : Pos} {pl : Sem Bool} (c : Cm X.prog X.w X.K X.mg X.base k C m sp) (hr : Room j X.A) (he : PE X o ta) (ha : PA X (e :: es) t) (hk : k ≤ j := by decide)
    (hst : starEach (e :: es) X.env = (false, eval e X.env) :: starEach es X.env := by rfl) (hpl : (backTo pos (starEach es X.env)).any (·.1) = false := by rfl)
    (ht : eval (.Call (.Attribute o m apos) (e :: es) [] pos) X.env = (do
      let got ← eval o X.env
      standAt apos.atName
      let (fn, fst) ← holding [got] (getMethod got m pl)
      callWith pos fn fst (backTo pos (starEach (e :: es) X.env)) (backToKw pos (keywordEach [] X.env))) := by rfl) :
    PE X (.Call (.Attribute o m apos) (e :: es) [] pos) (ClX.tCMeth C sp E0 ta t) := by
  obtain ⟨mc, p, g, fd, ps, r, c, F, b⟩ := c.ex
  exact ClX.pe_cmeth he r c (fnR_of F b) (hr.mono hk) pass0 ha hst hpl ht
theorem pe_cm0 {X : Cx} {C : Addr} {m : Str} {sp : Sp} {k j : Nat} {o : Expr} {ta : TE} {apos pos : Pos} {pl : Sem Bool} (c : Cm X.prog X.w X.K X.mg X.base k C m sp) (hr : Room j X.A) (he : PE X o ta) (hk : k ≤ j := by decide)
    (ht : eval (.Call (.Attribute o m apos) [] [] pos) X.env = (do
      let got ← eval o X.env
      standAt apos.atName
      let (fn, fst) ← holding [got] (getMethod got m pl)
      callWith pos fn fst (backTo pos (starEach [] X.env)) (backToKw pos (keywordEach [] X.env))) := by rfl) :
    PE X (.Call (.Attribute o m apos) [] [] pos) (ClX.tCMeth C sp E0 ta tNil) := by
  obtain ⟨mc, p, g, fd, ps, r, c, F, b⟩ := c.ex
  refine ⟨fun pins s σ H Q I h => ?_⟩
  refine PySem.W.methodCall_KW (pl := pl) (thn (he.run pins s σ H _ I h) fun u s1 ⟨x, H1, I1, rx, ex, q⟩ => ?_) ht
  subst ex
  obtain rfl : u = Value.ref C := rx
  have notin : X.base.get? s1.heap.objs.size = none := by
    cases z : X.base.get? s1.heap.objs.size with
    | none => rfl
    | some o => exact absurd (Heap.lt_size (I1.bk _ o z)) (Nat.lt_irrefl _)
  refine ClX.getmethcm_ok I1 r c fun s2 I2 => ?_
  have hq := ClX.pin_at I2
  have hL : s1.heap.objs.size ≠ X.env.locals := (I2.pin (s1.heap.objs.size, PySem.W.methodObj (.ref g) (.ref C)) (List.mem_append_right _ List.mem_cons_self)).2.2.1
  show wpAny _ _ (callWith pos (Value.ref s1.heap.objs.size) [] (backTo pos (starEach [] X.env)) []) _ _ _
  refine PySem.W.callWith_M0 (K := X.K) (g := g) (self := .ref C) ?_ c.fi ?_
  · exact ⟨hq, I2.kIn⟩
  · have z := ClX.run_cm (us := []) (vs := []) (fnR_of F b) (hr.mono hk) pass0 I2 .nil q
    exact z
-- part meths
/-! o.m(..) of an own class, by its promise -/
section
variable {X : Cx} {C : Addr} {m : Str} {sp : Sp} {k j : Nat} {o e : Expr} {es : List Expr} {ta : TE} {t : TA} {apos pos : Pos} {pl : Sem Bool}
theorem pe_me0 (c : Me X.prog X.w X.K X.mg X.base k C m sp) (cl : Cls X.K C) (hr : Room j X.A) (he : PE X o ta) (hk : k ≤ j := by decide)
    (ht : eval (.Call (.Attribute o m apos) [] [] pos) X.env = (do
      let ov ← eval o X.env
      standAt apos.atName
      let (f, first) ← holding [ov] (getMethod ov m pl)
      callWith pos f first (backTo pos (starEach [] X.env)) (backToKw pos (keywordEach [] X.env))) := by rfl) :
    PE X (.Call (.Attribute o m apos) [] [] pos) (tMeth C m sp [] E0 ta tNil) := by
  obtain ⟨f, fd, ps, M, F, b⟩ := c.ex
  exact pe_meth0 he cl M F (hr.mono hk) b .nil pass0 ht
theorem pe_me (c : Me X.prog X.w X.K X.mg X.base k C m sp) (cl : Cls X.K C) (hr : Room j X.A) (he : PE X o ta) (ha : PA X (e :: es) t) (hk : k ≤ j := by decide)
    (hst : starEach (e :: es) X.env = (false, eval e X.env) :: starEach es X.env := by rfl) (hpl : (backTo pos (starEach es X.env)).any (·.1) = false := by rfl)
    (ht : eval (.Call (.Attribute o m apos) (e :: es) [] pos) X.env = (do
      let ov ← eval o X.env
      standAt apos.atName
      let (f, first) ← holding [ov] (getMethod ov m pl)
      callWith pos f first (backTo pos (starEach (e :: es) X.env)) (backToKw pos (keywordEach [] X.env))) := by rfl) :
    PE X (.Call (.Attribute o m apos) (e :: es) [] pos) (tMeth C m sp [] E0 ta t) := by
  obtain ⟨f, fd, ps, M, F, b⟩ := c.ex
  exact pe_meth he cl M F (hr.mono hk) b .nil pass0 ha hst hpl ht
end
/-- a class whose instances are called, by the promise of its __call__ -/
structure Co (P : Program) (w : World) (K : PySem.W.Frag) (mg : Str → Option Value) (base : Heap) (k : Nat) (C : Addr) (sp : Sp) : Prop where
  ex : ∃ g, StX.CallO K C g ∧ FnR P w K mg base CX0 k g sp
def tCallI (C : Addr) (sp : Sp) (tf : TE) (t : TA) : TE := fun σ H Q => tf σ H fun y H1 => ∃ a, y = V.ref a ∧ t σ H1 fun vs H2 => ((∃ dx vs, SlX.Slt H2 a C dx vs) ∨ ∃ dx fs, H2 a = some (.ins C dx fs)) ∧ sp (V.ref a :: vs) H2 Q E0
theorem pe_inst {X : Cx} {C : Addr} {sp : Sp} {k j : Nat} {fe e : Expr} {es : List Expr} {tf : TE} {t : TA} {pos : Pos} (c : Co X.prog X.w X.K X.mg X.base k C sp) (hr : Room j X.A) (hf : PE X fe tf) (ha : PA X (e :: es) t) (hk : k ≤ j := by decide)
    (ht : eval (.Call fe (e :: es) [] pos) X.env = (do callWith pos (← eval fe X.env) [] (backTo pos (starEach (e :: es) X.env)) (backToKw pos (keywordEach [] X.env))) := by rfl)
    (he : starEach (e :: es) X.env = (false, eval e X.env) :: starEach es X.env := by rfl) (hpl : (backTo pos (starEach es X.env)).any (·.1) = false := by rfl) :
    PE X (.Call fe (e :: es) [] pos) (tCallI C sp tf t) := by
  obtain ⟨g, c, F⟩ := c.ex
  exact StX.pe_callO hf c F (hr.mono hk) pass0 ha ht he hpl
-- part objs
/-! comprehensions that make lists of objects -/
/-- what a heap but for D holds -/
def But (D : Addr) (H H' : Hp) : Prop := ∀ b o, b ≠ D → H b = some o → H' b = some o
theorem But.upd {D : Addr} {H : Hp} {o : HO} : But D H (upd H D o) := fun b u hb e => by
  rw [upd_ne hb]
  exact e
theorem But.of {D : Addr} {H H' : Hp} (s : Same H H') : But D H H' := fun b o _ e => s b o e
theorem sqT_but {K : PySem.W.Frag} {D q : Addr} {H H' : Hp} {xs : List V} (h : SqT K H q xs) (ne : q ≠ D) (k : But D H H') : SqT K H' q xs := by
  rcases h with (h | ⟨o, h⟩) | h
  · exact .inl (.inl (k _ _ ne h))
  · exact .inl (.inr ⟨o, k _ _ ne h⟩)
  · exact .inr h
theorem sqL_but {K : PySem.W.Frag} {D q : Addr} {H H' : Hp} {xs : List V} (h : SqL K H q xs) (ne : q ≠ D) (k : But D H H') : SqL K H' q xs := by
  rcases h with (h | ⟨o, h⟩) | h
  · exact .inl (.inl (k _ _ ne h))
  · exact .inl (.inr ⟨o, k _ _ ne h⟩)
  · exact .inr h
/-- what is told of the j-th object stands while only D changes -/
def Stab (D : Addr) (R : Nat → V → Hp → Prop) : Prop := ∀ j v H H', R j v H → v ≠ .ref D → But D H H' → R j v H'
def PvO (H1 : Hp) (D : Addr) (R : Nat → V → Hp → Prop) (i : Nat) (H : Hp) : Prop := Same H1 H ∧ ∃ acc, H D = some (.lst acc) ∧ acc.length = i ∧ ∀ j v, acc[j]? = some v → v ≠ .ref D ∧ R j v H
theorem objEnd {H1 H H4 : Hp} {D : Addr} {R : Nat → V → Hp → Prop} {i : Nat} {y : V} (st : Stab D R) (hD : H1 D = none) (p : PvO H1 D R i H) (s4 : Same H H4) (few : i < 1000) (ny : y ≠ .ref D) (ry : R i y H4) :
    ∃ acc, H4 D = some (.lst acc) ∧ acc.length < sizeLine ∧ PvO H1 D R (i + 1) (upd H4 D (.lst (acc ++ [y]))) := by
  obtain ⟨s, acc, ha, hl, hr⟩ := p
  refine ⟨acc, s4 _ _ ha, small1000 (by omega), fun b o eb => ?_, acc ++ [y], upd_same, ?_, fun j v hv => ?_⟩
  · rw [upd_ne (ne_of_none eb hD)]
    exact s4 b o (s b o eb)
  · rw [List.length_append, hl]
    rfl
  · by_cases c : j < acc.length
    · rw [List.getElem?_append_left c] at hv
      obtain ⟨nv, rv⟩ := hr j v hv
      exact ⟨nv, st j v _ _ (st j v _ _ rv nv (But.of s4)) nv But.upd⟩
    · rw [List.getElem?_append_right (by omega)] at hv
      have e : j = i := by
        by_cases e : j - acc.length = 0
        · omega
        · rw [List.getElem?_eq_none (by show 1 ≤ j - acc.length; omega)] at hv
          cases hv
      subst e
      rw [hl, Nat.sub_self] at hv
      cases hv
      exact ⟨ny, st j y _ _ ry ny But.upd⟩
section
variable {J : It} {n : Nat} {G : Hp → Prop} {Y : Nat → Hp → V → Hp → Prop}
theorem lcObj (w : Walk J n G Y) {g : TG} {tt : TT} {te : TE} {vs : List Nat} {σ : L2.St} {H1 : Hp} {D : Addr} {Qd : Hp → Prop} (R : Nat → V → Hp → Prop) (hD : H1 D = none) (hG : ∀ H, Same H1 H → G H)
    (hs : ∀ i x H H', i < n → PvO H1 D R i H → Y i H x H' → g x (wipe σ vs) H' fun σ2 H2 => wipe σ2 vs = wipe σ vs ∧ tt σ2 H2 fun b H3 =>
      if b = true then te σ2 H3 fun y H4 => ∃ acc, H4 D = some (.lst acc) ∧ acc.length < sizeLine ∧ PvO H1 D R (i + 1) (upd H4 D (.lst (acc ++ [y]))) else PvO H1 D R (i + 1) H3)
    (hd : ∀ H acc, Same H1 H → H D = some (.lst acc) → acc.length = n → (∀ j v, acc[j]? = some v → v ≠ .ref D ∧ R j v H) → Qd H) :
    ∃ W : Nat → Nat → Hp → Prop, (∃ m, W 0 m (upd H1 D (.lst []))) ∧ ∀ i m H, W i m H →
      (J.stop i H ∧ Qd H) ∨ (J.go i H ∧ ∃ Nx : Hp → Prop, (∀ H', Nx H' → ∃ m', m' < m ∧ W (i + 1) m' H') ∧ ∀ x H', J.yld i H x H' → g x (wipe σ vs) H' fun σ2 H2 => wipe σ2 vs = wipe σ vs ∧ tt σ2 H2 fun b H3 =>
        if b = true then te σ2 H3 fun y H4 => ∃ acc, H4 D = some (.lst acc) ∧ acc.length < sizeLine ∧ Nx (upd H4 D (.lst (acc ++ [y]))) else Nx H3) :=
  lc_it w (PvO H1 D R) ⟨same_upd hD, [], upd_same, rfl, fun j v h => by cases h⟩ (fun _ H _ h => hG H h.1) hs fun H h => by
    obtain ⟨s, acc, a, b, c⟩ := h
    exact hd H acc s a b c
end
/-- the j-th is a list of ints, a tuple of ints -/
def RL (w : Nat) (f : Nat → Nat → Int) : Nat → V → Hp → Prop := fun i v H => ∃ q, v = .ref q ∧ H q = some (.lst ((rngN w (f i)).map V.int))
def RT (g : Nat → List Int) : Nat → V → Hp → Prop := fun i v H => ∃ q, v = .ref q ∧ H q = some (.tup ((g i).map V.int))
theorem stab_RL {w : Nat} {f : Nat → Nat → Int} {D : Addr} : Stab D (RL w f) := fun j v H H' h nv k => by
  obtain ⟨q, rfl, h⟩ := h
  exact ⟨q, rfl, k _ _ (fun e => nv (by rw [e])) h⟩
theorem stab_RT {g : Nat → List Int} {D : Addr} : Stab D (RT g) := fun j v H H' h nv k => by
  obtain ⟨q, rfl, h⟩ := h
  exact ⟨q, rfl, k _ _ (fun e => nv (by rw [e])) h⟩
/-- an address that stands is no new one -/
theorem ref_ne {H : Hp} {q D : Addr} {o : HO} (hq : H q = none) (hD : H D = some o) : V.ref q ≠ V.ref D := fun e => by
  have := V.ref.inj e
  rw [this, hD] at hq
  cases hq
theorem pe_tupleOfK {X : Cx} {K : PySem.W.Frag} {p pos : Pos} {a : Expr} {ta : TE} (hK : X.K = K) (hg : Gl X "tuple") (hm : X.mg "tuple" = none) (ha : PE X a ta)
    (na : starEach [a] X.env = (false, eval a X.env) :: starEach [] X.env := by rfl) : PE X (.Call (.Name "tuple" p) [a] [] pos) (tThen ta (kTup K)) := by
  subst hK
  exact pe_tupleOf hg hm ha na
theorem ref_ne2 {H : Hp} {q D : Addr} {xs ys : List V} (hq : H q = some (.tup xs)) (hD : H D = some (.lst ys)) : V.ref q ≠ V.ref D := fun e => by
  have := V.ref.inj e
  rw [this, hD] at hq
  cases hq
/-! walks, the frame named -/
section
variable {X : Cx} {K : PySem.W.Frag} {e e2 : Expr} {te : TE} {ta : TA} {tg : Expr} {p pos tpos : Pos} {elts : List Expr} {kk : Nat}
theorem pi_listK (hK : X.K = K) (he : PE X e te) : PI X tg e (iList K te) := by
  subst hK
  exact pi_list he
theorem pi_tupK (hK : X.K = K) (he : PE X e te) : PI X tg e (iTup K te) := by
  subst hK
  exact pi_tup he
theorem pi_zipAK (hK : X.K = K) (hg : Gl X "zip") (hm : X.mg "zip" = none) (ha : PA X [e, e2] ta)
    (hs : starEach [e, e2] X.env = (false, eval e X.env) :: starEach [e2] X.env := by rfl) (hpl : (backTo pos (starEach [e2] X.env)).any (·.1) = false := by rfl) :
    PI X (.Tuple elts kk tpos) (.Call (.Name "zip" p) [e, e2] [] pos) (RZ.iZipA K ta) := by
  subst hK
  exact RZ.pi_zipA hg hm ha hs hpl
end
theorem walk_zipT {K : PySem.W.Frag} {a b : Addr} {xs ys : List V} {n : Nat} (hn : n = min xs.length ys.length) : Walk (RZ.ItzT K a b) n (fun H => SqT K H a xs ∧ SqT K H b ys) (YPair (fun i => xs[i]?) (fun i => ys[i]?)) := by
  subst hn
  refine ⟨fun i _ hi q => ?_, fun _ q => ⟨xs, ys, q.1, q.2, by omega⟩, fun i H v H' _ q y => ?_⟩
  · have h1 : i < xs.length := by omega
    have h2 : i < ys.length := by omega
    exact ⟨xs, ys, xs[i], ys[i], q.1, q.2, by simp [h1], by simp [h2]⟩
  · obtain ⟨T, x, z, h1, h2, h3, h4, h5⟩ := y
    exact ⟨T, x, z, h1, h2, h3, h4 xs q.1, h5 ys q.2⟩
-- part prime_prog
def rIsqrt : List V → Hp → VK → Prop := fun vs H Q => ∃ a : Int, vs = [.int a] ∧ 0 ≤ a ∧ a < 2 ^ 64 ∧ ∀ r : Int, 0 ≤ r → r * r ≤ a → a < (r + 1) * (r + 1) → Q (.int r) H
theorem cr_isqrt {X : Cx} : CallR X (.builtin "math.isqrt") rIsqrt := by
  intro pins s σ H vs us Q I r h
  obtain ⟨a, rfl, h0, h1, q⟩ := h
  cases r with
  | cons r1 r2 =>
    cases r2
    obtain ⟨t, rfl⟩ := r1
    obtain ⟨s1, s2⟩ := Float64.isqrt_spec a.toNat
    refine PySem.W.mg_isqrt h0 h1 ⟨.int _, H, I.tok _, ⟨_, rfl⟩, q _ (Int.natCast_nonneg _) ?_ ?_⟩
    · have : ((Float64.isqrt a.toNat * Float64.isqrt a.toNat : Nat) : Int) ≤ ((a.toNat : Nat) : Int) := Int.ofNat_le.mpr s1
      rw [Int.natCast_mul, Int.toNat_of_nonneg h0] at this
      exact this
    · have : ((a.toNat : Nat) : Int) < (((Float64.isqrt a.toNat + 1) * (Float64.isqrt a.toNat + 1) : Nat) : Int) := Int.ofNat_lt.mpr s2
      rw [Int.natCast_mul, Int.natCast_add, Int.toNat_of_nonneg h0] at this
      exact this
abbrev s_least : Stmt := top 10
theorem sc_least : FnScope ["n", "d"] ["n"] (defScope s_least) := ⟨rfl, rfl, rfl, by decide +kernel, rfl, by decide +kernel, by decide +kernel⟩
def spLeast : Sp := fun vs H Q _ => ∃ n : Int, vs = [.int n] ∧ 2 ≤ n ∧ n < 2 ^ 62 ∧ ∀ r, Least n r → Q (.int r) H
theorem rgc_two {j : Int} (h0 : 0 ≤ j) (h1 : j < 2 ^ 62) : RgC 3 j 2 (if 3 < j then ((j - 3 - 1) / 2 + 1).toNat else 0) := by
  refine ⟨by decide, by decide, ?_, ?_⟩
  · unfold Builtin.Range.small Builtin.Range.rangeSize
    simp only [Builtin.Range.rangeFitsLong, Bool.and_eq_true, Bool.or_eq_true, decide_eq_true_eq, beq_iff_eq, show ((2 : Int) > 0) by decide, if_true]
    split <;> omega
  · unfold Builtin.Range.rangeSize
    rw [if_pos (by decide)]
    split <;> omega
theorem root_lt {r n : Int} (h0 : 0 ≤ r) (h : r * r ≤ n) (hn : n < 2 ^ 62) : r + 1 < 2 ^ 62 := by
  by_cases c : r < 2 ^ 32
  · omega
  · have : (2 ^ 32 : Int) * 2 ^ 32 ≤ r * r := Int.mul_le_mul (by omega) (by omega) (by decide) h0
    omega
theorem ok_least {f : Addr} {fd : FuncData} (T : Txt mg) (hsq : mg "isqrt" = some (.builtin "math.isqrt")) (F : Fun K "_least_divisor" "_least_divisor" s_least f fd) : FnOk P w K mg base CX0 1 f fd ["n"] spLeast := by
  refine F.ok sc_least (fun vs H Q E h => ?_) (fun cdv A outer s H vs Q E hr h => ?_)
  · obtain ⟨n, rfl, _⟩ := h
    rfl
  · obtain ⟨n, rfl, h2, hb, q⟩ := h
    refine ⟨_, (pss_cons (ps_if (pt_cmpR op_eq (pe_op op_mod (pv 0) pe_int) pe_int (nomark _)) (pss_one (ps_ret pe_int)) pss_nil)
 (pss_cons (ps_for PassesOwn.never rfl (pi_range3 rfl T.range (pa_cons pe_int (pa_cons (pe_op op_add (pe_callBfun cr_isqrt (by rfl) hsq (pa_cons (pv 0) pa_nil)) pe_int) (pa_cons pe_int pa_nil)))) (pg_name (i := 1) sc_least.nd rfl (Or.inl rfl)) (pss_one (ps_if (pt_cmpR op_eq (pe_op op_mod (pv 0) (pv 1)) pe_int (nomark _)) (pss_one (ps_ret (pv 1))) pss_nil)))
 (pss_one (ps_ret (pv 0))))), ?_⟩
    refine ⟨_, rfl, _, _, rfl, rfl, (by show (0 : Int) < 2; decide), rfl, _, rfl, ?_⟩
    by_cases c : (2 : Int) ∣ n
    · refine if_pos_of (decide_eq_true (congrArg V.int (Int.emod_eq_zero_of_dvd c))) ?_
      exact q _ (least_two c)
    · refine if_neg_of (decide_eq_false fun e => c (Int.dvd_of_emod_eq_zero (V.int.inj e))) ?_
      refine ⟨_, rfl, n, rfl, by omega, by omega, fun r r0 r1 r2 => ⟨_, _, rfl, rfl, 3, r + 1, 2, _, rfl, rgc_two (by omega) (root_lt r0 r1 hb), ?_⟩⟩
      refine for_rangeC (lo := 3) (c := 2) (fun i σ H' => H' = H ∧ ∃ x, σ = [some (.int n), x] ∧ ∀ j : Nat, j < i → ¬ (3 + (j : Int) * 2) ∣ n) ⟨rfl, _, rfl, fun j hj => absurd hj (Nat.not_lt_zero j)⟩ ?_ ?_
      · rintro i σ _ hi ⟨rfl, x, rfl, hx⟩
        refine ⟨_, rfl, _, rfl, _, _, rfl, rfl, (by show (0 : Int) < 3 + ((i : Nat) : Int) * 2; omega), rfl, _, rfl, ?_⟩
        by_cases c3 : (3 + (i : Int) * 2) ∣ n
        · refine if_pos_of (decide_eq_true (congrArg V.int (Int.emod_eq_zero_of_dvd c3))) ?_
          exact ⟨_, rfl, q _ (least_at c c3 hx)⟩
        · refine if_neg_of (decide_eq_false fun e => c3 (Int.dvd_of_emod_eq_zero (V.int.inj e))) ?_
          refine ⟨rfl, _, rfl, fun j hj => ?_⟩
          by_cases e : j = i
          · rw [e]
            exact c3
          · exact hx j (by omega)
      · rintro σ _ ⟨rfl, x, rfl, hx⟩
        refine ⟨_, rfl, q _ (least_of_odd h2 c r0 r2 fun i hi => hx i ?_)⟩
        split <;> omega
abbrev s_prime : Stmt := top 11
theorem sc_prime : FnScope ["n"] ["n"] (defScope s_prime) := ⟨rfl, rfl, rfl, by decide +kernel, rfl, by decide +kernel, by decide +kernel⟩
def spPrime : Sp := fun vs H Q _ => ∃ n : Int, vs = [.int n] ∧ n < 2 ^ 62 ∧ Q (.bl (prB n)) H
theorem ok_prime {f : Addr} {fd : FuncData} (F : Fun K "is_prime" "is_prime" s_prime f fd) (c_least : Cl P w K mg base CX0 1 "_least_divisor" spLeast) : FnOk P w K mg base CX0 2 f fd ["n"] spPrime := by
  refine F.ok sc_prime (fun vs H Q E h => ?_) (fun cdv A outer s H vs Q E hr h => ?_)
  · obtain ⟨n, rfl, _⟩ := h
    rfl
  · obtain ⟨n, rfl, hb, q⟩ := h
    refine ⟨_, (pss_one (ps_ret (pe_and (pe_cmpR op_gt (pv 0) pe_int (nomark _)) (pe_one (pe_cmpR op_eq (pe_cl c_least hr (pa_cons (pv 0) pa_nil)) (pv 0) (nomark _)))))), ?_⟩
    refine ⟨_, rfl, _, _, rfl, rfl, _, rfl, ?_⟩
    by_cases c : 1 < n
    · refine if_pos_of (decide_eq_true c) ?_
      refine ⟨_, rfl, n, rfl, by omega, hb, fun r hl => ⟨_, rfl, rfl, ?_⟩⟩
      have e : decide (V.int r = V.int n) = prB n := by
        by_cases p : Pr n
        · rw [prB_true p, (hl.self (by omega)).mpr p]
          exact decide_eq_true rfl
        · rw [prB_false p]
          exact decide_eq_false fun e => p ((hl.self (by omega)).mp (V.int.inj e))
      show Q (.bl (decide (V.int r = V.int n))) H
      rw [e]
      exact q
    · refine if_neg_of (decide_eq_false c) ?_
      have e : prB n = false := prB_false fun p => c (by have := p.1; omega)
      rw [e] at q
      exact q
-- part ibc
abbrev s_ibc : Stmt := inClass (top 4) 0
theorem sc_ibc : FnScope ["self", "p"] ["self", "p"] (defScope s_ibc) := ⟨rfl, rfl, rfl, by decide +kernel, rfl, by decide +kernel, by decide +kernel⟩
theorem ok_ibc {f C CF : Addr} {fd : FuncData} (TF : FErr K mg CF) (hC : OexC K C) (hno : PySem.W.findIn K (.ref C) "p" = some none) (F : Fun K "__init__" "BadCharacteristic.__init__" s_ibc f fd) : FnOk P w K mg base CX0 1 f fd ["self", "p"] (spInit C "p") := by
  refine F.ok sc_ibc (fun vs H Q E h => ?_) (fun cdv A outer s H vs Q E hr h => ?_)
  · obtain ⟨a, v, rfl, _⟩ := h
    rfl
  · obtain ⟨a, v, rfl, ha, q⟩ := h
    refine ⟨_, (pss_cons (ps_expr (pe_feinit TF (pa_cons (pv 0) (pa_cons pe_str pa_nil))))
 (pss_one (ps_ost (pv 0) (pv 1)))), ?_⟩
    refine ⟨_, rfl, a, C, _, rfl, (by show 1 ≤ 1000; decide), hC, ha, ?_⟩
    exact ⟨_, rfl, _, rfl, a, C, rfl, hC, hno, .inl ⟨ha, fun dx hn hne => q dx hn hne⟩⟩
-- part lpf
theorem pr_of_trials {n k : Int} (hn : 2 ≤ n) (hk : 2 ≤ k) (hs : n < k * k) (hm : ∀ m : Int, 2 ≤ m → m < k → ¬ m ∣ n) : Pr n := by
  refine ⟨hn, fun m h1 h2 h3 => ?_⟩
  obtain ⟨d, d2, ds, _, dn⟩ := small_div (n := n) (s := k - 1) hn h1 h2 h3 (by omega) (by rw [Int.sub_add_cancel]; exact hs)
  exact hm d d2 (by omega) dn
theorem root_le {k n : Int} (hk : 2 ≤ k) (h : k * k ≤ n) : k < n ∧ 2 * k ≤ n := by
  have : 2 * k ≤ k * k := Int.mul_le_mul_of_nonneg_right hk (by omega)
  omega
abbrev s_lprime : Stmt := top 49
theorem sc_lprime : FnScope ["_law_n", "_law_k"] ["_law_n"] (defScope s_lprime) := ⟨rfl, rfl, rfl, by decide +kernel, rfl, by decide +kernel, by decide +kernel⟩
/-- of an odd integer from 3 on -/
def spOddPr : Sp := fun vs H Q _ => ∃ n : Int, vs = [.int n] ∧ 3 ≤ n ∧ n % 2 = 1 ∧ n < 2 ^ 60 ∧ Q (.bl (prB n)) H
theorem ok_lprime {f : Addr} {fd : FuncData} (F : Fun K "_law_is_prime" "_law_is_prime" s_lprime f fd) : FnOk P w K mg base CX0 1 f fd ["_law_n"] spOddPr := by
  refine F.ok sc_lprime (fun vs H Q E h => ?_) (fun cdv A outer s H vs Q E hr h => ?_)
  · obtain ⟨n, rfl, _⟩ := h
    rfl
  · obtain ⟨n, rfl, n3, odd, hb, q⟩ := h
    refine ⟨_, (pss_cons (ps_if (pw_or (pt_cmpR op_lt (pv 0) pe_int (nomark _)) (pw_or1 (pt_cmpR op_eq (pe_op op_mod (pv 0) pe_int) pe_int (nomark _)))).pt (pss_one (ps_ret pe_bl)) pss_nil)
 (pss_cons (ps_set (i := 1) sc_lprime.nd rfl (Or.inl rfl) pe_int)
 (pss_cons (ps_while PassesOwn.never (pt_cmpR op_le (pe_op op_mul (pv 1) (pv 1)) (pv 0) (nomark _)) (pss_cons (ps_if (pt_cmpR op_eq (pe_op op_mod (pv 0) (pv 1)) pe_int (nomark _)) (pss_one (ps_ret pe_bl)) pss_nil)
 (pss_one (ps_set (i := 1) sc_lprime.nd rfl (Or.inl rfl) (pe_op op_add (pv 1) pe_int)))))
 (pss_one (ps_ret pe_bl))))), ?_⟩
    refine ⟨_, rfl, _, _, rfl, rfl, _, rfl, if_neg_of (decide_eq_false (by omega)) ?_⟩
    refine ⟨_, rfl, _, _, rfl, rfl, (by show (0 : Int) < 2; decide), rfl, _, rfl, if_neg_of (decide_eq_false fun e => by have := V.int.inj e; omega) ?_⟩
    refine ⟨fun mm σ H' => H' = H ∧ ∃ k : Int, mm = (n + 2 - k).toNat ∧ σ = [some (.int n), some (.int k)] ∧ 3 ≤ k ∧ k ≤ n ∧ k % 2 = 1 ∧ ∀ m : Int, 2 ≤ m → m < k → ¬ m ∣ n, ⟨_, rfl, 3, rfl, rfl, by omega, by omega, by omega, fun m h1 h2 h3 => ?_⟩, ?_⟩
    · have : m = 2 := by omega
      rw [this] at h3
      omega
    rintro mm σ _ ⟨rfl, k, rfl, rfl, k3, kn, ko, hm⟩
    refine ⟨_, rfl, _, rfl, _, _, rfl, rfl, .inl ⟨by omega, by omega⟩, _, rfl, _, _, rfl, rfl, _, rfl, ?_⟩
    by_cases c2 : k * k ≤ n
    · have kl := root_le (show 2 ≤ k by omega) c2
      refine if_pos_of (decide_eq_true c2) ⟨fun σ' H' => ∃ m', m' < (n + 2 - k).toNat ∧ H' = _ ∧ ∃ k : Int, m' = (n + 2 - k).toNat ∧ σ' = [some (.int n), some (.int k)] ∧ 3 ≤ k ∧ k ≤ n ∧ k % 2 = 1 ∧ ∀ m : Int, 2 ≤ m → m < k → ¬ m ∣ n, fun _ _ h => h, ?_⟩
      refine ⟨_, rfl, _, rfl, _, _, rfl, rfl, (by show 0 < k; omega), rfl, _, rfl, ?_⟩
      by_cases c3 : k ∣ n
      · refine if_pos_of (decide_eq_true (congrArg V.int (Int.emod_eq_zero_of_dvd c3))) ?_
        rw [prB_false fun p => p.2 k (by omega) (by omega) c3] at q
        exact q
      · refine if_neg_of (decide_eq_false fun e => c3 (Int.dvd_of_emod_eq_zero (V.int.inj e))) ?_
        have c4 : ¬ (k + 1) ∣ n := fun ⟨z, hz⟩ => by
          obtain ⟨y, hy⟩ : ∃ y, k + 1 = 2 * y := ⟨(k + 1) / 2, by omega⟩
          rw [hy, Int.mul_assoc] at hz
          omega
        have kn2 : k + 2 ≤ n := by omega
        refine ⟨_, rfl, _, _, rfl, rfl, _, ?_, rfl, k + 2, rfl, rfl, by omega, kn2, by omega, fun m h1 h2 => ?_⟩
        · omega
        · by_cases e : m < k
          · exact hm m h1 e
          · have : m = k ∨ m = k + 1 := by omega
            rcases this with rfl | rfl
            · exact c3
            · exact c4
    · refine if_neg_of (decide_eq_false c2) ?_
      rw [prB_true (pr_of_trials (by omega) (show 2 ≤ k by omega) (by omega) hm)] at q
      exact q
abbrev s_lpf : Stmt := top 50
theorem sc_lpf : FnScope ["_law_n"] ["_law_n"] (defScope s_lpf) := ⟨rfl, rfl, rfl, by decide +kernel, rfl, by decide +kernel, by decide +kernel⟩
theorem pr_1993 : Pr 1993 := pr_of_trial (n := 1993) 60 (by decide +kernel)
def spLpf : Sp := fun vs H Q _ => ∃ n : Int, vs = [.int n] ∧ n < 1990 ∧ ∀ p : Int, Pr p → p ≤ 1993 → Q (.int p) H
theorem ok_lpf {f : Addr} {fd : FuncData} (T : Txt mg) (F : Fun K "_law_prime_from" "_law_prime_from" s_lpf f fd) (c_lprime : Cl P w K mg base CX0 1 "_law_is_prime" spOddPr) : FnOk P w K mg base CX0 2 f fd ["_law_n"] spLpf := by
  refine F.ok sc_lpf (fun vs H Q E h => ?_) (fun cdv A outer s H vs Q E hr h => ?_)
  · obtain ⟨n, rfl, _⟩ := h
    rfl
  · obtain ⟨n, rfl, hn, q⟩ := h
    refine ⟨_, (pss_cons (ps_set (i := 0) sc_lpf.nd rfl (Or.inl rfl) (pe_callB (call_max2 rfl) (by rfl) T.max boot_max (pa_cons (pv 0) (pa_cons pe_int pa_nil))))
 (pss_cons (ps_set (i := 0) sc_lpf.nd rfl (Or.inl rfl) (pe_op op_sub (pe_op op_add (pv 0) pe_int) (pe_op op_mod (pv 0) pe_int)))
 (pss_cons (ps_while PassesOwn.never (pt_not (pt_val (pe_cl c_lprime hr (pa_cons (pv 0) pa_nil)))) (pss_one (ps_set (i := 0) sc_lpf.nd rfl (Or.inl rfl) (pe_op op_add (pv 0) pe_int))))
 (pss_one (ps_ret (pv 0)))))), ?_⟩
    refine ⟨_, rfl, _, _, rfl, ?_⟩
    have m3 : 3 ≤ (if 3 > n then 3 else n) ∧ (if 3 > n then 3 else n) < 1990 := by
      split <;> omega
    generalize (if 3 > n then 3 else n) = m at m3 ⊢
    refine ⟨_, rfl, _, _, rfl, rfl, _, rfl, _, _, rfl, rfl, (by show (0 : Int) < 2; decide), _, _, rfl, rfl, ?_⟩
    refine ⟨fun mm σ H' => H' = H ∧ ∃ k : Int, mm = (1993 - k).toNat ∧ σ = [some (.int k)] ∧ 3 ≤ k ∧ k ≤ 1993 ∧ k % 2 = 1, ⟨_, rfl, m + 1 - m % 2, rfl, rfl, by omega, by omega, by omega⟩, ?_⟩
    rintro mm σ _ ⟨rfl, k, rfl, rfl, k3, kn, ko⟩
    refine ⟨_, rfl, k, rfl, k3, ko, by omega, _, rfl, ?_⟩
    by_cases c : Pr k
    · refine if_neg_of (by rw [prB_true c]; rfl) ?_
      exact ⟨_, rfl, q k c kn⟩
    · have ne : k ≠ 1993 := fun e => c (e ▸ pr_1993)
      refine if_pos_of (by rw [prB_false c]; rfl) ⟨fun σ' H' => ∃ m', m' < (1993 - k).toNat ∧ H' = _ ∧ ∃ k : Int, m' = (1993 - k).toNat ∧ σ' = [some (.int k)] ∧ 3 ≤ k ∧ k ≤ 1993 ∧ k % 2 = 1, fun _ _ h => h, ?_⟩
      exact ⟨_, rfl, _, _, rfl, rfl, _, by omega, rfl, k + 2, rfl, rfl, by omega, by omega, by omega⟩
-- part errpa
/-! own errors of one attribute whose __init__ asks something of the argument -/
def spInitP (C : Addr) (fld : Str) (ok : V → Prop) : Sp := fun vs H Q _ => ∃ (a : Addr) (v : V), vs = [.ref a, v] ∧ ok v ∧ H a = some (exo a C none) ∧
  ∀ d, H d = none → d ≠ a → Q .non (upd (upd H d (exd d [(fld, v)])) a (exo a C (some d)))
structure ErP (P : Program) (w : World) (K : PySem.W.Frag) (mg : Str → Option Value) (base : Heap) (nm fld : Str) (C : Addr) (ok : V → Prop) : Prop where
  ex : ∃ (fI : Addr) (fd : FuncData) (ps : List Str), ErrC K mg nm fld C fI ∧ FnOk P w K mg base CX0 1 fI fd ps (spInitP C fld ok) ∧ Binds K fd ps []
theorem ps_raiseP {X : Cx} {W : WX} {x fld : Str} {C : Addr} {ok : V → Prop} {j : Nat} {e : Expr} {ta : TA} {p pos pos' : Pos} (c : ErP X.prog X.w X.K X.mg X.base x fld C ok) (hr : Room j X.A) (tk : L2N.Takes X W) (ha : PA X [e] ta) (hj : 2 ≤ j := by decide) (hcalm : X.calm = true := by rfl) (hg : Gl X x := by rfl)
    (hdb : (x == ("__debug__" : Str)) = false := by decide) (he : starEach [e] X.env = (false, eval e X.env) :: starEach [] X.env := by rfl) (hpl : (backTo pos (starEach [] X.env)).any (·.1) = false := by rfl) :
    PS X (.Raise (some (.Call (.Name x p) [e] [] pos)) none pos') (fun _ σ H => tMkO C (spInitP C fld ok) [] ta σ H fun cls d H' => W cls d σ H') := by
  obtain ⟨fI, fd, ps, T, F, b⟩ := c.ex
  exact L2N.ps_raise hcalm tk (pmk_oexN (X := X) (p := p) (pos := pos) T.oex T.iC T.tI F (hr.mono hj) b .nil hg T.g ha hdb he hpl)
theorem mkP {C : Addr} {fld : Str} {ok : V → Prop} {v : V} {H1 : Hp} {Q : XK} (o : ok v) (k : ∀ d H2, Same H1 H2 → H1 d = none → H2 d = some (.xd [(fld, v)]) → Q (.ref C) (some d) H2) :
    ([v] : List V).length ≤ 1000 ∧ ∀ a, H1 a = none → spInitP C fld ok (.ref a :: ([v] ++ [])) (upd H1 a (exo a C none))
      (fun u H2 => u = .non ∧ ∃ (d : Addr) (fs : List (Str × V)), H2 a = some (exo a C (some d)) ∧ H2 d = some (exd d fs) ∧ H1 d = none ∧ Q (.ref C) (some d) (upd (del H2 a) d (.xd fs))) (fun _ _ _ => False) := by
  obtain ⟨h1, h2⟩ := mk1 (C := C) (fld := fld) (v := v) (H1 := H1) (Q := Q) k
  refine ⟨h1, fun a ha => ?_⟩
  obtain ⟨a', v', e, ha', q⟩ := h2 a ha
  exact ⟨a', v', e, by rw [show v' = v from by simpa using (List.cons.inj (List.cons.inj e).2).1.symm]; exact o, ha', q⟩
/-- an index that is written in a message -/
def okNat : V → Prop := fun v => ∃ n : Nat, v = .int (n : Int) ∧ n < 2 ^ 62
theorem log_nat {n : Nat} (h : n < 2 ^ 62) : (n : Int).natAbs.log2 < 1920 := by
  show n.log2 < 1920
  by_cases c : n = 0
  · rw [c]
    decide
  · have := (Nat.log2_lt c).mpr h
    omega
theorem str_len (x : Str) : x.length = (TL.tl x).length := TL.len_tl x
theorem num_len {n : Nat} (h : n < 2 ^ 62) : (Str.ofString (toString (n : Int))).length ≤ 19 := by
  rw [str_len, TL.tl_num]
  exact TL.numL_len (by decide) (Nat.lt_of_lt_of_le h (by decide))
theorem app_len (x y : Str) : (x ++ y).length = x.length + y.length := by
  rw [str_len, TL.tl_append, List.length_append, ← str_len, ← str_len]
theorem empty_app (x : Str) : Str.empty ++ x = x := TL.ext_tl (by rw [TL.tl_append] <;> rfl)
-- part errm
-- part errgf
/-- {t}, t a tuple of ints -/
theorem repr_ints {prog : Program} {w : World} : ∀ {l : List Int} {its : List Value}, Vals (l.map V.int) its → (∀ i ∈ l, i.natAbs.log2 < 1920) → ReprAll prog w its (l.map fun i => Str.ofString (toString i))
  | [], _, r, _ => by
    cases r
    exact .nil
  | i :: l, _, r, h => by
    cases r with
    | cons r1 r2 =>
      obtain ⟨t, rfl⟩ := r1
      exact .cons (ReprIs.int t (h i List.mem_cons_self)) (repr_ints r2 fun z hz => h z (List.mem_cons_of_mem _ hz))
theorem piled_ints : ∀ l : List Int, (∀ i ∈ l, i.natAbs.log2 < 1920) → piled (l.map fun i => Str.ofString (toString i)) ≤ l.length * 1925
  | [], _ => Nat.zero_le _
  | i :: l, h => by
    have h1 := int_text_len_1921 (h i List.mem_cons_self)
    have h2 := piled_ints l fun z hz => h z (List.mem_cons_of_mem _ hz)
    rw [List.map_cons, piled_cons, List.length_cons, Nat.succ_mul]
    omega
def tFmtI (K : PySem.W.Frag) (te : TE) : TE := fun σ H Q => te σ H fun x H1 => ∃ (a : Addr) (l : List Int), x = .ref a ∧ SqT K H1 a (l.map V.int) ∧ (∀ i ∈ l, i.natAbs.log2 < 1920) ∧ l.length ≤ 10 ∧ ∀ m : Str, m.length ≤ 20000 → Q (.str m) H1
theorem pe_fmtI {X : Cx} {e : Expr} {te : TE} {pos : Pos} {k : Nat} (hr : Room k X.A) (he : PE X e te) : PE X (.FormattedValue e (-1) none pos) (tFmtI X.K te) := by
  refine ⟨fun pins s σ H Q I h => wpAny_FormattedValue_plain (thn (he.run pins s σ H _ I h) fun v s1 hv => ?_)⟩
  obtain ⟨x, H1, I1, r1, a, l, rfl, ht, hc, few, q⟩ := hv
  cases r1
  obtain ⟨its, rv, ⟨o, ho, hcl, n, hd⟩, _⟩ := I1.tuple ht
  have h1 := piled_ints l hc
  have h2 := fmt_text (l.map fun i => Str.ofString (toString i))
  have hu := hr.units
  have h3 : l.length * 1925 ≤ 10 * 1925 := Nat.mul_le_mul_right _ few
  exact fmt_tuple (ts := l.map fun i => Str.ofString (toString i)) (by omega) ho hcl hd (repr_ints rv hc) (by rw [sizeLine_eq]; omega) fun m u tk hm => ⟨.str m, H1, I1.tok _, ⟨u, rfl⟩, q m (by omega)⟩
-- part methn
/-! methods and operators of an own class that may raise -/
structure MeN (P : Program) (w : World) (K : PySem.W.Frag) (mg : Str → Option Value) (base : Heap) (k : Nat) (C : Addr) (m : Str) (sp : Sp) : Prop where
  ex : ∃ (f : Addr) (fd : FuncData) (ps : List Str), Meth K C m f ∧ FnOk P w K mg base (L2N.CX P w) k f fd ps sp ∧ Binds K fd ps []
section
variable {X : Cx} {W : WX} {C : Addr} {m : Str} {sp : Sp} {k j : Nat} {o e a b : Expr} {es : List Expr} {ta tb : TE} {t : TA} {apos pos : Pos} {pl : Sem Bool}
/-- x op y, where it doesn't raise -/
theorem op_own2N {op : Operator} (c : MeN X.prog X.w X.K X.mg X.base k C m sp) (hr : Room j X.A) (sf : PySem.W.selfFirst X.K C = true) (hm : PySem.dunder op.info.2 = m := by decide +kernel) (hk : k ≤ j := by decide) : OpR X (binaryOp op) (rOwn2 C sp) := by
  obtain ⟨f, fd, ps, M, F, b⟩ := c.ex
  intro pins s σ H x y v u Q I rx ry h
  obtain ⟨a, b', dx, dy, fs, gs, rfl, rfl, ha, hb, q⟩ := h
  cases (show v = Value.ref a from rx)
  cases (show u = Value.ref b' from ry)
  obtain ⟨ox, od, J⟩ := inst_of I ha
  obtain ⟨oy, od', J'⟩ := inst_of I hb
  obtain ⟨mm, hF⟩ := I.fr
  refine PySem.W.binop_K hF I.ok.mod.kin J J'.type sf (by rw [hm]; exact M.at_) M.fn ?_
  refine wpAny_mono (run_fn (us := [.ref a, .ref b']) (vs := [.ref a, .ref b']) F (hr.mono hk) b .nil passN I (.cons rfl (.cons rfl .nil)) q) (fun u' s' z => ?_) fun _ _ x => x
  obtain ⟨z', H', I', rz, qz⟩ := z
  exact SlX.cmpback rz ⟨z', H', I', rz, qz⟩
/-- x op y, what it raises is taken -/
def tOp2S (C : Addr) (sp : Sp) (E : L2.St → XK) (ta tb : TE) : TE := fun σ H Q => ta σ H fun x H1 => tb σ H1 fun y H2 => ∃ a b dx dy fs gs, x = .ref a ∧ y = .ref b ∧ H2 a = some (.ins C dx fs) ∧ H2 b = some (.ins C dy gs) ∧ sp [x, y] H2 Q (E σ)
theorem pe_op2X {op : Operator} (c : MeN X.prog X.w X.K X.mg X.base k C m sp) (hr : Room j X.A) (tk : L2N.Takes X W) (sf : PySem.W.selfFirst X.K C = true) (ha : PE X a ta) (hb : PE X b tb) (hm : PySem.dunder op.info.2 = m := by decide +kernel) (hk : k ≤ j := by decide) : PE X (.BinOp a op b pos) (tOp2S C sp (WE W) ta tb) := by
  obtain ⟨f, fd, ps, M, F, bb⟩ := c.ex
  refine ⟨fun pins s σ H Q I h => ?_⟩
  refine wpAny_BinOp (binT ha hb I h fun v u s2 x y H2 I2 rx ry q => ?_)
  obtain ⟨a, b', dx, dy, fs, gs, rfl, rfl, ha, hb, q⟩ := q
  cases (show v = Value.ref a from rx)
  cases (show u = Value.ref b' from ry)
  obtain ⟨ox, od, J⟩ := inst_of I2 ha
  obtain ⟨oy, od', J'⟩ := inst_of I2 hb
  obtain ⟨mm, hF⟩ := I2.fr
  refine PySem.W.binop_K hF I2.ok.mod.kin J J'.type sf (by rw [hm]; exact M.at_) M.fn ?_
  refine wpAny_mono (run_fnS (us := [.ref a, .ref b']) (vs := [.ref a, .ref b']) (E := WE W) F (hr.mono hk) bb (L2N.passAt tk σ) I2 (.cons rfl (.cons rfl .nil)) q) (fun u' s' z => ?_) fun _ _ x => x
  obtain ⟨z', H', I', rz, qz⟩ := z
  exact SlX.cmpback rz ⟨z', H', I', rz, qz⟩
theorem pe_meN0 (c : MeN X.prog X.w X.K X.mg X.base k C m sp) (cl : Cls X.K C) (hr : Room j X.A) (he : PE X o ta) (hk : k ≤ j := by decide)
    (ht : eval (.Call (.Attribute o m apos) [] [] pos) X.env = (do
      let ov ← eval o X.env
      standAt apos.atName
      let (f, first) ← holding [ov] (getMethod ov m pl)
      callWith pos f first (backTo pos (starEach [] X.env)) (backToKw pos (keywordEach [] X.env))) := by rfl) :
    PE X (.Call (.Attribute o m apos) [] [] pos) (tMeth C m sp [] E0 ta tNil) := by
  obtain ⟨f, fd, ps, M, F, b⟩ := c.ex
  exact pe_meth0 he cl M F (hr.mono hk) b .nil passN ht
theorem pe_meN (c : MeN X.prog X.w X.K X.mg X.base k C m sp) (cl : Cls X.K C) (hr : Room j X.A) (he : PE X o ta) (ha : PA X (e :: es) t) (hk : k ≤ j := by decide)
    (hst : starEach (e :: es) X.env = (false, eval e X.env) :: starEach es X.env := by rfl) (hpl : (backTo pos (starEach es X.env)).any (·.1) = false := by rfl)
    (ht : eval (.Call (.Attribute o m apos) (e :: es) [] pos) X.env = (do
      let ov ← eval o X.env
      standAt apos.atName
      let (f, first) ← holding [ov] (getMethod ov m pl)
      callWith pos f first (backTo pos (starEach (e :: es) X.env)) (backToKw pos (keywordEach [] X.env))) := by rfl) :
    PE X (.Call (.Attribute o m apos) (e :: es) [] pos) (tMeth C m sp [] E0 ta t) := by
  obtain ⟨f, fd, ps, M, F, b⟩ := c.ex
  exact pe_meth he cl M F (hr.mono hk) b .nil passN ha hst hpl ht
/-- o.m(..), what it raises is taken -/
def tMethS (C : Addr) (m : Str) (sp : Sp) (E : L2.St → XK) (ta : TE) (t : TA) : TE := fun σ H Q => ta σ H fun x H1 => ∃ a dx fs, x = .ref a ∧ H1 a = some (.ins C dx fs) ∧ fs.lookup m = none ∧ t σ H1 fun vs H2 => sp (x :: vs) H2 Q (E σ)
theorem pe_meX (c : MeN X.prog X.w X.K X.mg X.base k C m sp) (cl : Cls X.K C) (hr : Room j X.A) (tk : L2N.Takes X W) (he : PE X o ta) (ha : PA X (e :: es) t) (hk : k ≤ j := by decide)
    (hst : starEach (e :: es) X.env = (false, eval e X.env) :: starEach es X.env := by rfl) (hpl : (backTo pos (starEach es X.env)).any (·.1) = false := by rfl)
    (ht : eval (.Call (.Attribute o m apos) (e :: es) [] pos) X.env = (do
      let ov ← eval o X.env
      standAt apos.atName
      let (f, first) ← holding [ov] (getMethod ov m pl)
      callWith pos f first (backTo pos (starEach (e :: es) X.env)) (backToKw pos (keywordEach [] X.env))) := by rfl) :
    PE X (.Call (.Attribute o m apos) (e :: es) [] pos) (tMethS C m sp (WE W) ta t) := by
  obtain ⟨f, fd, ps, M, F, b⟩ := c.ex
  refine ⟨fun pins s σ H Q I h => ?_⟩
  refine PySem.W.methodCall_KW (pl := pl) (thn (he.run pins s σ H _ I h) fun u s1 ⟨x, H1, I1, rx, a, dx, fs, ex, ea, l, q⟩ => ?_) ht
  subst ex
  obtain rfl : u = Value.ref a := rx
  refine getmeth_ok I1 ea cl M l ?_
  exact PySem.W.callWith_K (first := [.ref a]) (h₀ := X.base) I1.ok.mod.kin M.kp (thn (ha.run pos pins s1 σ H1 _ I1 q) fun us s2 ⟨vs, H2, I2, r, q2⟩ => ⟨I2.kIn, run_fnS (us := .ref a :: us) (vs := .ref a :: vs) (E := WE W) F (hr.mono hk) b (L2N.passAt tk σ) I2 (.cons rfl r) q2⟩) hst hpl
theorem pe_meX0 (c : MeN X.prog X.w X.K X.mg X.base k C m sp) (cl : Cls X.K C) (hr : Room j X.A) (tk : L2N.Takes X W) (he : PE X o ta) (hk : k ≤ j := by decide)
    (ht : eval (.Call (.Attribute o m apos) [] [] pos) X.env = (do
      let ov ← eval o X.env
      standAt apos.atName
      let (f, first) ← holding [ov] (getMethod ov m pl)
      callWith pos f first (backTo pos (starEach [] X.env)) (backToKw pos (keywordEach [] X.env))) := by rfl) :
    PE X (.Call (.Attribute o m apos) [] [] pos) (tMethS C m sp (WE W) ta tNil) := by
  obtain ⟨f, fd, ps, M, F, b⟩ := c.ex
  refine ⟨fun pins s σ H Q I h => ?_⟩
  refine PySem.W.methodCall_KW (pl := pl) (thn (he.run pins s σ H _ I h) fun u s1 ⟨x, H1, I1, rx, a, dx, fs, ex, ea, l, q⟩ => ?_) ht
  subst ex
  obtain rfl : u = Value.ref a := rx
  refine getmeth_ok I1 ea cl M l ?_
  exact PySem.W.callWith_K0 (first := [.ref a]) I1.kIn M.kp (run_fnS (us := [.ref a]) (vs := [.ref a]) (E := WE W) F (hr.mono hk) b (L2N.passAt tk σ) I1 (.cons rfl .nil) q)
end
-- part strs
theorem bl_eq {α : Type} (x y : α) [DecidableEq α] {f : α → V} (inj : ∀ a b, f a = f b → a = b) : decide (f x = f y) = decide (x = y) := by
  by_cases c : x = y
  · rw [c, decide_eq_true rfl, decide_eq_true rfl]
  · rw [decide_eq_false c, decide_eq_false fun h => c (inj _ _ h)]
theorem str_eq (x y : Str) : decide (V.str x = V.str y) = decide (x = y) := bl_eq x y fun _ _ h => V.str.inj h
theorem dpAll_strs {K : PySem.W.Frag} {H : Hp} : ∀ l : List Str, DpAll K H (l.map V.str) (l.map PyData.str)
  | [] => .nil
  | x :: l => .cons (.str x) (dpAll_strs l)
theorem eqvAll_strs : ∀ l m : List Str, PyData.eqvAll (l.map PyData.str) (m.map PyData.str) = decide (l = m)
  | [], [] => by rw [List.map_nil, PyData.eqvAll]; rfl
  | [], b :: m => by rw [List.map_nil, List.map_cons, PyData.eqvAll] <;> first | (exact (decide_eq_false (by simp)).symm) | skip
  | a :: l, [] => by rw [List.map_nil, List.map_cons, PyData.eqvAll] <;> first | (exact (decide_eq_false (by simp)).symm) | skip
  | a :: l, b :: m => by
    rw [List.map_cons, List.map_cons, PyData.eqvAll, PyData.eqv, eqvAll_strs l m]
    by_cases c : a = b
    · subst c
      by_cases d : l = m
      · subst d
        simp
      · simp [d]
    · simp [c]
theorem eqv_strs (l m : List Str) : PyData.eqv (.list (l.map PyData.str)) (.list (m.map PyData.str)) = decide (l = m) := by
  rw [PyData.eqv]
  exact eqvAll_strs l m
theorem canLay_strs : ∀ l : List Str, (∀ z ∈ l, PyData.strOk z = true) → PyData.canLayAll0 (l.map PyData.str) = true
  | [], _ => by rw [List.map_nil, PyData.canLayAll0]
  | a :: l, h => by rw [List.map_cons, PyData.canLayAll0, PyData.canLay0, canLay_strs l fun z hz => h z (List.mem_cons_of_mem _ hz), h a List.mem_cons_self]; rfl
theorem depth_strs : ∀ l : List Str, PyData.depthAll (l.map PyData.str) = 0
  | [] => by rw [List.map_nil, PyData.depthAll]
  | a :: l => by rw [List.map_cons, PyData.depthAll, PyData.depth, depth_strs l]; rfl
theorem shaped_strs {l : List Str} (h : ∀ z ∈ l, PyData.strOk z = true) : SeqAt.shaped (.list (l.map PyData.str)) = true := by
  unfold SeqAt.shaped
  rw [PyData.canLay0, canLay_strs l h, PyData.depth, depth_strs]
  rfl
theorem dp_strs {K : PySem.W.Frag} {H : Hp} {a : Addr} {l : List Str} (h : SqL K H a (l.map V.str)) : Dp K H (.ref a) (.list (l.map PyData.str)) := .lst h (dpAll_strs l)
theorem at_str {L : List Str} {i : Nat} {z : Str} (h : L[i]? = some z) : atI (L.map V.str) (i : Int) = some (V.str z) := atI_nat (by rw [List.getElem?_map, h]; rfl)
-- part repjoin
/-- 'a' * n -/
def repS (z : Str) (n : Nat) : Str := ⟨(List.replicate n z.cps).foldl (· ++ ·) #[]⟩
theorem tl_rep (a : Array Nat) : ∀ (n : Nat) (acc : Array Nat), ((List.replicate n a).foldl (· ++ ·) acc).toList = acc.toList ++ (List.replicate n a.toList).flatten
  | 0, acc => by simp
  | n + 1, acc => by
    rw [List.replicate_succ, List.foldl_cons, tl_rep a n, Array.toList_append, List.replicate_succ, List.flatten_cons, List.append_assoc]
theorem tl_repS (z : Str) (n : Nat) : TL.tl (repS z n) = (List.replicate n (TL.tl z)).flatten := by
  show ((List.replicate n z.cps).foldl (· ++ ·) #[]).toList = _
  rw [tl_rep]
  rfl
theorem tl_rep1 {z : Str} {c : Nat} (h : TL.tl z = [c]) (n : Nat) : TL.tl (repS z n) = List.replicate n c := by
  rw [tl_repS, h]
  clear h
  induction n with
  | zero => rfl
  | succ n ih => rw [List.replicate_succ, List.flatten_cons, ih, List.replicate_succ, List.singleton_append]
theorem op_rep_str {X : Cx} : OpR X (binaryOp .Mult) (fun x y H Q => ∃ (z : Str) (n : Int), x = .str z ∧ y = .int n ∧ 1 < n ∧ n < 2 ^ 20 ∧ z.length ≠ 0 ∧ z.length ≤ 10 ∧ Q (.str (repS z n.toNat)) H) := by
  intro pins s σ H x y v u Q I rx ry h
  obtain ⟨z, n, rfl, rfl, h1, h2, h3, h4, q⟩ := h
  obtain ⟨t, rfl⟩ := rx
  obtain ⟨t', rfl⟩ := ry
  have e1 : (n == 1) = false := beq_eq_false_iff_ne.mpr (by omega)
  have e2 : (z.length == 0) = false := beq_eq_false_iff_ne.mpr h3
  have small : z.length * n.toNat ≤ sizeLine := by
    rw [sizeLine_eq]
    refine Nat.le_trans (Nat.mul_le_mul h4 (show n.toNat ≤ 1048576 by omega)) (by decide)
  refine PySem.P.mul_str ?_ (fun _ _ => ?_) (fun _ _ => ?_) ?_
  · rw [decide_eq_false (by omega), decide_eq_false (by omega)]
    rfl
  · have : (2 ^ 63 - 1 : Int) / 1048576 ≤ (2 ^ 63 - 1) / n := by
      refine Int.le_ediv_of_mul_le (by omega) ?_
      have : (2 ^ 63 - 1 : Int) / 1048576 * n ≤ (2 ^ 63 - 1 : Int) / 1048576 * 1048576 := Int.mul_le_mul_of_nonneg_left (by omega) (by decide)
      refine Int.le_trans this (by decide)
    have : (2 ^ 63 - 1 : Int) / 1048576 = 8796093022207 := by decide
    omega
  · exact decide_eq_false (by omega)
  · rw [if_neg (by omega), e1, e2, if_neg (by decide)]
    refine ⟨?_, .str (repS z n.toNat), H, I.tok _, ⟨_, rfl⟩, q⟩
    show (repS z n.toNat).length ≤ sizeLine
    rw [str_len, tl_repS]
    have : (List.replicate n.toNat (TL.tl z)).flatten.length = n.toNat * (TL.tl z).length := by simp
    rw [this, ← str_len, Nat.mul_comm]
    omega
theorem joinL_two (S a b : List Nat) (r : List (List Nat)) : TL.joinL S (a :: b :: r) = a ++ (S ++ TL.joinL S (b :: r)) := rfl
theorem sum_le {k : Nat} : ∀ {ys : List Str}, (∀ y ∈ ys, y.length ≤ k) → (ys.map (·.length)).sum ≤ ys.length * k
  | [], _ => Nat.zero_le _
  | y :: ys, h => by
    have h1 := h y List.mem_cons_self
    have h2 := sum_le (k := k) (ys := ys) fun z hz => h z (List.mem_cons_of_mem _ hz)
    rw [List.map_cons, List.sum_cons, List.length_cons, Nat.succ_mul]
    omega
theorem joinL_len {S : List Nat} : ∀ ps : List (List Nat), (TL.joinL S ps).length ≤ (ps.map (·.length)).sum + ps.length * S.length
  | [] => Nat.zero_le _
  | [p] => by
    show p.length ≤ _
    simp only [List.map_cons, List.map_nil, List.sum_cons, List.sum_nil]
    omega
  | p :: q :: r => by
    have := joinL_len (S := S) (q :: r)
    rw [joinL_two, List.length_append, List.length_append, List.map_cons, List.sum_cons, List.length_cons, Nat.succ_mul]
    omega
theorem join_len {y : Str} {ws : List Str} {k : Nat} (h : ∀ z ∈ ws, z.length ≤ k) : (Txt.join y ws).length ≤ ws.length * k + ws.length * y.length := by
  rw [TL.join_eq, str_len, TL.tl_join]
  have := joinL_len (S := TL.tl y) (ws.map TL.tl)
  have s := sum_le h
  rw [List.length_map, List.map_map] at this
  have e : (ws.map ((·.length) ∘ TL.tl)) = ws.map (·.length) := List.map_congr_left fun z _ => (str_len z).symm
  rw [e, ← str_len] at this
  omega
-- part erbk
/-! errors of books of reports -/
def okS : V → Prop := fun v => ∃ z : Str, v = .str z ∧ z.length ≤ 1000
/-- a copy of a list as the field -/
def spInitL (K : PySem.W.Frag) (C : Addr) (fld : Str) : Sp := fun vs H Q _ => ∃ (a l : Addr) (xs : List V), vs = [.ref a, .ref l] ∧ SqL K H l xs ∧ H a = some (exo a C none) ∧
  ∀ q d, H q = none → q ≠ a → upd H q (.lst xs) d = none → d ≠ a → Q .non (upd (upd (upd H q (.lst xs)) d (exd d [(fld, .ref q)])) a (exo a C (some d)))
theorem mkL {K : PySem.W.Frag} {C l : Addr} {fld : Str} {xs : List V} {H1 : Hp} {Q : XK} (hl : SqL K H1 l xs) (k : ∀ q d H2, Same H1 H2 → H1 q = none → H2 q = some (.lst xs) → H2 d = some (.xd [(fld, .ref q)]) → Q (.ref C) (some d) H2) :
    ([V.ref l] : List V).length ≤ 1000 ∧ ∀ a, H1 a = none → spInitL K C fld (.ref a :: ([V.ref l] ++ [])) (upd H1 a (exo a C none))
      (fun u H2 => u = .non ∧ ∃ (d : Addr) (fs : List (Str × V)), H2 a = some (exo a C (some d)) ∧ H2 d = some (exd d fs) ∧ H1 d = none ∧ Q (.ref C) (some d) (upd (del H2 a) d (.xd fs))) (fun _ _ _ => False) := by
  refine ⟨(by show 1 ≤ 1000; decide), fun a ha => ⟨a, l, xs, rfl, (same_upd ha).seq hl, upd_same, fun q d hq hqa hd hda => ⟨rfl, d, [(fld, .ref q)], upd_same, ?_, ?_, ?_⟩⟩⟩
  · rw [upd_ne hda, upd_same]
  · have hdq : d ≠ q := fun z => by
      rw [z, upd_same] at hd
      cases hd
    rw [upd_ne hdq, upd_ne hda] at hd
    exact hd
  · have hdq : d ≠ q := fun z => by
      rw [z, upd_same] at hd
      cases hd
    rw [upd_ne hdq, upd_ne hda] at hd
    rw [upd_ne hqa] at hq
    refine k q d _ (fun b o e => ?_) hq ?_ upd_same
    · have hba := ne_of_none e ha
      have hbd := ne_of_none e hd
      have hbq := ne_of_none e hq
      rw [upd_ne hbd, del_ne hba, upd_ne hba, upd_ne hbd, upd_ne hbq, upd_ne hba]
      exact e
    · rw [upd_ne (Ne.symm hdq), del_ne hqa, upd_ne hqa, upd_ne (Ne.symm hdq)]
      exact upd_same
-- part erun
abbrev s_iun : Stmt := inClass (top 6) 0
theorem sc_iun : FnScope ["self", "name"] ["self", "name"] (defScope s_iun) := ⟨rfl, rfl, rfl, by decide +kernel, rfl, by decide +kernel, by decide +kernel⟩
theorem ok_iun {f C CF : Addr} {fd : FuncData} (TF : FErr K mg CF) (hC : OexC K C) (hno : PySem.W.findIn K (.ref C) "name" = some none) (F : Fun K "__init__" "UnknownName.__init__" s_iun f fd) : FnOk P w K mg base CX0 1 f fd ["self", "name"] (spInitP C "name" okS) := by
  refine F.ok sc_iun (fun vs H Q E h => ?_) (fun cdv A outer s H vs Q E hr h => ?_)
  · obtain ⟨a, v, rfl, _⟩ := h
    rfl
  · obtain ⟨a, v, rfl, o, ha, q⟩ := h
    obtain ⟨z, rfl, hz⟩ := o
    have ln := hz
    have m1 : ("nothing has the name " : Str).length ≤ 100 := by decide +kernel
    refine ⟨_, (pss_cons (ps_expr (pe_feinit TF (pa_cons (pv 0) (pa_cons (pe_joined (.cons pe_str (.cons (pe_fmt (pv 1)) .nil))) pa_nil))))
 (pss_one (ps_ost (pv 0) (pv 1)))), ?_⟩
    refine ⟨_, rfl, _, rfl, by rw [empty_app, sizeLine_eq]; omega, _, rfl, .inl ⟨_, rfl, by rw [sizeLine_eq]; omega, _, rfl, by rw [empty_app, app_len, sizeLine_eq]; omega, ?_⟩⟩
    refine ⟨a, C, _, rfl, (by show 1 ≤ 1000; decide), hC, ha, ?_⟩
    exact ⟨_, rfl, _, rfl, a, C, rfl, hC, hno, .inl ⟨ha, fun dx hn hne => q dx hn hne⟩⟩
-- part comb
abbrev s_comb : Stmt := top 9
theorem sc_comb : FnScope ["a", "b", "d", "rest", "u", "next_u", "times"] ["a", "b"] (defScope s_comb) := ⟨rfl, rfl, rfl, by decide +kernel, rfl, by decide +kernel, by decide +kernel⟩
def CDivNW (_ j : Int) : Prop := j ≠ 0 ∧ j.natAbs.log2 < 9000
theorem op_fdivNW {X : Cx} : OpR X (binaryOp .FloorDiv) (rI CDivNW fun i j => .int (i.fdiv j)) := opI fun i j _ _ _ _ _ hc q => floordiv_int hc.1 q (.inl (PyProof.noPylong_of_log2 hc.2))
def BigL : Nat := 2 ^ 300
theorem bigL_lt {x : Nat} {a b : Int} (ha : a.natAbs < BigL) (hb : b.natAbs < BigL) (h : x ≤ a.natAbs + b.natAbs + 1) : x < 2 ^ 302 := by
  have e : (2 : Nat) ^ 302 = 4 * BigL := by decide
  have e2 : 2 ≤ BigL := by decide
  omega
def spComb : Sp := fun vs H Q _ => ∃ (a b : Int), vs = [.int a, .int b] ∧ a.natAbs < BigL ∧ b.natAbs < BigL ∧
  ∀ u v t H', u * a + v * b = ((a.gcd b : Nat) : Int) → u.natAbs < 2 ^ 302 → v.natAbs < 2 ^ 700 → Same H H' → H' t = some (.tup [.int ((a.gcd b : Nat) : Int), .int u, .int v]) → Q (.ref t) H'
theorem ok_comb {f : Addr} {fd : FuncData} (F : Fun K "combination" "combination" s_comb f fd) : FnOk P w K mg base CX0 1 f fd ["a", "b"] spComb := by
  refine F.ok sc_comb (fun vs H Q E h => ?_) (fun cdv A outer s H vs Q E hr h => ?_)
  · obtain ⟨a, b, rfl, _⟩ := h
    rfl
  · obtain ⟨a, b, rfl, ha, hb, q⟩ := h
    refine ⟨_, (pss_cons (ps_par (i := 2) (j := 3) rfl sc_comb.nd rfl rfl (by decide) rfl rfl (pa_cons (pv 0) (pa_cons (pv 1) pa_nil)) rfl)
 (pss_cons (ps_asg (pe_tup (pa_cons pe_int (pa_cons pe_int pa_nil))) (pg_tup rfl (pgs_cons (pg_name (i := 4) sc_comb.nd rfl (Or.inl rfl)) (pgs_cons (pg_name (i := 5) sc_comb.nd rfl (Or.inl rfl)) pgs_nil))))
 (pss_cons (ps_while PassesOwn.never (pt_cmpR op_ne (pv 3) pe_int (nomark _)) (pss_cons (ps_set (i := 6) sc_comb.nd rfl (Or.inl rfl) (pe_op op_fdivNW (pv 2) (pv 3)))
 (pss_cons (ps_par (i := 2) (j := 3) rfl sc_comb.nd rfl rfl (by decide) rfl rfl (pa_cons (pv 3) (pa_cons (pe_op op_sub (pv 2) (pe_op op_mulW (pv 6) (pv 3))) pa_nil)) rfl)
 (pss_one (ps_par (i := 4) (j := 5) rfl sc_comb.nd rfl rfl (by decide) rfl rfl (pa_cons (pv 5) (pa_cons (pe_op op_sub (pv 4) (pe_op op_mulW (pv 6) (pv 5))) pa_nil)) rfl)))))
 (pss_cons (ps_if (pt_cmpR op_lt (pv 2) pe_int (nomark _)) (pss_one (ps_par (i := 2) (j := 4) rfl sc_comb.nd rfl rfl (by decide) rfl rfl (pa_cons (pe_un un_neg (pv 2)) (pa_cons (pe_un un_neg (pv 4)) pa_nil)) rfl)) pss_nil)
 (pss_cons (ps_if (pt_cmpR op_eq (pv 1) pe_int (nomark _)) (pss_one (ps_ret (pe_tup (pa_cons (pv 2) (pa_cons (pv 4) (pa_cons pe_int pa_nil)))))) pss_nil)
 (pss_one (ps_ret (pe_tup (pa_cons (pv 2) (pa_cons (pv 4) (pa_cons (pe_op op_fdivNW (pe_op op_sub (pv 2) (pe_op op_mulW (pv 4) (pv 0))) (pv 1)) pa_nil))))))))))), ?_⟩
    refine ⟨_, rfl, _, rfl, _, _, rfl, ?_⟩
    refine ⟨(by show 2 ≤ sizeLine; decide), fun p0 hp0 => ⟨p0, _, rfl, .inl (.inl upd_same), rfl, _, _, rfl, _, _, rfl, rfl, ?_⟩⟩
    refine while_by (fun σ H' => H' = _ ∧ ∃ d r u u' x, σ = [some (.int a), some (.int b), some (.int d), some (.int r), some (.int u), some (.int u'), x] ∧ Euc a b d r u u')
      (fun σ _ => match σ[3]? with | some (some (V.int r)) => r.natAbs | _ => 0) ⟨rfl, _, _, _, _, _, rfl, euc0 a b⟩ ?_ ?_
    · rintro σ _ ⟨rfl, d, r, u, u', x, rfl, I⟩
      refine ⟨_, rfl, rfl, _, rfl, ?_⟩
      by_cases c : r = 0
      · refine if_neg_of (by simp [c]) ?_
        subst c
        have eg := euc_end I
        have bu := bigL_lt (x := u.natAbs) ha hb (by have := I.bu; omega)
        have ba : a.natAbs < 2 ^ 302 := bigL_lt ha hb (by omega)
        have s1 : Same H (upd H p0 (.tup [.int 1, .int 0])) := same_upd hp0
        obtain ⟨v, cv⟩ := I.c1
        obtain ⟨d', u', v', h1, h2, h3, h4, h5⟩ : ∃ d' u' v' : Int, (d < 0 → d' = -d ∧ u' = -u) ∧ (¬ d < 0 → d' = d ∧ u' = u) ∧ d' = ((a.gcd b : Nat) : Int) ∧ d' = u' * a + v' * b ∧ u'.natAbs < 2 ^ 302 := by
          by_cases hd : d < 0
          · refine ⟨-d, -u, -v, fun _ => ⟨rfl, rfl⟩, fun h => absurd hd h, by omega, ?_, by omega⟩
            rw [cv, Int.neg_mul, Int.neg_mul]
            omega
          · exact ⟨d, u, v, fun h => absurd h hd, fun _ => ⟨rfl, rfl⟩, by omega, cv, bu⟩
        refine ⟨_, rfl, _, _, rfl, rfl, _, rfl, ?_⟩
        by_cases hd : d < 0
        · refine if_pos_of (decide_eq_true hd) ?_
          refine ⟨_, rfl, _, rfl, _, rfl, _, rfl, V.int d', V.int u', (by rw [(h1 hd).1, (h1 hd).2] <;> rfl), ?_⟩
          refine ⟨_, rfl, rfl, _, rfl, ?_⟩
          by_cases hb0 : b = 0
          · refine if_pos_of (by simp [hb0]) ?_
            refine ⟨_, rfl, _, rfl, (by show 3 ≤ sizeLine; decide), fun t ht => ?_⟩
            subst hb0
            exact q u' 0 t _ (by omega) h5 (by decide) (s1.trans (same_upd ht)) (by rw [← h3]; exact upd_same)
          · refine if_neg_of (by simp [hb0]) ?_
            have m : (u' * a).natAbs < 2 ^ (302 + 302) := wide_lt h5 ba
            have bb : b.natAbs < 2 ^ 302 := bigL_lt (x := b.natAbs) ha hb (by omega)
            have bv : v'.natAbs < 2 ^ 700 := by
              have z := natAbs_le_mul (v := v') hb0
              have bd : d'.natAbs < 2 ^ 302 := bigL_lt ha hb (by have := I.bd; omega)
              have z2 : v' * b = d' - u' * a := by omega
              rw [z2] at z
              have z3 := Int.natAbs_sub_le d' (u' * a)
              have e1 : (2 : Nat) ^ 302 ≤ 2 ^ 604 := by decide
              have e2 : (2 : Nat) ^ 604 + 2 ^ 604 ≤ 2 ^ 700 := by decide
              have m' : (u' * a).natAbs < 2 ^ 604 := m
              generalize (2 : Nat) ^ 700 = T7 at *
              generalize (2 : Nat) ^ 604 = T6 at *
              generalize (2 : Nat) ^ 302 = T3 at *
              omega
            refine ⟨_, rfl, _, rfl, _, rfl, _, rfl, _, rfl, _, _, rfl, rfl, wide_mul h5 ba (by decide) (by decide) (by decide), _, _, rfl, rfl, _, rfl, _, _, rfl, rfl, ⟨hb0, PySem.Flt.log2_lt_of (by decide) (Nat.lt_of_lt_of_le bb (by decide))⟩, (by show 3 ≤ sizeLine; decide), fun t ht => ?_⟩
            show Q (V.ref t) (upd (upd H p0 (HO.tup [V.int 1, V.int 0])) t (HO.tup [V.int d', V.int u', V.int ((d' - u' * a).fdiv b)]))
            rw [euc_last hb0 h4]
            exact q u' v' t _ (by omega) h5 bv (s1.trans (same_upd ht)) (by rw [← h3]; exact upd_same)
        · refine if_neg_of (decide_eq_false hd) ?_
          rw [← (h2 hd).1, ← (h2 hd).2]
          refine ⟨_, rfl, rfl, _, rfl, ?_⟩
          by_cases hb0 : b = 0
          · refine if_pos_of (by simp [hb0]) ?_
            refine ⟨_, rfl, _, rfl, (by show 3 ≤ sizeLine; decide), fun t ht => ?_⟩
            subst hb0
            exact q u' 0 t _ (by omega) h5 (by decide) (s1.trans (same_upd ht)) (by rw [← h3]; exact upd_same)
          · refine if_neg_of (by simp [hb0]) ?_
            have m : (u' * a).natAbs < 2 ^ (302 + 302) := wide_lt h5 ba
            have bb : b.natAbs < 2 ^ 302 := bigL_lt (x := b.natAbs) ha hb (by omega)
            have bv : v'.natAbs < 2 ^ 700 := by
              have z := natAbs_le_mul (v := v') hb0
              have bd : d'.natAbs < 2 ^ 302 := bigL_lt ha hb (by have := I.bd; omega)
              have z2 : v' * b = d' - u' * a := by omega
              rw [z2] at z
              have z3 := Int.natAbs_sub_le d' (u' * a)
              have e1 : (2 : Nat) ^ 302 ≤ 2 ^ 604 := by decide
              have e2 : (2 : Nat) ^ 604 + 2 ^ 604 ≤ 2 ^ 700 := by decide
              have m' : (u' * a).natAbs < 2 ^ 604 := m
              generalize (2 : Nat) ^ 700 = T7 at *
              generalize (2 : Nat) ^ 604 = T6 at *
              generalize (2 : Nat) ^ 302 = T3 at *
              omega
            refine ⟨_, rfl, _, rfl, _, rfl, _, rfl, _, rfl, _, _, rfl, rfl, wide_mul h5 ba (by decide) (by decide) (by decide), _, _, rfl, rfl, _, rfl, _, _, rfl, rfl, ⟨hb0, PySem.Flt.log2_lt_of (by decide) (Nat.lt_of_lt_of_le bb (by decide))⟩, (by show 3 ≤ sizeLine; decide), fun t ht => ?_⟩
            show Q (V.ref t) (upd (upd H p0 (HO.tup [V.int 1, V.int 0])) t (HO.tup [V.int d', V.int u', V.int ((d' - u' * a).fdiv b)]))
            rw [euc_last hb0 h4]
            exact q u' v' t _ (by omega) h5 bv (s1.trans (same_upd ht)) (by rw [← h3]; exact upd_same)
      · refine if_pos_of (by simp [c]) ?_
        have br := bigL_lt (x := r.natAbs) ha hb (by have := I.br; omega)
        have bd := bigL_lt (x := d.natAbs) ha hb (by have := I.bd; omega)
        have bu := bigL_lt (x := u'.natAbs) ha hb (by have := I.bu'; omega)
        have bq : (d.fdiv r).natAbs < 2 ^ 302 := by
          obtain ⟨_, _, _, _, h4, _⟩ := fd_parts d r c
          omega
        have st := euc_step I c
        refine ⟨_, rfl, _, rfl, _, _, rfl, rfl, ⟨c, PySem.Flt.log2_lt_of (by decide) (Nat.lt_of_lt_of_le br (by decide))⟩, ?_⟩
        refine ⟨_, rfl, _, rfl, _, rfl, _, rfl, _, _, rfl, rfl, wide_mul bq br (by decide) (by decide) (by decide), _, _, rfl, rfl, _, _, rfl, ?_⟩
        refine ⟨_, rfl, _, rfl, _, rfl, _, rfl, _, _, rfl, rfl, wide_mul bq bu (by decide) (by decide) (by decide), _, _, rfl, rfl, _, _, rfl, ?_⟩
        exact ⟨⟨rfl, _, _, _, _, _, rfl, st.1⟩, st.2⟩
    · intro σ H1 Q1 Q2 h ⟨v, e, s, k, e2, q⟩
      exact ⟨v, e, s, k, e2, h _ _ q⟩
-- part chkn
/-! characteristics, in the layer L2N -/
/-- a characteristic: 0 or a prime -/
def Chr (p : Int) : Prop := p = 0 ∨ Pr p
abbrev s_chkp : Stmt := top 12
theorem sc_chkp : FnScope ["p"] ["p"] (defScope s_chkp) := ⟨rfl, rfl, rfl, by decide +kernel, rfl, by decide +kernel, by decide +kernel⟩
def spChkp (C : Addr) : Sp := fun vs H Q E => ∃ p : Int, vs = [.int p] ∧ p < 2 ^ 62 ∧ (Pr p → Q (.int p) H) ∧ (¬ Pr p → ∀ d H', Same H H' → H' d = some (.xd [("p", .int p)]) → E (.ref C) (some d) H')
theorem ok_chkp {f C : Addr} {fd : FuncData} (F : Fun K "checked_prime" "checked_prime" s_chkp f fd) (c_prime : Cl P w K mg base CX0 2 "is_prime" spPrime) (x_bc : Er P w K mg base "BadCharacteristic" "p" C) : FnOk P w K mg base (L2N.CX P w) 3 f fd ["p"] (spChkp C) := by
  refine okN F sc_chkp (fun vs H Q E h => ?_) (fun cdv A outer s H vs Q E hr h => ?_)
  · obtain ⟨n, rfl, _⟩ := h
    rfl
  · obtain ⟨p, rfl, hb, q, e⟩ := h
    refine ⟨_, (pss_cons (ps_if (pt_not (pt_val (pe_cl c_prime hr (pa_cons (pv 0) pa_nil)))) (pss_one (ps_raise1N x_bc hr (L2N.takes_of rfl rfl rfl rfl) (pa_cons (pv 0) pa_nil))) pss_nil)
 (pss_one (ps_ret (pv 0)))), ?_⟩
    refine ⟨_, rfl, p, rfl, hb, _, rfl, ?_⟩
    by_cases c2 : Pr p
    · refine if_neg_of (by rw [prB_true c2]; rfl) ?_
      exact ⟨_, rfl, q c2⟩
    · refine if_pos_of (by rw [prB_false c2]; rfl) ?_
      refine ⟨_, rfl, ?_⟩
      exact mk1 fun d H2 s _ hd => e c2 d H2 s hd
abbrev s_rem : Stmt := top 13
theorem sc_rem : FnScope ["n", "p"] ["n", "p"] (defScope s_rem) := ⟨rfl, rfl, rfl, by decide +kernel, rfl, by decide +kernel, by decide +kernel⟩
def spRem : Sp := fun vs H Q _ => ∃ n p : Int, vs = [.int n, .int p] ∧ 0 < p ∧ Q (.int (n % p)) H
theorem ok_rem {f : Addr} {fd : FuncData} (F : Fun K "remainder" "remainder" s_rem f fd) : FnOk P w K mg base CX0 1 f fd ["n", "p"] spRem := by
  refine F.ok sc_rem (fun vs H Q E h => ?_) (fun cdv A outer s H vs Q E hr h => ?_)
  · obtain ⟨n, p, rfl, _⟩ := h
    rfl
  · obtain ⟨n, p, rfl, hp, q⟩ := h
    refine ⟨_, (pss_cons (ps_if (pt_cmpR op_eq (pv 1) pe_int (nomark _)) (pss_one (ps_ret (pv 0))) pss_nil)
 (pss_one (ps_ret (pe_op op_mod (pv 0) (pv 1))))), ?_⟩
    refine ⟨_, rfl, rfl, _, rfl, if_neg_of (decide_eq_false fun e => by have := V.int.inj e; omega) ?_⟩
    exact ⟨_, rfl, _, rfl, _, _, rfl, rfl, hp, q⟩
abbrev s_recip : Stmt := top 14
theorem sc_recip : FnScope ["n", "p"] ["n", "p"] (defScope s_recip) := ⟨rfl, rfl, rfl, by decide +kernel, rfl, by decide +kernel, by decide +kernel⟩
def spRecip : Sp := fun vs H Q _ => ∃ n p : Int, vs = [.int n, .int p] ∧ Pr p ∧ p < 2 ^ 62 ∧ 0 < n ∧ n < p ∧ ∀ b H', 0 ≤ b → b < p → p ∣ b * n - 1 → Same H H' → Q (.int b) H'
theorem ok_recip {f : Addr} {fd : FuncData} (F : Fun K "reciprocal" "reciprocal" s_recip f fd) (c_comb : Cl P w K mg base CX0 1 "combination" spComb) : FnOk P w K mg base CX0 2 f fd ["n", "p"] spRecip := by
  refine F.ok sc_recip (fun vs H Q E h => ?_) (fun cdv A outer s H vs Q E hr h => ?_)
  · obtain ⟨n, p, rfl, _⟩ := h
    rfl
  · obtain ⟨n, p, rfl, hp, hb, n0, n1, q⟩ := h
    have e62 : (2 : Nat) ^ 62 ≤ BigL := by decide
    have p2 := hp.1
    refine ⟨_, (pss_one (ps_ret (pe_op op_mod (pe_ix ix_tup (pe_cl c_comb hr (pa_cons (pv 0) (pa_cons (pv 1) pa_nil))) pe_int (fun _ _ => rfl)) (pv 1)))), ?_⟩
    refine ⟨_, rfl, _, rfl, n, p, rfl, by omega, by omega, fun u v t H1 huv _ _ s1 ht => ?_⟩
    rw [gcd_one hp n0 n1] at huv ht
    refine ⟨t, _, _, _, rfl, rfl, SqT.of ht, rfl, _, rfl, _, _, rfl, rfl, (by omega), ?_⟩
    exact q (u % p) H1 (Int.emod_nonneg _ (by omega)) (Int.emod_lt_of_pos _ (by omega)) (recip_ok huv (by omega)) s1
-- part kwm
/-! methods called with keywords, nothing lacks -/
structure MeKw (P : Program) (w : World) (K : PySem.W.Frag) (mg : Str → Option Value) (base : Heap) (CX : CXT) (k : Nat) (C : Addr) (m : Str) (n : Nat) (ks : List Str) (sp : Sp) : Prop where
  ex : ∃ (f : Addr) (fd : FuncData) (ps : List Str), Meth K C m f ∧ FnOk P w K mg base CX k f fd ps sp ∧ KBn K fd ps (n + 1) ks (fun us ws => us ++ ws) (fun vs zs => vs ++ zs)
theorem kbn_of {K : PySem.W.Frag} {fd : FuncData} {ps ks : List Str} {n : Nat} (h : ∀ (s : Shared) (us ws : List Value), us.length = n → ws.length = ks.length → BindsTo s fd ⟨us, ks.zip ws⟩ (ps.zip (us ++ ws))) : KBn K fd ps n ks (fun us ws => us ++ ws) (fun vs zs => vs ++ zs) :=
  ⟨fun s us ws _ l1 l2 => h s us ws l1 l2, fun r1 r2 => r1.append r2⟩
def tMethK (C : Addr) (m : Str) (n j : Nat) (sp : Sp) (E : L2.St → XK) (ta : TE) (t tk : TA) : TE := fun σ H Q => ta σ H fun x H1 => ∃ a dx fs, x = .ref a ∧ H1 a = some (.ins C dx fs) ∧ fs.lookup m = none ∧ t σ H1 fun vs H2 => tk σ H2 fun zs H3 => vs.length = n ∧ zs.length = j ∧ sp (x :: vs ++ zs) H3 Q (E σ)
section
variable {X : Cx} {C : Addr} {m : Str} {sp : Sp} {k j n : Nat} {ks : List Str} {o e : Expr} {es : List Expr} {kws : List Keyword} {ta : TE} {t tw : TA} {apos pos : Pos} {pl : Sem Bool}
theorem run_fnK {CX : CXT} {E : L2.St → XK} {f : Addr} {fd : FuncData} {ps : List Str} {pins : List (Addr × Obj)} {σ : L2.St} {H : Hp} {s : Shared} {Q : VK} {us ws : List Value} {vs zs : List V} (F : FnOk X.prog X.w X.K X.mg X.base CX k f fd ps sp) (hr : Room k X.A) (hb : KBn X.K fd ps n ks (fun us ws => us ++ ws) (fun vs zs => vs ++ zs)) (hx : PassesAt CX X σ (E σ))
    (I : Inv X pins σ H s) (r : Vals vs us) (rz : Vals zs ws) (l1 : vs.length = n) (l2 : zs.length = ks.length) (h : sp (vs ++ zs) H Q (E σ)) : wpAny (model X.prog X.w) X.A (call (.ref f) us (ks.zip ws)) (EP X pins σ Q) X.xe s := by
  have r2 := hb.rel r rz
  refine wpAny_call (codeAny_mono (F.run X.A X.stack s H ⟨us, ks.zip ws⟩ (us ++ ws) (vs ++ zs) Q (E σ) hr I.env0 (hb.to s us ws I.kIn (r.length.symm.trans l1) (rz.length.symm.trans l2)) r2 h) fun r s' hq => ?_)
  cases r with
  | error e => exact hx pins H s e s' I hq
  | ok fl =>
    cases fl with
    | ret u => exact I.after hq
    | next => exact False.elim hq
    | brk => exact False.elim hq
    | cont => exact False.elim hq
theorem pe_meKw {CX : CXT} {E : L2.St → XK} (c : MeKw X.prog X.w X.K X.mg X.base CX k C m n ks sp) (cl : Cls X.K C) (hr : Room j X.A) (hx : ∀ σ, PassesAt CX X σ (E σ)) (he : PE X o ta) (ha : PA X (e :: es) t) (hw : PK X kws tw) (hk : k ≤ j := by decide)
    (hall : (backToKw pos (keywordEach kws X.env)).all (·.1.isSome) = true := by rfl) (hks : (backToKw pos (keywordEach kws X.env)).filterMap (·.1) = ks := by rfl)
    (hst : starEach (e :: es) X.env = (false, eval e X.env) :: starEach es X.env := by rfl) (hpl : ((backTo pos (starEach (e :: es) X.env)).any (·.1) || (backToKw pos (keywordEach kws X.env)).any (·.1.isNone)) = false := by rfl)
    (ht : eval (.Call (.Attribute o m apos) (e :: es) kws pos) X.env = (do
      let ov ← eval o X.env
      standAt apos.atName
      let (f, first) ← holding [ov] (getMethod ov m pl)
      callWith pos f first (backTo pos (starEach (e :: es) X.env)) (backToKw pos (keywordEach kws X.env))) := by rfl) :
    PE X (.Call (.Attribute o m apos) (e :: es) kws pos) (tMethK C m n ks.length sp E ta t tw) := by
  obtain ⟨f, fd, ps, M, F, b⟩ := c.ex
  refine ⟨fun pins s σ H Q I h => ?_⟩
  refine PySem.W.methodCall_KW (pl := pl) (thn (he.run pins s σ H _ I h) fun u s1 ⟨x, H1, I1, rx, a, dx, fs, ex, ea, l, q⟩ => ?_) ht
  subst ex
  obtain rfl : u = Value.ref a := rx
  refine getmeth_ok I1 ea cl M l ?_
  refine PySem.W.callWith_KW (first := [.ref a]) (h₀ := X.base) I1.ok.mod.kin M.kp hall (thn (ha.run pos pins s1 σ H1 _ I1 q) fun us s2 ⟨vs, H2, I2, r, q⟩ => ?_) hpl hst
  refine thn (hw.run pos pins s2 σ H2 _ I2 q) fun ws s3 ⟨zs, H3, I3, rz, l1, l2, q2⟩ => ⟨I3.kIn, ?_⟩
  rw [hks]
  exact run_fnK (us := .ref a :: us) (vs := .ref a :: vs) F (hr.mono hk) b (hx σ) I3 (.cons rfl r) rz (congrArg Nat.succ l1) l2 q2
/-- o.m(.., k = v), no keyword's positional argument -/
theorem pe_meKw0 {CX : CXT} {E : L2.St → XK} (c : MeKw X.prog X.w X.K X.mg X.base CX k C m 0 ks sp) (cl : Cls X.K C) (hr : Room j X.A) (hx : ∀ σ, PassesAt CX X σ (E σ)) (he : PE X o ta) (hw : PK X kws tw) (hk : k ≤ j := by decide)
    (hall : (backToKw pos (keywordEach kws X.env)).all (·.1.isSome) = true := by rfl) (hks : (backToKw pos (keywordEach kws X.env)).filterMap (·.1) = ks := by rfl)
    (hpl : ((backTo pos (starEach [] X.env)).any (·.1) || (backToKw pos (keywordEach kws X.env)).any (·.1.isNone)) = false := by rfl)
    (ht : eval (.Call (.Attribute o m apos) [] kws pos) X.env = (do
      let ov ← eval o X.env
      standAt apos.atName
      let (f, first) ← holding [ov] (getMethod ov m pl)
      callWith pos f first (backTo pos (starEach [] X.env)) (backToKw pos (keywordEach kws X.env))) := by rfl) :
    PE X (.Call (.Attribute o m apos) [] kws pos) (tMethK C m 0 ks.length sp E ta tNil tw) := by
  obtain ⟨f, fd, ps, M, F, b⟩ := c.ex
  refine ⟨fun pins s σ H Q I h => ?_⟩
  refine PySem.W.methodCall_KW (pl := pl) (thn (he.run pins s σ H _ I h) fun u s1 ⟨x, H1, I1, rx, a, dx, fs, ex, ea, l, q⟩ => ?_) ht
  subst ex
  obtain rfl : u = Value.ref a := rx
  refine getmeth_ok I1 ea cl M l ?_
  refine PySem.W.callWith_KW0 (first := [.ref a]) (h₀ := X.base) I1.ok.mod.kin M.kp hall (thn (hw.run pos pins s1 σ H1 _ I1 q) fun ws s3 ⟨zs, H3, I3, rz, l1, l2, q2⟩ => ⟨I3.kIn, ?_⟩) hpl
  rw [hks]
  exact run_fnK (us := [.ref a]) (vs := [.ref a]) F (hr.mono hk) b (hx σ) I3 (.cons rfl .nil) rz rfl l2 q2
theorem passE0 : ∀ σ : L2.St, PassesAt CX0 X σ E0 := fun _ _ _ _ _ _ _ h => h.elim
theorem passEN : ∀ σ : L2.St, PassesAt (L2N.CX X.prog X.w) X σ E0 := fun _ _ _ _ _ _ _ ⟨_, _, _, _, _, _, _, _, _, _, _, _, z⟩ => z.elim
end
/-- a list compared with the empty one -/
def rEqNil (K : PySem.W.Frag) : R2 := fun x y H Q => ∃ a b xs, x = .ref a ∧ y = .ref b ∧ SqL K H a xs ∧ SqL K H b [] ∧ Q (.bl xs.isEmpty) H
theorem op_eqNil {X : Cx} {k : Nat} (hr : Room k X.A) : OpR X (compareOp .Eq) (rEqNil X.K) := by
  intro pins s σ H x y v u Q I rx ry h
  obtain ⟨a, b, xs, rfl, rfl, ha, hb, q⟩ := h
  cases (show v = Value.ref a from rx)
  cases (show u = Value.ref b from ry)
  obtain ⟨us, r1, p1, _⟩ := I.list ha
  obtain ⟨ws, r2, p2, _⟩ := I.list hb
  have hu := hr.un
  cases r2
  cases r1 with
  | nil =>
    refine SeqAt.eq_listAt (e := fun _ => true) p1.isList p2.isList rfl (by omega) (fun j h1 h2 => absurd h1 (Nat.not_lt_zero j)) ?_
    exact ⟨.bl true, H, I, rfl, q⟩
  | cons _ _ =>
    refine SeqAt.eq_list_lengthsAt p1.isList p2.isList (by simp) (by omega) ?_
    exact ⟨.bl false, H, I, rfl, q⟩
-- part hu1
theorem hu1 {k : Nat} {A : Around} (hr : Room k A) : A.units + 1 < cLine := by
  have := hr.un
  omega
-- part starg
/-! a, b, *rest = a list -/
theorem pgs_star {X : Cx} {e : Expr} {es : List Expr} {t : TG} {u : TGs} {p : Pos} (h1 : PG X e t) (h2 : PGs X es u)
    (hs : (assignEach (.Starred e p :: es) X.env).map (·.2) = assign e X.env :: (assignEach es X.env).map (·.2) := by rfl) : PGs X (.Starred e p :: es) (gCons t u) := by
  refine ⟨fun pins s σ H vs us Q I r h => ?_⟩
  obtain ⟨v, vr, e1, h⟩ := h
  subst e1
  cases r with
  | cons r rr =>
    rw [hs]
    refine assignInOrder_cons (thn (h1.run pins s σ H _ _ _ I r h) fun _ s1 ⟨σ1, H1, I1, q1⟩ => ?_)
    exact h2.run pins s1 σ1 H1 _ _ Q I1 rr q1
section
open PySem.W
variable {prog : Program} {w' : World} {A : Around} {E : Value → Shared → Prop} {s : Shared}
/-- the items of a list, the last target a star -/
theorem star_items {l : Addr} {items : Array Value} {i : Nat} {Q : List Value → Shared → Prop} (hl : s.heap.IsList l items) (hh : A.handled = none) (hi : i ≤ items.size) (hz : items.size ≤ sizeLine)
    (h : ∀ (h' : Heap) (tk : Nat), (∀ b o, s.heap.get? b = some o → h'.get? b = some o) → Q (items.toList.take i ++ [.ref h'.objs.size]) { s with heap := h'.push { cls := .type "list", data := .seq (items.toList.drop i).toArray }, toks := tk }) :
    wpAny (model prog w') A (unpackItems (.ref l) (i + 1) (some i)) Q E s := by
  have hlt : l ≠ s.heap.objs.size := by obtain ⟨o, ho, _⟩ := hl; exact Nat.ne_of_lt (Heap.lt_size ho)
  unfold unpackItems
  refine wpAny_bind ?_
  unfold notIterableAtAll
  refine wpAny_bind (wpAny_specialOf hl.typeIs PySem.F.slot_list_iter.lookup ?_)
  refine wpAny_pure ?_
  simp only [Bool.false_eq_true, if_false]
  refine wpAny_bind (wpAny_holding (wpAny_pyIter_list hl ?_))
  refine wpAny_bind (wpAny_holding (kun_draw hlt i 0 _ _ ⟨_, Heap.get?_push_size _ rfl, rfl, rfl⟩ (hl.push _) (by omega) fun h₁ hit₁ hs₁ => ?_))
  have hl₁ : h₁.IsList l items := (hl.push _).extBut hs₁.extBut hlt
  rw [Nat.zero_add] at hit₁
  have hit₁' := hit₁
  obtain ⟨oi, hoi, _⟩ := hit₁'
  have hl₁' := hl₁
  obtain ⟨ol, hol, _⟩ := hl₁'
  rw [List.drop_zero]
  have hfl : (items.toList.take i).length = i := by rw [List.length_take, Array.length_toList]; omega
  rw [if_neg (show ¬ ((items.toList.take i).length < i) by rw [hfl]; omega)]
  refine wpAny_bind (wpAny_holding (kun_collect (s := { s with heap := h₁ }) (T := "list_iterator") (.inr (.inr (.inl rfl))) (Walks.list (A := A.in1) hh s.heap.objs.size l hlt items) (fun j u st => st.1.typeIs) (k := i) (by omega) ⟨hit₁, hl₁⟩ (Heap.lt_size hoi) (Heap.lt_size hol) (fun h₂ tk hk => ?_) hz))
  have hrl : (items.toList.drop i).length = items.size - i := by rw [List.length_drop, Array.length_toList]
  show wpAny _ _ (if (items.toList.drop i).length < (i + 1) - 1 - i then _ else _) _ _ _
  rw [if_neg (by omega)]
  show wpAny _ _ (newList ((items.toList.drop i).take ((items.toList.drop i).length - ((i + 1) - 1 - i))) >>= fun d => pure (items.toList.take i ++ [d] ++ (items.toList.drop i).drop ((items.toList.drop i).length - ((i + 1) - 1 - i)))) _ _ _
  have e0 : (items.toList.drop i).length - ((i + 1) - 1 - i) = (items.toList.drop i).length := by omega
  rw [e0, List.take_length, List.drop_length]
  refine wpAny_bind (wpAny_newList (wpAny_pure ?_))
  rw [List.append_nil]
  exact h h₂ tk fun b o e => hk b o (Nat.ne_of_lt (Heap.lt_size e)) (hs₁.extBut b o (Nat.ne_of_lt (Heap.lt_size e)) (Heap.get?_push_of_some _ e))
end
/-- (a, b, .., *r) = a list -/
def gStar (K : PySem.W.Frag) (n : Nat) (t : TGs) : TG := fun v σ H Q => ∃ a xs, v = .ref a ∧ SqL K H a xs ∧ n ≤ xs.length ∧ ∀ r, H r = none → t (xs.take n ++ [.ref r]) σ (upd H r (.lst (xs.drop n))) Q
theorem vals_take {xs : List V} {us : List Value} (h : Vals xs us) (n : Nat) : Vals (xs.take n) (us.take n) := by
  induction n generalizing xs us with
  | zero => exact .nil
  | succ n ih =>
    cases h with
    | nil => exact .nil
    | cons r rs => exact .cons r (ih rs)
theorem vals_drop {xs : List V} {us : List Value} (h : Vals xs us) (n : Nat) : Vals (xs.drop n) (us.drop n) := by
  induction n generalizing xs us with
  | zero => exact h
  | succ n ih =>
    cases h with
    | nil => exact .nil
    | cons r rs => exact ih rs
theorem pg_star {X : Cx} {pos : Pos} {es : List Expr} {k : Nat} {t : TGs} {n : Nat} (hc : X.calm = true) (h : PGs X es t)
    (hn : (assignEach es X.env).length = n + 1 := by rfl) (hst : (assignEach es X.env).findIdx? (·.1) = some n := by rfl) : PG X (.Tuple es k pos) (gStar X.K n t) := by
  refine ⟨fun pins s σ H v u Q I r hw => ?_⟩
  obtain ⟨a, xs, e1, hq, hl, hw⟩ := hw
  subst e1
  cases r
  obtain ⟨its, rv, pl, hz⟩ := I.list hq
  have lv := rv.length
  have hl' : s.heap.IsList a its.toArray := by
    obtain ⟨o, m, e, c, d, q⟩ := pl
    exact ⟨o, e, c, m, q⟩
  rw [PyProof.Rows.assign_Tuple]
  refine wpAny_bind (wpAny_standAt ?_)
  unfold unpack
  rw [hn, hst]
  refine wpAny_bind (wpAny_holding (star_items hl' (I.ok.hd hc) (by simp; omega) (by simp; omega) fun h' tk hx => ?_))
  have I1 : Inv X pins σ H { s with heap := h', toks := tk } := I.kept (t' := tk) fun b o e => hx b o e
  have fresh : H h'.objs.size = none := I1.hok.fresh (Nat.le_refl _)
  have I2 := I1.laid (a := h'.objs.size) (o := .lst (xs.drop n)) (h' := h'.push { cls := .type "list", data := .seq (its.drop n).toArray }) (t' := tk) (fun _ _ q => Heap.get?_push_of_some _ q) (Nat.le_refl _)
    ⟨by rw [List.length_drop]; omega, its.drop n, _, vals_drop rv n, Heap.get?_push_size _ rfl⟩
  have r2 : Vals (xs.take n ++ [.ref h'.objs.size]) (its.take n ++ [.ref h'.objs.size]) := (vals_take rv n).append (.cons rfl .nil)
  exact h.run pins _ σ _ _ _ Q I2 (by simpa using r2) (hw _ fresh)
-- part wdict
/-! written dicts: their keys in order, their values -/
structure WDict (K : PySem.W.Frag) (w : World) (d : Addr) (kvs : List (Str × V)) : Prop where
  keys : He.dicW K d = some (He.keysIn w.params (kvs.map (·.1)))
  vals : ∀ kv ∈ kvs, ∃ u, PySem.W.nsIn K d kv.1 = some (some u) ∧ RelV kv.2 u
  nd : (kvs.map (·.1)).Nodup
theorem WDict.entries {K : PySem.W.Frag} {w : World} {d : Addr} {kvs : List (Str × V)} (W : WDict K w d kvs) : ∃ es n, KDict K w d es n ∧ es.toList.map He.keyOf = He.keysIn w.params (kvs.map (·.1)) := by
  obtain ⟨es, n, D⟩ := He.dicW_ok W.keys
  refine ⟨es, n, D, ?_⟩
  have e := W.keys
  unfold He.dicW at e
  rw [D.at_] at e
  have c : (decide ("dict" = "dict") && ((#[] : Array (Option Value)).isEmpty && !(d == sysModules))) = true := by
    rw [D.low]
    rfl
  have e2 : (match decide ("dict" = "dict") && ((#[] : Array (Option Value)).isEmpty && !(d == sysModules)) with
    | true => some (es.toList.map He.keyOf)
    | false => none) = some (He.keysIn w.params (kvs.map (·.1))) := e
  rw [c] at e2
  exact Option.some.inj e2
theorem keyOf_str {e : DictEntry} {x : Str} {h : Int} (q : He.keyOf e = some (x, h)) : ∃ t, e.key = .str x t ∧ e.hash = h := by
  unfold He.keyOf at q
  split at q
  · rename_i y t ek
    have e1 := Option.some.inj q
    exact ⟨t, by rw [ek, (Prod.mk.inj e1).1], (Prod.mk.inj e1).2⟩
  · cases q
theorem isStr_dec (x y : Str) (t : Tok) : (Value.str y t).isStr x = decide (y = x) := by
  rw [PySem.W.isStr_of]
  rfl
theorem entries_none {P : Params} {z : Str} : ∀ {es : List DictEntry} {ks : List Str}, es.map He.keyOf = He.keysIn P ks → z ∉ ks → es.find? (·.key.isStr z) = none ∧ es.any (·.refKey) = false
  | [], _, _, _ => ⟨rfl, rfl⟩
  | e :: er, [], h, _ => by cases h
  | e :: er, k :: kr, h, hz => by
    have h1 : He.keyOf e :: er.map He.keyOf = some (k, PyData.keyHash P k) :: He.keysIn P kr := h
    injection h1 with h2 h3
    obtain ⟨t, ek, _⟩ := keyOf_str h2
    obtain ⟨i1, i2⟩ := entries_none h3 fun m => hz (List.mem_cons_of_mem _ m)
    have n : ¬ k = z := fun q => hz (by rw [q]; exact List.mem_cons_self)
    refine ⟨?_, ?_⟩
    · rw [List.find?_cons, ek, isStr_dec, decide_eq_false n]
      exact i1
    · rw [List.any_cons, i2]
      unfold DictEntry.refKey
      rw [ek] <;> rfl
theorem WDict.none {K : PySem.W.Frag} {w : World} {d : Addr} {kvs : List (Str × V)} (W : WDict K w d kvs) {z : Str} (hz : z ∉ kvs.map (·.1)) : PySem.W.nsIn K d z = some .none := by
  obtain ⟨es, n, D, e⟩ := W.entries
  obtain ⟨e1, e2⟩ := entries_none e hz
  unfold PySem.W.nsIn
  rw [D.at_]
  dsimp only
  rw [e1]
  dsimp only
  rw [e2] <;> rfl
theorem valV_mem {z : Str} {v : V} : ∀ {kvs : List (Str × V)}, (z, v) ∈ kvs → (kvs.map (·.1)).Nodup → valV kvs z = some v
  | [], h, _ => nomatch h
  | p :: r, h, hn => by
    rw [List.map_cons, List.nodup_cons] at hn
    rcases List.mem_cons.mp h with e | h
    · subst e
      exact valV_pos rfl
    · have n : ¬ p.1 = z := fun q => hn.1 (by rw [q]; exact List.mem_map.mpr ⟨_, h, rfl⟩)
      rw [valV_neg n]
      exact valV_mem h hn.2
theorem valV_keys {z : Str} {kvs : List (Str × V)} (h : z ∉ kvs.map (·.1)) : valV kvs z = none := by
  have e := valV_any z kvs
  cases q : valV kvs z with
  | none => rfl
  | some v =>
    rw [q] at e
    obtain ⟨kv, hk, hz⟩ := List.any_eq_true.mp e
    exact absurd (List.mem_map.mpr ⟨kv, hk, of_decide_eq_true hz⟩) h
theorem valV_in {z : Str} {v : V} {kvs : List (Str × V)} (h : valV kvs z = some v) : (z, v) ∈ kvs := by
  unfold valV at h
  obtain ⟨kv, hk, e⟩ := Option.map_eq_some_iff.mp h
  have := List.find?_some hk
  have e1 : kv.1 = z := of_decide_eq_true this
  have m := List.mem_of_find?_eq_some hk
  rw [← e1, ← e]
  exact m
/-- what is found at a key -/
theorem WDict.get {K : PySem.W.Frag} {w : World} {d : Addr} {kvs : List (Str × V)} (W : WDict K w d kvs) (z : Str) : ∃ r, PySem.W.nsIn K d z = some r ∧ r.isSome = (valV kvs z).isSome ∧ ∀ v, valV kvs z = some v → ∃ u, r = some u ∧ RelV v u := by
  by_cases c : z ∈ kvs.map (·.1)
  · obtain ⟨kv, hk, e⟩ := List.mem_map.mp c
    obtain ⟨u, h1, h2⟩ := W.vals kv hk
    subst e
    have ev := valV_mem (z := kv.1) (v := kv.2) hk W.nd
    refine ⟨_, h1, by rw [ev] <;> rfl, fun v hv => ?_⟩
    rw [ev] at hv
    cases hv
    exact ⟨u, rfl, h2⟩
  · refine ⟨_, W.none c, by rw [valV_keys c] <;> rfl, fun v hv => ?_⟩
    rw [valV_keys c] at hv
    cases hv
section
variable {X : Cx} {d : Addr} {kvs : List (Str × V)}
theorem op_inW (W : WDict X.K X.w d kvs) : OpR X (compareOp .In) (fun x y H Q => ∃ z : Str, x = .str z ∧ y = .ref d ∧ Q (.bl (valV kvs z).isSome) H) := by
  obtain ⟨es, n, D, _⟩ := W.entries
  intro pins s σ H x y v u Q I rx ry h
  obtain ⟨z, e1, e2, q⟩ := h
  obtain ⟨r, h1, h2, _⟩ := W.get z
  exact op_in_kd D pins s σ H x y v u Q I rx ry ⟨z, r, e1, e2, h1, by rw [h2]; exact q⟩
theorem op_notInW (W : WDict X.K X.w d kvs) : OpR X (compareOp .NotIn) (fun x y H Q => ∃ z : Str, x = .str z ∧ y = .ref d ∧ Q (.bl (!(valV kvs z).isSome)) H) := by
  obtain ⟨es, n, D, _⟩ := W.entries
  intro pins s σ H x y v u Q I rx ry h
  obtain ⟨z, e1, e2, q⟩ := h
  obtain ⟨r, h1, h2, _⟩ := W.get z
  exact op_notIn_kd D pins s σ H x y v u Q I rx ry ⟨z, r, e1, e2, h1, by rw [h2]; exact q⟩
theorem WDict.kdct {K : PySem.W.Frag} {w : World} (W : WDict K w d kvs) {z : Str} {v : V} (h : valV kvs z = some v) : KDct K w d z v := by
  obtain ⟨es, n, D, _⟩ := W.entries
  obtain ⟨r, h1, _, h3⟩ := W.get z
  obtain ⟨u, e, ru⟩ := h3 v h
  subst e
  exact ⟨es, n, u, D.at_, D.lit, h1, ru⟩
theorem entries_pairs {P : Program} {w : World} : ∀ {es : List DictEntry} {kvs : List (Str × V)}, es.map He.keyOf = He.keysIn w.params (kvs.map (·.1)) → (kvs.map (·.1)).Nodup →
    (∀ kv ∈ kvs, ∃ e, es.find? (·.key.isStr kv.1) = some e ∧ RelV kv.2 e.val) → ∃ vs : List (Key × Value), Pairs (mixKind P w) es vs ∧ KV (kvs.map fun kv => ((Sum.inr kv.1 : Key), kv.2)) vs ∧ vs.map (·.1) = kvs.map (fun kv => (Sum.inr kv.1 : Key)) ∧ ∀ e ∈ es, ∃ k, (mixKind P w).is k e.key = true ∧ e.hash = (mixKind P w).hash k
  | [], [], _, _, _ => ⟨[], .nil, .nil, rfl, fun _ h => nomatch h⟩
  | [], _ :: _, h, _, _ => by cases h
  | _ :: _, [], h, _, _ => by cases h
  | e :: er, kv :: kr, h, hn, hv => by
    have h1 : He.keyOf e :: er.map He.keyOf = some (kv.1, PyData.keyHash w.params kv.1) :: He.keysIn w.params (kr.map (·.1)) := h
    injection h1 with h2 h3
    obtain ⟨t, ek, eh⟩ := keyOf_str h2
    rw [List.map_cons, List.nodup_cons] at hn
    obtain ⟨vs, p1, p2, p3, p4⟩ := entries_pairs (P := P) h3 hn.2 fun kv' m => by
      obtain ⟨e', f1, f2⟩ := hv kv' (List.mem_cons_of_mem _ m)
      have n : ¬ kv.1 = kv'.1 := fun q => hn.1 (by rw [q]; exact List.mem_map.mpr ⟨_, m, rfl⟩)
      rw [List.find?_cons, ek, isStr_dec, decide_eq_false n] at f1
      exact ⟨e', f1, f2⟩
    obtain ⟨e', f1, f2⟩ := hv kv List.mem_cons_self
    rw [List.find?_cons, ek, isStr_dec, decide_eq_true rfl] at f1
    have ee : e = e' := Option.some.inj f1
    subst ee
    have is1 : (mixKind P w).is (.inr kv.1) e.key = true := by
      rw [ek]
      exact mixKind_str P w kv.1 t
    refine ⟨(.inr kv.1, e.val) :: vs, .cons is1 rfl p1, .cons ⟨rfl, f2⟩ p2, by rw [List.map_cons, List.map_cons, p3], fun e2 m => ?_⟩
    rcases List.mem_cons.mp m with q | m
    · subst q
      exact ⟨.inr kv.1, is1, eh⟩
    · exact p4 e2 m
/-- dict(d), d a written dict -/
theorem call_dictW (W : WDict X.K X.w d kvs) (few : kvs.length ≤ 1000) : CallR X (.type "dict") (fun xs H Q => xs = [.ref d] ∧ ∀ p, H p = none → Q (.ref p) (upd H p (.dK (kvs.map fun kv => ((Sum.inr kv.1 : Key), kv.2))))) := by
  obtain ⟨es, n, D, ee⟩ := W.entries
  intro pins s σ H xs us Q I r q
  obtain ⟨ex, q⟩ := q
  subst ex
  obtain ⟨u, eu, rx⟩ := vals1 r
  subst eu
  cases rx
  obtain ⟨vs, p1, p2, p3, p4⟩ := entries_pairs (P := X.prog) ee W.nd fun kv m => by
    obtain ⟨u, h1, h2⟩ := W.vals kv m
    unfold PySem.W.nsIn at h1
    rw [D.at_] at h1
    dsimp only at h1
    split at h1
    · rename_i e' he
      have e2 : e'.val = u := Option.some.inj (Option.some.inj h1)
      exact ⟨e', he, by rw [e2]; exact h2⟩
    · split at h1
      · cases h1
      · cases Option.some.inj h1
  have nd2 : (vs.map (·.1)).Nodup := by
    have e3 : (kvs.map fun kv => (Sum.inr kv.1 : Key)) = (kvs.map (·.1)).map Sum.inr := by rw [List.map_map] <;> rfl
    rw [p3, e3]
    exact List.Pairwise.map _ (fun a b n e => n (Sum.inr.inj e)) W.nd
  have dd : s.heap.DictOf (mixKind X.prog X.w) d vs := ⟨_, es, n, I.kIn _ _ D.at_, ⟨rfl, rfl, rfl⟩, rfl, fun e he => p4 e (Array.mem_toList_iff.mpr he), p1, nd2⟩
  have lv : vs.length = kvs.length := by have := congrArg List.length p3; rw [List.length_map, List.length_map] at this; exact this
  have z : kvs.length ≤ sizeLine := by rw [sizeLine_eq]; omega
  refine kt_call_dict D.low dd (by rw [lv]; exact z) fun h' d' hs => ?_
  have hm : (s.heap.objs.size == sysModules) = false := beq_eq_false_iff_ne.mpr (Nat.ne_of_gt I.big)
  exact ⟨.ref s.heap.objs.size, upd H s.heap.objs.size (.dK (kvs.map fun kv => ((Sum.inr kv.1 : Key), kv.2))), I.laid (t' := s.toks) (fun b u e => (hs.2 b (Nat.ne_of_lt (Heap.lt_size e))).trans (Heap.get?_push_of_some _ e)) (Nat.le_refl _)
    (show ObjOk X.prog X.w _ _ _ (.dK _) from ⟨by rw [List.length_map]; exact z, hm, vs, p2, d'⟩), rfl, q _ (I.hok.fresh (Nat.le_refl _))⟩
end
/-! None in a list of None and tuples -/
def NoneT (K : PySem.W.Frag) (H : Hp) (z : V) : Prop := z = .non ∨ ∃ a xs, z = .ref a ∧ SqT K H a xs
section
variable {X : Cx}
theorem noneT_is {z : V} {u : Value} {K : PySem.W.Frag} {H : Hp} (r : RelV z u) (f : NoneT K H z) : PySem.Numpy.isNone u = isNon z := by
  rcases f with rfl | ⟨a, xs, rfl, _⟩
  · cases r; rfl
  · cases r; rfl
theorem anyT_non {K : PySem.W.Frag} {H : Hp} : ∀ {xs : List V} {us : List Value}, Vals xs us → (∀ z ∈ xs, NoneT K H z) → us.any PySem.Numpy.isNone = xs.any isNon
  | _, _, .nil, _ => rfl
  | y :: xs, u :: us, .cons r t, f => by
    rw [List.any_cons, List.any_cons, noneT_is r (f y (List.mem_cons_self ..)), anyT_non t fun z hz => f z (List.mem_cons_of_mem _ hz)]
theorem noneT_eq {A : Around} {pins : List (Addr × Obj)} {σ : L2.St} {H : Hp} {s : Shared} (I : Inv X pins σ H s) (hu : A.units < cLine) {z : V} {u : Value} (r : RelV z u) (f : NoneT X.K H z) : SeqAt.EqAt A s u .none (PySem.Numpy.isNone u) := by
  rcases f with rfl | ⟨a, xs, rfl, hq⟩
  · cases r
    exact SeqAt.EqAt.same _
  · cases r
    obtain ⟨its, rv, p, _⟩ := I.tuple hq
    exact SeqAt.EqAt.tuple_none p hu
theorem memT_non {A : Around} {pins : List (Addr × Obj)} {σ : L2.St} {H : Hp} {s : Shared} (I : Inv X pins σ H s) (hu : A.units < cLine) : ∀ {xs : List V} {us : List Value}, Vals xs us → (∀ z ∈ xs, NoneT X.K H z) → ∀ u ∈ us, SeqAt.EqAt A s u .none (PySem.Numpy.isNone u)
  | _, _, .nil, _ => fun u hu' => by cases hu'
  | y :: xs, u :: us, .cons r t, f => fun u' hu' => by
    rcases List.mem_cons.mp hu' with e | hu'
    · subst e
      exact noneT_eq I hu r (f y (List.mem_cons_self ..))
    · exact memT_non I hu t (fun z hz => f z (List.mem_cons_of_mem _ hz)) u' hu'
def rNoneInT (K : PySem.W.Frag) : R2 := fun x y H Q => ∃ p xs, x = .non ∧ y = .ref p ∧ SqL K H p xs ∧ (∀ z ∈ xs, NoneT K H z) ∧ Q (.bl (xs.any isNon)) H
theorem op_noneInT (hu : X.A.units + 64 < cLine) : OpR X (compareOp .In) (rNoneInT X.K) := by
  intro pins s σ H x y v u Q I rx ry h
  obtain ⟨p, xs, rfl, rfl, hq, f, q⟩ := h
  cases rx
  cases ry
  obtain ⟨its, rv, hl, _⟩ := I.list hq
  have hu1 : X.A.in1.units < cLine := by show X.A.units + 1 < cLine; omega
  refine SeqAt.in_listAt PySem.Numpy.isNone hl.isList (fun z hz => memT_non I hu1 rv f z (by simpa using hz)) ⟨.bl _, H, I, rfl, ?_⟩
  rw [show its.toArray.any PySem.Numpy.isNone = its.any PySem.Numpy.isNone by simp, anyT_non rv f]
  exact q
end
-- part alls
/-- each of a row of values stands for its partner -/
def AllS {α : Type} (S : V → α → Prop) (us : List V) (bs : List α) : Prop := us.length = bs.length ∧ ∀ (i : Nat) b, bs[i]? = some b → ∃ v, us[i]? = some v ∧ S v b
section
variable {α : Type} {S S' : V → α → Prop} {us : List V} {bs : List α} {v : V} {b : α}
theorem AllS.nil : AllS S [] [] := ⟨rfl, fun i b h => by cases h⟩
theorem AllS.snoc (h : AllS S us bs) (hv : S v b) : AllS S (us ++ [v]) (bs ++ [b]) := by
  refine ⟨by rw [List.length_append, List.length_append, h.1]; rfl, fun i c hc => ?_⟩
  by_cases z : i < bs.length
  · rw [List.getElem?_append_left z] at hc
    obtain ⟨u, h1, h2⟩ := h.2 i c hc
    exact ⟨u, by rw [List.getElem?_append_left (by rw [h.1]; exact z)]; exact h1, h2⟩
  · have hi := (List.getElem?_eq_some_iff.mp hc).1
    rw [List.length_append] at hi
    have e : i = bs.length := by
      have : [b].length = 1 := rfl
      omega
    subst e
    rw [List.getElem?_append_right (Nat.le_refl _), Nat.sub_self] at hc
    cases hc
    exact ⟨v, by rw [← h.1, List.getElem?_append_right (Nat.le_refl _), Nat.sub_self]; rfl, hv⟩
theorem AllS.set {j : Nat} (h : AllS S us bs) (hv : S v b) : AllS S (us.set j v) (bs.set j b) := by
  refine ⟨by rw [List.length_set, List.length_set, h.1], fun i c hc => ?_⟩
  rw [List.getElem?_set] at hc ⊢
  by_cases z : j = i
  · rw [if_pos z] at hc ⊢
    by_cases l : j < bs.length
    · rw [if_pos l] at hc
      rw [if_pos (by rw [h.1]; exact l)]
      cases hc
      exact ⟨v, rfl, hv⟩
    · rw [if_neg l] at hc
      cases hc
  · rw [if_neg z] at hc ⊢
    exact h.2 i c hc
theorem AllS.get {i : Nat} (h : AllS S us bs) (hv : us[i]? = some v) : ∃ b, bs[i]? = some b ∧ S v b := by
  have hi : i < bs.length := by rw [← h.1]; exact (List.getElem?_eq_some_iff.mp hv).1
  obtain ⟨u, h1, h2⟩ := h.2 i bs[i] (List.getElem?_eq_getElem hi)
  rw [hv] at h1
  cases h1
  exact ⟨_, List.getElem?_eq_getElem hi, h2⟩
theorem AllS.mono (h : AllS S us bs) (k : ∀ v b, b ∈ bs → S v b → S' v b) : AllS S' us bs := ⟨h.1, fun i b hb => by
  obtain ⟨v, h1, h2⟩ := h.2 i b hb
  exact ⟨v, h1, k v b (List.mem_of_getElem? hb) h2⟩⟩
end
-- part rulm
/-! the steps of a ruler: how they are read -/
abbrev Stp := Str × Str × List Str
def gvnS : List Str := ["zero", "one"]
def tksS (z : Str) : Option Nat := if z = "sum" then some 2 else if z = "product" then some 2 else if z = "quotient" then some 2 else if z = "opposite" then some 1 else none
def nameB (z : Str) : Bool := Txt.isascii z && Txt.isalpha z && decide (z.length ≤ 8)
def knownB (ns : List Str) (z : Str) : Bool := decide (z ∈ gvnS) || decide (z ∈ ns)
def stepB (ws ns : List Str) : Bool := match ws with
  | word :: name :: rest => (match tksS word with
    | some k => !(knownB ns name) && nameB name && Txt.islower name && decide (rest.length = k) && rest.all (knownB ns)
    | none => false)
  | _ => false
theorem stepB_cons (word name : Str) (rest ns : List Str) : stepB (word :: name :: rest) ns = match tksS word with
    | some k => !(knownB ns name) && nameB name && Txt.islower name && decide (rest.length = k) && rest.all (knownB ns)
    | none => false := rfl
def namesS (R : List Stp) : List Str := R.map (·.1)
def rdRow (R : List Stp) (ws : List Str) : Option (List Stp) := if stepB ws (namesS R) = true then some (R ++ [(ws.getD 1 "", ws.getD 0 "", ws.drop 2)]) else none
def rdAll (rows : List (List Str)) : Option (List Stp) := rows.foldl (fun acc ws => acc.bind fun R => rdRow R ws) (some [])
theorem rdAll_snoc (rows : List (List Str)) (ws : List Str) : rdAll (rows ++ [ws]) = (rdAll rows).bind fun R => rdRow R ws := by
  unfold rdAll
  rw [List.foldl_append] <;> rfl
theorem rdAll_none : ∀ (more : List (List Str)), more.foldl (fun acc ws => acc.bind fun R => rdRow R ws) none = none
  | [] => rfl
  | _ :: r => rdAll_none r
theorem rdAll_take {rows : List (List Str)} {R : List Stp} (h : rdAll rows = some R) (i : Nat) : ∃ Ri, rdAll (rows.take i) = some Ri := by
  have e : rdAll rows = (rows.drop i).foldl (fun acc ws => acc.bind fun R => rdRow R ws) (rdAll (rows.take i)) := by
    unfold rdAll
    rw [← List.foldl_append, List.take_append_drop]
  cases q : rdAll (rows.take i) with
  | some Ri => exact ⟨Ri, rfl⟩
  | none =>
    rw [q, rdAll_none, h] at e
    cases e
structure StepOk (R : List Stp) (st : Stp) : Prop where
  k : tksS st.2.1 = some st.2.2.length
  fresh : knownB (namesS R) st.1 = false
  nm : nameB st.1 = true
  lw : Txt.islower st.1 = true
  known : ∀ r ∈ st.2.2, knownB (namesS R) r = true
def WFR (R : List Stp) : Prop := ∀ i st, R[i]? = some st → StepOk (R.take i) st
theorem wfr_nil : WFR [] := fun i st h => by cases h
theorem wfr_snoc {R : List Stp} {st : Stp} (w : WFR R) (h : StepOk R st) : WFR (R ++ [st]) := fun i st' hi => by
  by_cases c : i < R.length
  · rw [List.getElem?_append_left c] at hi
    rw [List.take_append_of_le_length (Nat.le_of_lt c)]
    exact w i st' hi
  · have hl := (List.getElem?_eq_some_iff.mp hi).1
    rw [List.length_append] at hl
    have e : i = R.length := by
      have : [st].length = 1 := rfl
      omega
    subst e
    rw [List.getElem?_append_right (Nat.le_refl _), Nat.sub_self] at hi
    cases hi
    rw [List.take_left]
    exact h
theorem wfr_take {R : List Stp} (w : WFR R) (n : Nat) : WFR (R.take n) := fun i st hi => by
  rw [List.getElem?_take] at hi
  split at hi
  · rename_i c
    rw [List.take_take, Nat.min_eq_left (Nat.le_of_lt c)]
    exact w i st hi
  · cases hi
theorem stepB_ok {ws : List Str} {R : List Stp} (h : stepB ws (namesS R) = true) : ∃ word name rest, ws = word :: name :: rest ∧ StepOk R (name, word, rest) := by
  unfold stepB at h
  split at h
  · rename_i word name rest
    split at h
    · rename_i k hk
      simp only [Bool.and_eq_true, Bool.not_eq_true'] at h
      obtain ⟨⟨⟨⟨h1, h2⟩, h3⟩, h4⟩, h5⟩ := h
      exact ⟨word, name, rest, rfl, by rw [hk, of_decide_eq_true h4], h1, h2, h3, fun r hr => List.all_eq_true.mp h5 r hr⟩
    · cases h
  · cases h
theorem rdRow_ok {R R' : List Stp} {ws : List Str} (h : rdRow R ws = some R') : ∃ word name rest, ws = word :: name :: rest ∧ StepOk R (name, word, rest) ∧ R' = R ++ [(name, word, rest)] := by
  unfold rdRow at h
  split at h
  · rename_i c
    obtain ⟨word, name, rest, e, o⟩ := stepB_ok c
    subst e
    exact ⟨word, name, rest, rfl, o, (Option.some.inj h).symm⟩
  · cases h
theorem knownB_iff {ns : List Str} {z : Str} : knownB ns z = true ↔ z ∈ gvnS ∨ z ∈ ns := by
  unfold knownB
  rw [Bool.or_eq_true, decide_eq_true_iff, decide_eq_true_iff]
theorem knownB_not {ns : List Str} {z : Str} : knownB ns z = false ↔ z ∉ gvnS ∧ z ∉ ns := by
  unfold knownB
  rw [Bool.or_eq_false_iff, decide_eq_false_iff_not, decide_eq_false_iff_not]
theorem wfr_known_in {R : List Stp} (w : WFR R) {i : Nat} {st : Stp} (h : R[i]? = some st) {r : Str} (hr : r ∈ st.2.2) : r ∈ gvnS ∨ r ∈ namesS R := by
  rcases knownB_iff.mp ((w i st h).known r hr) with a | a
  · exact .inl a
  · refine .inr ?_
    unfold namesS at a ⊢
    rw [List.map_take] at a
    exact List.mem_of_mem_take a
theorem names_at {R : List Stp} {i : Nat} {st : Stp} (h : R[i]? = some st) : (namesS R)[i]? = some st.1 := by
  unfold namesS
  rw [List.getElem?_map, h] <;> rfl
theorem wfr_fresh {R : List Stp} (w : WFR R) {i j : Nat} {si sj : Stp} (hi : R[i]? = some si) (hj : R[j]? = some sj) (e : si.1 = sj.1) : i = j := by
  have main : ∀ {i j : Nat} {si sj : Stp}, R[i]? = some si → R[j]? = some sj → si.1 = sj.1 → ¬ i < j := fun {i j si sj} hi hj e l => by
    have f := (knownB_not.mp (w j sj hj).fresh).2
    refine f ?_
    unfold namesS
    rw [List.map_take]
    refine List.mem_of_getElem? (i := i) ?_
    rw [List.getElem?_take, if_pos l, List.getElem?_map, hi, ← e] <;> rfl
  have a := main hi hj e
  have b := main hj hi e.symm
  omega
theorem wfr_nodup {R : List Stp} (w : WFR R) : (namesS R).Nodup := by
  unfold List.Nodup
  rw [List.pairwise_iff_getElem]
  intro i j hi hj l e
  unfold namesS at hi hj e
  rw [List.getElem_map, List.getElem_map] at e
  rw [List.length_map] at hi hj
  have := wfr_fresh w (List.getElem?_eq_getElem hi) (List.getElem?_eq_getElem hj) e
  omega
/-! what they build -/
def inv (p n : Int) : Int := (((List.range p.toNat).find? fun k => decide (((k : Nat) : Int) * n % p = 1)).getD 0 : Nat)
theorem inv_eq {p n b : Int} (hp : 1 < p) (b0 : 0 ≤ b) (b1 : b < p) (d : p ∣ b * n - 1) : inv p n = b := by
  have one : b * n % p = 1 := by
    have e : (b * n - 1) % p = 0 := Int.emod_eq_zero_of_dvd d
    have e2 : b * n = (b * n - 1) + 1 := by omega
    rw [e2, Int.add_emod, e, Int.zero_add, Int.emod_emod_of_dvd _ (Int.dvd_refl p)]
    exact Int.emod_eq_of_lt (by omega) hp
  unfold inv
  cases q : (List.range p.toNat).find? fun k => decide (((k : Nat) : Int) * n % p = 1) with
  | none =>
    rw [List.find?_eq_none] at q
    refine absurd ?_ (q b.toNat (List.mem_range.mpr (by omega)))
    rw [decide_eq_true_iff, Int.toNat_of_nonneg b0]
    exact one
  | some k =>
    have h1 : ((k : Nat) : Int) * n % p = 1 := by
      have z := List.find?_some q
      simpa using z
    have h2 := List.mem_range.mp (List.mem_of_find?_eq_some q)
    have d1 : p ∣ (k : Int) * n - 1 := Int.dvd_of_emod_eq_zero (by rw [Int.sub_emod, h1]; simp)
    have d2 : p ∣ (b - k) * 1 := by
      have e : (b - k) * 1 = b * ((b * n - 1) - ((k : Int) * n - 1)) + (-(b * n - 1)) * (b - k) := by
        have x1 : b * ((b * n - 1) - ((k : Int) * n - 1)) = b * n * (b - k) := by
          have : (b * n - 1) - ((k : Int) * n - 1) = n * (b - k) := by rw [Int.mul_sub, Int.mul_comm n b, Int.mul_comm n k]; omega
          rw [this, ← Int.mul_assoc]
        have x2 : (b * n - 1) * (b - k) = b * n * (b - k) - (b - k) := by rw [Int.sub_mul, Int.one_mul]
        rw [x1, Int.neg_mul, x2, Int.mul_one]
        omega
      rw [e]
      exact Int.dvd_add (Int.dvd_trans (Int.dvd_sub d d1) (Int.dvd_mul_left _ _)) (Int.dvd_trans (Int.dvd_neg.mpr d) (Int.dvd_mul_right _ _))
    rw [Int.mul_one] at d2
    have : (b - k).natAbs < p.natAbs := by omega
    have z := Int.eq_zero_of_dvd_of_natAbs_lt_natAbs d2 this
    show ((k : Nat) : Int) = b
    omega
def fr (p u l : Int) : Option (Int × Int) :=
  if p = 0 then (if l = 0 then none else let g : Int := if l < 0 then -((u.gcd l : Nat) : Int) else ((u.gcd l : Nat) : Int); some (u / g, l / g))
  else if l % p = 0 then none else some (u * inv p l % p, 1)
def bltF (word : Str) (fs : List (Option (Int × Int))) (p : Int) : Option (Int × Int) :=
  match fs with
  | [some (a, b)] => if word = "opposite" then fr p (-a) b else none
  | [some (a, b), some (c, d)] => if word = "opposite" then fr p (-a) b else if word = "sum" then fr p (a * d + c * b) (b * d) else if word = "product" then fr p (a * c) (b * d) else fr p (a * d) (b * c)
  | _ => none
abbrev Env2 := List (Str × Option (Int × Int))
def lookE (env : Env2) (z : Str) : Option (Int × Int) := ((env.find? fun q => decide (q.1 = z)).map (·.2)).getD none
def env0 : Env2 := [("zero", some (0, 1)), ("one", some (1, 1))]
def envR (p : Int) (R : List Stp) : Env2 := R.foldl (fun env st => env ++ [(st.1, bltF st.2.1 (st.2.2.map (lookE env)) p)]) env0
def valF (p : Int) (R : List Stp) (z : Str) : Option (Int × Int) := lookE (envR p R) z
theorem envR_snoc (p : Int) (R : List Stp) (st : Stp) : envR p (R ++ [st]) = envR p R ++ [(st.1, bltF st.2.1 (st.2.2.map (valF p R)) p)] := by
  unfold envR
  rw [List.foldl_append] <;> rfl
theorem find_app {α : Type} (f : α → Bool) (l : List α) (x : α) : (l ++ [x]).find? f = ((l.find? f).or (if f x = true then some x else none)) := by
  rw [List.find?_append, List.find?_cons]
  cases f x <;> rfl
theorem envR_keys0 (p : Int) : ∀ (R : List Stp) (env : Env2), (R.foldl (fun env st => env ++ [(st.1, bltF st.2.1 (st.2.2.map (lookE env)) p)]) env).map (·.1) = env.map (·.1) ++ namesS R
  | [], env => by rw [List.foldl_nil]; exact (List.append_nil _).symm
  | st :: R, env => by
    rw [List.foldl_cons, envR_keys0 p R, List.map_append, List.append_assoc] <;> rfl
theorem envR_keys (p : Int) (R : List Stp) : (envR p R).map (·.1) = gvnS ++ namesS R := envR_keys0 p R env0
theorem lookE_snoc (env : Env2) (x : Str × Option (Int × Int)) (z : Str) (h : z ∉ env.map (·.1) ∨ z ≠ x.1) : lookE (env ++ [x]) z = if z = x.1 then x.2 else lookE env z := by
  unfold lookE
  rw [find_app]
  by_cases c : z = x.1
  · rw [if_pos c]
    have n : (env.find? fun q => decide (q.1 = z)) = none := by
      rw [List.find?_eq_none]
      intro q hq e
      rcases h with h | h
      · exact h (List.mem_map.mpr ⟨q, hq, of_decide_eq_true e⟩)
      · exact h c
    rw [n, c, decide_eq_true rfl] <;> rfl
  · rw [if_neg c, decide_eq_false (fun e => c e.symm)]
    cases (env.find? fun q => decide (q.1 = z)) <;> rfl
theorem valF_snoc {p : Int} {R : List Stp} {st : Stp} (o : StepOk R st) (z : Str) : valF p (R ++ [st]) z = if z = st.1 then bltF st.2.1 (st.2.2.map (valF p R)) p else valF p R z := by
  have f := knownB_not.mp o.fresh
  unfold valF
  rw [envR_snoc, lookE_snoc]
  · rfl
  · by_cases c : z = st.1
    · left
      rw [envR_keys, c]
      intro m
      rcases List.mem_append.mp m with m | m
      · exact f.1 m
      · exact f.2 m
    · exact .inr c
theorem stp_split {R : List Stp} {i : Nat} {st : Stp} (h : R[i]? = some st) : R.take (i + 1) = R.take i ++ [st] := by
  rw [List.take_add_one, h] <;> rfl
/-- later steps leave a value -/
theorem valF_take {p : Int} {R : List Stp} (w : WFR R) {z : Str} (n : Nat) : ∀ m, n ≤ m → m ≤ R.length → (z ∈ gvnS ∨ z ∈ namesS (R.take n)) → valF p (R.take m) z = valF p (R.take n) z
  | 0, h, _, _ => by
    have : n = 0 := by omega
    rw [this]
  | m + 1, h, hm, k => by
    by_cases c : n = m + 1
    · rw [c]
    · have hl : m < R.length := by omega
      have e := List.getElem?_eq_getElem hl
      have o := w m _ e
      rw [stp_split e, valF_snoc o, if_neg, valF_take w n m (by omega) (by omega) k]
      intro q
      have f := knownB_not.mp o.fresh
      rcases k with k | k
      · exact f.1 (by rw [← q]; exact k)
      · refine f.2 ?_
        rw [← q]
        unfold namesS at k ⊢
        rw [List.map_take] at k ⊢
        have e2 : (R.map (·.1)).take n = ((R.map (·.1)).take m).take n := by rw [List.take_take, Nat.min_eq_left (by omega)]
        rw [e2] at k
        exact List.mem_of_mem_take k
theorem valF_step {p : Int} {R : List Stp} (w : WFR R) {i : Nat} {st : Stp} (h : R[i]? = some st) : valF p R st.1 = bltF st.2.1 (st.2.2.map (valF p R)) p := by
  have hl := (List.getElem?_eq_some_iff.mp h).1
  have o := w i st h
  have e1 : valF p (R.take R.length) st.1 = valF p (R.take (i + 1)) st.1 := valF_take w (i + 1) R.length (by omega) (Nat.le_refl _) (.inr (by
    rw [stp_split h]
    unfold namesS
    rw [List.map_append]
    exact List.mem_append_right _ (by simp)))
  rw [List.take_length] at e1
  rw [e1, stp_split h, valF_snoc o, if_pos rfl]
  congr 1
  refine List.map_congr_left fun r hr => ?_
  have e2 : valF p (R.take R.length) r = valF p (R.take i) r := valF_take w i R.length (by omega) (Nat.le_refl _) (knownB_iff.mp (o.known r hr))
  rw [List.take_length] at e2
  exact e2.symm
theorem valF_given {p : Int} {R : List Stp} (w : WFR R) {z : Str} (h : z ∈ gvnS) : valF p R z = valF p [] z := by
  have e2 : valF p (R.take R.length) z = valF p (R.take 0) z := valF_take w 0 R.length (by omega) (Nat.le_refl _) (.inl h)
  rw [List.take_length] at e2
  exact e2
/-! the way to some names -/
inductive Reach (R : List Stp) (names : List Str) : Str → Prop
  | base {n : Str} : n ∈ names → Reach R names n
  | step (i : Nat) (st : Stp) (r : Str) : R[i]? = some st → Reach R names st.1 → r ∈ st.2.2 → Reach R names r
structure ClosedS (R : List Stp) (names S : List Str) : Prop where
  inn : ∀ n ∈ names, n ∈ S
  cl : ∀ (i : Nat) (st : Stp), R[i]? = some st → st.1 ∈ S → ∀ r ∈ st.2.2, r ∈ S
  re : ∀ s ∈ S, Reach R names s
def wayOf (R : List Stp) (S : List Str) : List Str := (namesS R).filter fun n => decide (n ∈ S)
def addS (S : List Str) (x : Str) : List Str := if x ∈ S then S else S ++ [x]
theorem mem_addS {S : List Str} {x z : Str} : z ∈ addS S x ↔ z ∈ S ∨ z = x := by
  unfold addS
  split
  · rename_i h
    exact ⟨.inl, fun k => k.elim id fun e => by rw [e]; exact h⟩
  · rw [List.mem_append, List.mem_singleton]
theorem addS_len (S : List Str) (x : Str) : (addS S x).length ≤ S.length + 1 := by
  unfold addS
  split
  · omega
  · rw [List.length_append] <;> exact Nat.le_refl _
def trueK (S : List Str) : List (Key × V) := S.map fun s => ((Sum.inr s : Key), V.bl true)
theorem valV_trueK (S : List Str) (z : Str) : valV (trueK S) (Sum.inr z : Key) = if z ∈ S then some (V.bl true) else none := by
  induction S with
  | nil => rfl
  | cons s S ih =>
    show valV (((Sum.inr s : Key), V.bl true) :: trueK S) (Sum.inr z) = _
    by_cases c : s = z
    · subst c
      rw [valV_pos rfl, if_pos List.mem_cons_self]
    · rw [valV_neg (fun e => c (Sum.inr.inj e)), ih]
      by_cases d : z ∈ S
      · rw [if_pos d, if_pos (List.mem_cons_of_mem _ d)]
      · rw [if_neg d, if_neg fun m => (List.mem_cons.mp m).elim (fun e => c e.symm) d]
theorem putK_trueK (S : List Str) (x : Str) : putK (trueK S) (Sum.inr x : Key) (V.bl true) = trueK (addS S x) := by
  unfold putK
  rw [valV_any, valV_trueK]
  unfold addS
  by_cases c : x ∈ S
  · rw [if_pos c, if_pos c, if_pos (show (some (V.bl true)).isSome = true from rfl)]
    unfold trueK
    rw [List.map_map]
    refine List.map_congr_left fun s _ => ?_
    show (if (Sum.inr s : Key) = Sum.inr x then _ else _) = _
    split <;> rfl
  · rw [if_neg c, if_neg c, if_neg (by decide)]
    unfold trueK
    rw [List.map_append] <;> rfl
-- part rul1
theorem strAt {l : List Str} {i : Nat} {y : V} (h : (l.map V.str)[i]? = some y) : ∃ z : Str, y = .str z ∧ l[i]? = some z := by
  rw [List.getElem?_map] at h
  obtain ⟨z, hz, e⟩ := Option.map_eq_some_iff.mp h
  exact ⟨z, e.symm, hz⟩
section
variable {X : Cx}
/-- a text in a dict with text keys -/
def rInK (neg : Bool) : R2 := fun x y H Q => ∃ (z : Str) (a : Addr) (kvs : List (Key × V)), x = .str z ∧ y = .ref a ∧ Rd H a (.dK kvs) ∧ Q (.bl (if neg = true then !(valV kvs (Sum.inr z : Key)).isSome else (valV kvs (Sum.inr z : Key)).isSome)) H
theorem op_inK (hu : X.A.units + 1 < cLine) : OpR X (compareOp .In) (rInK false) := by
  intro pins s σ H x y v u Q I rx ry h
  obtain ⟨z, a, kvs, rfl, rfl, g, q⟩ := h
  cases ry
  exact d_in hu I (.inl ⟨kvs, .inr z, g, rfl, rfl⟩) rx fun s3 I3 => ⟨.bl _, H, I3, rfl, q⟩
theorem op_notInK (hu : X.A.units + 1 < cLine) : OpR X (compareOp .NotIn) (rInK true) := by
  intro pins s σ H x y v u Q I rx ry h
  obtain ⟨z, a, kvs, rfl, rfl, g, q⟩ := h
  cases ry
  exact d_notIn hu I (.inl ⟨kvs, .inr z, g, rfl, rfl⟩) rx fun s3 I3 => ⟨.bl _, H, I3, rfl, q⟩
end
abbrev s_isname : Stmt := top 18
theorem sc_isname : FnScope ["word"] ["word"] (defScope s_isname) := ⟨rfl, rfl, rfl, by decide +kernel, rfl, by decide +kernel, by decide +kernel⟩
def spIsName : Sp := fun vs H Q _ => ∃ z : Str, vs = [.str z] ∧ z.length ≤ 1000000 ∧ Q (.bl (nameB z)) H
theorem ok_isname {f : Addr} {fd : FuncData} {tM : Tok} (T : Txt mg) (hM : mg "MOST_LETTERS" = some (.int 8 tM)) (F : Fun K "is_name" "is_name" s_isname f fd) : FnOk P w K mg base CX0 1 f fd ["word"] spIsName := by
  refine F.ok sc_isname (fun vs H Q E h => ?_) (fun cdv A outer s H vs Q E hr h => ?_)
  · obtain ⟨z, rfl, _⟩ := h
    rfl
  · obtain ⟨z, rfl, hz, q⟩ := h
    refine ⟨_, (pss_one (ps_ret (pe_and (pe_bm0 PySem.F.plainAttrs_str PySem.F.slot_str_isascii PySem.F.type_str_isascii mt_isascii (pv 0)) (pe_and (pe_bm0 PySem.F.plainAttrs_str PySem.F.slot_str_isalpha PySem.F.type_str_isalpha mt_isalpha (pv 0)) (pe_one (pe_cmpR op_le (pe_callB call_len_str (by rfl) T.len PySem.boot_len (pa_cons (pv 0) pa_nil)) (pe_glob (v := .int 8) (by rfl) hM ⟨_, rfl⟩) (nomark _))))))), ?_⟩
    refine ⟨_, rfl, rfl, z, rfl, rfl, trivial, _, rfl, ?_⟩
    unfold nameB at q
    cases e1 : Txt.isascii z with
    | false =>
      rw [e1, Bool.false_and, Bool.false_and] at q
      exact iteF q
    | true =>
      refine iteT ⟨_, rfl, rfl, z, rfl, rfl, trivial, _, rfl, ?_⟩
      cases e2 : Txt.isalpha z with
      | false =>
        rw [e1, e2, Bool.true_and, Bool.false_and] at q
        exact iteF q
      | true =>
        rw [e1, e2, Bool.true_and, Bool.true_and] at q
        refine iteT ⟨_, rfl, _, rfl, by rw [sizeLine_eq]; omega, _, _, rfl, rfl, ?_⟩
        have e3 : decide ((z.length : Int) ≤ 8) = decide (z.length ≤ 8) := by
          by_cases c : z.length ≤ 8
          · rw [decide_eq_true c, decide_eq_true (by omega)]
          · rw [decide_eq_false c, decide_eq_false (by omega)]
        show Q (.bl (decide ((z.length : Int) ≤ 8))) H
        rw [e3]
        exact q
def gvnV (Z O : Addr) : List (Str × V) := [("zero", .ref Z), ("one", .ref O)]
def tksV : List (Str × V) := [("sum", .int 2), ("product", .int 2), ("quotient", .int 2), ("opposite", .int 1)]
theorem gvn_some {Z O : Addr} (z : Str) : (valV (gvnV Z O) z).isSome = decide (z ∈ gvnS) := by
  unfold gvnV gvnS
  by_cases a : z = "zero"
  · subst a
    rw [valV_pos rfl, decide_eq_true (by decide)] <;> rfl
  · rw [valV_neg (fun e => a e.symm)]
    by_cases b : z = "one"
    · subst b
      rw [valV_pos rfl, decide_eq_true (by decide)] <;> rfl
    · rw [valV_neg (fun e => b e.symm), decide_eq_false (by simp [a, b])] <;> rfl
theorem tks_val (z : Str) : valV tksV z = (tksS z).map fun k => V.int (k : Nat) := by
  unfold tksV tksS
  by_cases a : z = "sum"
  · subst a
    rw [valV_pos rfl, if_pos rfl] <;> rfl
  · rw [valV_neg (fun e => a e.symm), if_neg a]
    by_cases b : z = "product"
    · subst b
      rw [valV_pos rfl, if_pos rfl] <;> rfl
    · rw [valV_neg (fun e => b e.symm), if_neg b]
      by_cases c : z = "quotient"
      · subst c
        rw [valV_pos rfl, if_pos rfl] <;> rfl
      · rw [valV_neg (fun e => c e.symm), if_neg c]
        by_cases d : z = "opposite"
        · subst d
          rw [valV_pos rfl, if_pos rfl] <;> rfl
        · rw [valV_neg (fun e => d e.symm), if_neg d] <;> rfl
abbrev s_isstep : Stmt := top 34
theorem sc_isstep : FnScope ["words", "steps", "word", "name", "rest", "other"] ["words", "steps"] (defScope s_isstep) := ⟨rfl, rfl, rfl, by decide +kernel, rfl, by decide +kernel, by decide +kernel⟩
def spIsStep (K : PySem.W.Frag) : Sp := fun vs H Q _ => ∃ (a d : Addr) (ws ns : List Str) (kvs : List (Key × V)), vs = [.ref a, .ref d] ∧ SqL K H a (ws.map V.str) ∧ H d = some (.dK kvs) ∧ ws.length ≤ 1000002 ∧ (∀ z ∈ ws, z.length ≤ 1000000) ∧ (∀ z, (valV kvs (Sum.inr z : Key)).isSome = decide (z ∈ ns)) ∧
  ∀ H', Same H H' → Q (.bl (stepB ws ns)) H'
theorem ok_isstep {f DT DG Z O : Addr} {fd : FuncData} (T : Txt mg) (hall : mg "all" = none) (WT : WDict K w DT tksV) (hT : mg "_TAKES" = some (.ref DT)) (WG : WDict K w DG (gvnV Z O)) (hG : mg "_GIVEN" = some (.ref DG)) (F : Fun K "_is_step" "_is_step" s_isstep f fd) (c_isname : Cl P w K mg base CX0 1 "is_name" spIsName) : FnOk P w K mg base CX0 2 f fd ["words", "steps"] (spIsStep K) := by
  refine F.ok sc_isstep (fun vs H Q E h => ?_) (fun cdv A outer s H vs Q E hr h => ?_)
  · obtain ⟨a, d, ws, ns, kvs, rfl, _⟩ := h
    rfl
  · obtain ⟨a, d, ws, ns, kvs, rfl, hws, hd, lw, lz, hns, q⟩ := h
    refine ⟨_, (pss_cons (ps_if (pw_or (pt_cmpR op_lt (pe_callB call_len_seq (by rfl) T.len PySem.boot_len (pa_cons (pv 0) pa_nil)) pe_int (nomark _)) (pw_or1 (pt_cmpR (op_notInW WT) (pe_ix ix_list (pv 0) pe_int (fun _ _ => rfl)) (pe_glob (v := .ref DT) (by rfl) hT rfl) (by with_unfolding_all rfl)))).pt (pss_one (ps_ret pe_bl)) pss_nil)
 (pss_cons (ps_asg (pv 0) (pg_star (n := 2) rfl (pgs_cons (pg_name (i := 2) sc_isstep.nd rfl (Or.inl rfl)) (pgs_cons (pg_name (i := 3) sc_isstep.nd rfl (Or.inl rfl)) (pgs_star (pg_name (i := 4) sc_isstep.nd rfl (Or.inl rfl)) pgs_nil)))))
 (pss_cons (ps_if (pw_or (pt_cmpR (op_inW WG) (pv 3) (pe_glob (v := .ref DG) (by rfl) hG rfl) (by with_unfolding_all rfl)) (pw_or (pt_cmpR (op_inK (hu1 hr)) (pv 3) (pv 1) (by with_unfolding_all rfl)) (pw_or (pt_not (pt_val (pe_cl c_isname hr (pa_cons (pv 3) pa_nil)))) (pw_or1 (pt_not (pt_val (pe_bm0 PySem.F.plainAttrs_str PySem.F.slot_str_islower PySem.F.type_str_islower mt_islower (pv 3)))))))).pt (pss_one (ps_ret pe_bl)) pss_nil)
 (pss_one (ps_ret (pe_and (pe_cmpR op_eq (pe_callB call_len_seq (by rfl) T.len PySem.boot_len (pa_cons (pv 4) pa_nil)) (pe_ix ix_kdict (pe_glob (v := .ref DT) (by rfl) hT rfl) (pv 2) (fun _ _ => rfl)) (nomark _)) (pe_one (pe_callB (cr_all rfl) (by rfl) hall (by decide +kernel) (pa_cons (pe_lc (own := [("other", 5)]) (g := (gName 5)) (tt := tYes) rfl sc_isstep.nd (pi_list (pv 4)) (blkOk_by (N := ["words", "steps", "word", "name", "rest", "other"]) (sc := defScope s_isstep) (by decide +kernel)) (fun _ _ _ _ _ => (pg_name (i := 5) sc_isstep.nd rfl (Or.inl rfl))) (fun _ _ _ _ _ => pts_nil) (fun _ _ _ _ _ => (pe_or (pe_cmpR (op_inW WG) (pv 5) (pe_glob (v := .ref DG) (by rfl) hG rfl) (by with_unfolding_all rfl)) (pe_one (pe_cmpR (op_inK (by have z := hu1 hr; exact z)) (pv 5) (pv 1) (by with_unfolding_all rfl)))))) pa_nil))))))))), ?_⟩
    have no : stepB ws ns = false → Q (.bl false) H := fun e => by
      have z := q H (Same.refl H)
      rw [e] at z
      exact z
    refine ⟨_, rfl, a, _, rfl, .inl hws, _, _, rfl, rfl, _, rfl, ?_⟩
    match ws, hws, lw, lz, q, no with
    | [], _, _, _, _, no => exact if_pos_of (by decide) (iteT (no rfl))
    | [_], _, _, _, _, no => exact if_pos_of rfl (iteT (no rfl))
    | word :: name :: rest, hws, lw, lz, q, no =>
      refine if_neg_of (decide_eq_false (by simp only [List.length_map, List.length_cons]; omega)) ?_
      refine ⟨_, rfl, a, _, _, _, rfl, rfl, hws, atI_nat (j := 0) rfl, word, rfl, rfl, _, rfl, ?_⟩
      rw [tks_val]
      cases ek : tksS word with
      | none => exact iteT (no (by rw [stepB_cons, ek]))
      | some k =>
        refine iteF ⟨_, rfl, a, _, rfl, hws, by simp, fun r nr => ?_⟩
        have s1 := same_upd (o := .lst (rest.map V.str)) nr
        have sb : stepB (word :: name :: rest) ns = (!(knownB ns name) && nameB name && Txt.islower name && decide (rest.length = k) && rest.all (knownB ns)) := by
          rw [stepB_cons, ek]
        have no2 : (!(knownB ns name) && nameB name && Txt.islower name && decide (rest.length = k) && rest.all (knownB ns)) = false → Q (.bl false) (upd H r (.lst (rest.map V.str))) := fun e => by
          have z := q _ s1
          rw [sb, e] at z
          exact z
        have hnm : name.length ≤ 1000000 := lz name (List.mem_cons_of_mem _ List.mem_cons_self)
        refine ⟨_, _, rfl, _, _, rfl, _, _, rfl, rfl, ?_⟩
        refine ⟨_, rfl, name, rfl, rfl, _, rfl, ?_⟩
        rw [gvn_some]
        cases e1 : decide (name ∈ gvnS) with
        | true => exact iteT (iteT (no2 (by unfold knownB; rw [e1]; rfl)))
        | false =>
          refine iteF ⟨_, rfl, _, rfl, name, d, kvs, rfl, rfl, .inl (s1 _ _ hd), _, rfl, ?_⟩
          show if (valV kvs (Sum.inr name : Key)).isSome = true then _ else _
          rw [hns]
          cases e2 : decide (name ∈ ns) with
          | true => exact iteT (iteT (no2 (by unfold knownB; rw [e1, e2]; rfl)))
          | false =>
            have ek2 : knownB ns name = false := by unfold knownB; rw [e1, e2]; rfl
            rw [ek2] at sb no2
            refine iteF ⟨_, rfl, name, rfl, hnm, _, rfl, ?_⟩
            cases e3 : nameB name with
            | false => exact iteT (iteT (no2 (by rw [e3]; rfl)))
            | true =>
              rw [e3] at sb no2
              refine iteF ⟨_, rfl, rfl, name, rfl, rfl, trivial, _, rfl, ?_⟩
              cases e4 : Txt.islower name with
              | false => exact iteT (no2 (by rw [e4]; rfl))
              | true =>
                rw [e4] at sb no2
                refine iteF ?_
                refine ⟨_, rfl, r, _, rfl, .inl (SqL.of upd_same), _, rfl, DT, word, .int (k : Nat), rfl, rfl, WT.kdct (by rw [tks_val, ek]; rfl), rfl, _, rfl, ?_⟩
                have ed : decide (V.int (((word :: name :: rest).map V.str).drop 2).length = V.int (k : Nat)) = decide (rest.length = k) := by
                  show decide (V.int ((rest.map V.str).length : Int) = V.int (k : Nat)) = _
                  rw [List.length_map, bl_eq _ _ fun _ _ h => V.int.inj h]
                  by_cases c : rest.length = k
                  · rw [decide_eq_true c, decide_eq_true (by omega)]
                  · rw [decide_eq_false c, decide_eq_false (by omega)]
                rw [ed]
                cases e5 : decide (rest.length = k) with
                | false => exact iteF (no2 (by rw [e5]; rfl))
                | true =>
                  rw [e5] at sb
                  have k2 : rest.length ≤ 2 := by
                    rw [of_decide_eq_true e5]
                    unfold tksS at ek
                    split at ek
                    · cases ek; decide
                    · split at ek
                      · cases ek; decide
                      · split at ek
                        · cases ek; decide
                        · split at ek
                          · cases ek; decide
                          · cases ek
                  refine iteT ⟨_, rfl, r, rfl, ⟨_, SqL.of upd_same⟩, fun D nD => lcMap walk_list ((rest.map (knownB ns)).map V.bl) (by show _ = (rest.map V.str).length; rw [List.length_map, List.length_map, List.length_map]) nD (fun H s => SqL.of (s _ _ upd_same)) ?_ ?_⟩
                  · rintro i x _ H2 hi s2 hL ⟨rfl, hx⟩
                    obtain ⟨z, rfl, hz⟩ := strAt (l := rest) hx
                    refine ⟨rfl, _, rfl, z, rfl, rfl, _, rfl, ?_⟩
                    rw [gvn_some]
                    have hd2 := s2 _ _ (s1 _ _ hd)
                    have fin : ∀ b : Bool, b = knownB ns z → ∃ acc, H2 D = some (.lst acc) ∧ acc.length < sizeLine ∧ PvM (upd H r (.lst (rest.map V.str))) D (tkV ((rest.map (knownB ns)).map V.bl)) (i + 1) (upd H2 D (.lst (acc ++ [.bl b]))) := fun b eb => by
                      subst eb
                      exact mapEnd nD (by rw [List.length_map, List.length_map]; omega) s2 hL (map_at (f := V.bl) (by rw [List.getElem?_map, hz] <;> rfl))
                    cases e6 : decide (z ∈ gvnS) with
                    | true => exact iteT (fin true (by unfold knownB; rw [e6]; rfl))
                    | false =>
                      refine iteF ⟨_, rfl, _, rfl, z, d, kvs, rfl, rfl, .inl hd2, ?_⟩
                      show ∃ acc, _
                      exact fin _ (by unfold knownB; rw [e6, ← hns]; exact (Bool.false_or _).symm)
                  · intro H2 s2 hL
                    refine ⟨D, _, rfl, SqL.of hL, ?_⟩
                    have z := q H2 (s1.trans s2)
                    rw [sb] at z
                    have ea : (rest.map (knownB ns)).all id = rest.all (knownB ns) := by rw [List.all_map] <;> rfl
                    rw [ea]
                    exact z
-- part rul2
abbrev s_ibs : Stmt := inClass (top 5) 0
theorem sc_ibs : FnScope ["self", "at"] ["self", "at"] (defScope s_ibs) := ⟨rfl, rfl, rfl, by decide +kernel, rfl, by decide +kernel, by decide +kernel⟩
theorem ok_ibs {f C CF : Addr} {fd : FuncData} (TF : FErr K mg CF) (hC : OexC K C) (hno : PySem.W.findIn K (.ref C) "at" = some none) (F : Fun K "__init__" "BadStep.__init__" s_ibs f fd) : FnOk P w K mg base CX0 1 f fd ["self", "at"] (spInitP C "at" okNat) := by
  refine F.ok sc_ibs (fun vs H Q E h => ?_) (fun cdv A outer s H vs Q E hr h => ?_)
  · obtain ⟨a, v, rfl, _⟩ := h
    rfl
  · obtain ⟨a, v, rfl, ⟨n, rfl, hn⟩, ha, q⟩ := h
    have ln := num_len hn
    have m1 : ("the step with index " : Str).length ≤ 100 := by decide +kernel
    have m2 : (" is not a right one" : Str).length ≤ 100 := by decide +kernel
    refine ⟨_, (pss_cons (ps_expr (pe_feinit TF (pa_cons (pv 0) (pa_cons (pe_joined (.cons pe_str (.cons (pe_fmt (pv 1)) (.cons pe_str .nil)))) pa_nil))))
 (pss_one (ps_ost (pv 0) (pv 1)))), ?_⟩
    refine ⟨_, rfl, _, rfl, by rw [empty_app, sizeLine_eq]; omega, _, rfl, .inr ⟨_, rfl, log_nat hn, _, rfl, by rw [empty_app, app_len, sizeLine_eq]; omega, ?_⟩⟩
    refine ⟨_, rfl, by rw [empty_app, app_len, app_len, sizeLine_eq]; omega, ?_⟩
    refine ⟨a, C, _, rfl, (by show 1 ≤ 1000; decide), hC, ha, ?_⟩
    exact ⟨_, rfl, _, rfl, a, C, rfl, hC, hno, .inl ⟨ha, fun dx hn hne => q dx hn hne⟩⟩
/-! the class Ruler -/
structure RulT (K : PySem.W.Frag) (mg : Str → Option Value) (C : Addr) : Prop where
  g : mg "Ruler" = some (.ref C)
  cl : Cls K C
  nS : NoAttr K C "_steps"
  sf : PySem.W.selfFirst K C = true
  isC : C8.InsC K C
def StpV (H : Hp) (v : V) (st : Stp) : Prop := ∃ t r, v = .ref t ∧ H t = some (.tup [.str st.2.1, .ref r]) ∧ H r = some (.lst (st.2.2.map V.str))
structure StepsAt (H : Hp) (kvs : List (Key × V)) (R : List Stp) : Prop where
  ks : kvs.map (·.1) = R.map fun st => (Sum.inr st.1 : Key)
  vs : AllS (StpV H) (kvs.map (·.2)) R
def ruF (d : Addr) : List (Str × V) := putF "_steps" (.ref d) []
theorem ru_s (d : Addr) : (ruF d).lookup ("_steps" : Str) = some (.ref d) := by
  unfold ruF
  rw [lookup_putF, if_pos rfl]
theorem ru_no (d : Addr) {m : Str} (h : ¬ m = "_steps") : (ruF d).lookup m = none := by
  unfold ruF
  rw [lookup_putF, if_neg h] <;> rfl
structure RulAt (C : Addr) (H : Hp) (a : Addr) (R : List Stp) : Prop where
  ob : ∃ dx d kvs, H a = some (.ins C dx (ruF d)) ∧ H d = some (.dK kvs) ∧ StepsAt H kvs R
  ok : WFR R
  few : R.length ≤ 1000001
theorem StpV.but {H H' : Hp} {v : V} {st : Stp} (h : StpV H v st) (k : ∀ b xs, (H b = some (.tup xs) ∨ H b = some (.lst xs)) → H' b = H b) : StpV H' v st := by
  obtain ⟨t, r, e, h1, h2⟩ := h
  exact ⟨t, r, e, (k t _ (.inl h1)).trans h1, (k r _ (.inr h2)).trans h2⟩
theorem StpV.same {H H' : Hp} {v : V} {st : Stp} (h : StpV H v st) (s : Same H H') : StpV H' v st := by
  obtain ⟨t, r, e, h1, h2⟩ := h
  exact ⟨t, r, e, s _ _ h1, s _ _ h2⟩
theorem StepsAt.same {H H' : Hp} {kvs : List (Key × V)} {R : List Stp} (h : StepsAt H kvs R) (s : Same H H') : StepsAt H' kvs R := ⟨h.ks, h.vs.mono fun v b _ r => r.same s⟩
theorem StepsAt.but {H H' : Hp} {kvs : List (Key × V)} {R : List Stp} (h : StepsAt H kvs R) (k : ∀ b xs, (H b = some (.tup xs) ∨ H b = some (.lst xs)) → H' b = H b) : StepsAt H' kvs R := ⟨h.ks, h.vs.mono fun v b _ r => r.but k⟩
theorem RulAt.same {C : Addr} {H H' : Hp} {a : Addr} {R : List Stp} (h : RulAt C H a R) (s : Same H H') : RulAt C H' a R := by
  obtain ⟨dx, d, kvs, h1, h2, h3⟩ := h.ob
  exact ⟨⟨dx, d, kvs, s _ _ h1, s _ _ h2, h3.same s⟩, h.ok, h.few⟩
theorem valV_none_keys {κ : Type} [DecidableEq κ] {z : κ} {kvs : List (κ × V)} (h : z ∉ kvs.map (·.1)) : valV kvs z = none := by
  have e := valV_any z kvs
  cases q : valV kvs z with
  | none => rfl
  | some v =>
    rw [q] at e
    obtain ⟨kv, hk, hz⟩ := List.any_eq_true.mp e
    exact absurd (List.mem_map.mpr ⟨kv, hk, of_decide_eq_true hz⟩) h
theorem valV_some_keys {κ : Type} [DecidableEq κ] {z : κ} {kvs : List (κ × V)} (h : z ∈ kvs.map (·.1)) : (valV kvs z).isSome = true := by
  rw [← valV_any z kvs]
  obtain ⟨kv, hk, e⟩ := List.mem_map.mp h
  exact List.any_eq_true.mpr ⟨kv, hk, decide_eq_true e⟩
theorem valV_at {κ : Type} [DecidableEq κ] : ∀ {kvs : List (κ × V)} {i : Nat} {kv : κ × V}, kvs[i]? = some kv → (kvs.map (·.1)).Nodup → valV kvs kv.1 = some kv.2
  | [], i, kv, h, _ => by cases h
  | p :: r, 0, kv, h, _ => by
    cases h
    exact valV_pos rfl
  | p :: r, i + 1, kv, h, hn => by
    rw [List.map_cons, List.nodup_cons] at hn
    have h' : r[i]? = some kv := h
    have n : ¬ p.1 = kv.1 := fun q => hn.1 (by rw [q]; exact List.mem_map.mpr ⟨_, List.mem_of_getElem? h', rfl⟩)
    rw [valV_neg n]
    exact valV_at h' hn.2
theorem StepsAt.has {H : Hp} {kvs : List (Key × V)} {R : List Stp} (h : StepsAt H kvs R) (z : Str) : (valV kvs (Sum.inr z : Key)).isSome = decide (z ∈ namesS R) := by
  have e : kvs.map (·.1) = (namesS R).map fun s => (Sum.inr s : Key) := by
    rw [h.ks]
    unfold namesS
    rw [List.map_map] <;> rfl
  by_cases c : z ∈ namesS R
  · rw [decide_eq_true c]
    exact valV_some_keys (by rw [e]; exact List.mem_map.mpr ⟨z, c, rfl⟩)
  · rw [decide_eq_false c, valV_none_keys]
    · rfl
    · rw [e]
      intro m
      obtain ⟨s, hs, es⟩ := List.mem_map.mp m
      exact c (by rw [← Sum.inr.inj es]; exact hs)
theorem StepsAt.get {H : Hp} {kvs : List (Key × V)} {R : List Stp} (h : StepsAt H kvs R) (wf : WFR R) {i : Nat} {st : Stp} (hi : R[i]? = some st) : ∃ v, valV kvs (Sum.inr st.1 : Key) = some v ∧ StpV H v st := by
  obtain ⟨v, h1, h2⟩ := h.vs.2 i st hi
  rw [List.getElem?_map] at h1
  obtain ⟨kv, e1, e2⟩ := Option.map_eq_some_iff.mp h1
  have hk : (kvs.map (·.1))[i]? = some (Sum.inr st.1 : Key) := by rw [h.ks, List.getElem?_map, hi] <;> rfl
  rw [List.getElem?_map, e1] at hk
  have ek : kv.1 = (Sum.inr st.1 : Key) := Option.some.inj hk
  have nd : (kvs.map (·.1)).Nodup := by
    have e : kvs.map (·.1) = (namesS R).map fun s => (Sum.inr s : Key) := by
      rw [h.ks]
      unfold namesS
      rw [List.map_map] <;> rfl
    rw [e]
    exact List.Pairwise.map _ (fun a b n e => n (Sum.inr.inj e)) (wfr_nodup wf)
  have z := valV_at e1 nd
  rw [ek, e2] at z
  exact ⟨v, z, h2⟩
theorem StepsAt.snoc {H : Hp} {kvs : List (Key × V)} {R : List Stp} {st : Stp} {v : V} (h : StepsAt H kvs R) (n : st.1 ∉ namesS R) (hv : StpV H v st) : StepsAt H (putK kvs (Sum.inr st.1 : Key) v) (R ++ [st]) := by
  have e : valV kvs (Sum.inr st.1 : Key) = none := by
    have := h.has st.1
    rw [decide_eq_false n] at this
    cases q : valV kvs (Sum.inr st.1 : Key) with
    | none => rfl
    | some x => rw [q] at this; cases this
  rw [putK_new v e]
  exact ⟨by rw [List.map_append, List.map_append, h.ks] <;> rfl, by rw [List.map_append]; exact h.vs.snoc hv⟩
def rowsW (z : Str) : List (List Str) := (Txt.split z "\n").map fun row => Txt.split row " "
structure FitsT (z : Str) : Prop where
  l0 : z.length ≤ 1000000
  l1 : (Txt.split z "\n").length ≤ 1000000
  l2 : ∀ row ∈ Txt.split z "\n", row.length ≤ 1000000 ∧ (Txt.split row " ").length ≤ 1000000 ∧ ∀ y ∈ Txt.split row " ", y.length ≤ 1000000
abbrev s_ruinit : Stmt := inClass (top 44) 0
theorem sc_ruinit : FnScope ["self", "text", "at", "row", "words", "word", "name", "rest"] ["self", "text"] (defScope s_ruinit) := ⟨rfl, rfl, rfl, by decide +kernel, rfl, by decide +kernel, by decide +kernel⟩
def spRulI (C CB : Addr) : Sp := fun vs H Q E => ∃ (x dx : Addr) (z : Str), vs = [.ref x, .str z] ∧ H x = some (.ins C dx []) ∧ FitsT z ∧
  (∀ R, rdAll (rowsW z) = some R → ∀ H', RulAt C H' x R → (∀ b o, H b = some o → b ≠ x → H' b = some o) → Q .non H') ∧
  (∀ i ws Ri, (rowsW z)[i]? = some ws → rdAll ((rowsW z).take i) = some Ri → rdRow Ri ws = none → ∀ d H', (∀ b o, H b = some o → b ≠ x → H' b = some o) → H' d = some (.xd [("at", .int (i : Int))]) → E (.ref CB) (some d) H')
theorem ok_ruinit {f C CB : Addr} {fd : FuncData} (TT : Txt mg) (henum : mg "enumerate" = none) (T : RulT K mg C) (F : Fun K "__init__" "Ruler.__init__" s_ruinit f fd) (c_isstep : Cl P w K mg base CX0 2 "_is_step" (spIsStep K)) (x_bs : ErP P w K mg base "BadStep" "at" CB okNat) : FnOk P w K mg base (L2N.CX P w) 3 f fd ["self", "text"] (spRulI C CB) := by
  refine okN F sc_ruinit (fun vs H Q E h => ?_) (fun cdv A outer s H vs Q E hr h => ?_)
  · obtain ⟨x, dx, z, rfl, _⟩ := h
    rfl
  · obtain ⟨x, dx, z, rfl, hx, fit, q, qe⟩ := h
    refine ⟨_, (pss_cons (ps_fld (pv 0) pe_dnewK rfl)
 (pss_one (ps_for (passes_of rfl) rfl (pi_enum rfl henum (pa_cons (pe_split (pv 1) pe_str) pa_nil)) (pg_tup rfl (pgs_cons (pg_name (i := 2) sc_ruinit.nd rfl (Or.inl rfl)) (pgs_cons (pg_name (i := 3) sc_ruinit.nd rfl (Or.inl rfl)) pgs_nil))) (pss_cons (ps_set (i := 4) sc_ruinit.nd rfl (Or.inl rfl) (pe_split (pv 3) pe_str))
 (pss_cons (ps_if (pt_not (pt_val (pe_cl c_isstep hr (pa_cons (pv 4) (pa_cons (pe_fld (pv 0) rfl) pa_nil))))) (pss_one (ps_raiseP x_bs hr (L2N.takes_of rfl rfl rfl rfl) (pa_cons (pv 2) pa_nil))) pss_nil)
 (pss_cons (ps_asg (pv 4) (pg_star (n := 2) rfl (pgs_cons (pg_name (i := 5) sc_ruinit.nd rfl (Or.inl rfl)) (pgs_cons (pg_name (i := 6) sc_ruinit.nd rfl (Or.inl rfl)) (pgs_star (pg_name (i := 7) sc_ruinit.nd rfl (Or.inl rfl)) pgs_nil)))))
 (pss_one (ps_dput (hu1 hr) (pe_fld (pv 0) rfl) (pv 6) (pe_tup (pa_cons (pv 5) (pa_cons (pv 7) pa_nil))) rfl)))))))), ?_⟩
    have len : ∀ {m : Nat}, m ≤ 1000000 → m + 2 ≤ sizeLine := fun h => by rw [sizeLine_eq]; omega
    refine fun d nd => ⟨_, rfl, x, C, dx, [], rfl, (by rw [upd_ne (ne_of_none hx nd)]; exact hx), T.cl, T.nS, (by show 0 < 1000; decide), ?_⟩
    have dx' : d ≠ x := fun e => by rw [e, hx] at nd; cases nd
    have k0 : ∀ b o, H b = some o → b ≠ x → upd (upd H d (.dK [])) x (.ins C dx (ruF d)) b = some o := fun b o hb n => by
      rw [upd_ne n, upd_ne (ne_of_none hb nd)]
      exact hb
    refine ⟨_, rfl, ⟨z, rfl⟩, z, "\n", rfl, rfl, by decide +kernel, len fit.l0, fun l nl => ⟨l, _, rfl, SqL.of upd_same, for_it walk_enum (fun i σ H' => (∀ b o, H b = some o → b ≠ x → H' b = some o) ∧ H' l = some (.lst ((Txt.split z "\n").map V.str)) ∧
        (∃ y2 y3 y4 y5 y6 y7, σ = [some (.ref x), some (.str z), y2, y3, y4, y5, y6, y7]) ∧ ∃ kvs R, H' x = some (.ins C dx (ruF d)) ∧ H' d = some (.dK kvs) ∧ StepsAt H' kvs R ∧ WFR R ∧ R.length = i ∧ rdAll ((rowsW z).take i) = some R)
      ⟨fun b o hb n => ?_, upd_same, ⟨none, none, none, none, none, none, rfl⟩, [], [], ?_, ?_, ⟨rfl, AllS.nil⟩, wfr_nil, rfl, rfl⟩ (fun i σ H' _ h => SqL.of h.2.1) ?_ ?_⟩⟩
    · rw [upd_ne (ne_of_none (k0 b o hb n) nl)]
      exact k0 b o hb n
    · have e : upd (upd H d (.dK [])) x (.ins C dx (ruF d)) x = some (.ins C dx (ruF d)) := upd_same
      rw [upd_ne (ne_of_none e nl)]
      exact e
    · have e : upd (upd H d (.dK [])) x (.ins C dx (ruF d)) d = some (.dK []) := by rw [upd_ne dx']; exact upd_same
      rw [upd_ne (ne_of_none e nl)]
      exact e
    · rintro i v σ H1 H2 hi ⟨k1, hl, ⟨y2, y3, y4, y5, y6, y7, rfl⟩, kvs, R, ox, od, sa, wf, lr, hr⟩ ⟨tp, x1, v1, rfl, nT, rfl, hx1, hv1⟩
      cases hx1
      rw [List.length_map] at hi
      obtain ⟨row, rfl, hrow⟩ := strAt hv1
      have s2 := same_upd (o := .tup [.int (i : Nat), .str row]) nT
      have mr := List.mem_of_getElem? hrow
      obtain ⟨f1, f2, f3⟩ := fit.l2 row mr
      have hws : (rowsW z)[i]? = some (Txt.split row " ") := by
        unfold rowsW
        rw [List.getElem?_map, hrow] <;> rfl
      refine ⟨tp, _, rfl, SqT.of upd_same, rfl, _, _, rfl, _, _, rfl, rfl, ?_⟩
      refine ⟨_, rfl, ⟨row, rfl⟩, row, " ", rfl, rfl, by decide +kernel, len f1, fun q1 nq => ?_⟩
      have s3 := s2.trans (same_upd (o := .lst ((Txt.split row " ").map V.str)) nq)
      refine ⟨_, rfl, _, rfl, x, C, dx, _, _, rfl, s3 _ _ ox, T.cl, T.nS, ru_s d, ?_⟩
      refine ⟨q1, d, Txt.split row " ", namesS R, kvs, rfl, SqL.of upd_same, s3 _ _ od, by omega, f3, sa.has, fun H3 s4 => ⟨_, rfl, ?_⟩⟩
      have s5 := s3.trans s4
      have kA : ∀ b o, H b = some o → b ≠ x → H3 b = some o := fun b o hb n => s5 _ _ (k1 b o hb n)
      cases c : stepB (Txt.split row " ") (namesS R) with
      | false =>
        refine iteT ⟨_, rfl, ?_⟩
        exact mkP ⟨i, rfl, by have := fit.l1; omega⟩ fun d2 H4 s6 _ hd => qe i _ R hws hr (by unfold rdRow; rw [c]; rfl) d2 H4 (fun b o hb n => s6 _ _ (kA b o hb n)) hd
      | true =>
        refine iteF ?_
        obtain ⟨word, name, rest, ews, ok⟩ := stepB_ok c
        have hq1 : H3 q1 = some (.lst ((word :: name :: rest).map V.str)) := by
          rw [← ews]
          exact s4 _ _ upd_same
        have rd : rdRow R (Txt.split row " ") = some (R ++ [(name, word, rest)]) := by
          unfold rdRow
          rw [c, ews] <;> rfl
        refine ⟨_, rfl, q1, _, rfl, SqL.of hq1, by simp, fun r nr => ?_⟩
        refine ⟨_, _, rfl, _, _, rfl, _, _, rfl, rfl, ?_⟩
        have s6 := same_upd (o := .lst (((word :: name :: rest).map V.str).drop 2)) nr
        refine ⟨_, rfl, _, rfl, (by show 2 ≤ sizeLine; decide), fun tt ntt => ?_⟩
        have s7 := s6.trans (same_upd (o := .tup [.str word, .ref r]) ntt)
        have s8 := s5.trans s7
        have hr7 : upd (upd H3 r (.lst (((word :: name :: rest).map V.str).drop 2))) tt (.tup [.str word, .ref r]) r = some (.lst (rest.map V.str)) := by
          have e : upd H3 r (.lst (((word :: name :: rest).map V.str).drop 2)) r = some (.lst (rest.map V.str)) := upd_same
          rw [upd_ne (ne_of_none e ntt)]
          exact e
        have fresh := (knownB_not.mp ok.fresh).2
        have stv : StpV (upd (upd H3 r (.lst (((word :: name :: rest).map V.str).drop 2))) tt (.tup [.str word, .ref r])) (.ref tt) (name, word, rest) := ⟨tt, r, rfl, upd_same, hr7⟩
        have od8 := s8 _ _ od
        have sa8 := (sa.same s8).snoc (st := (name, word, rest)) fresh stv
        have lk : kvs.length = R.length := by have := congrArg List.length sa.ks; rwa [List.length_map, List.length_map] at this
        refine ⟨_, rfl, x, C, dx, _, _, rfl, s8 _ _ ox, T.cl, T.nS, ru_s d, _, rfl, d, _, rfl, DPut.k (k := Sum.inr name) od8 (by have := fit.l1; rw [sizeLine_eq]; omega), ?_⟩
        refine ⟨fun b o hb n => ?_, ?_, ⟨_, _, _, _, _, _, rfl⟩, _, R ++ [(name, word, rest)], ?_, upd_same, sa8.but ?_, wfr_snoc wf ok, by rw [List.length_append, lr]; rfl, ?_⟩
        · rw [upd_ne (ne_of_none hb nd)]
          exact s8 _ _ (k1 b o hb n)
        · rw [upd_ne (fun e => by have := s8 _ _ hl; rw [e, od8] at this; cases this)]
          exact s8 _ _ hl
        · rw [upd_ne dx'.symm]
          exact s8 _ _ ox
        · rintro b xs hb
          rw [upd_ne fun e => by rw [e, od8] at hb; rcases hb with hb | hb <;> cases hb]
        · rw [List.take_add_one, hws, Option.toList, rdAll_snoc, hr]
          exact rd
    · rintro σ H1 ⟨k1, hl, ⟨y2, y3, y4, y5, y6, y7, rfl⟩, kvs, R, ox, od, sa, wf, lr, hr⟩
      have e1 : ((Txt.split z "\n").map V.str).length = (rowsW z).length := by
        unfold rowsW
        rw [List.length_map, List.length_map]
      rw [e1, List.take_length] at hr
      have l1 := fit.l1
      rw [List.length_map] at lr
      exact q R hr H1 ⟨⟨dx, d, kvs, ox, od, sa⟩, wf, by omega⟩ k1
-- part rul3
theorem dcK_it {J : It} {n : Nat} {Gd : Hp → Prop} {Y : Nat → Hp → V → Hp → Prop} (w : Walk J n Gd Y) {g : TG} {tt : TT} {tk tv : TE} {own : List Nat} {σ : L2.St} {H1 : Hp} {D : Addr} {Qd : Hp → Prop} (Pv : Nat → Hp → Prop) (h0 : Pv 0 (upd H1 D (.dK []))) (hG : ∀ i H, i ≤ n → Pv i H → Gd H)
    (hs : ∀ i x H H', i < n → Pv i H → Y i H x H' → g x (wipe σ own) H' fun τ G2 => wipe τ own = wipe σ own ∧ tt τ G2 fun b G3 =>
      if b = true then tk τ G3 fun y G4 => tv τ G4 fun z G5 => ∃ kvs k, y = kV k ∧ G5 D = some (.dK kvs) ∧ kvs.length < sizeLine ∧ Pv (i + 1) (upd G5 D (.dK (putK kvs k z))) else Pv (i + 1) G3) (hd : ∀ H, Pv n H → Qd H) :
    ∃ W : Nat → Nat → Hp → Prop, (∃ m, W 0 m (upd H1 D (.dK []))) ∧ ∀ i m G, W i m G →
      (J.stop i G ∧ Qd G) ∨ (J.go i G ∧ ∃ N : Hp → Prop, (∀ G', N G' → ∃ m', m' < m ∧ W (i + 1) m' G') ∧ ∀ x G', J.yld i G x G' → g x (wipe σ own) G' fun τ G2 => wipe τ own = wipe σ own ∧ tt τ G2 fun b G3 =>
        if b = true then tk τ G3 fun y G4 => tv τ G4 fun z G5 => ∃ kvs k, y = kV k ∧ G5 D = some (.dK kvs) ∧ kvs.length < sizeLine ∧ N (upd G5 D (.dK (putK kvs k z))) else N G3) := by
  refine ⟨fun i m G => m = n - i ∧ i ≤ n ∧ Pv i G, ⟨n, by simp, Nat.zero_le _, h0⟩, ?_⟩
  rintro i m G ⟨rfl, hi, p⟩
  have z := hG i G hi p
  by_cases lt : i < n
  · exact .inr ⟨w.goes i G lt z, Pv (i + 1), fun G' p' => ⟨n - (i + 1), by omega, rfl, lt, p'⟩, fun x G' y => hs i x G G' lt p (w.yields i G x G' lt z y)⟩
  · have e : i = n := by omega
    subst e
    exact .inl ⟨w.stops G z, hd G p⟩
abbrev s_ruchk : Stmt := inClass (top 44) 1
theorem sc_ruchk : FnScope ["self", "names", "name"] ["self", "names"] (defScope s_ruchk) := ⟨rfl, rfl, rfl, by decide +kernel, rfl, by decide +kernel, by decide +kernel⟩
def spRuChk (C CU : Addr) (K : PySem.W.Frag) : Sp := fun vs H Q E => ∃ (a q0 : Addr) (R : List Stp) (ns : List Str), vs = [.ref a, .ref q0] ∧ RulAt C H a R ∧ SqL K H q0 (ns.map V.str) ∧ (∀ z ∈ ns, z.length ≤ 1000) ∧
  ((∀ z ∈ ns, knownB (namesS R) z = true) → Q .non H) ∧
  (∀ (i : Nat) z, ns[i]? = some z → knownB (namesS R) z = false → (∀ (j : Nat) y, j < i → ns[j]? = some y → knownB (namesS R) y = true) → ∀ d H', Same H H' → H' d = some (.xd [("name", .str z)]) → E (.ref CU) (some d) H')
theorem ok_ruchk {f C CU DG Z O : Addr} {fd : FuncData} (T : RulT K mg C) (WG : WDict K w DG (gvnV Z O)) (hG : mg "_GIVEN" = some (.ref DG)) (F : Fun K "_check_names" "Ruler._check_names" s_ruchk f fd) (x_un : ErP P w K mg base "UnknownName" "name" CU okS) : FnOk P w K mg base (L2N.CX P w) 3 f fd ["self", "names"] (spRuChk C CU K) := by
  refine okN F sc_ruchk (fun vs H Q E h => ?_) (fun cdv A outer s H vs Q E hr h => ?_)
  · obtain ⟨a, q0, R, ns, rfl, _⟩ := h
    rfl
  · obtain ⟨a, q0, R, ns, rfl, ru, hq0, nl, q, qe⟩ := h
    obtain ⟨dx, d, kvs, oa, od, sa⟩ := ru.ob
    refine ⟨_, (pss_one (ps_for (passes_of rfl) rfl (pi_list (pv 1)) (pg_name (i := 2) sc_ruchk.nd rfl (Or.inl rfl)) (pss_one (ps_if (pw_and (pt_cmpR (op_notInW WG) (pv 2) (pe_glob (v := .ref DG) (by rfl) hG rfl) (by with_unfolding_all rfl)) (pw_and1 (pt_cmpR (op_notInK (hu1 hr)) (pv 2) (pe_fld (pv 0) rfl) (by with_unfolding_all rfl)))).pt (pss_one (ps_raiseP x_un hr (L2N.takes_of rfl rfl rfl rfl) (pa_cons (pv 2) pa_nil))) pss_nil)))), ?_⟩
    refine ⟨_, rfl, q0, rfl, ⟨_, hq0⟩, for_it walk_list (fun i σ H' => H' = H ∧ (∀ (j : Nat) y, j < i → ns[j]? = some y → knownB (namesS R) y = true) ∧ ∃ y2, σ = [some (.ref a), some (.ref q0), y2]) ⟨rfl, fun j y h => absurd h (Nat.not_lt_zero j), none, rfl⟩ (fun i σ H' _ h => by rw [h.1]; exact hq0) ?_ ?_⟩
    · rintro i v σ H1 _ hi ⟨rfl, good, y2, rfl⟩ ⟨rfl, hv⟩
      obtain ⟨z, rfl, hz⟩ := strAt hv
      have next : knownB (namesS R) z = true → ∀ (j : Nat) y, j < i + 1 → ns[j]? = some y → knownB (namesS R) y = true := fun hk j y hj hy => by
        by_cases e : j = i
        · subst e
          rw [hz] at hy
          cases hy
          exact hk
        · exact good j y (by omega) hy
      refine ⟨_, rfl, z, rfl, rfl, _, rfl, ?_⟩
      rw [gvn_some]
      cases e1 : decide (z ∈ gvnS) with
      | true => exact iteF (iteF ⟨rfl, next (by unfold knownB; rw [e1]; rfl), _, rfl⟩)
      | false =>
        refine iteT ⟨_, rfl, _, rfl, a, C, dx, _, _, rfl, oa, T.cl, T.nS, ru_s d, z, d, kvs, rfl, rfl, .inl od, _, rfl, ?_⟩
        show if (!(valV kvs (Sum.inr z : Key)).isSome) = true then _ else _
        rw [sa.has]
        cases e2 : decide (z ∈ namesS R) with
        | true => exact iteF ⟨rfl, next (by unfold knownB; rw [e1, e2]; rfl), _, rfl⟩
        | false =>
          refine iteT ⟨_, rfl, ?_⟩
          exact mkP ⟨z, rfl, nl z (List.mem_of_getElem? hz)⟩ fun d2 H2 s2 _ hd => qe i z hz (by unfold knownB; rw [e1, e2]; rfl) good d2 H2 s2 hd
    · rintro σ _ ⟨rfl, good, y2, rfl⟩
      refine q fun z hz => ?_
      obtain ⟨i, hi⟩ := List.getElem?_of_mem hz
      exact good i z (by rw [List.length_map]; exact (List.getElem?_eq_some_iff.mp hi).1) hi
-- part rul4
/-- one step back on the way -/
theorem way_back {R : List Stp} (w : WFR R) {k : Nat} {st : Stp} (hk : R[k]? = some st) {S S' : List Str} (cl : ∀ (j : Nat) (x : Stp), k + 1 ≤ j → R[j]? = some x → x.1 ∈ S → ∀ r ∈ x.2.2, r ∈ S) (sub : ∀ z ∈ S, z ∈ S') (back : ∀ z ∈ S', z ∈ S ∨ z ∈ st.2.2) (all : ∀ r ∈ st.2.2, r ∈ S') :
    ∀ (j : Nat) (x : Stp), k ≤ j → R[j]? = some x → x.1 ∈ S' → ∀ r ∈ x.2.2, r ∈ S' := by
  intro j x hj hx hm r hr
  by_cases e : j = k
  · subst e
    rw [hk] at hx
    cases hx
    exact all r hr
  · rcases back _ hm with m | m
    · exact sub r (cl j x (by omega) hx m r hr)
    · exfalso
      have f := knownB_not.mp (w j x hx).fresh
      rcases knownB_iff.mp ((w k st hk).known _ m) with g | g
      · exact f.1 g
      · refine f.2 ?_
        unfold namesS at g ⊢
        rw [List.map_take] at g ⊢
        have e2 : (R.map (·.1)).take k = ((R.map (·.1)).take j).take k := by rw [List.take_take, Nat.min_eq_left (by omega)]
        rw [e2] at g
        exact List.mem_of_mem_take g
theorem tks_le {z : Str} {k : Nat} (h : tksS z = some k) : k ≤ 2 := by
  unfold tksS at h
  split at h
  · cases h; decide
  · split at h
    · cases h; decide
    · split at h
      · cases h; decide
      · split at h
        · cases h; decide
        · cases h
theorem wayOf_take {R : List Stp} {S : List Str} {i : Nat} {st : Stp} (h : R[i]? = some st) : ((namesS R).take (i + 1)).filter (fun n => decide (n ∈ S)) = ((namesS R).take i).filter (fun n => decide (n ∈ S)) ++ (if decide (st.1 ∈ S) = true then [st.1] else []) := by
  rw [List.take_add_one, names_at h, List.filter_append]
  congr 1
  show [st.1].filter _ = _
  rw [List.filter_cons] <;> rfl
abbrev s_ruway : Stmt := inClass (top 44) 2
theorem sc_ruway : FnScope ["self", "names", "needed", "name", "other"] ["self", "names"] (defScope s_ruway) := ⟨rfl, rfl, rfl, by decide +kernel, rfl, by decide +kernel, by decide +kernel⟩
def spWay (C : Addr) (K : PySem.W.Frag) : Sp := fun vs H Q _ => ∃ (a q0 : Addr) (R : List Stp) (ns : List Str), vs = [.ref a, .ref q0] ∧ RulAt C H a R ∧ R.length ≤ 900 ∧ SqL K H q0 (ns.map V.str) ∧ ns.length ≤ 900 ∧
  ∀ S p H', ClosedS R ns S → Same H H' → H' p = some (.lst ((wayOf R S).map V.str)) → Q (.ref p) H'
theorem ok_ruway {f C : Addr} {fd : FuncData} (TT : Txt mg) (hrev : mg "reversed" = none) (T : RulT K mg C) (F : Fun K "_way_to" "Ruler._way_to" s_ruway f fd) : FnOk P w K mg base CX0 1 f fd ["self", "names"] (spWay C K) := by
  refine F.ok sc_ruway (fun vs H Q E h => ?_) (fun cdv A outer s H vs Q E hr h => ?_)
  · obtain ⟨a, q0, R, ns, rfl, _⟩ := h
    rfl
  · obtain ⟨a, q0, R, ns, rfl, ru, few, hq0, nl, q⟩ := h
    obtain ⟨dx, d, kvs, oa, od, sa⟩ := ru.ob
    have wf := ru.ok
    refine ⟨_, (pss_cons (ps_set (i := 2) sc_ruway.nd rfl (Or.inr rfl) (pe_dc (own := [("name", 3)]) (g := (gName 3)) (tt := tYes) rfl sc_ruway.nd (pi_list (pv 1)) (blkOk_by (N := ["self", "names", "needed", "name", "other"]) (sc := defScope s_ruway) (by decide +kernel)) (fun _ _ _ _ _ => (pg_name (i := 3) sc_ruway.nd rfl (Or.inl rfl))) (fun _ _ _ _ _ => pts_nil) (fun _ _ _ _ _ => (pv 3)) (fun _ _ _ _ _ => pe_bl)))
 (pss_cons (ps_for PassesOwn.never rfl (pi_reversed rfl hrev (pa_cons (pe_callTy (call_listD rfl) (by rfl) TT.list boot_list (pa_cons (pe_fld (pv 0) rfl) pa_nil)) pa_nil)) (pg_name (i := 3) sc_ruway.nd rfl (Or.inl rfl)) (pss_one (ps_if (pt_cmpR (op_inK (by have z := hu1 hr; exact z)) (pv 3) (pv 2) (by with_unfolding_all rfl)) (pss_one (ps_for PassesOwn.never rfl (pi_list (pe_ix ix_tup (pe_dget (by exact hu1 hr) (pe_fld (pv 0) rfl) (pv 3) (fun _ _ => rfl)) pe_int (fun _ _ => rfl))) (pg_name (i := 4) sc_ruway.nd rfl (Or.inl rfl)) (pss_one (ps_dput (hu1 hr) (pv 2) (pv 4) pe_bl rfl)))) pss_nil)))
 (pss_one (ps_ret (pe_lock (pe_lc (own := [("name", 3)]) (g := (gName 3)) rfl sc_ruway.nd (pi_keys (pe_fld (pv 0) rfl)) (blkOk_by (N := ["self", "names", "needed", "name", "other"]) (sc := defScope s_ruway) (by decide +kernel)) (fun _ _ _ _ _ => (pg_name (i := 3) sc_ruway.nd rfl (Or.inl rfl))) (fun _ _ _ _ _ => (pts_one (pt_cmpR (op_inK (by have z := hu1 hr; exact z)) (pv 3) (pv 2) (by with_unfolding_all rfl)))) (fun _ _ _ _ _ => (pv 3)))))))), ?_⟩
    have lk : kvs.length = R.length := by have := congrArg List.length sa.ks; rwa [List.length_map, List.length_map] at this
    have ek : (kvs.map fun kv => kV kv.1) = (namesS R).map V.str := by
      have e := congrArg (List.map kV) sa.ks
      rw [List.map_map, List.map_map] at e
      unfold namesS
      rw [List.map_map]
      exact e
    have ln : (namesS R).length = R.length := by unfold namesS; rw [List.length_map]
    refine ⟨_, rfl, q0, rfl, ⟨_, hq0⟩, fun D nD => dcK_it walk_list (fun i G => Same H G ∧ ∃ S, G D = some (.dK (trueK S)) ∧ S.length ≤ i ∧ ∀ z, z ∈ S ↔ z ∈ ns.take i) ⟨same_upd nD, [], upd_same, Nat.le_refl _, fun z => by rw [List.take_zero]⟩ (fun i G _ h => h.1.seq hq0) ?_ ?_⟩
    · rintro i x G _ hi ⟨s1, S, hD, lS, mS⟩ ⟨rfl, hx⟩
      obtain ⟨z, rfl, hz⟩ := strAt hx
      rw [List.length_map] at hi
      have lt : (trueK S).length = S.length := by unfold trueK; rw [List.length_map]
      refine ⟨rfl, _, rfl, trueK S, .inr z, rfl, hD, by rw [lt, sizeLine_eq]; omega, fun b o hb => ?_, addS S z, by rw [putK_trueK]; exact upd_same, by have := addS_len S z; omega, fun y => ?_⟩
      · rw [upd_ne (ne_of_none hb nD)]
        exact s1 b o hb
      · rw [mem_addS, List.take_add_one, hz, List.mem_append, mS]
        exact Iff.rfl.trans (by simp)
    rintro G0 ⟨s0, S0, hD0, lS0, mS0⟩
    rw [List.length_map] at lS0 mS0
    rw [List.take_length] at mS0
    refine ⟨_, rfl, a, C, dx, _, _, rfl, s0 _ _ oa, T.cl, T.nS, ru_s d, d, kvs, rfl, .inl (s0 _ _ od), fun ls nls => ?_⟩
    rw [ek]
    have s1 := s0.trans (same_upd (o := .lst ((namesS R).map V.str)) nls)
    have hD1 : upd G0 ls (.lst ((namesS R).map V.str)) D = some (.dK (trueK S0)) := by rw [upd_ne (ne_of_none hD0 nls)]; exact hD0
    refine ⟨ls, _, rfl, SqL.of upd_same, for_it walk_rev (fun i σ G => Same H G ∧ G ls = some (.lst ((namesS R).map V.str)) ∧ (∃ y3 y4, σ = [some (.ref a), some (.ref q0), some (.ref D), y3, y4]) ∧ ∃ S, G D = some (.dK (trueK S)) ∧ S.length ≤ 900 + 2 * i ∧ (∀ z ∈ ns, z ∈ S) ∧ (∀ (j : Nat) (x : Stp), R.length - i ≤ j → R[j]? = some x → x.1 ∈ S → ∀ r ∈ x.2.2, r ∈ S) ∧ ∀ z ∈ S, Reach R ns z)
      ⟨s1, upd_same, ⟨none, none, rfl⟩, S0, hD1, by omega, fun z hz => (mS0 z).mpr hz, fun j x hj hx => ?_, fun z hz => .base ((mS0 z).mp hz)⟩ (fun i σ G _ h => SqL.of h.2.1) ?_ ?_⟩
    · have := (List.getElem?_eq_some_iff.mp hx).1
      omega
    · rintro i v σ G _ hi ⟨s2, hls, ⟨y3, y4, rfl⟩, S, hD, lS, inn, cl, re⟩ ⟨rfl, hv⟩
      rw [List.length_map, ln] at hi hv
      obtain ⟨z, rfl, hz⟩ := strAt hv
      obtain ⟨k, hk⟩ : ∃ k, k = R.length - 1 - i := ⟨_, rfl⟩
      rw [← hk] at hz
      have hkl : k < R.length := by omega
      have hst := List.getElem?_eq_getElem hkl
      generalize R[k] = st at hst
      have ez : st.1 = z := by
        have := names_at hst
        rw [hz] at this
        exact (Option.some.inj this).symm
      subst ez
      refine ⟨_, rfl, _, rfl, st.1, D, trueK S, rfl, rfl, .inl hD, _, rfl, ?_⟩
      show if (valV (trueK S) (Sum.inr st.1 : Key)).isSome = true then _ else _
      rw [valV_trueK]
      by_cases c : st.1 ∈ S
      · rw [if_pos c]
        refine iteT ?_
        obtain ⟨sv, hsv, t, r, rfl, ht, hr'⟩ := sa.get wf hst
        have lr := tks_le (wf k st hst).k
        refine ⟨_, rfl, a, C, dx, _, _, rfl, s2 _ _ oa, T.cl, T.nS, ru_s d, _, rfl, d, .ref t, rfl, (by have z := DGet.k (k := Sum.inr st.1) (s2 _ _ od); rw [hsv] at z; exact z), t, _, _, _, rfl, rfl, SqT.of (s2 _ _ ht), rfl, r, rfl, ⟨_, SqL.of (s2 _ _ hr')⟩,
          for_it walk_list (fun m σ G' => Same H G' ∧ G' ls = some (.lst ((namesS R).map V.str)) ∧ (∃ y4, σ = [some (.ref a), some (.ref q0), some (.ref D), some (.str st.1), y4]) ∧ ∃ S', G' D = some (.dK (trueK S')) ∧ S'.length ≤ S.length + m ∧ (∀ z ∈ S, z ∈ S') ∧ (∀ z ∈ S', z ∈ S ∨ z ∈ st.2.2) ∧ ∀ z ∈ st.2.2.take m, z ∈ S')
          ⟨s2, hls, ⟨_, rfl⟩, S, hD, Nat.le_refl _, fun z h => h, fun z h => .inl h, fun z h => by rw [List.take_zero] at h; cases h⟩ (fun m σ G' _ h => SqL.of (h.1 _ _ hr')) ?_ ?_⟩
        · rintro m v σ G' _ hm ⟨s3, hls3, ⟨y4', rfl⟩, S', hD', lS', sub, back, all⟩ ⟨rfl, hv'⟩
          obtain ⟨y, rfl, hy⟩ := strAt hv'
          rw [List.length_map] at hm
          have lt : (trueK S').length = S'.length := by unfold trueK; rw [List.length_map]
          refine ⟨_, rfl, _, rfl, D, _, rfl, DPut.k (k := Sum.inr y) hD' (by rw [lt, sizeLine_eq]; omega), fun b o hb => ?_, ?_, ⟨_, rfl⟩, addS S' y, by rw [putK_trueK]; exact upd_same, by have := addS_len S' y; omega, fun z hz => mem_addS.mpr (.inl (sub z hz)), fun z hz => ?_, fun z hz => ?_⟩
          · rw [upd_ne (ne_of_none hb nD)]
            exact s3 b o hb
          · rw [upd_ne (fun e => by rw [e, hD'] at hls3; cases hls3)]
            exact hls3
          · rcases mem_addS.mp hz with h | h
            · exact back z h
            · rw [h]
              exact .inr (List.mem_of_getElem? hy)
          · rw [List.take_add_one, hy] at hz
            rcases List.mem_append.mp hz with h | h
            · exact mem_addS.mpr (.inl (all z h))
            · exact mem_addS.mpr (.inr (by simpa using h))
        · rintro σ G' ⟨s3, hls3, ⟨y4', rfl⟩, S', hD', lS', sub, back, all⟩
          rw [List.length_map] at lS' all
          rw [List.take_length] at all
          refine ⟨s3, hls3, ⟨_, _, rfl⟩, S', hD', by omega, fun z hz => sub z (inn z hz), fun j x hj hx => way_back wf hst (fun j x hj hx => cl j x (by omega) hx) sub back all j x (by omega) hx, fun z hz => ?_⟩
          rcases back z hz with h | h
          · exact re z h
          · exact .step k st z hst (re _ c) h
      · rw [if_neg c]
        refine iteF ⟨s2, hls, ⟨_, _, rfl⟩, S, hD, by omega, inn, fun j x hj hx hm => ?_, re⟩
        by_cases e : j = k
        · subst e
          rw [hst] at hx
          cases hx
          exact absurd hm c
        · exact cl j x (by omega) hx hm
    · rintro σ G ⟨s2, hls, ⟨y3, y4, rfl⟩, S, hD, lS, inn, cl, re⟩
      have od2 := s2 _ _ od
      have nad : a ≠ d := fun e => by rw [e, od] at oa; cases oa
      have nDd : D ≠ d := fun e => by rw [e, od] at nD; cases nD
      have closed : ClosedS R ns S := ⟨inn, fun j x hx => cl j x (by rw [List.length_map, ln]; omega) hx, re⟩
      refine ⟨d, .dK kvs, od2, trivial, fun o2 => ⟨_, rfl, a, C, dx, _, _, rfl, (by rw [upd_ne nad]; exact s2 _ _ oa), T.cl, T.nS, ru_s d, d, o2, rfl, .inl ⟨kvs, upd_same, fun E nE => lcW walk_keys (fun i => (((namesS R).take i).filter fun n => decide (n ∈ S)).map V.str) nE rfl (fun G s => s _ _ upd_same) ?_ ?_⟩⟩⟩
      · rintro i x _ G' hi s3 hE ⟨rfl, kk, vv, hkv, rfl⟩
        have hi2 : i < R.length := by omega
        have hst := List.getElem?_eq_getElem hi2
        generalize R[i] = st at hst
        have ekk : kk = (Sum.inr st.1 : Key) := by
          have e1 : (kvs.map (·.1))[i]? = some kk := by rw [List.getElem?_map, hkv] <;> rfl
          rw [sa.ks, List.getElem?_map, hst] at e1
          exact (Option.some.inj e1).symm
        subst ekk
        have hDl : G' D = some (.dK (trueK S)) := s3 _ _ (by rw [upd_ne nDd]; exact hD)
        refine ⟨rfl, _, rfl, _, rfl, st.1, D, trueK S, rfl, rfl, .inl hDl, _, rfl, ?_⟩
        show if (valV (trueK S) (Sum.inr st.1 : Key)).isSome = true then _ else _
        rw [valV_trueK]
        have few2 : ((((namesS R).take i).filter fun n => decide (n ∈ S)).map V.str).length < 1000 := by
          rw [List.length_map]
          have z1 := List.length_filter_le (fun n => decide (n ∈ S)) ((namesS R).take i)
          have z2 := List.length_take_le i (namesS R)
          omega
        by_cases c : st.1 ∈ S
        · rw [if_pos c]
          refine iteT ⟨_, rfl, PvM.push nE s3 hE few2 ?_⟩
          show (((namesS R).take (i + 1)).filter _).map V.str = _
          rw [wayOf_take hst, if_pos (decide_eq_true c), List.map_append] <;> rfl
        · rw [if_neg c]
          refine iteF (PvM.skip s3 hE ?_)
          show (((namesS R).take (i + 1)).filter _).map V.str = _
          rw [wayOf_take hst, if_neg (by rw [decide_eq_false c]; decide), List.append_nil]
      · intro G' s3 hE
        have e3 := s3 _ _ (upd_same (H := G) (a := d) (o := .frz o2 (.dK kvs)))
        refine ⟨e3, q S E _ closed (fun b o hb => ?_) ?_⟩
        · by_cases e : b = d
          · subst e
            rw [od] at hb
            cases hb
            exact upd_same
          · rw [upd_ne e]
            exact s3 _ _ (by rw [upd_ne e]; exact s2 _ _ hb)
        · have nEd : E ≠ d := fun e => by rw [e, upd_same] at nE; cases nE
          rw [upd_ne nEd, hE]
          unfold wayOf
          rw [lk, ← ln, List.take_length]
-- part common

abbrev s_common : Stmt := top 8
theorem sc_common : FnScope ["a", "b"] ["a", "b"] (defScope s_common) := ⟨rfl, rfl, rfl, by decide +kernel, rfl, by decide +kernel, by decide +kernel⟩
def spCommon : Sp := fun vs H Q _ => ∃ (a b : Int), vs = [.int a, .int b] ∧ Q (.int ((a.gcd b : Nat) : Int)) H
theorem ok_common {f : Addr} {fd : FuncData} (hg : mg "gcd" = some (.builtin "math.gcd")) (F : Fun K "common" "common" s_common f fd) : FnOk P w K mg base CX0 1 f fd ["a", "b"] spCommon := by
  refine F.ok sc_common (fun vs H Q E h => ?_) (fun cdv A outer s H vs Q E hr h => ?_)
  · obtain ⟨a, b, rfl, _⟩ := h
    rfl
  · obtain ⟨a, b, rfl, q⟩ := h
    exact ⟨_, (pss_one (ps_ret (pe_callBfun cr_gcd (by rfl) hg (pa_cons (pv 0) (pa_cons (pv 1) pa_nil))))), _, rfl, _, rfl, _, _, rfl, q⟩
-- part rul5
/-! fractions -/
theorem gcd_prime {n p : Int} (hp : Pr p) (h : ¬ p ∣ n) : n.gcd p = 1 := by
  have p2 := hp.1
  have d1 : ((n.gcd p : Nat) : Int) ∣ p := Int.gcd_dvd_right ..
  have d2 : ((n.gcd p : Nat) : Int) ∣ n := Int.gcd_dvd_left ..
  have le : ((n.gcd p : Nat) : Int) ≤ p := Int.le_of_dvd (by omega) d1
  by_cases z : n.gcd p = 0
  · rw [z] at d1
    have := Int.zero_dvd.mp d1
    omega
  · by_cases e : ((n.gcd p : Nat) : Int) = p
    · rw [e] at d2
      exact absurd d2 h
    · by_cases o : n.gcd p = 1
      · exact o
      · exact absurd d1 (hp.2 _ (by omega) (by omega))
abbrev s_recipG : Stmt := top 14
theorem sc_recipG : FnScope ["n", "p"] ["n", "p"] (defScope s_recipG) := ⟨rfl, rfl, rfl, by decide +kernel, rfl, by decide +kernel, by decide +kernel⟩
def spRecipG : Sp := fun vs H Q _ => ∃ n p : Int, vs = [.int n, .int p] ∧ Pr p ∧ p < 2 ^ 62 ∧ n.natAbs < 2 ^ 299 ∧ ¬ p ∣ n ∧ ∀ H', Same H H' → Q (.int (inv p n)) H'
theorem ok_recipG {f : Addr} {fd : FuncData} (F : Fun K "reciprocal" "reciprocal" s_recipG f fd) (c_comb : Cl P w K mg base CX0 1 "combination" spComb) : FnOk P w K mg base CX0 2 f fd ["n", "p"] spRecipG := by
  refine F.ok sc_recipG (fun vs H Q E h => ?_) (fun cdv A outer s H vs Q E hr h => ?_)
  · obtain ⟨n, p, rfl, _⟩ := h
    rfl
  · obtain ⟨n, p, rfl, hp, hb, n0, n1, q⟩ := h
    have e62 : (2 : Nat) ^ 62 ≤ BigL := by decide
    have e99 : (2 : Nat) ^ 299 ≤ BigL := by decide
    have p2 := hp.1
    refine ⟨_, (pss_one (ps_ret (pe_op op_mod (pe_ix ix_tup (pe_cl c_comb hr (pa_cons (pv 0) (pa_cons (pv 1) pa_nil))) pe_int (fun _ _ => rfl)) (pv 1)))), ?_⟩
    refine ⟨_, rfl, _, rfl, n, p, rfl, by omega, by omega, fun u v t H1 huv _ _ s1 ht => ?_⟩
    rw [gcd_prime hp n1] at huv ht
    refine ⟨t, _, _, _, rfl, rfl, SqT.of ht, rfl, _, rfl, _, _, rfl, rfl, (by omega), ?_⟩
    have z := q H1 s1
    rw [inv_eq (b := u % p) (by omega) (Int.emod_nonneg _ (by omega)) (Int.emod_lt_of_pos _ (by omega)) (recip_ok huv (by omega))] at z
    exact z
def remI (n p : Int) : Int := if p = 0 then n else n % p
abbrev s_rem0 : Stmt := top 13
theorem sc_rem0 : FnScope ["n", "p"] ["n", "p"] (defScope s_rem0) := ⟨rfl, rfl, rfl, by decide +kernel, rfl, by decide +kernel, by decide +kernel⟩
def spRemI : Sp := fun vs H Q _ => ∃ n p : Int, vs = [.int n, .int p] ∧ 0 ≤ p ∧ Q (.int (remI n p)) H
theorem ok_remI {f : Addr} {fd : FuncData} (F : Fun K "remainder" "remainder" s_rem0 f fd) : FnOk P w K mg base CX0 1 f fd ["n", "p"] spRemI := by
  refine F.ok sc_rem0 (fun vs H Q E h => ?_) (fun cdv A outer s H vs Q E hr h => ?_)
  · obtain ⟨n, p, rfl, _⟩ := h
    rfl
  · obtain ⟨n, p, rfl, hp, q⟩ := h
    refine ⟨_, (pss_cons (ps_if (pt_cmpR op_eq (pv 1) pe_int (nomark _)) (pss_one (ps_ret (pv 0))) pss_nil)
 (pss_one (ps_ret (pe_op op_mod (pv 0) (pv 1))))), ?_⟩
    refine ⟨_, rfl, rfl, _, rfl, ?_⟩
    unfold remI at q
    by_cases c : p = 0
    · rw [if_pos c] at q
      exact if_pos_of (decide_eq_true (by rw [c])) ⟨_, rfl, q⟩
    · rw [if_neg c] at q
      exact if_neg_of (decide_eq_false fun e => c (V.int.inj e)) ⟨_, rfl, _, rfl, _, _, rfl, rfl, by omega, q⟩
def FrV (K : PySem.W.Frag) (H : Hp) (v : V) : Option (Int × Int) → Prop
  | none => v = .non
  | some (x, y) => ∃ t, v = .ref t ∧ SqT K H t [.int x, .int y]
theorem FrV.same {H H' : Hp} {v : V} {o : Option (Int × Int)} (h : FrV K H v o) (s : Same H H') : FrV K H' v o := by
  match o, h with
  | none, h => exact h
  | some (x, y), ⟨t, e, h⟩ =>
    refine ⟨t, e, ?_⟩
    rcases h with (h | ⟨o', h⟩) | h
    · exact .inl (.inl (s _ _ h))
    · exact .inl (.inr ⟨o', s _ _ h⟩)
    · exact .inr h
theorem FrV.noneT {H : Hp} {v : V} {o : Option (Int × Int)} (h : FrV K H v o) : NoneT K H v := by
  match o, h with
  | none, h => exact .inl h
  | some (x, y), ⟨t, e, h⟩ => exact .inr ⟨t, _, e, h⟩
theorem FrV.isN {H : Hp} {v : V} {o : Option (Int × Int)} (h : FrV K H v o) : isNon v = o.isNone := by
  match o, h with
  | none, h => rw [h]; rfl
  | some (x, y), ⟨t, e, h⟩ => rw [e]; rfl
theorem nat299 {l : Int} (h : l.natAbs < 2 ^ 290) : l.natAbs < 2 ^ 299 := Nat.lt_of_lt_of_le h (by decide)
theorem log9 {n : Nat} (h : n < 2 ^ 290) : n.log2 < 9000 := by
  by_cases c : n = 0
  · rw [c]
    decide
  · have := (Nat.log2_lt c).mpr h
    omega
theorem inv_lt {p n : Int} (hp : 0 < p) : 0 ≤ inv p n ∧ inv p n < p ∨ inv p n = 0 := by
  unfold inv
  cases q : (List.range p.toNat).find? fun k => decide (((k : Nat) : Int) * n % p = 1) with
  | none => exact .inr rfl
  | some k =>
    have h2 := List.mem_range.mp (List.mem_of_find?_eq_some q)
    left
    show (0 : Int) ≤ (k : Nat) ∧ ((k : Nat) : Int) < p
    omega
abbrev s_frac : Stmt := top 35
theorem sc_frac : FnScope ["upper", "lower", "p", "by"] ["upper", "lower", "p"] (defScope s_frac) := ⟨rfl, rfl, rfl, by decide +kernel, rfl, by decide +kernel, by decide +kernel⟩
def spFrac (K : PySem.W.Frag) : Sp := fun vs H Q _ => ∃ u l p : Int, vs = [.int u, .int l, .int p] ∧ Chr p ∧ p < 2 ^ 62 ∧ u.natAbs < 2 ^ 290 ∧ l.natAbs < 2 ^ 290 ∧ ∀ v H', Same H H' → FrV K H' v (fr p u l) → Q v H'
theorem ok_frac {f : Addr} {fd : FuncData} (F : Fun K "_fraction" "_fraction" s_frac f fd) (c_rem : Cl P w K mg base CX0 1 "remainder" spRemI) (c_recip : Cl P w K mg base CX0 2 "reciprocal" spRecipG) (c_common : Cl P w K mg base CX0 1 "common" spCommon) : FnOk P w K mg base CX0 3 f fd ["upper", "lower", "p"] (spFrac K) := by
  refine F.ok sc_frac (fun vs H Q E h => ?_) (fun cdv A outer s H vs Q E hr h => ?_)
  · obtain ⟨u, l, p, rfl, _⟩ := h
    rfl
  · obtain ⟨u, l, p, rfl, hp, hb, bu, bl, q⟩ := h
    have p0 : 0 ≤ p := by rcases hp with h | h; omega; have := h.1; omega
    refine ⟨_, (pss_cons (ps_if (pt_cmpR op_eq (pe_cl c_rem hr (pa_cons (pv 1) (pa_cons (pv 2) pa_nil))) pe_int (nomark _)) (pss_one (ps_ret pe_non)) pss_nil)
 (pss_cons (ps_if (pt_cmpR op_ne (pv 2) pe_int (nomark _)) (pss_one (ps_ret (pe_tup (pa_cons (pe_op op_mod (pe_op op_mulW (pv 0) (pe_cl c_recip hr (pa_cons (pv 1) (pa_cons (pv 2) pa_nil)))) (pv 2)) (pa_cons pe_int pa_nil))))) pss_nil)
 (pss_cons (ps_set (i := 3) sc_frac.nd rfl (Or.inl rfl) (pe_cl c_common hr (pa_cons (pv 0) (pa_cons (pv 1) pa_nil))))
 (pss_cons (ps_if (pt_cmpR op_lt (pv 1) pe_int (nomark _)) (pss_one (ps_set (i := 3) sc_frac.nd rfl (Or.inl rfl) (pe_un un_neg (pv 3)))) pss_nil)
 (pss_one (ps_ret (pe_tup (pa_cons (pe_op op_fdivNW (pv 0) (pv 3)) (pa_cons (pe_op op_fdivNW (pv 1) (pv 3)) pa_nil))))))))), ?_⟩
    refine ⟨_, rfl, _, rfl, l, p, rfl, p0, rfl, _, rfl, ?_⟩
    by_cases c : p = 0
    · subst c
      have e1 : remI l 0 = l := if_pos rfl
      rw [e1]
      by_cases cl : l = 0
      · subst cl
        refine if_pos_of rfl ?_
        exact q .non H (Same.refl H) rfl
      · refine if_neg_of (decide_eq_false fun e => cl (V.int.inj e)) ?_
        refine ⟨_, rfl, rfl, _, rfl, if_neg_of (by simp) ?_⟩
        refine ⟨_, rfl, _, rfl, u, l, rfl, ?_⟩
        have g0 : u.gcd l ≠ 0 := fun e => cl (Int.gcd_eq_zero_iff.mp e).2
        have gl : ((u.gcd l : Nat) : Int) ∣ l := Int.gcd_dvd_right ..
        have gu : ((u.gcd l : Nat) : Int) ∣ u := Int.gcd_dvd_left ..
        have gle : u.gcd l ≤ l.natAbs := Nat.le_of_dvd (Int.natAbs_pos.mpr cl) (Int.natAbs_dvd_natAbs.mpr gl)
        have fin : ∀ g : Int, (g = ((u.gcd l : Nat) : Int) ∨ g = -((u.gcd l : Nat) : Int)) → g = (if l < 0 then -((u.gcd l : Nat) : Int) else ((u.gcd l : Nat) : Int)) → (g ≠ 0 ∧ g.natAbs.log2 < 9000) ∧ ∀ t, H t = none → Q (.ref t) (upd H t (.tup [.int (u.fdiv g), .int (l.fdiv g)])) := fun g hg eg => by
          have dl : g ∣ l := by rcases hg with h | h <;> rw [h]; exact gl; exact Int.neg_dvd.mpr gl
          have du : g ∣ u := by rcases hg with h | h <;> rw [h]; exact gu; exact Int.neg_dvd.mpr gu
          have gn : g.natAbs = u.gcd l := by rcases hg with h | h <;> rw [h] <;> omega
          refine ⟨⟨by omega, log9 (by omega)⟩, fun t nt => q (.ref t) _ (same_upd nt) ?_⟩
          have ef : fr 0 u l = some (u / g, l / g) := by
            unfold fr
            rw [if_pos rfl, if_neg cl, eg]
          rw [ef, ← Int.fdiv_eq_ediv_of_dvd du, ← Int.fdiv_eq_ediv_of_dvd dl]
          exact ⟨t, rfl, SqT.of upd_same⟩
        refine ⟨_, rfl, _, _, rfl, rfl, _, rfl, ?_⟩
        by_cases cn : l < 0
        · refine if_pos_of (decide_eq_true cn) ?_
          obtain ⟨f1, f2⟩ := fin (-((u.gcd l : Nat) : Int)) (.inr rfl) (by rw [if_pos cn])
          exact ⟨_, rfl, _, rfl, _, rfl, _, rfl, _, _, rfl, rfl, f1, _, rfl, _, rfl, _, _, rfl, rfl, f1, (by show 2 ≤ sizeLine; decide), f2⟩
        · refine if_neg_of (decide_eq_false cn) ?_
          obtain ⟨f1, f2⟩ := fin ((u.gcd l : Nat) : Int) (.inl rfl) (by rw [if_neg cn])
          exact ⟨_, rfl, _, rfl, _, _, rfl, rfl, f1, _, rfl, _, rfl, _, _, rfl, rfl, f1, (by show 2 ≤ sizeLine; decide), f2⟩
    · have hpr : Pr p := hp.elim (fun h => absurd h c) id
      have p2 := hpr.1
      have e1 : remI l p = l % p := if_neg c
      rw [e1]
      by_cases cl : l % p = 0
      · refine if_pos_of (decide_eq_true (by rw [cl])) ?_
        refine q .non H (Same.refl H) ?_
        have ef : fr p u l = none := by
          unfold fr
          rw [if_neg c, if_pos cl]
        rw [ef] <;> rfl
      · refine if_neg_of (decide_eq_false fun e => cl (V.int.inj e)) ?_
        refine ⟨_, rfl, rfl, _, rfl, if_pos_of (by simp [c]) ?_⟩
        refine ⟨_, rfl, _, rfl, _, rfl, l, p, rfl, hpr, hb, nat299 bl, fun d => cl (Int.emod_eq_zero_of_dvd d), fun H1 s1 => ?_⟩
        have ib : (inv p l).natAbs < 2 ^ 62 := by
          have := inv_lt (p := p) (n := l) (by omega)
          omega
        refine ⟨_, _, rfl, rfl, wide_mul bu ib (by decide) (by decide) (by decide), _, rfl, _, _, rfl, rfl, (by omega), (by show 2 ≤ sizeLine; decide), fun t nt => ?_⟩
        refine q (.ref t) _ (s1.trans (same_upd nt)) ?_
        have ef : fr p u l = some (u * inv p l % p, 1) := by
          unfold fr
          rw [if_neg c, if_neg cl]
        rw [ef]
        exact ⟨t, rfl, SqT.of upd_same⟩
-- part rul6
theorem tks_one {z : Str} (h : tksS z = some 1) : z = "opposite" := by
  unfold tksS at h
  split at h
  · cases h
  · split at h
    · cases h
    · split at h
      · cases h
      · split at h
        · assumption
        · cases h
theorem tks_two {z : Str} (h : tksS z = some 2) : z ≠ "opposite" ∧ (z = "sum" ∨ z = "product" ∨ z = "quotient") := by
  have ne : z ≠ "opposite" := fun e => by
    rw [e] at h
    exact absurd h (by decide)
  refine ⟨ne, ?_⟩
  unfold tksS at h
  split at h
  · left; assumption
  · split at h
    · right; left; assumption
    · split at h
      · right; right; assumption
      · cases h
theorem bltF_none {word : Str} {p : Int} : ∀ {fs : List (Option (Int × Int))}, none ∈ fs → bltF word fs p = none
  | [none], _ => rfl
  | [some _], h => by simp at h
  | [none, none], _ => rfl
  | [none, some _], _ => rfl
  | [some _, none], _ => rfl
  | [some _, some _], h => by simp at h
  | [], h => nomatch h
  | a :: b :: _ :: _, _ => by rcases a with _ | ⟨_, _⟩ <;> rcases b with _ | ⟨_, _⟩ <;> rfl
def B140 (o : Option (Int × Int)) : Prop := ∀ x y, o = some (x, y) → x.natAbs < 2 ^ 140 ∧ y.natAbs < 2 ^ 140
theorem mul280 {x y : Int} (hx : x.natAbs < 2 ^ 140) (hy : y.natAbs < 2 ^ 140) : (x * y).natAbs < 2 ^ 280 := by
  rw [Int.natAbs_mul]
  exact Nat.lt_of_lt_of_le (Nat.mul_lt_mul'' hx hy) (by decide)
theorem add290 {x y : Int} (hx : x.natAbs < 2 ^ 280) (hy : y.natAbs < 2 ^ 280) : (x + y).natAbs < 2 ^ 290 := by
  have := Int.natAbs_add_le x y
  have e : (2 : Nat) ^ 280 + 2 ^ 280 ≤ 2 ^ 290 := by decide
  omega
theorem up290 {x : Int} (hx : x.natAbs < 2 ^ 280) : x.natAbs < 2 ^ 290 := Nat.lt_of_lt_of_le hx (by decide)
theorem up140 {x : Int} (hx : x.natAbs < 2 ^ 140) : x.natAbs < 2 ^ 290 := Nat.lt_of_lt_of_le hx (by decide)
abbrev s_blt : Stmt := top 36
theorem sc_blt : FnScope ["word", "fractions", "p", "a", "b", "c", "d"] ["word", "fractions", "p"] (defScope s_blt) := ⟨rfl, rfl, rfl, by decide +kernel, rfl, by decide +kernel, by decide +kernel⟩
def spBlt (K : PySem.W.Frag) : Sp := fun vs H Q _ => ∃ (word : Str) (q0 : Addr) (p : Int) (us : List V) (fs : List (Option (Int × Int))), vs = [.str word, .ref q0, .int p] ∧ SqL K H q0 us ∧ AllS (FrV K H) us fs ∧ tksS word = some fs.length ∧ Chr p ∧ p < 2 ^ 62 ∧ (∀ o ∈ fs, B140 o) ∧
  ∀ v H', Same H H' → FrV K H' v (bltF word fs p) → Q v H'
theorem ok_blt {f : Addr} {fd : FuncData} (F : Fun K "_built_of" "_built_of" s_blt f fd) (c_frac : Cl P w K mg base CX0 3 "_fraction" (spFrac K)) : FnOk P w K mg base CX0 4 f fd ["word", "fractions", "p"] (spBlt K) := by
  refine F.ok sc_blt (fun vs H Q E h => ?_) (fun cdv A outer s H vs Q E hr h => ?_)
  · obtain ⟨word, q0, p, us, fs, rfl, _⟩ := h
    rfl
  · obtain ⟨word, q0, p, us, fs, rfl, hq0, al, tk, hp, hb, bd, q⟩ := h
    refine ⟨_, (pss_cons (ps_if (pt_cmpR (op_noneInT (hu64 hr)) pe_non (pv 1) (by with_unfolding_all rfl)) (pss_one (ps_ret pe_non)) pss_nil)
 (pss_cons (ps_asg (pe_ix ix_list (pv 1) pe_int (fun _ _ => rfl)) (pg_tup rfl (pgs_cons (pg_name (i := 3) sc_blt.nd rfl (Or.inl rfl)) (pgs_cons (pg_name (i := 4) sc_blt.nd rfl (Or.inl rfl)) pgs_nil))))
 (pss_cons (ps_if (pt_cmpR op_eq (pv 0) pe_str (nomark _)) (pss_one (ps_ret (pe_cl c_frac hr (pa_cons (pe_un un_neg (pv 3)) (pa_cons (pv 4) (pa_cons (pv 2) pa_nil)))))) pss_nil)
 (pss_cons (ps_asg (pe_ix ix_list (pv 1) pe_int (fun _ _ => rfl)) (pg_tup rfl (pgs_cons (pg_name (i := 5) sc_blt.nd rfl (Or.inl rfl)) (pgs_cons (pg_name (i := 6) sc_blt.nd rfl (Or.inl rfl)) pgs_nil))))
 (pss_cons (ps_if (pt_cmpR op_eq (pv 0) pe_str (nomark _)) (pss_one (ps_ret (pe_cl c_frac hr (pa_cons (pe_op op_add (pe_op op_mulW (pv 3) (pv 6)) (pe_op op_mulW (pv 5) (pv 4))) (pa_cons (pe_op op_mulW (pv 4) (pv 6)) (pa_cons (pv 2) pa_nil)))))) pss_nil)
 (pss_cons (ps_if (pt_cmpR op_eq (pv 0) pe_str (nomark _)) (pss_one (ps_ret (pe_cl c_frac hr (pa_cons (pe_op op_mulW (pv 3) (pv 5)) (pa_cons (pe_op op_mulW (pv 4) (pv 6)) (pa_cons (pv 2) pa_nil)))))) pss_nil)
 (pss_one (ps_ret (pe_cl c_frac hr (pa_cons (pe_op op_mulW (pv 3) (pv 6)) (pa_cons (pe_op op_mulW (pv 4) (pv 5)) (pa_cons (pv 2) pa_nil)))))))))))), ?_⟩
    have nt : ∀ z ∈ us, NoneT K H z := fun z hz => by
      obtain ⟨i, hi⟩ := List.getElem?_of_mem hz
      obtain ⟨b, _, h2⟩ := al.get hi
      exact h2.noneT
    refine ⟨_, rfl, q0, us, rfl, rfl, hq0, nt, _, rfl, ?_⟩
    by_cases c : none ∈ fs
    · have e : us.any isNon = true := by
        obtain ⟨i, hi⟩ := List.getElem?_of_mem c
        obtain ⟨v, h1, h2⟩ := al.2 i _ hi
        exact List.any_eq_true.mpr ⟨v, List.mem_of_getElem? h1, by rw [h2.isN]; rfl⟩
      rw [e]
      exact iteT (q .non H (Same.refl H) (by rw [bltF_none c]; rfl))
    · have e : us.any isNon = false := by
        rw [List.any_eq_false]
        intro z hz
        obtain ⟨i, hi⟩ := List.getElem?_of_mem hz
        obtain ⟨b, h1, h2⟩ := al.get hi
        rw [h2.isN]
        cases b with
        | none => exact absurd (List.mem_of_getElem? h1) c
        | some x => exact Bool.false_ne_true
      rw [e]
      refine iteF ?_
      match fs, al, tk, bd, q, c with
      | [], _, tk, _, _, _ => exact absurd (show tksS word = some 0 from tk) (by unfold tksS; split; simp; split; simp; split; simp; split <;> simp)
      | none :: _, _, _, _, _, c => exact absurd List.mem_cons_self c
      | _ :: none :: _, _, _, _, _, c => exact absurd (List.mem_cons_of_mem _ List.mem_cons_self) c
      | [some (a, b)], al, tk, bd, q, c =>
        have ew := tks_one tk
        obtain ⟨ba, bb⟩ := bd _ List.mem_cons_self a b rfl
        obtain ⟨v0, hv0, t0, rfl, ht0⟩ := al.2 0 _ rfl
        refine ⟨_, rfl, q0, _, _, _, rfl, rfl, hq0, atI_nat (j := 0) hv0, t0, _, rfl, ht0, rfl, _, _, rfl, _, _, rfl, rfl, ?_⟩
        refine ⟨_, rfl, rfl, _, rfl, ?_⟩
        rw [str_eq]
        refine if_pos_of (decide_eq_true ew) ?_
        refine ⟨_, rfl, _, rfl, _, rfl, _, rfl, -a, b, p, rfl, hp, hb, by rw [Int.natAbs_neg]; exact up140 ba, up140 bb, fun v H1 s1 fv => q v H1 s1 ?_⟩
        have z : bltF word [some (a, b)] p = fr p (-a) b := if_pos ew
        rw [z]
        exact fv
      | [some (a, b), some (c', d)], al, tk, bd, q, c =>
        obtain ⟨ne, ew⟩ := tks_two tk
        obtain ⟨ba, bb⟩ := bd _ List.mem_cons_self a b rfl
        obtain ⟨bc, bdd⟩ := bd _ (List.mem_cons_of_mem _ List.mem_cons_self) c' d rfl
        obtain ⟨v0, hv0, t0, rfl, ht0⟩ := al.2 0 _ rfl
        obtain ⟨v1, hv1, t1, rfl, ht1⟩ := al.2 1 _ rfl
        have z : bltF word [some (a, b), some (c', d)] p = if word = "sum" then fr p (a * d + c' * b) (b * d) else if word = "product" then fr p (a * c') (b * d) else fr p (a * d) (b * c') := if_neg ne
        rw [z] at q
        have W : ∀ {x y : Int}, x.natAbs < 2 ^ 140 → y.natAbs < 2 ^ 140 → CMulW x y := fun hx hy => wide_mul hx hy (by decide) (by decide) (by decide)
        refine ⟨_, rfl, q0, _, _, _, rfl, rfl, hq0, atI_nat (j := 0) hv0, t0, _, rfl, ht0, rfl, _, _, rfl, _, _, rfl, rfl, ?_⟩
        refine ⟨_, rfl, rfl, _, rfl, ?_⟩
        rw [str_eq]
        refine if_neg_of (decide_eq_false ne) ?_
        refine ⟨_, rfl, q0, _, _, _, rfl, rfl, hq0, atI_nat (j := 1) hv1, t1, _, rfl, ht1, rfl, _, _, rfl, _, _, rfl, rfl, ?_⟩
        refine ⟨_, rfl, rfl, _, rfl, ?_⟩
        rw [str_eq]
        by_cases c1 : word = "sum"
        · rw [if_pos c1] at q
          refine if_pos_of (decide_eq_true c1) ?_
          exact ⟨_, rfl, _, rfl, _, _, rfl, rfl, W ba bdd, _, rfl, _, rfl, _, _, rfl, rfl, W bc bb, _, _, rfl, rfl, _, rfl, _, rfl, _, _, rfl, rfl, W bb bdd, _, rfl, _, _, _, rfl, hp, hb, add290 (mul280 ba bdd) (mul280 bc bb), up290 (mul280 bb bdd), q⟩
        · rw [if_neg c1] at q
          refine if_neg_of (decide_eq_false c1) ?_
          refine ⟨_, rfl, rfl, _, rfl, ?_⟩
          rw [str_eq]
          by_cases c2 : word = "product"
          · rw [if_pos c2] at q
            refine if_pos_of (decide_eq_true c2) ?_
            exact ⟨_, rfl, _, rfl, _, _, rfl, rfl, W ba bc, _, rfl, _, rfl, _, _, rfl, rfl, W bb bdd, _, rfl, _, _, _, rfl, hp, hb, up290 (mul280 ba bc), up290 (mul280 bb bdd), q⟩
          · rw [if_neg c2] at q
            refine if_neg_of (decide_eq_false c2) ?_
            exact ⟨_, rfl, _, rfl, _, _, rfl, rfl, W ba bdd, _, rfl, _, rfl, _, _, rfl, rfl, W bb bc, _, rfl, _, _, _, rfl, hp, hb, up290 (mul280 ba bdd), up290 (mul280 bb bc), q⟩
      | _ :: _ :: _ :: fs', _, tk, _, _, _ => exact absurd (tks_le tk) (by simp only [List.length_cons]; omega)
-- part rul7
theorem filter_at {α : Type} [DecidableEq α] {f : α → Bool} {l : List α} (nd : l.Nodup) {i k : Nat} {x : α} (hi : (l.filter f)[i]? = some x) (hk : l[k]? = some x) : (l.filter f).take i = (l.take k).filter f := by
  have kl := (List.getElem?_eq_some_iff.mp hk).1
  have e : l = l.take k ++ x :: l.drop (k + 1) := by
    have e1 := List.take_append_drop k l
    rw [List.drop_eq_getElem_cons kl] at e1
    rw [List.getElem?_eq_getElem kl] at hk
    rw [Option.some.inj hk] at e1
    exact e1.symm
  have fx : f x = true := (List.mem_filter.mp (List.mem_of_getElem? hi)).2
  have e2 : l.filter f = (l.take k).filter f ++ x :: (l.drop (k + 1)).filter f := by
    have e3 := congrArg (List.filter f) e
    rw [List.filter_append, List.filter_cons, if_pos fx] at e3
    exact e3
  have ndf : (l.filter f).Nodup := List.Pairwise.filter _ nd
  have hm : (l.filter f)[((l.take k).filter f).length]? = some x := by
    rw [e2, List.getElem?_append_right (Nat.le_refl _), Nat.sub_self]
    rfl
  have em : i = ((l.take k).filter f).length := by
    have i1 := (List.getElem?_eq_some_iff.mp hi)
    have i2 := (List.getElem?_eq_some_iff.mp hm)
    have pw := ndf
    unfold List.Nodup at pw
    rw [List.pairwise_iff_getElem] at pw
    obtain ⟨l1, h1⟩ := i1
    obtain ⟨l2, h2⟩ := i2
    rcases Nat.lt_trichotomy i ((l.take k).filter f).length with c | c | c
    · exact absurd (h1.trans h2.symm) (pw _ _ l1 l2 c)
    · exact c
    · exact absurd (h2.trans h1.symm) (pw _ _ l2 l1 c)
  rw [em, e2, List.take_left]
def BndR (p : Int) (R : List Stp) : Prop := ∀ z, B140 (valF p R z)
def FoundAt (K : PySem.W.Frag) (H : Hp) (D : Addr) (f : Str → Option (Int × Int)) (P : Str → Prop) : Prop := ∃ kvs, H D = some (.dK kvs) ∧ ∀ z, P z → ∃ v, valV kvs (Sum.inr z : Key) = some v ∧ FrV K H v (f z)
theorem FoundAt.same {H H' : Hp} {D : Addr} {f : Str → Option (Int × Int)} {P : Str → Prop} (h : FoundAt K H D f P) (s : Same H H') : FoundAt K H' D f P := by
  obtain ⟨kvs, h1, h2⟩ := h
  exact ⟨kvs, s _ _ h1, fun z hz => by
    obtain ⟨v, e1, e2⟩ := h2 z hz
    exact ⟨v, e1, e2.same s⟩⟩
theorem FrV.upd {H : Hp} {v : V} {o : Option (Int × Int)} {D : Addr} {u u' : HO} (h : FrV K H v o) (hD : H D = some u) (n1 : ∀ xs, u ≠ .tup xs) (n2 : ∀ o xs, u ≠ .frz o (.tup xs)) : FrV K (upd H D u') v o := by
  match o, h with
  | none, h => exact h
  | some (x, y), ⟨t, e, h⟩ =>
    refine ⟨t, e, ?_⟩
    rcases h with (h | ⟨o', h⟩) | h
    · exact .inl (.inl (by rw [upd_ne (fun e => by rw [e, hD] at h; exact n1 _ (Option.some.inj h))]; exact h))
    · exact .inl (.inr ⟨o', by rw [upd_ne (fun e => by rw [e, hD] at h; exact n2 _ _ (Option.some.inj h))]; exact h⟩)
    · exact .inr h
theorem FrV.updD {H : Hp} {v : V} {o : Option (Int × Int)} {D : Addr} {kvs kvs' : List (Key × V)} (h : FrV K H v o) (hD : H D = some (.dK kvs)) : FrV K (L2.upd H D (.dK kvs')) v o := h.upd hD (fun _ e => nomatch e) (fun _ _ e => nomatch e)
theorem FrV.updL {H : Hp} {v : V} {o : Option (Int × Int)} {D : Addr} {xs ys : List V} (h : FrV K H v o) (hD : H D = some (.lst xs)) : FrV K (L2.upd H D (.lst ys)) v o := h.upd hD (fun _ e => nomatch e) (fun _ _ e => nomatch e)
theorem gvn_found {Z O : Addr} {H : Hp} {p : Int} {R : List Stp} (wf : WFR R) (hZ : SqT K H Z [.int 0, .int 1]) (hO : SqT K H O [.int 1, .int 1]) {z : Str} (hz : z ∈ gvnS) : ∃ v, valV ((gvnV Z O).map fun kv => ((Sum.inr kv.1 : Key), kv.2)) (Sum.inr z : Key) = some v ∧ FrV K H v (valF p R z) := by
  rw [valF_given wf hz]
  unfold gvnS at hz
  rcases List.mem_cons.mp hz with e | hz
  · subst e
    exact ⟨.ref Z, valV_pos rfl, Z, rfl, hZ⟩
  · have e := List.mem_singleton.mp hz
    subst e
    refine ⟨.ref O, ?_, O, rfl, hO⟩
    show valV (((Sum.inr "zero" : Key), V.ref Z) :: [((Sum.inr "one" : Key), V.ref O)]) (Sum.inr "one") = _
    rw [valV_neg (fun e => absurd (Sum.inr.inj e) (by decide))]
    exact valV_pos rfl
abbrev s_rufrs : Stmt := inClass (top 44) 3
theorem sc_rufrs : FnScope ["self", "names", "p", "found", "name", "word", "rest", "other"] ["self", "names", "p"] (defScope s_rufrs) := ⟨rfl, rfl, rfl, by decide +kernel, rfl, by decide +kernel, by decide +kernel⟩
def spFrs (C : Addr) (K : PySem.W.Frag) : Sp := fun vs H Q _ => ∃ (a q0 : Addr) (p : Int) (R : List Stp) (ns : List Str), vs = [.ref a, .ref q0, .int p] ∧ RulAt C H a R ∧ R.length ≤ 900 ∧ SqL K H q0 (ns.map V.str) ∧ ns.length ≤ 900 ∧ Chr p ∧ p < 2 ^ 62 ∧ BndR p R ∧
  ∀ S D H', ClosedS R ns S → Same H H' → FoundAt K H' D (valF p R) (fun z => z ∈ gvnS ∨ z ∈ wayOf R S) → Q (.ref D) H'
theorem ok_rufrs {f C DG Z O : Addr} {fd : FuncData} (TT : Txt mg) (ndict : mg "dict" = none) (T : RulT K mg C) (WG : WDict K w DG (gvnV Z O)) (hG : mg "_GIVEN" = some (.ref DG)) (hZ : ∀ H, SqT K H Z [.int 0, .int 1]) (hO : ∀ H, SqT K H O [.int 1, .int 1]) (F : Fun K "_fractions" "Ruler._fractions" s_rufrs f fd)
    (m_way : Me P w K mg base 1 C "_way_to" (spWay C K)) (c_blt : Cl P w K mg base CX0 4 "_built_of" (spBlt K)) : FnOk P w K mg base CX0 5 f fd ["self", "names", "p"] (spFrs C K) := by
  refine F.ok sc_rufrs (fun vs H Q E h => ?_) (fun cdv A outer s H vs Q E hr h => ?_)
  · obtain ⟨a, q0, p, R, ns, rfl, _⟩ := h
    rfl
  · obtain ⟨a, q0, p, R, ns, rfl, ru, few, hq0, nl, hp, hb, bd, q⟩ := h
    obtain ⟨dx, d, kvs0, oa, od, sa⟩ := ru.ob
    have wf := ru.ok
    refine ⟨_, (pss_cons (ps_set (i := 3) sc_rufrs.nd rfl (Or.inr rfl) (pe_callTy (call_dictW WG (by show 2 ≤ 1000; decide)) (by rfl) ndict boot_dict (pa_cons (pe_glob (v := .ref DG) (by rfl) hG rfl) pa_nil)))
 (pss_cons (ps_for PassesOwn.never rfl (pi_list (pe_me m_way T.cl hr (pv 0) (pa_cons (pv 1) pa_nil))) (pg_name (i := 4) sc_rufrs.nd rfl (Or.inl rfl)) (pss_cons (ps_asg (pe_dget (by exact hu1 hr) (pe_fld (pv 0) rfl) (pv 4) (fun _ _ => rfl)) (pg_tup rfl (pgs_cons (pg_name (i := 5) sc_rufrs.nd rfl (Or.inl rfl)) (pgs_cons (pg_name (i := 6) sc_rufrs.nd rfl (Or.inl rfl)) pgs_nil))))
 (pss_one (ps_dput (hu1 hr) (pv 3) (pv 4) (pe_cl c_blt hr (pa_cons (pv 5) (pa_cons (pe_lc (own := [("other", 7)]) (g := (gName 7)) (tt := tYes) rfl sc_rufrs.nd (pi_list (pv 6)) (blkOk_by (N := ["self", "names", "p", "found", "name", "word", "rest", "other"]) (sc := defScope s_rufrs) (by decide +kernel)) (fun _ _ _ _ _ => (pg_name (i := 7) sc_rufrs.nd rfl (Or.inl rfl))) (fun _ _ _ _ _ => pts_nil) (fun _ _ _ _ _ => (pe_dget (by exact hu1 hr) (pv 3) (pv 7) (fun _ _ => rfl)))) (pa_cons (pv 2) pa_nil)))) rfl))))
 (pss_one (ps_ret (pv 3))))), ?_⟩
    refine ⟨rfl, fun D nD => ?_⟩
    have s1 := same_upd (o := .dK ((gvnV Z O).map fun kv => ((Sum.inr kv.1 : Key), kv.2))) nD
    refine ⟨_, rfl, a, dx, _, rfl, s1 _ _ oa, ru_no _ (by decide +kernel), _, rfl, a, q0, R, ns, rfl, ru.same s1, few, s1.seq hq0, nl, fun S wl G1 cl s2 hwl => ?_⟩
    have wl_len : (wayOf R S).length ≤ 900 := by
      have z := List.length_filter_le (fun n => decide (n ∈ S)) (namesS R)
      have z2 : (namesS R).length = R.length := by unfold namesS; rw [List.length_map]
      unfold wayOf
      omega
    refine ⟨wl, rfl, ⟨_, SqL.of hwl⟩, for_it walk_list (fun i σ G => Same H G ∧ G wl = some (.lst ((wayOf R S).map V.str)) ∧ (∃ y4 y5 y6 y7, σ = [some (.ref a), some (.ref q0), some (.int p), some (.ref D), y4, y5, y6, y7]) ∧ ∃ kvs, G D = some (.dK kvs) ∧ kvs.length ≤ 2 + i ∧ ∀ z, (z ∈ gvnS ∨ z ∈ (wayOf R S).take i) → ∃ v, valV kvs (Sum.inr z : Key) = some v ∧ FrV K G v (valF p R z))
      ⟨s1.trans s2, hwl, ⟨none, none, none, none, rfl⟩, _, s2 _ _ upd_same, Nat.le_refl _, fun z hz => ?_⟩ (fun i σ G _ h => SqL.of h.2.1) ?_ ?_⟩
    · rcases hz with h | h
      · exact gvn_found wf (hZ _) (hO _) h
      · rw [List.take_zero] at h
        cases h
    · rintro i v σ _ G hi ⟨s3, hwl3, ⟨y4, y5, y6, y7, rfl⟩, kvs, hD, lk, fnd⟩ ⟨rfl, hv⟩
      obtain ⟨z, rfl, hz⟩ := strAt hv
      rw [List.length_map] at hi
      obtain ⟨mz, mS⟩ := List.mem_filter.mp (List.mem_of_getElem? hz)
      obtain ⟨k, hk⟩ := List.getElem?_of_mem mz
      obtain ⟨st, hst, ez⟩ : ∃ st, R[k]? = some st ∧ st.1 = z := by
        unfold namesS at hk
        rw [List.getElem?_map] at hk
        exact Option.map_eq_some_iff.mp hk
      subst ez
      have mS' : st.1 ∈ S := of_decide_eq_true mS
      obtain ⟨sv, hsv, t, r, rfl, ht, hr'⟩ := sa.get wf hst
      have lr := tks_le (wf k st hst).k
      refine ⟨_, rfl, a, C, dx, _, _, rfl, s3 _ _ oa, T.cl, T.nS, ru_s d, _, rfl, d, .ref t, rfl, (by have z := DGet.k (k := Sum.inr st.1) (s3 _ _ od); rw [hsv] at z; exact z), t, _, rfl, SqT.of (s3 _ _ ht), rfl, _, _, rfl, _, _, rfl, rfl, ?_⟩
      refine ⟨_, rfl, _, rfl, r, rfl, ⟨_, SqL.of (s3 _ _ hr')⟩, fun E nE => lc_it walk_list (fun j G' => Same G G' ∧ ∃ acc, G' E = some (.lst acc) ∧ AllS (FrV K G') acc ((st.2.2.take j).map (valF p R))) ⟨same_upd nE, [], upd_same, AllS.nil⟩ (fun j G' _ h => SqL.of (h.1 _ _ (s3 _ _ hr'))) ?_ ?_⟩
      · rintro j x _ G' hj ⟨s4, acc, hE, al⟩ ⟨rfl, hx⟩
        obtain ⟨y, rfl, hy⟩ := strAt hx
        have my := List.mem_of_getElem? hy
        have py : y ∈ gvnS ∨ y ∈ (wayOf R S).take i := by
          rcases knownB_iff.mp ((wf k st hst).known y my) with g | g
          · exact .inl g
          · right
            unfold wayOf
            rw [filter_at (wfr_nodup wf) hz hk]
            refine List.mem_filter.mpr ⟨?_, decide_eq_true (cl.cl k st hst mS' y my)⟩
            unfold namesS at g ⊢
            rw [← List.map_take]
            exact g
        obtain ⟨v, hv1, hv2⟩ := fnd y py
        have la := al.1
        rw [List.length_map, List.length_take] at la
        refine ⟨rfl, _, rfl, _, rfl, D, v, rfl, (by have z := DGet.k (k := Sum.inr y) (s4 _ _ hD); rw [hv1] at z; exact z), acc, hE, by rw [sizeLine_eq]; omega, fun b o hb => ?_, _, upd_same, ?_⟩
        · rw [upd_ne (ne_of_none hb nE)]
          exact s4 b o hb
        · rw [List.take_add_one, hy, List.map_append]
          exact (al.snoc (hv2.same s4)).mono fun v b _ h => h.updL hE
      · rintro G' ⟨s4, acc, hE, al⟩
        rw [List.length_map, List.take_length] at al
        refine ⟨_, rfl, st.2.1, E, p, acc, st.2.2.map (valF p R), rfl, SqL.of hE, al, by rw [List.length_map]; exact (wf k st hst).k, hp, hb, fun o ho => ?_, fun v G2 s5 fv => ?_⟩
        · obtain ⟨y, _, e⟩ := List.mem_map.mp ho
          rw [← e]
          exact bd y
        · rw [← valF_step wf hst] at fv
          have s6 := s3.trans (s4.trans s5)
          have hD2 := s5 _ _ (s4 _ _ hD)
          refine ⟨_, rfl, _, rfl, D, _, rfl, DPut.k (k := Sum.inr st.1) hD2 (by rw [sizeLine_eq]; omega), fun b o hb => ?_, ?_, ⟨_, _, _, _, rfl⟩, _, upd_same, by have := length_putK kvs (Sum.inr st.1 : Key) v; omega, fun y hy => ?_⟩
          · rw [upd_ne (ne_of_none hb nD)]
            exact s6 b o hb
          · have e := s5 _ _ (s4 _ _ hwl3)
            rw [upd_ne (fun e2 => by rw [e2, hD2] at e; cases e)]
            exact e
          · rw [valV_put]
            by_cases c : (Sum.inr y : Key) = Sum.inr st.1
            · rw [if_pos c, Sum.inr.inj c]
              exact ⟨v, rfl, fv.updD hD2⟩
            · rw [if_neg c]
              have hy' : y ∈ gvnS ∨ y ∈ (wayOf R S).take i := by
                rcases hy with h | h
                · exact .inl h
                · rw [List.take_add_one, hz] at h
                  rcases List.mem_append.mp h with h | h
                  · exact .inr h
                  · exact absurd (by rw [show y = st.1 by simpa using h]) c
              obtain ⟨v', e1, e2⟩ := fnd y hy'
              exact ⟨v', e1, ((e2.same s4).same s5).updD hD2⟩
    · rintro σ G ⟨s3, hwl3, ⟨y4, y5, y6, y7, rfl⟩, kvs, hD, lk, fnd⟩
      rw [List.length_map, List.take_length] at fnd
      exact ⟨_, rfl, q S D G cl s3 ⟨kvs, hD, fnd⟩⟩
-- part rul8
/-! values in a prime characteristic -/
theorem lookE_none {env : Env2} {z : Str} (h : z ∉ env.map (·.1)) : lookE env z = none := by
  unfold lookE
  have n : (env.find? fun q => decide (q.1 = z)) = none := by
    rw [List.find?_eq_none]
    intro q hq e
    exact h (List.mem_map.mpr ⟨q, hq, of_decide_eq_true e⟩)
  rw [n] <;> rfl
theorem fr_pr {p u l x y : Int} (hp : Pr p) (h : fr p u l = some (x, y)) : y = 1 ∧ 0 ≤ x ∧ x < p := by
  have := hp.1
  unfold fr at h
  rw [if_neg (by omega)] at h
  split at h
  · cases h
  · cases h
    exact ⟨rfl, Int.emod_nonneg _ (by omega), Int.emod_lt_of_pos _ (by omega)⟩
theorem bltF_pr {word : Str} {p x y : Int} (hp : Pr p) : ∀ {fs : List (Option (Int × Int))}, bltF word fs p = some (x, y) → y = 1 ∧ 0 ≤ x ∧ x < p
  | [some (a, b)], h => by
    have h' : (if word = "opposite" then fr p (-a) b else none) = some (x, y) := h
    split at h'
    · exact fr_pr hp h'
    · cases h'
  | [some (a, b), some (c, d)], h => by
    have h' : (if word = "opposite" then fr p (-a) b else if word = "sum" then fr p (a * d + c * b) (b * d) else if word = "product" then fr p (a * c) (b * d) else fr p (a * d) (b * c)) = some (x, y) := h
    split at h'
    · exact fr_pr hp h'
    · split at h'
      · exact fr_pr hp h'
      · split at h'
        · exact fr_pr hp h'
        · exact fr_pr hp h'
  | [none], h => by cases h
  | [none, none], h => by cases h
  | [none, some _], h => by cases h
  | [some (_, _), none], h => by cases h
  | [], h => by cases h
  | a :: b :: c :: r, h => by
    rcases a with _ | ⟨_, _⟩ <;> rcases b with _ | ⟨_, _⟩ <;> cases h
theorem valF_pr {p : Int} {R : List Stp} (wf : WFR R) (hp : Pr p) {z : Str} {x y : Int} (h : valF p R z = some (x, y)) : y = 1 ∧ 0 ≤ x ∧ x < p := by
  have := hp.1
  by_cases c : z ∈ gvnS
  · rw [valF_given wf c] at h
    unfold gvnS at c
    rcases List.mem_cons.mp c with e | c
    · subst e
      have : some ((0 : Int), (1 : Int)) = some (x, y) := h
      cases this
      omega
    · have e := List.mem_singleton.mp c
      subst e
      have : some ((1 : Int), (1 : Int)) = some (x, y) := h
      cases this
      omega
  · by_cases c2 : z ∈ namesS R
    · obtain ⟨i, hi⟩ := List.getElem?_of_mem c2
      unfold namesS at hi
      rw [List.getElem?_map] at hi
      obtain ⟨st, hst, e⟩ := Option.map_eq_some_iff.mp hi
      subst e
      rw [valF_step wf hst] at h
      exact bltF_pr hp h
    · unfold valF at h
      rw [lookE_none (by rw [envR_keys]; intro m; exact (List.mem_append.mp m).elim c c2)] at h
      cases h
theorem bnd_pr {p : Int} {R : List Stp} (wf : WFR R) (hp : Pr p) (hb : p < 2 ^ 62) : BndR p R := fun z x y h => by
  obtain ⟨h1, h2, h3⟩ := valF_pr wf hp h
  have e : (2 : Nat) ^ 62 ≤ 2 ^ 140 := by decide
  generalize (2 : Nat) ^ 140 = T at e
  omega
def valO : Option (Int × Int) → V
  | none => .non
  | some (x, _) => .int x
theorem mem_way {R : List Stp} {S : List Str} {z : Str} (h1 : z ∈ namesS R) (h2 : z ∈ S) : z ∈ wayOf R S := List.mem_filter.mpr ⟨h1, decide_eq_true h2⟩
abbrev s_ruval : Stmt := inClass (top 44) 8
theorem sc_ruval : FnScope ["self", "name", "p", "found"] ["self", "name", "p"] (defScope s_ruval) := ⟨rfl, rfl, rfl, by decide +kernel, rfl, by decide +kernel, by decide +kernel⟩
def spRuVal (C CB CU : Addr) : Sp := fun vs H Q E => ∃ (a : Addr) (R : List Stp) (z : Str) (p : Int), vs = [.ref a, .str z, .int p] ∧ RulAt C H a R ∧ R.length ≤ 900 ∧ z.length ≤ 1000 ∧ p < 2 ^ 62 ∧
  (¬ Pr p → ∀ d H', Same H H' → H' d = some (.xd [("p", .int p)]) → E (.ref CB) (some d) H') ∧
  (Pr p → knownB (namesS R) z = false → ∀ d H', Same H H' → H' d = some (.xd [("name", .str z)]) → E (.ref CU) (some d) H') ∧
  (Pr p → knownB (namesS R) z = true → ∀ H', Same H H' → Q (valO (valF p R z)) H')
theorem ok_ruval {f C CB CU : Addr} {fd : FuncData} (T : RulT K mg C) (F : Fun K "value" "Ruler.value" s_ruval f fd) (c_chkp : Cl P w K mg base (L2N.CX P w) 3 "checked_prime" (spChkp CB)) (m_chk : MeN P w K mg base 3 C "_check_names" (spRuChk C CU K)) (m_frs : Me P w K mg base 5 C "_fractions" (spFrs C K)) : FnOk P w K mg base (L2N.CX P w) 6 f fd ["self", "name", "p"] (spRuVal C CB CU) := by
  refine okN F sc_ruval (fun vs H Q E h => ?_) (fun cdv A outer s H vs Q E hr h => ?_)
  · obtain ⟨a, R, z, p, rfl, _⟩ := h
    rfl
  · obtain ⟨a, R, z, p, rfl, ru, few, zl, hb, eB, eU, q⟩ := h
    obtain ⟨dx, d, kvs0, oa, od, sa⟩ := ru.ob
    refine ⟨_, (pss_cons (ps_expr (pe_clNX c_chkp hr (L2N.takes_of rfl rfl rfl rfl) (pa_cons (pv 2) pa_nil)))
 (pss_cons (ps_expr (pe_meX m_chk T.cl hr (L2N.takes_of rfl rfl rfl rfl) (pv 0) (pa_cons (pe_lst (pa_cons (pv 1) pa_nil)) pa_nil)))
 (pss_cons (ps_set (i := 3) sc_ruval.nd rfl (Or.inl rfl) (pe_dget (by exact hu1 hr) (pe_me m_frs T.cl hr (pv 0) (pa_cons (pe_lst (pa_cons (pv 1) pa_nil)) (pa_cons (pv 2) pa_nil))) (pv 1) (fun _ _ => rfl)))
 (pss_one (ps_ret (pe_ifExp (pt_cmpR op_isN (pv 3) pe_non (nomark _)) pe_non (pe_ix ix_tup (pv 3) pe_int (fun _ _ => rfl)))))))), ?_⟩
    refine ⟨_, rfl, p, rfl, hb, fun hp => ?_, fun hp d H' s hd => eB hp d H' s hd⟩
    refine ⟨_, rfl, a, dx, _, rfl, oa, ru_no _ (by decide +kernel), _, rfl, (by show 1 ≤ sizeLine; decide), fun l1 nl1 => ?_⟩
    have s1 := same_upd (o := .lst [.str z]) nl1
    refine ⟨a, l1, R, [z], rfl, ru.same s1, SqL.of upd_same, fun y hy => by rw [List.mem_singleton.mp hy]; exact zl, fun hk => ?_, fun i y hy hk _ d H' s2 hd => ?_⟩
    · have hk1 := hk z List.mem_cons_self
      refine ⟨_, rfl, a, dx, _, rfl, s1 _ _ oa, ru_no _ (by decide +kernel), _, rfl, (by show 1 ≤ sizeLine; decide), fun l2 nl2 => ?_⟩
      have s2 := s1.trans (same_upd (o := .lst [.str z]) nl2)
      refine ⟨_, rfl, a, l2, p, R, [z], rfl, ru.same s2, few, SqL.of upd_same, by simp, .inr hp, hb, bnd_pr ru.ok hp hb, fun S D H3 cl s3 fd => ?_⟩
      obtain ⟨kvs, hD, fnd⟩ := fd
      obtain ⟨v, hv1, hv2⟩ := fnd z (by
        rcases knownB_iff.mp hk1 with h | h
        · exact .inl h
        · exact .inr (mem_way h (cl.inn z List.mem_cons_self)))
      have q3 := q hp hk1 H3 (s2.trans s3)
      refine ⟨_, rfl, D, v, rfl, (by have z := DGet.k (k := Sum.inr z) hD; rw [hv1] at z; exact z), ?_⟩
      refine ⟨_, rfl, rfl, _, rfl, ?_⟩
      match hvf : valF p R z, hv2, q3 with
      | none, hv2, q3 =>
        have e : v = .non := hv2
        subst e
        exact if_pos_of (decide_eq_true rfl) q3
      | some (x, y), ⟨t, e, ht⟩, q3 =>
        subst e
        exact if_neg_of (decide_eq_false fun e => nomatch e) ⟨_, rfl, t, _, _, _, rfl, rfl, ht, atI_nat (j := 0) rfl, q3⟩
    · have e : y = z := by
        cases i with
        | zero => exact (Option.some.inj hy).symm
        | succ i => cases hy
      rw [e] at hk hd
      exact eU hp hk d H' (s1.trans s2) hd
-- part pln1
/-! triples modulo a prime -/
abbrev T3 := Int × Int × Int
def crs (P Q : T3) : T3 := (P.2.1 * Q.2.2 - P.2.2 * Q.2.1, P.2.2 * Q.1 - P.1 * Q.2.2, P.1 * Q.2.1 - P.2.1 * Q.1)
def fstU (x y z : Int) : Int := if x ≠ 0 then x else if y ≠ 0 then y else z
def nrm (p : Int) (P : T3) : Option T3 :=
  let f := fstU (P.1 % p) (P.2.1 % p) (P.2.2 % p)
  if f = 0 then none else some (P.1 % p * inv p f % p, P.2.1 % p * inv p f % p, P.2.2 % p * inv p f % p)
def N3 (p : Int) (P : T3) : T3 := (nrm p P).getD (0, 0, 0)
def NZ (p : Int) (P : T3) : Prop := ¬ (p ∣ P.1 ∧ p ∣ P.2.1 ∧ p ∣ P.2.2)
/-- the same but for a factor -/
def Eqv (p : Int) (P Q : T3) : Prop := ∃ k : Int, ¬ p ∣ k ∧ p ∣ P.1 - k * Q.1 ∧ p ∣ P.2.1 - k * Q.2.1 ∧ p ∣ P.2.2 - k * Q.2.2
theorem bez : ∀ (a b : Nat), ∃ u v : Int, u * a + v * b = (Nat.gcd a b : Nat)
  | 0, b => ⟨0, 1, by rw [Nat.gcd_zero_left]; omega⟩
  | a + 1, b => by
    have lt : b % (a + 1) < a + 1 := Nat.mod_lt _ (Nat.succ_pos a)
    obtain ⟨u, v, e⟩ := bez (b % (a + 1)) (a + 1)
    refine ⟨v - u * ((b / (a + 1) : Nat) : Int), u, ?_⟩
    rw [Nat.gcd_rec, ← e]
    have d : (b : Int) = ((b % (a + 1) : Nat) : Int) + ((a + 1 : Nat) : Int) * ((b / (a + 1) : Nat) : Int) := by
      have := Nat.mod_add_div b (a + 1)
      omega
    generalize ((b / (a + 1) : Nat) : Int) = qq at *
    generalize ((b % (a + 1) : Nat) : Int) = rr at *
    generalize ((a + 1 : Nat) : Int) = aa at *
    rw [d, Int.sub_mul, Int.mul_add, Int.mul_assoc, Int.mul_comm qq aa]
    omega
  termination_by a => a
theorem bez_pr {n p : Int} (hp : Pr p) (h : ¬ p ∣ n) : ∃ u v : Int, u * n + v * p = 1 := by
  have p2 := hp.1
  have n0 : 0 ≤ n % p := Int.emod_nonneg _ (by omega)
  obtain ⟨u, v, e⟩ := bez (n % p).toNat p.toNat
  have g : Nat.gcd (n % p).toNat p.toNat = 1 := by
    have g1 := gcd_prime hp (n := n % p) (fun d => h (Int.dvd_of_emod_eq_zero (by
      have := Int.emod_eq_zero_of_dvd d
      rwa [Int.emod_emod_of_dvd _ (Int.dvd_refl p)] at this)))
    have e1 : (n % p).natAbs = (n % p).toNat := by omega
    have e2 : p.natAbs = p.toNat := by omega
    unfold Int.gcd at g1
    rw [e1, e2] at g1
    exact g1
  rw [g, Int.toNat_of_nonneg n0, Int.toNat_of_nonneg (by omega)] at e
  refine ⟨u, v - u * (n / p), ?_⟩
  have d := Int.emod_add_mul_ediv n p
  have e3 : u * n = u * (n % p) + u * (p * (n / p)) := by rw [← Int.mul_add, d]
  have e4 : (v - u * (n / p)) * p = v * p - u * (p * (n / p)) := by rw [Int.sub_mul, Int.mul_assoc, Int.mul_comm (n / p) p]
  rw [e3, e4]
  omega
theorem inv_spec {p n : Int} (hp : Pr p) (h : ¬ p ∣ n) : p ∣ inv p n * n - 1 ∧ 0 ≤ inv p n ∧ inv p n < p := by
  have p2 := hp.1
  obtain ⟨u, v, e⟩ := bez_pr hp h
  have r := recip_ok e (show 0 < p by omega)
  have e2 := inv_eq (n := n) (b := u % p) (by omega) (Int.emod_nonneg _ (by omega)) (Int.emod_lt_of_pos _ (by omega)) r
  rw [e2]
  exact ⟨r, Int.emod_nonneg _ (by omega), Int.emod_lt_of_pos _ (by omega)⟩
/-! congruence -/
def Cg (p a b : Int) : Prop := p ∣ a - b
theorem cg_refl {p a : Int} : Cg p a a := ⟨0, by omega⟩
theorem cg_symm {p a b : Int} (h : Cg p a b) : Cg p b a := by
  obtain ⟨c, e⟩ := h
  exact ⟨-c, by rw [Int.mul_neg, ← e]; omega⟩
theorem cg_trans {p a b c : Int} (h : Cg p a b) (k : Cg p b c) : Cg p a c := by
  have := Int.dvd_add h k
  have e : a - b + (b - c) = a - c := by omega
  rwa [e] at this
theorem cg_add {p a b c d : Int} (h : Cg p a b) (k : Cg p c d) : Cg p (a + c) (b + d) := by
  have := Int.dvd_add h k
  have e : a - b + (c - d) = a + c - (b + d) := by omega
  rwa [e] at this
theorem cg_sub {p a b c d : Int} (h : Cg p a b) (k : Cg p c d) : Cg p (a - c) (b - d) := by
  have := Int.dvd_sub h k
  have e : a - b - (c - d) = a - c - (b - d) := by omega
  rwa [e] at this
theorem cg_mul {p a b c d : Int} (h : Cg p a b) (k : Cg p c d) : Cg p (a * c) (b * d) := by
  have h1 : p ∣ (a - b) * c := Int.dvd_trans h (Int.dvd_mul_right _ _)
  have h2 : p ∣ b * (c - d) := Int.dvd_trans k (Int.dvd_mul_left _ _)
  have := Int.dvd_add h1 h2
  have e : (a - b) * c + b * (c - d) = a * c - b * d := by rw [Int.sub_mul, Int.mul_sub]; omega
  rwa [e] at this
theorem cg_mod {p a : Int} : Cg p (a % p) a := by
  have d := Int.emod_add_mul_ediv a p
  exact ⟨-(a / p), by rw [Int.mul_neg]; omega⟩
theorem cg_eq {p a b : Int} (hp : 0 < p) (h : Cg p a b) (a0 : 0 ≤ a) (a1 : a < p) (b0 : 0 ≤ b) (b1 : b < p) : a = b := by
  have := Int.eq_zero_of_dvd_of_natAbs_lt_natAbs h (by omega)
  omega
theorem cg_emod {p a b : Int} (hp : 0 < p) (h : Cg p a b) : a % p = b % p :=
  cg_eq hp (cg_trans cg_mod (cg_trans h (cg_symm cg_mod))) (Int.emod_nonneg _ (by omega)) (Int.emod_lt_of_pos _ hp) (Int.emod_nonneg _ (by omega)) (Int.emod_lt_of_pos _ hp)
theorem cg_dvd {p a b : Int} (h : Cg p a b) : p ∣ a ↔ p ∣ b := by
  constructor
  · intro d
    have := Int.dvd_sub d h
    have e : a - (a - b) = b := by omega
    rwa [e] at this
  · intro d
    have := Int.dvd_add h d
    have e : a - b + b = a := by omega
    rwa [e] at this
theorem mod0 {p a : Int} : a % p = 0 ↔ p ∣ a := ⟨Int.dvd_of_emod_eq_zero, Int.emod_eq_zero_of_dvd⟩
/-- a factor that is no multiple may go -/
theorem cg_cancel {p k a b : Int} (hp : Pr p) (hk : ¬ p ∣ k) (h : Cg p (k * a) (k * b)) : Cg p a b := by
  have e : k * a - k * b = k * (a - b) := by rw [Int.mul_sub]
  have h' : p ∣ k * (a - b) := by rw [← e]; exact h
  exact (pr_mul hp h').elim (fun d => absurd d hk) id
theorem fstU_nz {p : Int} {P : T3} (h : NZ p P) : fstU (P.1 % p) (P.2.1 % p) (P.2.2 % p) ≠ 0 := by
  unfold fstU
  intro e
  refine h ?_
  split at e
  · rename_i c; exact absurd e c
  · rename_i c
    split at e
    · rename_i c2; exact absurd e c2
    · rename_i c2
      exact ⟨mod0.mp (Decidable.not_not.mp c), mod0.mp (Decidable.not_not.mp c2), mod0.mp e⟩
theorem nz_not {p x : Int} (hp : 0 < p) (h : x ≠ 0) (h0 : 0 ≤ x) (h1 : x < p) : ¬ p ∣ x := fun d => by
  have := Int.eq_zero_of_dvd_of_natAbs_lt_natAbs d (by omega)
  exact h this
theorem fstU_lt {p : Int} {P : T3} (hp : 0 < p) : 0 ≤ fstU (P.1 % p) (P.2.1 % p) (P.2.2 % p) ∧ fstU (P.1 % p) (P.2.1 % p) (P.2.2 % p) < p := by
  have a (x : Int) : 0 ≤ x % p ∧ x % p < p := ⟨Int.emod_nonneg _ (by omega), Int.emod_lt_of_pos _ hp⟩
  unfold fstU
  split
  · exact a _
  · split
    · exact a _
    · exact a _
/-- the normal one is the same but for a factor -/
theorem N3_eqv {p : Int} {P : T3} (hp : Pr p) (h : NZ p P) : nrm p P = some (N3 p P) ∧ Eqv p (N3 p P) P := by
  have p2 := hp.1
  have f0 := fstU_nz h
  obtain ⟨f1, f2⟩ := fstU_lt (p := p) (P := P) (by omega)
  have fd := nz_not (show 0 < p by omega) f0 f1 f2
  have e : nrm p P = some (P.1 % p * inv p (fstU (P.1 % p) (P.2.1 % p) (P.2.2 % p)) % p, P.2.1 % p * inv p (fstU (P.1 % p) (P.2.1 % p) (P.2.2 % p)) % p, P.2.2 % p * inv p (fstU (P.1 % p) (P.2.1 % p) (P.2.2 % p)) % p) := if_neg f0
  obtain ⟨i1, i2, i3⟩ := inv_spec hp fd
  generalize inv p (fstU (P.1 % p) (P.2.1 % p) (P.2.2 % p)) = k at *
  have eN : N3 p P = (P.1 % p * k % p, P.2.1 % p * k % p, P.2.2 % p * k % p) := by unfold N3; rw [e] <;> rfl
  refine ⟨by rw [eN]; exact e, k, fun d => ?_, ?_⟩
  · have d1 : p ∣ k * fstU (P.1 % p) (P.2.1 % p) (P.2.2 % p) := Int.dvd_trans d (Int.dvd_mul_right _ _)
    have d2 := Int.dvd_sub d1 i1
    have e1 : k * fstU (P.1 % p) (P.2.1 % p) (P.2.2 % p) - (k * fstU (P.1 % p) (P.2.1 % p) (P.2.2 % p) - 1) = 1 := by omega
    rw [e1] at d2
    have := Int.le_of_dvd (by decide) d2
    omega
  · rw [eN]
    have g (x : Int) : Cg p (x % p * k % p) (k * x) := by
      rw [Int.mul_comm k x]
      exact cg_trans cg_mod (cg_mul cg_mod cg_refl)
    exact ⟨g _, g _, g _⟩
-- part pln2
theorem eqv_refl {p : Int} (hp : Pr p) (P : T3) : Eqv p P P := ⟨1, fun d => by
  have := Int.le_of_dvd (by decide) d
  have := hp.1
  omega, by rw [Int.one_mul]; exact cg_refl, by rw [Int.one_mul]; exact cg_refl, by rw [Int.one_mul]; exact cg_refl⟩
theorem mm4 (a b x y : Int) : a * b * (x * y) = a * x * (b * y) := by rw [Int.mul_assoc a b, Int.mul_assoc a x, Int.mul_left_comm b x y]
theorem crs_eqv {p : Int} {P P' Q Q' : T3} (hp : Pr p) (h : Eqv p P P') (k : Eqv p Q Q') : Eqv p (crs P Q) (crs P' Q') := by
  obtain ⟨a, a0, a1, a2, a3⟩ := h
  obtain ⟨b, b0, b1, b2, b3⟩ := k
  refine ⟨a * b, fun d => (pr_mul hp d).elim a0 b0, ?_⟩
  have m {x y x' y' z w' z' w : Int} (h1 : Cg p x (a * x')) (h2 : Cg p y (b * y')) (h3 : Cg p z (a * z')) (h4 : Cg p w (b * w')) : Cg p (x * y - z * w) (a * b * (x' * y' - z' * w')) := by
    have e : a * b * (x' * y' - z' * w') = (a * x') * (b * y') - (a * z') * (b * w') := by
      rw [Int.mul_sub, mm4 a b x' y', mm4 a b z' w']
    rw [e]
    exact cg_sub (cg_mul h1 h2) (cg_mul h3 h4)
  exact ⟨m a2 b3 a3 b2, m a3 b1 a1 b3, m a1 b2 a2 b1⟩
theorem nz_eqv {p : Int} {P Q : T3} (hp : Pr p) (h : Eqv p P Q) (n : NZ p Q) : NZ p P := by
  obtain ⟨k, k0, k1, k2, k3⟩ := h
  intro ⟨d1, d2, d3⟩
  have c {x y : Int} (hx : Cg p x (k * y)) (d : p ∣ x) : p ∣ y := (pr_mul hp ((cg_dvd hx).mp d)).elim (fun z => absurd z k0) id
  exact n ⟨c k1 d1, c k2 d2, c k3 d3⟩
theorem N3_of_eqv {p : Int} {P Q : T3} (hp : Pr p) (h : Eqv p P Q) (n : NZ p Q) : N3 p P = N3 p Q := by
  have p2 := hp.1
  have p0 : 0 < p := by omega
  have nP := nz_eqv hp h n
  obtain ⟨k, k0, k1, k2, k3⟩ := h
  have fP0 := fstU_nz nP
  have fQ0 := fstU_nz n
  obtain ⟨x1, x2⟩ := fstU_lt (p := p) (P := P) p0
  obtain ⟨y1, y2⟩ := fstU_lt (p := p) (P := Q) p0
  have dP := nz_not p0 fP0 x1 x2
  have dQ := nz_not p0 fQ0 y1 y2
  have z {x y : Int} (hx : Cg p x (k * y)) : (x % p = 0 ↔ y % p = 0) := by
    rw [mod0, mod0, cg_dvd hx]
    exact ⟨fun d => (pr_mul hp d).elim (fun z => absurd z k0) id, fun d => Int.dvd_trans d (Int.dvd_mul_left _ _)⟩
  have cc {x y : Int} (hx : Cg p x (k * y)) : Cg p (x % p) (k * (y % p)) := cg_trans cg_mod (cg_trans hx (cg_mul cg_refl (cg_symm cg_mod)))
  have fc : Cg p (fstU (P.1 % p) (P.2.1 % p) (P.2.2 % p)) (k * fstU (Q.1 % p) (Q.2.1 % p) (Q.2.2 % p)) := by
    unfold fstU
    by_cases c1 : P.1 % p = 0
    · rw [if_neg (show ¬ P.1 % p ≠ 0 from fun n => n c1), if_neg (show ¬ Q.1 % p ≠ 0 from fun n => n ((z k1).mp c1))]
      by_cases c2 : P.2.1 % p = 0
      · rw [if_neg (show ¬ P.2.1 % p ≠ 0 from fun n => n c2), if_neg (show ¬ Q.2.1 % p ≠ 0 from fun n => n ((z k2).mp c2))]
        exact cc k3
      · rw [if_pos (show P.2.1 % p ≠ 0 from c2), if_pos (show Q.2.1 % p ≠ 0 from fun e => c2 ((z k2).mpr e))]
        exact cc k2
    · rw [if_pos (show P.1 % p ≠ 0 from c1), if_pos (show Q.1 % p ≠ 0 from fun e => c1 ((z k1).mpr e))]
      exact cc k1
  obtain ⟨iP, _, _⟩ := inv_spec hp dP
  obtain ⟨iQ, _, _⟩ := inv_spec hp dQ
  have eP : N3 p P = (P.1 % p * inv p (fstU (P.1 % p) (P.2.1 % p) (P.2.2 % p)) % p, P.2.1 % p * inv p (fstU (P.1 % p) (P.2.1 % p) (P.2.2 % p)) % p, P.2.2 % p * inv p (fstU (P.1 % p) (P.2.1 % p) (P.2.2 % p)) % p) := by
    unfold N3 nrm
    rw [if_neg fP0] <;> rfl
  have eQ : N3 p Q = (Q.1 % p * inv p (fstU (Q.1 % p) (Q.2.1 % p) (Q.2.2 % p)) % p, Q.2.1 % p * inv p (fstU (Q.1 % p) (Q.2.1 % p) (Q.2.2 % p)) % p, Q.2.2 % p * inv p (fstU (Q.1 % p) (Q.2.1 % p) (Q.2.2 % p)) % p) := by
    unfold N3 nrm
    rw [if_neg fQ0] <;> rfl
  rw [eP, eQ]
  generalize fstU (P.1 % p) (P.2.1 % p) (P.2.2 % p) = fp at *
  generalize fstU (Q.1 % p) (Q.2.1 % p) (Q.2.2 % p) = fq at *
  generalize inv p fp = ip at *
  generalize inv p fq = iq at *
  have key : Cg p (k * ip) iq := by
    refine cg_cancel hp dQ ?_
    have a1 : Cg p (ip * fp) 1 := iP
    have a2 : Cg p (iq * fq) 1 := iQ
    have a3 : Cg p (fq * (k * ip)) (ip * fp) := by
      have e : fq * (k * ip) = ip * (k * fq) := by rw [Int.mul_comm fq, Int.mul_comm k ip, Int.mul_assoc]
      rw [e]
      exact cg_mul cg_refl (cg_symm fc)
    rw [Int.mul_comm fq iq]
    exact cg_trans a3 (cg_trans a1 (cg_symm a2))
  have fin {x y : Int} (hx : Cg p x (k * y)) : x % p * ip % p = y % p * iq % p := by
    refine cg_emod p0 (cg_trans (cg_mul (cc hx) (cg_refl (a := ip))) ?_)
    have e : k * (y % p) * ip = y % p * (k * ip) := by rw [Int.mul_comm k, Int.mul_assoc]
    rw [e]
    exact cg_mul cg_refl key
  rw [fin k1, fin k2, fin k3]
/-- one join or meet: what stands for E1 and E2 gives what stands for their cross -/
theorem step_eqv {p : Int} {X1 X2 E1 E2 : T3} (hp : Pr p) (h1 : Eqv p X1 E1) (h2 : Eqv p X2 E2) (n1 : NZ p E1) (n2 : NZ p E2) (n : NZ p (crs E1 E2)) :
    nrm p X1 = some (N3 p E1) ∧ nrm p X2 = some (N3 p E2) ∧ nrm p (crs X1 X2) = some (N3 p (crs E1 E2)) ∧ nrm p (crs (N3 p E1) (N3 p E2)) = some (N3 p (crs E1 E2)) ∧ Eqv p (N3 p (crs E1 E2)) (crs E1 E2) := by
  have a1 := (N3_eqv hp (nz_eqv hp h1 n1)).1
  have a2 := (N3_eqv hp (nz_eqv hp h2 n2)).1
  rw [N3_of_eqv hp h1 n1] at a1
  rw [N3_of_eqv hp h2 n2] at a2
  have c1 := crs_eqv hp h1 h2
  have a3 := (N3_eqv hp (nz_eqv hp c1 n)).1
  rw [N3_of_eqv hp c1 n] at a3
  have c2 := crs_eqv hp (N3_eqv hp n1).2 (N3_eqv hp n2).2
  have a4 := (N3_eqv hp (nz_eqv hp c2 n)).1
  rw [N3_of_eqv hp c2 n] at a4
  exact ⟨a1, a2, a3, a4, (N3_eqv hp n).2⟩
/-! the program's cross, normal_in -/
def B62 (P : T3) : Prop := P.1.natAbs < 2 ^ 62 ∧ P.2.1.natAbs < 2 ^ 62 ∧ P.2.2.natAbs < 2 ^ 62
def i3 (P : T3) : List V := [.int P.1, .int P.2.1, .int P.2.2]
abbrev s_cross : Stmt := top 20
theorem sc_cross : FnScope ["first", "second", "a", "b", "c", "d", "e", "f"] ["first", "second"] (defScope s_cross) := ⟨rfl, rfl, rfl, by decide +kernel, rfl, by decide +kernel, by decide +kernel⟩
def spCrsI (K : PySem.W.Frag) : Sp := fun vs H Q _ => ∃ (s t : Addr) (P R : T3), vs = [.ref s, .ref t] ∧ SqT K H s (i3 P) ∧ SqT K H t (i3 R) ∧ B62 P ∧ B62 R ∧ ∀ q, H q = none → Q (.ref q) (upd H q (.tup (i3 (crs P R))))
theorem ok_crsI {f : Addr} {fd : FuncData} (F : Fun K "cross" "cross" s_cross f fd) : FnOk P w K mg base CX0 1 f fd ["first", "second"] (spCrsI K) := by
  refine F.ok sc_cross (fun vs H Q E h => ?_) (fun cdv A outer s H vs Q E hr h => ?_)
  · obtain ⟨_, _, _, _, rfl, _⟩ := h
    rfl
  · obtain ⟨a, b, P, R, rfl, ha, hb, ⟨p1, p2, p3⟩, ⟨r1, r2, r3⟩, q⟩ := h
    refine ⟨_, (pss_cons (ps_asg (pv 0) (pg_tup rfl (pgs_cons (pg_name (i := 2) sc_cross.nd rfl (Or.inl rfl)) (pgs_cons (pg_name (i := 3) sc_cross.nd rfl (Or.inl rfl)) (pgs_cons (pg_name (i := 4) sc_cross.nd rfl (Or.inl rfl)) pgs_nil)))))
 (pss_cons (ps_asg (pv 1) (pg_tup rfl (pgs_cons (pg_name (i := 5) sc_cross.nd rfl (Or.inl rfl)) (pgs_cons (pg_name (i := 6) sc_cross.nd rfl (Or.inl rfl)) (pgs_cons (pg_name (i := 7) sc_cross.nd rfl (Or.inl rfl)) pgs_nil)))))
 (pss_one (ps_ret (pe_tup (pa_cons (pe_op op_sub (pe_op op_mulW (pv 3) (pv 7)) (pe_op op_mulW (pv 4) (pv 6))) (pa_cons (pe_op op_sub (pe_op op_mulW (pv 4) (pv 5)) (pe_op op_mulW (pv 2) (pv 7))) (pa_cons (pe_op op_sub (pe_op op_mulW (pv 2) (pv 6)) (pe_op op_mulW (pv 3) (pv 5))) pa_nil)))))))), ?_⟩
    have W : ∀ {x y : Int}, x.natAbs < 2 ^ 62 → y.natAbs < 2 ^ 62 → CMulW x y := fun hx hy => wide_mul hx hy (by decide) (by decide) (by decide)
    refine ⟨_, rfl, a, _, rfl, ha, rfl, _, _, rfl, _, _, rfl, _, _, rfl, rfl, ?_⟩
    refine ⟨_, rfl, b, _, rfl, hb, rfl, _, _, rfl, _, _, rfl, _, _, rfl, rfl, ?_⟩
    refine ⟨_, rfl, _, rfl, _, _, rfl, rfl, W p2 r3, _, rfl, _, rfl, _, _, rfl, rfl, W p3 r2, _, _, rfl, rfl, ?_⟩
    refine ⟨_, rfl, _, rfl, _, _, rfl, rfl, W p3 r1, _, rfl, _, rfl, _, _, rfl, rfl, W p1 r3, _, _, rfl, rfl, ?_⟩
    exact ⟨_, rfl, _, rfl, _, _, rfl, rfl, W p1 r2, _, rfl, _, rfl, _, _, rfl, rfl, W p2 r1, _, _, rfl, rfl, (by show 3 ≤ sizeLine; decide), q⟩
abbrev s_fstu : Stmt := top 22
theorem sc_fstu : FnScope ["numbers", "n"] ["numbers"] (defScope s_fstu) := ⟨rfl, rfl, rfl, by decide +kernel, rfl, by decide +kernel, by decide +kernel⟩
def spFstu (K : PySem.W.Frag) : Sp := fun vs H Q _ => ∃ (l : Addr) (x y z : Int), vs = [.ref l] ∧ SqL K H l [.int x, .int y, .int z] ∧ Q (.int (fstU x y z)) H
theorem ok_fstu {f : Addr} {fd : FuncData} (F : Fun K "_first_unit" "_first_unit" s_fstu f fd) : FnOk P w K mg base CX0 1 f fd ["numbers"] (spFstu K) := by
  refine F.ok sc_fstu (fun vs H Q E h => ?_) (fun cdv A outer s H vs Q E hr h => ?_)
  · obtain ⟨_, _, _, _, rfl, _⟩ := h
    rfl
  · obtain ⟨l, x, y, z, rfl, hl, q⟩ := h
    refine ⟨_, (pss_cons (ps_for PassesOwn.never rfl (pi_list (pv 0)) (pg_name (i := 1) sc_fstu.nd rfl (Or.inl rfl)) (pss_one (ps_if (pt_cmpR op_ne (pv 1) pe_int (nomark _)) (pss_one (ps_ret (pv 1))) pss_nil)))
 (pss_one (ps_ret pe_int))), ?_⟩
    refine ⟨_, rfl, l, rfl, ⟨_, hl⟩, for_it walk_list (fun i σ G => G = H ∧ (∃ y1, σ = [some (.ref l), y1]) ∧ (1 ≤ i → x = 0) ∧ (2 ≤ i → y = 0) ∧ (3 ≤ i → z = 0)) ⟨rfl, ⟨none, rfl⟩, by omega, by omega, by omega⟩ (fun i σ G _ h => by rw [h.1]; exact hl) ?_ ?_⟩
    · rintro i v σ G _ hi ⟨rfl, ⟨y1, rfl⟩, h1, h2, h3⟩ ⟨rfl, hv⟩
      match i, hv, hi, h1, h2, h3 with
      | 0, hv, _, _, _, _ =>
        cases hv
        refine ⟨_, rfl, rfl, _, rfl, ?_⟩
        by_cases c : x = 0
        · exact if_neg_of (by simp [c]) ⟨rfl, ⟨_, rfl⟩, fun _ => c, by omega, by omega⟩
        · refine if_pos_of (by simp [c]) ⟨_, rfl, ?_⟩
          have e : fstU x y z = x := if_pos c
          rw [e] at q
          exact q
      | 1, hv, _, h1, _, _ =>
        cases hv
        have x0 := h1 (Nat.le_refl _)
        refine ⟨_, rfl, rfl, _, rfl, ?_⟩
        by_cases c : y = 0
        · exact if_neg_of (by simp [c]) ⟨rfl, ⟨_, rfl⟩, fun _ => x0, fun _ => c, by omega⟩
        · refine if_pos_of (by simp [c]) ⟨_, rfl, ?_⟩
          have e : fstU x y z = y := by unfold fstU; rw [if_neg (fun n => n x0), if_pos c]
          rw [e] at q
          exact q
      | 2, hv, _, h1, h2, _ =>
        cases hv
        have x0 := h1 (by decide)
        have y0 := h2 (by decide)
        refine ⟨_, rfl, rfl, _, rfl, ?_⟩
        by_cases c : z = 0
        · exact if_neg_of (by simp [c]) ⟨rfl, ⟨_, rfl⟩, fun _ => x0, fun _ => y0, fun _ => c⟩
        · refine if_pos_of (by simp [c]) ⟨_, rfl, ?_⟩
          have e : fstU x y z = z := by unfold fstU; rw [if_neg (fun n => n x0), if_neg (fun n => n y0)]
          rw [e] at q
          exact q
      | i + 3, hv, hi, _, _, _ => exact absurd hi (by simp)
    · rintro σ G ⟨rfl, ⟨y1, rfl⟩, h1, h2, h3⟩
      have x0 := h1 (by show 1 ≤ 3; decide)
      have y0 := h2 (by show 2 ≤ 3; decide)
      have z0 := h3 (by show 3 ≤ 3; decide)
      have e : fstU x y z = 0 := by unfold fstU; rw [if_neg (fun n => n x0), if_neg (fun n => n y0), z0]
      rw [e] at q
      exact q
-- part pln3
theorem sqT_same {H H' : Hp} {a : Addr} {xs : List V} (s : Same H H') (h : SqT K H a xs) : SqT K H' a xs := by
  rcases h with (h | ⟨o', h⟩) | h
  · exact .inl (.inl (s _ _ h))
  · exact .inl (.inr ⟨o', s _ _ h⟩)
  · exact .inr h
theorem triAt {P : T3} {i : Nat} {x : V} (h : (i3 P)[i]? = some x) : ∃ y, x = .int y ∧ (y = P.1 ∨ y = P.2.1 ∨ y = P.2.2) ∧ ∀ g : Int → Int, ([V.int (g P.1), .int (g P.2.1), .int (g P.2.2)])[i]? = some (.int (g y)) := by
  match i, h with
  | 0, h => exact ⟨P.1, (Option.some.inj h).symm, .inl rfl, fun _ => rfl⟩
  | 1, h => exact ⟨P.2.1, (Option.some.inj h).symm, .inr (.inl rfl), fun _ => rfl⟩
  | 2, h => exact ⟨P.2.2, (Option.some.inj h).symm, .inr (.inr rfl), fun _ => rfl⟩
  | i + 3, h => cases h
def TrV (K : PySem.W.Frag) (H : Hp) (v : V) : Option T3 → Prop
  | none => v = .non
  | some P => ∃ t, v = .ref t ∧ SqT K H t (i3 P)
abbrev s_nrmin : Stmt := top 21
theorem sc_nrmin : FnScope ["triple", "p", "numbers", "n", "first", "by"] ["triple", "p"] (defScope s_nrmin) := ⟨rfl, rfl, rfl, by decide +kernel, rfl, by decide +kernel, by decide +kernel⟩
def spNrm (K : PySem.W.Frag) : Sp := fun vs H Q _ => ∃ (t : Addr) (P : T3) (p : Int), vs = [.ref t, .int p] ∧ SqT K H t (i3 P) ∧ Pr p ∧ p < 2 ^ 62 ∧ ∀ v H', Same H H' → TrV K H' v (nrm p P) → Q v H'
theorem ok_nrmin {f : Addr} {fd : FuncData} (TT : Txt mg) (F : Fun K "normal_in" "normal_in" s_nrmin f fd) (c_rem : Cl P w K mg base CX0 1 "remainder" spRemI) (c_fstu : Cl P w K mg base CX0 1 "_first_unit" (spFstu K)) (c_recip : Cl P w K mg base CX0 2 "reciprocal" spRecipG) {spc : Sp} (c_coml : Cl P w K mg base CX0 2 "common_of" spc) : FnOk P w K mg base CX0 3 f fd ["triple", "p"] (spNrm K) := by
  refine F.ok sc_nrmin (fun vs H Q E h => ?_) (fun cdv A outer s H vs Q E hr h => ?_)
  · obtain ⟨_, _, _, rfl, _⟩ := h
    rfl
  · obtain ⟨t, P, p, rfl, ht, hp, hb, q⟩ := h
    have p2 := hp.1
    refine ⟨_, (pss_cons (ps_setLc (i := 2) (own := [("n", 3)]) (g := (gName 3)) (tt := tYes) rfl sc_nrmin.nd rfl rfl (sw_true rfl rfl rfl (by decide +kernel)) (pi_tup (pv 0)) (blkOk_by (N := ["triple", "p", "numbers", "n", "first", "by"]) (sc := defScope s_nrmin) (by decide +kernel)) (fun _ _ _ _ _ => (pg_name (i := 3) sc_nrmin.nd rfl (Or.inl rfl))) (fun _ _ _ _ _ => pts_nil) (fun _ _ _ _ _ => (pe_cl c_rem (by exact hr) (pa_cons (pv 3) (pa_cons (pv 1) pa_nil)))))
 (pss_cons (ps_set (i := 4) sc_nrmin.nd rfl (Or.inl rfl) (pe_cl c_fstu hr (pa_cons (pv 2) pa_nil)))
 (pss_cons (ps_if (pt_cmpR op_eq (pv 4) pe_int (nomark _)) (pss_one (ps_ret pe_non)) pss_nil)
 (pss_cons (ps_if (pt_cmpR op_ne (pv 1) pe_int (nomark _)) (pss_cons (ps_set (i := 5) sc_nrmin.nd rfl (Or.inr rfl) (pe_cl c_recip hr (pa_cons (pv 4) (pa_cons (pv 1) pa_nil))))
 (pss_one (ps_ret (pe_tupleOf (by rfl) TT.tuple (pe_lc (own := [("n", 3)]) (g := (gName 3)) (tt := tYes) rfl sc_nrmin.nd (pi_list (pv 2)) (blkOk_by (N := ["triple", "p", "numbers", "n", "first", "by"]) (sc := defScope s_nrmin) (by decide +kernel)) (fun _ _ _ _ _ => (pg_name (i := 3) sc_nrmin.nd rfl (Or.inl rfl))) (fun _ _ _ _ _ => pts_nil) (fun _ _ _ _ _ => (pe_op op_mod (pe_op op_mulW (pv 3) (pv 5)) (pv 1)))))))) pss_nil)
 (pss_cons (ps_set (i := 5) sc_nrmin.nd rfl (Or.inr rfl) (pe_cl c_coml hr (pa_cons (pv 2) pa_nil)))
 (pss_cons (ps_if (pt_cmpR op_lt (pv 4) pe_int (nomark _)) (pss_one (ps_set (i := 5) sc_nrmin.nd rfl (Or.inr rfl) (pe_un un_neg (pv 5)))) pss_nil)
 (pss_one (ps_ret (pe_tupleOf (by rfl) TT.tuple (pe_lc (own := [("n", 3)]) (g := (gName 3)) (tt := tYes) rfl sc_nrmin.nd (pi_list (pv 2)) (blkOk_by (N := ["triple", "p", "numbers", "n", "first", "by"]) (sc := defScope s_nrmin) (by decide +kernel)) (fun _ _ _ _ _ => (pg_name (i := 3) sc_nrmin.nd rfl (Or.inl rfl))) (fun _ _ _ _ _ => pts_nil) (fun _ _ _ _ _ => (pe_op op_fdivNW (pv 3) (pv 5))))))))))))), ?_⟩
    have em {x : Int} : remI x p = x % p := if_neg (by omega)
    refine ⟨_, rfl, t, rfl, ⟨_, ht⟩, fun D nD => lcMap (walk_tup (xs := i3 P)) [.int (P.1 % p), .int (P.2.1 % p), .int (P.2.2 % p)] rfl nD (fun H s => sqT_same s ht) ?_ ?_⟩
    · rintro i x _ G hi s1 hD ⟨rfl, hx⟩
      obtain ⟨y, rfl, _, hy⟩ := triAt hx
      exact ⟨rfl, _, rfl, _, rfl, y, p, rfl, by omega, by rw [em]; exact mapEnd nD (by show 3 < 1000; decide) s1 hD (hy fun y => y % p)⟩
    · intro G s1 hD
      refine ⟨_, rfl, D, P.1 % p, P.2.1 % p, P.2.2 % p, rfl, SqL.of hD, ?_⟩
      refine ⟨_, rfl, rfl, _, rfl, ?_⟩
      obtain ⟨f1, f2⟩ := fstU_lt (p := p) (P := P) (by omega)
      by_cases c : fstU (P.1 % p) (P.2.1 % p) (P.2.2 % p) = 0
      · refine if_pos_of (decide_eq_true (by rw [c])) ?_
        refine q .non G s1 ?_
        have e : nrm p P = none := if_pos c
        rw [e] <;> rfl
      · refine if_neg_of (decide_eq_false fun e => c (V.int.inj e)) ?_
        have nd := nz_not (show 0 < p by omega) c f1 f2
        have e : nrm p P = some (P.1 % p * inv p (fstU (P.1 % p) (P.2.1 % p) (P.2.2 % p)) % p, P.2.1 % p * inv p (fstU (P.1 % p) (P.2.1 % p) (P.2.2 % p)) % p, P.2.2 % p * inv p (fstU (P.1 % p) (P.2.1 % p) (P.2.2 % p)) % p) := if_neg c
        rw [e] at q
        obtain ⟨_, i1, i2⟩ := inv_spec hp nd
        have bf : (fstU (P.1 % p) (P.2.1 % p) (P.2.2 % p)).natAbs < 2 ^ 299 := by
          have e1 : (2 : Nat) ^ 62 ≤ 2 ^ 299 := by decide
          generalize (2 : Nat) ^ 299 = T at *
          omega
        refine ⟨_, rfl, rfl, _, rfl, if_pos_of (by simp; omega) ?_⟩
        refine ⟨_, rfl, _, rfl, _, p, rfl, hp, hb, bf, nd, fun G2 s2 => ?_⟩
        generalize inv p (fstU (P.1 % p) (P.2.1 % p) (P.2.2 % p)) = k at *
        have hD2 := s2 _ _ hD
        refine ⟨_, rfl, D, rfl, ⟨_, SqL.of hD2⟩, fun D2 nD2 => lcMap (walk_list (xs := i3 (P.1 % p, P.2.1 % p, P.2.2 % p))) [.int (P.1 % p * k % p), .int (P.2.1 % p * k % p), .int (P.2.2 % p * k % p)] rfl nD2 (fun H s => SqL.of (s _ _ hD2)) ?_ ?_⟩
        · rintro i x _ G3 hi s3 hL ⟨rfl, hx⟩
          obtain ⟨y, rfl, ym, hy⟩ := triAt (P := (P.1 % p, P.2.1 % p, P.2.2 % p)) hx
          have b1 : y.natAbs < 2 ^ 62 := by
            have a (x : Int) : 0 ≤ x % p ∧ x % p < p := ⟨Int.emod_nonneg _ (by omega), Int.emod_lt_of_pos _ (by omega)⟩
            have a1 := a P.1
            have a2 := a P.2.1
            have a3 := a P.2.2
            rcases ym with h | h | h
            · have h' : y = P.1 % p := h
              omega
            · have h' : y = P.2.1 % p := h
              omega
            · have h' : y = P.2.2 % p := h
              omega
          exact ⟨rfl, _, rfl, _, rfl, _, _, rfl, rfl, wide_mul (b := 62) b1 (by omega) (by decide) (by decide) (by decide), _, rfl, _, _, rfl, rfl, (by omega), mapEnd nD2 (by show 3 < 1000; decide) s3 hL (hy fun y => y * k % p)⟩
        · intro G3 s3 hL
          refine .inl ⟨D2, _, rfl, SqL.of hL, fun t2 nt2 => ?_⟩
          exact q (.ref t2) _ (s1.trans (s2.trans (s3.trans (same_upd nt2)))) ⟨t2, rfl, SqT.of upd_same⟩
-- part pln4
/-! the class Sheet -/
structure ShT (K : PySem.W.Frag) (mg : Str → Option Value) (C : Addr) : Prop where
  g : mg "Sheet" = some (.ref C)
  cl : Cls K C
  nP : NoAttr K C "p"
  nR : NoAttr K C "rows"
  sf : PySem.W.selfFirst K C = true
  isC : C8.InsC K C
def shF (p : Int) (l : Addr) : List (Str × V) := putF "rows" (.ref l) (putF "p" (.int p) [])
theorem shE : ¬ (("p" : Str) = "rows") := by decide +kernel
theorem shF_p (p : Int) (l : Addr) : (shF p l).lookup ("p" : Str) = some (.int p) := by
  unfold shF
  rw [lookup_putF, if_neg shE, lookup_putF, if_pos rfl]
theorem shF_r (p : Int) (l : Addr) : (shF p l).lookup ("rows" : Str) = some (.ref l) := by
  unfold shF
  rw [lookup_putF, if_pos rfl]
theorem shF_no (p : Int) (l : Addr) {m : Str} (h1 : ¬ m = "p") (h2 : ¬ m = "rows") : (shF p l).lookup m = none := by
  unfold shF
  rw [lookup_putF, if_neg h2, lookup_putF, if_neg h1] <;> rfl
abbrev Row4 := Str × T3 × T3 × T3
def RowV (K : PySem.W.Frag) (H : Hp) (v : V) (r : Row4) : Prop := ∃ t tf ta tb, v = .ref t ∧ H t = some (.tup [.str r.1, .ref tf, .ref ta, .ref tb]) ∧ SqT K H tf (i3 r.2.1) ∧ SqT K H ta (i3 r.2.2.1) ∧ SqT K H tb (i3 r.2.2.2)
theorem sqT_sb {H H' : Hp} {l a : Addr} {xs ys : List V} (s : SameBut l H H') (hl : H l = some (.lst ys)) (h : SqT K H a xs) : SqT K H' a xs := by
  rcases h with (h | ⟨o', h⟩) | h
  · exact .inl (.inl (s _ _ (fun e => by rw [e, hl] at h; cases h) h))
  · exact .inl (.inr ⟨o', s _ _ (fun e => by rw [e, hl] at h; cases h) h⟩)
  · exact .inr h
theorem RowV.sb {H H' : Hp} {l : Addr} {v : V} {r : Row4} {ys : List V} (h : RowV K H v r) (s : SameBut l H H') (hl : H l = some (.lst ys)) : RowV K H' v r := by
  obtain ⟨t, tf, ta, tb, e, h1, h2, h3, h4⟩ := h
  exact ⟨t, tf, ta, tb, e, s _ _ (fun e => by rw [e, hl] at h1; cases h1) h1, sqT_sb s hl h2, sqT_sb s hl h3, sqT_sb s hl h4⟩
/-- rows in a list -/
def RowsL (K : PySem.W.Frag) (H : Hp) (l : Addr) (rows : List Row4) : Prop := ∃ us, H l = some (.lst us) ∧ AllS (RowV K H) us rows
theorem RowsL.same {H H' : Hp} {l : Addr} {rows : List Row4} (h : RowsL K H l rows) (s : Same H H') : RowsL K H' l rows := by
  obtain ⟨us, h1, h2⟩ := h
  exact ⟨us, s _ _ h1, h2.mono fun v b _ r => by
    obtain ⟨t, tf, ta, tb, e, r1, r2, r3, r4⟩ := r
    exact ⟨t, tf, ta, tb, e, s _ _ r1, sqT_same s r2, sqT_same s r3, sqT_same s r4⟩⟩
structure ShAt (C : Addr) (K : PySem.W.Frag) (H : Hp) (s : Addr) (p : Int) (l : Addr) (rows : List Row4) : Prop where
  ob : ∃ dx, H s = some (.ins C dx (shF p l))
  rw_ : RowsL K H l rows
  few : rows.length ≤ 20
theorem ShAt.same {C : Addr} {H H' : Hp} {s l : Addr} {p : Int} {rows : List Row4} (h : ShAt C K H s p l rows) (k : Same H H') : ShAt C K H' s p l rows := by
  obtain ⟨dx, e⟩ := h.ob
  exact ⟨⟨dx, k _ _ e⟩, h.rw_.same k, h.few⟩
def rowO (p : Int) (word : Str) (E1 E2 : T3) : Row4 := (word, N3 p (crs E1 E2), N3 p E1, N3 p E2)
theorem N3_b62 {p : Int} {P : T3} (hp : Pr p) (hb : p < 2 ^ 62) : B62 (N3 p P) := by
  have p2 := hp.1
  unfold N3 nrm
  dsimp only
  split
  · exact ⟨by decide, by decide, by decide⟩
  · have a (x : Int) : (x % p).natAbs < 2 ^ 62 := by
      have := Int.emod_nonneg x (show p ≠ 0 by omega)
      have := Int.emod_lt_of_pos x (show 0 < p by omega)
      omega
    exact ⟨a _, a _, a _⟩
abbrev s_shinit : Stmt := inClass (top 37) 0
theorem sc_shinit : FnScope ["self", "p"] ["self", "p"] (defScope s_shinit) := ⟨rfl, rfl, rfl, by decide +kernel, rfl, by decide +kernel, by decide +kernel⟩
def spShI (C : Addr) (K : PySem.W.Frag) : Sp := fun vs H Q _ => ∃ (x dx : Addr) (p : Int), vs = [.ref x, .int p] ∧ H x = some (.ins C dx []) ∧ ∀ l H', ShAt C K H' x p l [] → H l = none → (∀ b o, H b = some o → b ≠ x → H' b = some o) → Q .non H'
theorem ok_shinit {f C : Addr} {fd : FuncData} (T : ShT K mg C) (F : Fun K "__init__" "Sheet.__init__" s_shinit f fd) : FnOk P w K mg base (L2N.CX P w) 1 f fd ["self", "p"] (spShI C K) := by
  refine okN F sc_shinit (fun vs H Q E h => ?_) (fun cdv A outer s H vs Q E hr h => ?_)
  · obtain ⟨x, dx, p, rfl, _⟩ := h
    rfl
  · obtain ⟨x, dx, p, rfl, hx, q⟩ := h
    refine ⟨_, (pss_cons (ps_fld (pv 0) (pv 1) rfl)
 (pss_one (ps_fld (pv 0) (pe_lst pa_nil) rfl))), ?_⟩
    refine ⟨_, rfl, _, rfl, x, C, dx, _, rfl, hx, T.cl, T.nP, (by show 0 < 1000; decide), ?_⟩
    refine ⟨(by show 0 ≤ sizeLine; decide), fun l nl => ?_⟩
    have nlx : l ≠ x := fun e => by rw [e, upd_same] at nl; cases nl
    refine ⟨_, rfl, x, C, dx, _, rfl, (by rw [upd_ne nlx.symm]; exact upd_same), T.cl, T.nR, (by show 1 < 1000; decide), ?_⟩
    have nl0 : H l = none := by rw [upd_ne nlx] at nl; exact nl
    refine q l _ ⟨⟨dx, upd_same⟩, ⟨[], (by rw [upd_ne nlx]; exact upd_same), AllS.nil⟩, by decide⟩ nl0 fun b o hb n => ?_
    rw [upd_ne n, upd_ne (ne_of_none (o := o) (by rw [upd_ne n]; exact hb) nl), upd_ne n]
    exact hb
abbrev s_shfound : Stmt := inClass (top 37) 1
theorem sc_shfound : FnScope ["self", "word", "first", "second", "found"] ["self", "word", "first", "second"] (defScope s_shfound) := ⟨rfl, rfl, rfl, by decide +kernel, rfl, by decide +kernel, by decide +kernel⟩
structure StepP (p : Int) (X1 X2 E1 E2 : T3) : Prop where
  h1 : Eqv p X1 E1
  h2 : Eqv p X2 E2
  n1 : NZ p E1
  n2 : NZ p E2
  n : NZ p (crs E1 E2)
def spFoundS (C : Addr) (K : PySem.W.Frag) : Sp := fun vs H Q _ => ∃ (s t1 t2 l : Addr) (word : Str) (p : Int) (rows : List Row4) (X1 X2 E1 E2 : T3), vs = [.ref s, .str word, .ref t1, .ref t2] ∧ ShAt C K H s p l rows ∧ rows.length < 20 ∧ SqT K H t1 (i3 X1) ∧ SqT K H t2 (i3 X2) ∧ Pr p ∧ p < 2 ^ 62 ∧ StepP p X1 X2 E1 E2 ∧
  ∀ t H', SameBut l H H' → ShAt C K H' s p l (rows ++ [rowO p word E1 E2]) → SqT K H' t (i3 (N3 p (crs E1 E2))) → Q (.ref t) H'
theorem ok_shfound {f C : Addr} {fd : FuncData} (T : ShT K mg C) (F : Fun K "_found" "Sheet._found" s_shfound f fd) (c_nrm : Cl P w K mg base CX0 3 "normal_in" (spNrm K)) (c_crs : Cl P w K mg base CX0 1 "cross" (spCrsI K)) : FnOk P w K mg base CX0 4 f fd ["self", "word", "first", "second"] (spFoundS C K) := by
  refine F.ok sc_shfound (fun vs H Q E h => ?_) (fun cdv A outer s H vs Q E hr h => ?_)
  · obtain ⟨_, _, _, _, _, _, _, _, _, _, _, rfl, _⟩ := h
    rfl
  · obtain ⟨s, t1, t2, l, word, p, rows, X1, X2, E1, E2, rfl, sh, few, ht1, ht2, hp, hb, st, q⟩ := h
    obtain ⟨e1, e2, _, e4, _⟩ := step_eqv hp st.h1 st.h2 st.n1 st.n2 st.n
    obtain ⟨dx, ob⟩ := sh.ob
    refine ⟨_, (pss_cons (ps_par (i := 2) (j := 3) rfl sc_shfound.nd rfl rfl (by decide) rfl rfl (pa_cons (pe_cl c_nrm hr (pa_cons (pv 2) (pa_cons (pe_fld (pv 0) rfl) pa_nil))) (pa_cons (pe_cl c_nrm hr (pa_cons (pv 3) (pa_cons (pe_fld (pv 0) rfl) pa_nil))) pa_nil)) rfl)
 (pss_cons (ps_set (i := 4) sc_shfound.nd rfl (Or.inl rfl) (pe_cl c_nrm hr (pa_cons (pe_cl c_crs hr (pa_cons (pv 2) (pa_cons (pv 3) pa_nil))) (pa_cons (pe_fld (pv 0) rfl) pa_nil))))
 (pss_cons (ps_expr (pe_bm PySem.F.plainAttrs_list PySem.F.slot_list_append PySem.F.type_list_append mt_append (pe_fld (pv 0) rfl) (pa_cons (pe_tup (pa_cons (pv 1) (pa_cons (pv 4) (pa_cons (pv 2) (pa_cons (pv 3) pa_nil))))) pa_nil)))
 (pss_one (ps_ret (pv 4)))))), ?_⟩
    refine ⟨_, rfl, _, rfl, s, C, dx, _, _, rfl, ob, T.cl, T.nP, shF_p p l, t1, X1, p, rfl, ht1, hp, hb, fun v1 H1 s1 tv1 => ?_⟩
    rw [e1] at tv1
    obtain ⟨a1, rfl, ha1⟩ := tv1
    refine ⟨_, rfl, _, rfl, s, C, dx, _, _, rfl, s1 _ _ ob, T.cl, T.nP, shF_p p l, t2, X2, p, rfl, sqT_same s1 ht2, hp, hb, fun v2 H2 s2 tv2 => ?_⟩
    rw [e2] at tv2
    obtain ⟨a2, rfl, ha2⟩ := tv2
    have ha12 := sqT_same s2 ha1
    refine ⟨_, _, rfl, ?_⟩
    refine ⟨_, rfl, _, rfl, a1, a2, N3 p E1, N3 p E2, rfl, ha12, ha2, N3_b62 hp hb, N3_b62 hp hb, fun c nc => ?_⟩
    have s3 := s1.trans (s2.trans (same_upd (o := .tup (i3 (crs (N3 p E1) (N3 p E2)))) nc))
    refine ⟨_, rfl, s, C, dx, _, _, rfl, s3 _ _ ob, T.cl, T.nP, shF_p p l, c, crs (N3 p E1) (N3 p E2), p, rfl, SqT.of upd_same, hp, hb, fun v3 H3 s4 tv3 => ?_⟩
    rw [e4] at tv3
    obtain ⟨a3, rfl, ha3⟩ := tv3
    have s5 := s3.trans s4
    have sh5 := sh.same s5
    obtain ⟨us, hus, al⟩ := sh5.rw_
    have sA := (same_upd (o := .tup (i3 (crs (N3 p E1) (N3 p E2)))) nc).trans s4
    have la := al.1
    refine ⟨_, rfl, s, C, dx, _, _, rfl, s5 _ _ ob, T.cl, T.nR, shF_r p l, .inl ⟨rfl, us, SqL.of hus⟩, _, rfl, _, rfl, _, rfl, _, rfl, (by show 4 ≤ sizeLine; decide), fun t nt => ?_⟩
    have s6 := same_upd (o := .tup [.str word, .ref a3, .ref a1, .ref a2]) nt
    have hus6 := s6 _ _ hus
    refine ⟨l, us, _, rfl, rfl, hus6, by rw [sizeLine_eq]; omega, ?_⟩
    have sb : SameBut l (upd H3 t (.tup [.str word, .ref a3, .ref a1, .ref a2])) (upd (upd H3 t (.tup [.str word, .ref a3, .ref a1, .ref a2])) l (.lst (us ++ [.ref t]))) := fun b o hb hbo => by
      rw [upd_ne hb]
      exact hbo
    have row : RowV K (upd H3 t (.tup [.str word, .ref a3, .ref a1, .ref a2])) (.ref t) (rowO p word E1 E2) := ⟨t, a3, a1, a2, rfl, upd_same, sqT_same s6 ha3, sqT_same (sA.trans s6) ha12, sqT_same (sA.trans s6) ha2⟩
    have al6 : AllS (RowV K (upd H3 t (.tup [.str word, .ref a3, .ref a1, .ref a2]))) us rows := by
      obtain ⟨us', hus', al'⟩ := sh5.rw_.same s6
      rw [hus6] at hus'
      cases hus'
      exact al'
    have nls : s ≠ l := fun e => by rw [← e, s5 _ _ ob] at hus; cases hus
    refine ⟨_, rfl, q a3 _ ((sbut (s5.trans s6)).trans sb) ⟨⟨dx, (by rw [upd_ne nls]; exact s6 _ _ (s5 _ _ ob))⟩, ⟨us ++ [.ref t], upd_same, ?_⟩, by rw [List.length_append]; show rows.length + 1 ≤ 20; omega⟩ (sqT_sb sb hus6 (sqT_same s6 ha3))⟩
    exact (al6.snoc row).mono fun v b _ r => r.sb sb hus6
def spSM (C : Addr) (word : Str) (K : PySem.W.Frag) : Sp := fun vs H Q _ => ∃ (s t1 t2 l : Addr) (p : Int) (rows : List Row4) (X1 X2 E1 E2 : T3), vs = [.ref s, .ref t1, .ref t2] ∧ ShAt C K H s p l rows ∧ rows.length < 20 ∧ SqT K H t1 (i3 X1) ∧ SqT K H t2 (i3 X2) ∧ Pr p ∧ p < 2 ^ 62 ∧ StepP p X1 X2 E1 E2 ∧
  ∀ t H', SameBut l H H' → ShAt C K H' s p l (rows ++ [rowO p word E1 E2]) → SqT K H' t (i3 (N3 p (crs E1 E2))) → Q (.ref t) H'
abbrev s_shjoin : Stmt := inClass (top 37) 2
theorem sc_shjoin : FnScope ["self", "first", "second"] ["self", "first", "second"] (defScope s_shjoin) := ⟨rfl, rfl, rfl, by decide +kernel, rfl, by decide +kernel, by decide +kernel⟩
theorem ok_shjoin {f C : Addr} {fd : FuncData} (T : ShT K mg C) (F : Fun K "joined" "Sheet.joined" s_shjoin f fd) (m_found : Me P w K mg base 4 C "_found" (spFoundS C K)) : FnOk P w K mg base CX0 5 f fd ["self", "first", "second"] (spSM C "join" K) := by
  refine F.ok sc_shjoin (fun vs H Q E h => ?_) (fun cdv A outer s H vs Q E hr h => ?_)
  · obtain ⟨_, _, _, _, _, _, _, _, _, _, rfl, _⟩ := h
    rfl
  · obtain ⟨s, t1, t2, l, p, rows, X1, X2, E1, E2, rfl, sh, few, ht1, ht2, hp, hb, st, q⟩ := h
    obtain ⟨dx, ob⟩ := sh.ob
    refine ⟨_, (pss_one (ps_ret (pe_me m_found T.cl hr (pv 0) (pa_cons pe_str (pa_cons (pv 1) (pa_cons (pv 2) pa_nil)))))), ?_⟩
    exact ⟨_, rfl, s, dx, _, rfl, ob, shF_no _ _ (by decide +kernel) (by decide +kernel), _, rfl, _, rfl, s, t1, t2, l, "join", p, rows, X1, X2, E1, E2, rfl, sh, few, ht1, ht2, hp, hb, st, q⟩
abbrev s_shmet : Stmt := inClass (top 37) 3
theorem sc_shmet : FnScope ["self", "first", "second"] ["self", "first", "second"] (defScope s_shmet) := ⟨rfl, rfl, rfl, by decide +kernel, rfl, by decide +kernel, by decide +kernel⟩
theorem ok_shmet {f C : Addr} {fd : FuncData} (T : ShT K mg C) (F : Fun K "met" "Sheet.met" s_shmet f fd) (m_found : Me P w K mg base 4 C "_found" (spFoundS C K)) : FnOk P w K mg base CX0 5 f fd ["self", "first", "second"] (spSM C "meet" K) := by
  refine F.ok sc_shmet (fun vs H Q E h => ?_) (fun cdv A outer s H vs Q E hr h => ?_)
  · obtain ⟨_, _, _, _, _, _, _, _, _, _, rfl, _⟩ := h
    rfl
  · obtain ⟨s, t1, t2, l, p, rows, X1, X2, E1, E2, rfl, sh, few, ht1, ht2, hp, hb, st, q⟩ := h
    obtain ⟨dx, ob⟩ := sh.ob
    refine ⟨_, (pss_one (ps_ret (pe_me m_found T.cl hr (pv 0) (pa_cons pe_str (pa_cons (pv 1) (pa_cons (pv 2) pa_nil)))))), ?_⟩
    exact ⟨_, rfl, s, dx, _, rfl, ob, shF_no _ _ (by decide +kernel) (by decide +kernel), _, rfl, _, rfl, s, t1, t2, l, "meet", p, rows, X1, X2, E1, E2, rfl, sh, few, ht1, ht2, hp, hb, st, q⟩
def FAR : T3 := (0, 0, 1)
abbrev s_shalong : Stmt := inClass (top 37) 4
theorem sc_shalong : FnScope ["self", "line", "point"] ["self", "line", "point"] (defScope s_shalong) := ⟨rfl, rfl, rfl, by decide +kernel, rfl, by decide +kernel, by decide +kernel⟩
/-- a line (Y1 for E1) and a point (Y2 for E2): meet with what is far, E3 their cross, then the join -/
def spAlong (C : Addr) (K : PySem.W.Frag) : Sp := fun vs H Q _ => ∃ (s t1 t2 l : Addr) (p : Int) (rows : List Row4) (X1 X2 E1 E2 E3 : T3), vs = [.ref s, .ref t1, .ref t2] ∧ ShAt C K H s p l rows ∧ rows.length < 19 ∧ SqT K H t1 (i3 X1) ∧ SqT K H t2 (i3 X2) ∧ Pr p ∧ p < 2 ^ 62 ∧ crs E1 FAR = E3 ∧ StepP p X1 FAR E1 FAR ∧ StepP p X2 (N3 p E3) E2 E3 ∧
  ∀ t H', SameBut l H H' → ShAt C K H' s p l (rows ++ [rowO p "meet" E1 FAR, rowO p "join" E2 E3]) → SqT K H' t (i3 (N3 p (crs E2 E3))) → Q (.ref t) H'
theorem ok_shalong {f C FA : Addr} {fd : FuncData} (T : ShT K mg C) (hF : mg "_FAR" = some (.ref FA)) (kF : ∀ H, SqT K H FA (i3 FAR)) (F : Fun K "alongside" "Sheet.alongside" s_shalong f fd) (m_join : Me P w K mg base 5 C "joined" (spSM C "join" K)) (m_met : Me P w K mg base 5 C "met" (spSM C "meet" K)) : FnOk P w K mg base CX0 6 f fd ["self", "line", "point"] (spAlong C K) := by
  refine F.ok sc_shalong (fun vs H Q E h => ?_) (fun cdv A outer s H vs Q E hr h => ?_)
  · obtain ⟨_, _, _, _, _, _, _, _, _, _, _, rfl, _⟩ := h
    rfl
  · obtain ⟨s, t1, t2, l, p, rows, X1, X2, E1, E2, E3, rfl, sh, few, ht1, ht2, hp, hb, e3, st1, st2, q⟩ := h
    obtain ⟨dx, ob⟩ := sh.ob
    refine ⟨_, (pss_one (ps_ret (pe_me m_join T.cl hr (pv 0) (pa_cons (pv 2) (pa_cons (pe_me m_met T.cl hr (pv 0) (pa_cons (pv 1) (pa_cons (pe_glob (v := .ref FA) (by rfl) hF rfl) pa_nil))) pa_nil))))), ?_⟩
    refine ⟨_, rfl, s, dx, _, rfl, ob, shF_no _ _ (by decide +kernel) (by decide +kernel), _, rfl, _, rfl, s, dx, _, rfl, ob, shF_no _ _ (by decide +kernel) (by decide +kernel), _, rfl, s, t1, FA, l, p, rows, X1, FAR, E1, FAR, rfl, sh, by omega, ht1, kF _, hp, hb, st1, fun t3 H1 k1 sh1 ht3 => ?_⟩
    rw [e3] at ht3
    obtain ⟨us, hus, _⟩ := sh.rw_
    refine ⟨s, t2, t3, l, p, _, X2, N3 p E3, E2, E3, rfl, sh1, by rw [List.length_append]; show rows.length + 1 < 20; omega, sqT_sb k1 hus ht2, ht3, hp, hb, st2, fun t4 H2 k2 sh2 ht4 => ?_⟩
    rw [List.append_assoc] at sh2
    exact q t4 H2 (k1.trans k2) sh2 ht4
-- part pln5
def TOP : T3 := (0, 1, 1)
def ABV : T3 := (0, 1, 0)
def AXS : T3 := (0, 1, 0)
def UPR : T3 := (1, 0, 0)
def LVL : T3 := (0, 1, -1)
def ZRO : T3 := (0, 0, 1)
def ONE3 : T3 := (1, 0, 1)
theorem one_nd {p : Int} (hp : Pr p) : ¬ p ∣ 1 := fun d => by
  have := Int.le_of_dvd (by decide) d
  have := hp.1
  omega
theorem neg_nd {p : Int} (hp : Pr p) : ¬ p ∣ -1 := fun d => one_nd hp (Int.dvd_neg.mp d)
theorem nz1 {p x y z : Int} (h : ¬ p ∣ x) : NZ p (x, y, z) := fun n => h n.1
theorem nz2 {p x y z : Int} (h : ¬ p ∣ y) : NZ p (x, y, z) := fun n => h n.2.1
theorem nz3 {p x y z : Int} (h : ¬ p ∣ z) : NZ p (x, y, z) := fun n => h n.2.2
theorem stp_ {p : Int} {X1 X2 E1 E2 E3 : T3} (h1 : Eqv p X1 E1) (h2 : Eqv p X2 E2) (n1 : NZ p E1) (n2 : NZ p E2) (e : crs E1 E2 = E3) (n : NZ p E3) : StepP p X1 X2 E1 E2 := ⟨h1, h2, n1, n2, by rw [e]; exact n⟩
theorem t3 {a b c x y z : Int} (h1 : a = x) (h2 : b = y) (h3 : c = z) : ((a, b, c) : T3) = (x, y, z) := by rw [h1, h2, h3]
/-! crosses -/
theorem cs1 (b : Int) : crs TOP (b, 0, 1) = (1, b, -b) := t3 (by simp [TOP]) (by simp [TOP]) (by simp [TOP])
theorem cs2 (a : Int) : crs (a, 0, 1) ABV = (-1, 0, a) := t3 (by simp [ABV]) (by simp [ABV]) (by simp [ABV])
theorem cs3 (a : Int) : crs (-1, 0, a) LVL = (-a, -1, -1) := t3 (by simp [LVL]) (by simp [LVL]) (by simp [LVL])
theorem cs4 (b : Int) : crs (1, b, -b) FAR = (b, -1, 0) := t3 (by simp [FAR]) (by simp [FAR]) (by simp [FAR])
theorem cs5 (a b : Int) : crs (-a, -1, -1) (b, -1, 0) = (-1, -b, a + b) := t3 (by simp) (by simp) (by simp)
theorem cs6 (a b : Int) : crs (-1, -b, a + b) AXS = (-(a + b), 0, -1) := t3 (by simp [AXS]) (by simp [AXS]) (by simp [AXS])
theorem co3 (a : Int) : crs (-a, -1, -1) ZRO = (-1, a, 0) := t3 (by simp [ZRO]) (by simp [ZRO]) (by simp [ZRO])
theorem co4 (a : Int) : crs (-1, a, 0) FAR = (a, 1, 0) := t3 (by simp [FAR]) (by simp [FAR]) (by simp [FAR])
theorem co5 (a : Int) : crs TOP (a, 1, 0) = (-1, a, -a) := t3 (by simp [TOP]) (by simp [TOP]) (by simp [TOP])
theorem co6 (a : Int) : crs (-1, a, -a) AXS = (a, 0, -1) := t3 (by simp [AXS]) (by simp [AXS]) (by simp [AXS])
theorem cu1 : crs ONE3 TOP = (-1, -1, 1) := rfl
theorem cu2 : crs (-1, -1, 1) FAR = (-1, 1, 0) := rfl
theorem cu3 (b : Int) : crs (b, 0, 1) (-1, 1, 0) = (-1, -1, b) := t3 (by simp) (by simp) (by simp)
theorem cu4 (b : Int) : crs (-1, -1, b) UPR = (0, b, 1) := t3 (by simp [UPR]) (by simp [UPR]) (by simp [UPR])
theorem cp1 (a : Int) : crs TOP (a, 0, 1) = (1, a, -a) := cs1 a
theorem cp2 (a : Int) : crs (1, a, -a) FAR = (a, -1, 0) := cs4 a
theorem cp3 (a b : Int) : crs (0, b, 1) (a, -1, 0) = (1, a, -(a * b)) := t3 (by simp) (by simp) (by simp [Int.mul_comm])
theorem cp4 (a b : Int) : crs (1, a, -(a * b)) AXS = (a * b, 0, 1) := t3 (by simp [AXS]) (by simp [AXS]) (by simp [AXS])
theorem cq1 (a b : Int) : crs (0, b, 1) (a, 0, 1) = (b, a, -(a * b)) := t3 (by simp) (by simp) (by simp [Int.mul_comm])
theorem cq2 (a b : Int) : crs (b, a, -(a * b)) FAR = (a, -b, 0) := t3 (by simp [FAR]) (by simp [FAR]) (by simp [FAR])
theorem cq3 (a b : Int) : crs TOP (a, -b, 0) = (b, a, -a) := t3 (by simp [TOP]) (by simp [TOP]) (by simp [TOP])
theorem cq4 (a b : Int) : crs (b, a, -a) AXS = (a, 0, b) := t3 (by simp [AXS]) (by simp [AXS]) (by simp [AXS])
/-! the rows of the four rules -/
def sumR (p a b : Int) : List Row4 := [rowO p "join" TOP (b, 0, 1), rowO p "join" (a, 0, 1) ABV, rowO p "meet" (-1, 0, a) LVL, rowO p "meet" (1, b, -b) FAR, rowO p "join" (-a, -1, -1) (b, -1, 0), rowO p "meet" (-1, -b, a + b) AXS]
def oppR (p a : Int) : List Row4 := [rowO p "join" (a, 0, 1) ABV, rowO p "meet" (-1, 0, a) LVL, rowO p "join" (-a, -1, -1) ZRO, rowO p "meet" (-1, a, 0) FAR, rowO p "join" TOP (a, 1, 0), rowO p "meet" (-1, a, -a) AXS]
def uprR (p b : Int) : List Row4 := [rowO p "join" ONE3 TOP, rowO p "meet" (-1, -1, 1) FAR, rowO p "join" (b, 0, 1) (-1, 1, 0), rowO p "meet" (-1, -1, b) UPR]
def prdR (p a b : Int) : List Row4 := uprR p b ++ [rowO p "join" TOP (a, 0, 1), rowO p "meet" (1, a, -a) FAR, rowO p "join" (0, b, 1) (a, -1, 0), rowO p "meet" (1, a, -(a * b)) AXS]
def quoR (p a b : Int) : List Row4 := uprR p b ++ [rowO p "join" (0, b, 1) (a, 0, 1), rowO p "meet" (b, a, -(a * b)) FAR, rowO p "join" TOP (a, -b, 0), rowO p "meet" (b, a, -a) AXS]
/-- the given triples, as they stand in the module -/
structure PlG (K : PySem.W.Frag) (mg : Str → Option Value) (Z O T A X U L : Addr) : Prop where
  z : mg "_ZERO" = some (.ref Z)
  o : mg "_ONE" = some (.ref O)
  t : mg "_TOP" = some (.ref T)
  a : mg "_ABOVE" = some (.ref A)
  x : mg "_AXIS" = some (.ref X)
  u : mg "_UPRIGHT" = some (.ref U)
  l : mg "_LEVEL" = some (.ref L)
  kz : ∀ H, SqT K H Z (i3 ZRO)
  ko : ∀ H, SqT K H O (i3 ONE3)
  kt : ∀ H, SqT K H T (i3 TOP)
  ka : ∀ H, SqT K H A (i3 ABV)
  kx : ∀ H, SqT K H X (i3 AXS)
  ku : ∀ H, SqT K H U (i3 UPR)
  kl : ∀ H, SqT K H L (i3 LVL)
def spDr (C : Addr) (K : PySem.W.Frag) (c : Int → Int → Int → Prop) (R : Int → Int → Int → List Row4) : Sp := fun vs H Q _ => ∃ (s ta tb l : Addr) (p a b : Int), vs = [.ref s, .ref ta, .ref tb] ∧ ShAt C K H s p l [] ∧ SqT K H ta (i3 (a, 0, 1)) ∧ SqT K H tb (i3 (b, 0, 1)) ∧ Pr p ∧ p < 2 ^ 62 ∧ c p a b ∧
  ∀ H', SameBut l H H' → ShAt C K H' s p l (R p a b) → Q .non H'
abbrev s_drsum : Stmt := top 38
theorem sc_drsum : FnScope ["sheet", "a", "b", "line", "point"] ["sheet", "a", "b"] (defScope s_drsum) := ⟨rfl, rfl, rfl, by decide +kernel, rfl, by decide +kernel, by decide +kernel⟩
theorem ok_drsum {f C Z O TP A' X' U L : Addr} {fd : FuncData} (T : ShT K mg C) (G : PlG K mg Z O TP A' X' U L) (F : Fun K "_draw_sum" "_draw_sum" s_drsum f fd) (m_join : Me P w K mg base 5 C "joined" (spSM C "join" K)) (m_met : Me P w K mg base 5 C "met" (spSM C "meet" K)) (m_along : Me P w K mg base 6 C "alongside" (spAlong C K)) : FnOk P w K mg base CX0 7 f fd ["sheet", "a", "b"] (spDr C K (fun _ _ _ => True) sumR) := by
  refine F.ok sc_drsum (fun vs H Q E h => ?_) (fun cdv A outer s H vs Q E hr h => ?_)
  · obtain ⟨_, _, _, _, _, _, _, rfl, _⟩ := h
    rfl
  · obtain ⟨s, ta, tb, l, p, a, b, rfl, sh, ha, hb', hp, hb, _, q⟩ := h
    obtain ⟨dx, ob⟩ := sh.ob
    obtain ⟨us, hus, _⟩ := sh.rw_
    have o1 := one_nd hp
    have o2 := neg_nd hp
    have nf : ∀ (m : Str), ¬ m = "p" → ¬ m = "rows" → (shF p l).lookup m = none := fun m h1 h2 => shF_no p l h1 h2
    refine ⟨_, (pss_cons (ps_set (i := 3) sc_drsum.nd rfl (Or.inl rfl) (pe_me m_join T.cl hr (pv 0) (pa_cons (pe_glob (v := .ref TP) (by rfl) G.t rfl) (pa_cons (pv 2) pa_nil))))
 (pss_cons (ps_set (i := 4) sc_drsum.nd rfl (Or.inl rfl) (pe_me m_met T.cl hr (pv 0) (pa_cons (pe_me m_join T.cl hr (pv 0) (pa_cons (pv 1) (pa_cons (pe_glob (v := .ref A') (by rfl) G.a rfl) pa_nil))) (pa_cons (pe_glob (v := .ref L) (by rfl) G.l rfl) pa_nil))))
 (pss_one (ps_expr (pe_me m_met T.cl hr (pv 0) (pa_cons (pe_me m_along T.cl hr (pv 0) (pa_cons (pv 3) (pa_cons (pv 4) pa_nil))) (pa_cons (pe_glob (v := .ref X') (by rfl) G.x rfl) pa_nil))))))), ?_⟩
    refine ⟨_, rfl, s, dx, _, rfl, ob, nf _ (by decide +kernel) (by decide +kernel), _, rfl, s, TP, tb, l, p, [], TOP, (b, 0, 1), TOP, (b, 0, 1), rfl, sh, by decide, G.kt _, hb', hp, hb, stp_ (eqv_refl hp _) (eqv_refl hp _) (nz2 o1) (nz3 o1) (cs1 b) (nz1 o1), fun t1 H1 k1 sh1 ht1 => ?_⟩
    rw [cs1] at ht1
    obtain ⟨dx1, ob1⟩ := sh1.ob
    obtain ⟨us1, hus1, _⟩ := sh1.rw_
    refine ⟨_, rfl, s, dx1, _, rfl, ob1, nf _ (by decide +kernel) (by decide +kernel), _, rfl, s, dx1, _, rfl, ob1, nf _ (by decide +kernel) (by decide +kernel), _, rfl, s, ta, A', l, p, _, (a, 0, 1), ABV, (a, 0, 1), ABV, rfl, sh1, by simp, sqT_sb k1 hus ha, G.ka _, hp, hb, stp_ (eqv_refl hp _) (eqv_refl hp _) (nz3 o1) (nz2 o1) (cs2 a) (nz1 o2), fun t2 H2 k2 sh2 ht2 => ?_⟩
    rw [cs2] at ht2
    have n2 : NZ p (-1, 0, a) := nz1 o2
    obtain ⟨us2, hus2, _⟩ := sh2.rw_
    refine ⟨s, t2, L, l, p, _, _, LVL, (-1, 0, a), LVL, rfl, sh2, by simp, ht2, G.kl _, hp, hb, stp_ (N3_eqv hp n2).2 (eqv_refl hp _) n2 (nz2 o1) (cs3 a) (nz2 o2), fun t3' H3 k3 sh3 ht3 => ?_⟩
    rw [cs3] at ht3
    obtain ⟨dx3, ob3⟩ := sh3.ob
    obtain ⟨us3, hus3, _⟩ := sh3.rw_
    have n1 : NZ p (1, b, -b) := nz1 o1
    have n3 : NZ p (-a, -1, -1) := nz2 o2
    have n4 : NZ p (b, -1, 0) := nz2 o2
    refine ⟨_, rfl, s, dx3, _, rfl, ob3, nf _ (by decide +kernel) (by decide +kernel), _, rfl, s, dx3, _, rfl, ob3, nf _ (by decide +kernel) (by decide +kernel), _, rfl, _, rfl, s, t1, t3', l, p, _, _, _, (1, b, -b), (-a, -1, -1), (b, -1, 0), rfl, sh3, by simp, sqT_sb k3 hus2 (sqT_sb k2 hus1 ht1), ht3, hp, hb, cs4 b, stp_ (N3_eqv hp n1).2 (eqv_refl hp _) n1 (nz3 o1) (cs4 b) n4, stp_ (N3_eqv hp n3).2 (N3_eqv hp n4).2 n3 n4 (cs5 a b) (nz1 o2), fun t4 H4 k4 sh4 ht4 => ?_⟩
    rw [cs5] at ht4
    have n5 : NZ p (-1, -b, a + b) := nz1 o2
    refine ⟨s, t4, X', l, p, _, _, AXS, (-1, -b, a + b), AXS, rfl, sh4, by simp, ht4, G.kx _, hp, hb, stp_ (N3_eqv hp n5).2 (eqv_refl hp _) n5 (nz2 o1) (cs6 a b) (nz3 o2), fun t5 H5 k5 sh5 _ => ?_⟩
    exact q H5 (k1.trans (k2.trans (k3.trans (k4.trans k5)))) sh5
def spDr1 (C : Addr) (K : PySem.W.Frag) (R : Int → Int → List Row4) : Sp := fun vs H Q _ => ∃ (s ta l : Addr) (p a : Int), vs = [.ref s, .ref ta] ∧ ShAt C K H s p l [] ∧ SqT K H ta (i3 (a, 0, 1)) ∧ Pr p ∧ p < 2 ^ 62 ∧
  ∀ H', SameBut l H H' → ShAt C K H' s p l (R p a) → Q .non H'
abbrev s_dropp : Stmt := top 39
theorem sc_dropp : FnScope ["sheet", "a", "point"] ["sheet", "a"] (defScope s_dropp) := ⟨rfl, rfl, rfl, by decide +kernel, rfl, by decide +kernel, by decide +kernel⟩
theorem ok_dropp {f C Z O TP A' X' U L : Addr} {fd : FuncData} (T : ShT K mg C) (G : PlG K mg Z O TP A' X' U L) (F : Fun K "_draw_opposite" "_draw_opposite" s_dropp f fd) (m_join : Me P w K mg base 5 C "joined" (spSM C "join" K)) (m_met : Me P w K mg base 5 C "met" (spSM C "meet" K)) (m_along : Me P w K mg base 6 C "alongside" (spAlong C K)) : FnOk P w K mg base CX0 7 f fd ["sheet", "a"] (spDr1 C K oppR) := by
  refine F.ok sc_dropp (fun vs H Q E h => ?_) (fun cdv A outer s H vs Q E hr h => ?_)
  · obtain ⟨_, _, _, _, _, rfl, _⟩ := h
    rfl
  · obtain ⟨s, ta, l, p, a, rfl, sh, ha, hp, hb, q⟩ := h
    obtain ⟨dx, ob⟩ := sh.ob
    obtain ⟨us, hus, _⟩ := sh.rw_
    have o1 := one_nd hp
    have o2 := neg_nd hp
    have nf : ∀ (m : Str), ¬ m = "p" → ¬ m = "rows" → (shF p l).lookup m = none := fun m h1 h2 => shF_no p l h1 h2
    refine ⟨_, (pss_cons (ps_set (i := 2) sc_dropp.nd rfl (Or.inl rfl) (pe_me m_met T.cl hr (pv 0) (pa_cons (pe_me m_join T.cl hr (pv 0) (pa_cons (pv 1) (pa_cons (pe_glob (v := .ref A') (by rfl) G.a rfl) pa_nil))) (pa_cons (pe_glob (v := .ref L) (by rfl) G.l rfl) pa_nil))))
 (pss_one (ps_expr (pe_me m_met T.cl hr (pv 0) (pa_cons (pe_me m_along T.cl hr (pv 0) (pa_cons (pe_me m_join T.cl hr (pv 0) (pa_cons (pv 2) (pa_cons (pe_glob (v := .ref Z) (by rfl) G.z rfl) pa_nil))) (pa_cons (pe_glob (v := .ref TP) (by rfl) G.t rfl) pa_nil))) (pa_cons (pe_glob (v := .ref X') (by rfl) G.x rfl) pa_nil)))))), ?_⟩
    have n2 : NZ p (-1, 0, a) := nz1 o2
    have n3 : NZ p (-a, -1, -1) := nz2 o2
    have n4 : NZ p (-1, a, 0) := nz1 o2
    have n5 : NZ p (a, 1, 0) := nz2 o1
    have n6 : NZ p (-1, a, -a) := nz1 o2
    refine ⟨_, rfl, s, dx, _, rfl, ob, nf _ (by decide +kernel) (by decide +kernel), _, rfl, s, dx, _, rfl, ob, nf _ (by decide +kernel) (by decide +kernel), _, rfl, s, ta, A', l, p, [], (a, 0, 1), ABV, (a, 0, 1), ABV, rfl, sh, by decide, ha, G.ka _, hp, hb, stp_ (eqv_refl hp _) (eqv_refl hp _) (nz3 o1) (nz2 o1) (cs2 a) n2, fun t2 H2 k2 sh2 ht2 => ?_⟩
    rw [cs2] at ht2
    refine ⟨s, t2, L, l, p, _, _, LVL, (-1, 0, a), LVL, rfl, sh2, by simp, ht2, G.kl _, hp, hb, stp_ (N3_eqv hp n2).2 (eqv_refl hp _) n2 (nz2 o1) (cs3 a) n3, fun t3' H3 k3 sh3 ht3 => ?_⟩
    rw [cs3] at ht3
    obtain ⟨dx3, ob3⟩ := sh3.ob
    obtain ⟨us3, hus3, _⟩ := sh3.rw_
    refine ⟨_, rfl, s, dx3, _, rfl, ob3, nf _ (by decide +kernel) (by decide +kernel), _, rfl, s, dx3, _, rfl, ob3, nf _ (by decide +kernel) (by decide +kernel), _, rfl, s, dx3, _, rfl, ob3, nf _ (by decide +kernel) (by decide +kernel), _, rfl, s, t3', Z, l, p, _, _, ZRO, (-a, -1, -1), ZRO, rfl, sh3, by simp, ht3, G.kz _, hp, hb, stp_ (N3_eqv hp n3).2 (eqv_refl hp _) n3 (nz3 o1) (co3 a) n4, fun t4 H4 k4 sh4 ht4 => ?_⟩
    rw [co3] at ht4
    refine ⟨s, t4, TP, l, p, _, _, TOP, (-1, a, 0), TOP, (a, 1, 0), rfl, sh4, by simp, ht4, G.kt _, hp, hb, co4 a, stp_ (N3_eqv hp n4).2 (eqv_refl hp _) n4 (nz3 o1) (co4 a) n5, stp_ (eqv_refl hp _) (N3_eqv hp n5).2 (nz2 o1) n5 (co5 a) n6, fun t5 H5 k5 sh5 ht5 => ?_⟩
    rw [co5] at ht5
    refine ⟨s, t5, X', l, p, _, _, AXS, (-1, a, -a), AXS, rfl, sh5, by simp, ht5, G.kx _, hp, hb, stp_ (N3_eqv hp n6).2 (eqv_refl hp _) n6 (nz2 o1) (co6 a) (nz3 o2), fun t6 H6 k6 sh6 _ => ?_⟩
    exact q H6 (k2.trans (k3.trans (k4.trans (k5.trans k6)))) sh6
def spUp (C : Addr) (K : PySem.W.Frag) : Sp := fun vs H Q _ => ∃ (s tb l : Addr) (p b : Int), vs = [.ref s, .ref tb] ∧ ShAt C K H s p l [] ∧ SqT K H tb (i3 (b, 0, 1)) ∧ Pr p ∧ p < 2 ^ 62 ∧
  ∀ t H', SameBut l H H' → ShAt C K H' s p l (uprR p b) → SqT K H' t (i3 (N3 p (0, b, 1))) → Q (.ref t) H'
abbrev s_drup : Stmt := top 40
theorem sc_drup : FnScope ["sheet", "b"] ["sheet", "b"] (defScope s_drup) := ⟨rfl, rfl, rfl, by decide +kernel, rfl, by decide +kernel, by decide +kernel⟩
theorem ok_drup {f C Z O TP A' X' U L : Addr} {fd : FuncData} (T : ShT K mg C) (G : PlG K mg Z O TP A' X' U L) (F : Fun K "_upright_point" "_upright_point" s_drup f fd) (m_join : Me P w K mg base 5 C "joined" (spSM C "join" K)) (m_met : Me P w K mg base 5 C "met" (spSM C "meet" K)) (m_along : Me P w K mg base 6 C "alongside" (spAlong C K)) : FnOk P w K mg base CX0 7 f fd ["sheet", "b"] (spUp C K) := by
  refine F.ok sc_drup (fun vs H Q E h => ?_) (fun cdv A outer s H vs Q E hr h => ?_)
  · obtain ⟨_, _, _, _, _, rfl, _⟩ := h
    rfl
  · obtain ⟨s, tb, l, p, b, rfl, sh, hb', hp, hb, q⟩ := h
    obtain ⟨dx, ob⟩ := sh.ob
    obtain ⟨us, hus, _⟩ := sh.rw_
    have o1 := one_nd hp
    have o2 := neg_nd hp
    have nf : ∀ (m : Str), ¬ m = "p" → ¬ m = "rows" → (shF p l).lookup m = none := fun m h1 h2 => shF_no p l h1 h2
    refine ⟨_, (pss_one (ps_ret (pe_me m_met T.cl hr (pv 0) (pa_cons (pe_me m_along T.cl hr (pv 0) (pa_cons (pe_me m_join T.cl hr (pv 0) (pa_cons (pe_glob (v := .ref O) (by rfl) G.o rfl) (pa_cons (pe_glob (v := .ref TP) (by rfl) G.t rfl) pa_nil))) (pa_cons (pv 1) pa_nil))) (pa_cons (pe_glob (v := .ref U) (by rfl) G.u rfl) pa_nil))))), ?_⟩
    have n1 : NZ p (-1, -1, 1) := nz1 o2
    have n2 : NZ p (-1, 1, 0) := nz1 o2
    have n3 : NZ p (-1, -1, b) := nz1 o2
    refine ⟨_, rfl, s, dx, _, rfl, ob, nf _ (by decide +kernel) (by decide +kernel), _, rfl, s, dx, _, rfl, ob, nf _ (by decide +kernel) (by decide +kernel), _, rfl, s, dx, _, rfl, ob, nf _ (by decide +kernel) (by decide +kernel), s, O, TP, l, p, [], ONE3, TOP, ONE3, TOP, rfl, sh, by decide, G.ko _, G.kt _, hp, hb, stp_ (eqv_refl hp _) (eqv_refl hp _) (nz1 o1) (nz2 o1) cu1 n1, fun t2 H2 k2 sh2 ht2 => ?_⟩
    rw [cu1] at ht2
    refine ⟨_, rfl, s, t2, tb, l, p, _, _, (b, 0, 1), (-1, -1, 1), (b, 0, 1), (-1, 1, 0), rfl, sh2, by simp, ht2, sqT_sb k2 hus hb', hp, hb, cu2, stp_ (N3_eqv hp n1).2 (eqv_refl hp _) n1 (nz3 o1) cu2 n2, stp_ (eqv_refl hp _) (N3_eqv hp n2).2 (nz3 o1) n2 (cu3 b) n3, fun t3' H3 k3 sh3 ht3 => ?_⟩
    rw [cu3] at ht3
    refine ⟨s, t3', U, l, p, _, _, UPR, (-1, -1, b), UPR, rfl, sh3, by simp, ht3, G.ku _, hp, hb, stp_ (N3_eqv hp n3).2 (eqv_refl hp _) n3 (nz1 o1) (cu4 b) (nz3 o1), fun t4 H4 k4 sh4 ht4 => ?_⟩
    rw [cu4] at ht4
    exact q t4 H4 (k2.trans (k3.trans k4)) sh4 ht4
abbrev s_drprd : Stmt := top 41
theorem sc_drprd : FnScope ["sheet", "a", "b", "point"] ["sheet", "a", "b"] (defScope s_drprd) := ⟨rfl, rfl, rfl, by decide +kernel, rfl, by decide +kernel, by decide +kernel⟩
theorem ok_drprd {f C Z O TP A' X' U L : Addr} {fd : FuncData} (T : ShT K mg C) (G : PlG K mg Z O TP A' X' U L) (F : Fun K "_draw_product" "_draw_product" s_drprd f fd) (m_join : Me P w K mg base 5 C "joined" (spSM C "join" K)) (m_met : Me P w K mg base 5 C "met" (spSM C "meet" K)) (m_along : Me P w K mg base 6 C "alongside" (spAlong C K)) (c_up : Cl P w K mg base CX0 7 "_upright_point" (spUp C K)) : FnOk P w K mg base CX0 8 f fd ["sheet", "a", "b"] (spDr C K (fun _ _ _ => True) prdR) := by
  refine F.ok sc_drprd (fun vs H Q E h => ?_) (fun cdv A outer s H vs Q E hr h => ?_)
  · obtain ⟨_, _, _, _, _, _, _, rfl, _⟩ := h
    rfl
  · obtain ⟨s, ta, tb, l, p, a, b, rfl, sh, ha, hb', hp, hb, _, q⟩ := h
    obtain ⟨dx, ob⟩ := sh.ob
    obtain ⟨us, hus, _⟩ := sh.rw_
    have o1 := one_nd hp
    have o2 := neg_nd hp
    have nf : ∀ (m : Str), ¬ m = "p" → ¬ m = "rows" → (shF p l).lookup m = none := fun m h1 h2 => shF_no p l h1 h2
    refine ⟨_, (pss_cons (ps_set (i := 3) sc_drprd.nd rfl (Or.inl rfl) (pe_cl c_up hr (pa_cons (pv 0) (pa_cons (pv 2) pa_nil))))
 (pss_one (ps_expr (pe_me m_met T.cl hr (pv 0) (pa_cons (pe_me m_along T.cl hr (pv 0) (pa_cons (pe_me m_join T.cl hr (pv 0) (pa_cons (pe_glob (v := .ref TP) (by rfl) G.t rfl) (pa_cons (pv 1) pa_nil))) (pa_cons (pv 3) pa_nil))) (pa_cons (pe_glob (v := .ref X') (by rfl) G.x rfl) pa_nil)))))), ?_⟩
    refine ⟨_, rfl, _, rfl, s, tb, l, p, b, rfl, sh, hb', hp, hb, fun t1 H1 k1 sh1 ht1 => ?_⟩
    have n0 : NZ p (0, b, 1) := nz3 o1
    have n1 : NZ p (1, a, -a) := nz1 o1
    have n2 : NZ p (a, -1, 0) := nz2 o2
    have n3 : NZ p (1, a, -(a * b)) := nz1 o1
    obtain ⟨dx1, ob1⟩ := sh1.ob
    obtain ⟨us1, hus1, _⟩ := sh1.rw_
    refine ⟨_, rfl, s, dx1, _, rfl, ob1, nf _ (by decide +kernel) (by decide +kernel), _, rfl, s, dx1, _, rfl, ob1, nf _ (by decide +kernel) (by decide +kernel), _, rfl, s, dx1, _, rfl, ob1, nf _ (by decide +kernel) (by decide +kernel), _, rfl, s, TP, ta, l, p, _, TOP, (a, 0, 1), TOP, (a, 0, 1), rfl, sh1, by simp [uprR], G.kt _, sqT_sb k1 hus ha, hp, hb, stp_ (eqv_refl hp _) (eqv_refl hp _) (nz2 o1) (nz3 o1) (cp1 a) n1, fun t2 H2 k2 sh2 ht2 => ?_⟩
    rw [cp1] at ht2
    obtain ⟨dx2, ob2⟩ := sh2.ob
    obtain ⟨us2, hus2, _⟩ := sh2.rw_
    refine ⟨_, rfl, s, t2, t1, l, p, _, _, _, (1, a, -a), (0, b, 1), (a, -1, 0), rfl, sh2, by simp [uprR], ht2, sqT_sb k2 hus1 ht1, hp, hb, cp2 a, stp_ (N3_eqv hp n1).2 (eqv_refl hp _) n1 (nz3 o1) (cp2 a) n2, stp_ (N3_eqv hp n0).2 (N3_eqv hp n2).2 n0 n2 (cp3 a b) n3, fun t3' H3 k3 sh3 ht3 => ?_⟩
    rw [cp3] at ht3
    refine ⟨s, t3', X', l, p, _, _, AXS, (1, a, -(a * b)), AXS, rfl, sh3, by simp [uprR], ht3, G.kx _, hp, hb, stp_ (N3_eqv hp n3).2 (eqv_refl hp _) n3 (nz2 o1) (cp4 a b) (nz3 o1), fun t4 H4 k4 sh4 _ => ?_⟩
    exact q H4 (k1.trans (k2.trans (k3.trans k4))) sh4
abbrev s_drquo : Stmt := top 42
theorem sc_drquo : FnScope ["sheet", "a", "b", "point"] ["sheet", "a", "b"] (defScope s_drquo) := ⟨rfl, rfl, rfl, by decide +kernel, rfl, by decide +kernel, by decide +kernel⟩
theorem ok_drquo {f C Z O TP A' X' U L : Addr} {fd : FuncData} (T : ShT K mg C) (G : PlG K mg Z O TP A' X' U L) (F : Fun K "_draw_quotient" "_draw_quotient" s_drquo f fd) (m_join : Me P w K mg base 5 C "joined" (spSM C "join" K)) (m_met : Me P w K mg base 5 C "met" (spSM C "meet" K)) (m_along : Me P w K mg base 6 C "alongside" (spAlong C K)) (c_up : Cl P w K mg base CX0 7 "_upright_point" (spUp C K)) : FnOk P w K mg base CX0 8 f fd ["sheet", "a", "b"] (spDr C K (fun p _ b => ¬ p ∣ b) quoR) := by
  refine F.ok sc_drquo (fun vs H Q E h => ?_) (fun cdv A outer s H vs Q E hr h => ?_)
  · obtain ⟨_, _, _, _, _, _, _, rfl, _⟩ := h
    rfl
  · obtain ⟨s, ta, tb, l, p, a, b, rfl, sh, ha, hb', hp, hb, nb, q⟩ := h
    obtain ⟨dx, ob⟩ := sh.ob
    obtain ⟨us, hus, _⟩ := sh.rw_
    have o1 := one_nd hp
    have o2 := neg_nd hp
    have nf : ∀ (m : Str), ¬ m = "p" → ¬ m = "rows" → (shF p l).lookup m = none := fun m h1 h2 => shF_no p l h1 h2
    refine ⟨_, (pss_cons (ps_set (i := 3) sc_drquo.nd rfl (Or.inl rfl) (pe_cl c_up hr (pa_cons (pv 0) (pa_cons (pv 2) pa_nil))))
 (pss_one (ps_expr (pe_me m_met T.cl hr (pv 0) (pa_cons (pe_me m_along T.cl hr (pv 0) (pa_cons (pe_me m_join T.cl hr (pv 0) (pa_cons (pv 3) (pa_cons (pv 1) pa_nil))) (pa_cons (pe_glob (v := .ref TP) (by rfl) G.t rfl) pa_nil))) (pa_cons (pe_glob (v := .ref X') (by rfl) G.x rfl) pa_nil)))))), ?_⟩
    refine ⟨_, rfl, _, rfl, s, tb, l, p, b, rfl, sh, hb', hp, hb, fun t1 H1 k1 sh1 ht1 => ?_⟩
    have n0 : NZ p (0, b, 1) := nz3 o1
    have n1 : NZ p (b, a, -(a * b)) := nz1 nb
    have n2 : NZ p (a, -b, 0) := nz2 (fun d => nb (Int.dvd_neg.mp d))
    have n3 : NZ p (b, a, -a) := nz1 nb
    obtain ⟨dx1, ob1⟩ := sh1.ob
    obtain ⟨us1, hus1, _⟩ := sh1.rw_
    refine ⟨_, rfl, s, dx1, _, rfl, ob1, nf _ (by decide +kernel) (by decide +kernel), _, rfl, s, dx1, _, rfl, ob1, nf _ (by decide +kernel) (by decide +kernel), _, rfl, s, dx1, _, rfl, ob1, nf _ (by decide +kernel) (by decide +kernel), _, rfl, _, rfl, s, t1, ta, l, p, _, _, (a, 0, 1), (0, b, 1), (a, 0, 1), rfl, sh1, by simp [uprR], ht1, sqT_sb k1 hus ha, hp, hb, stp_ (N3_eqv hp n0).2 (eqv_refl hp _) n0 (nz3 o1) (cq1 a b) n1, fun t2 H2 k2 sh2 ht2 => ?_⟩
    rw [cq1] at ht2
    obtain ⟨dx2, ob2⟩ := sh2.ob
    obtain ⟨us2, hus2, _⟩ := sh2.rw_
    refine ⟨s, t2, TP, l, p, _, _, TOP, (b, a, -(a * b)), TOP, (a, -b, 0), rfl, sh2, by simp [uprR], ht2, G.kt _, hp, hb, cq2 a b, stp_ (N3_eqv hp n1).2 (eqv_refl hp _) n1 (nz3 o1) (cq2 a b) n2, stp_ (eqv_refl hp _) (N3_eqv hp n2).2 (nz2 o1) n2 (cq3 a b) n3, fun t3' H3 k3 sh3 ht3 => ?_⟩
    rw [cq3] at ht3
    refine ⟨s, t3', X', l, p, _, _, AXS, (b, a, -a), AXS, rfl, sh3, by simp [uprR], ht3, G.kx _, hp, hb, stp_ (N3_eqv hp n3).2 (eqv_refl hp _) n3 (nz2 o1) (cq4 a b) (nz3 nb), fun t4 H4 k4 sh4 _ => ?_⟩
    exact q H4 (k1.trans (k2.trans (k3.trans k4))) sh4
-- part pln6
/-! a call of a slot that holds one of several defs, the last arguments starred -/
structure HeldS (P : Program) (w : World) (K : PySem.W.Frag) (mg : Str → Option Value) (base : Heap) (k : Nat) (f : Addr) (sp : Sp) : Prop where
  ex : ∃ (fd : FuncData) (ps : List Str) (j : Nat), j ≤ k ∧ FnOk P w K mg base CX0 j f fd ps sp ∧ PySem.W.keepIn K (.ref f) = true ∧ Binds K fd ps []
def tCallAS (i : Nat) (S : Addr → Sp → Prop) (t : TA) : TE := fun σ H Q => ∃ f sp, σ[i]? = some (some (.ref f)) ∧ S f sp ∧ t σ H fun vs H1 => sp vs H1 Q (fun _ _ _ => False)
theorem pe_callAS {X : Cx} {k j i : Nat} {x : Str} {p pos : Pos} {e : Expr} {es : List Expr} {t : TA} {S : Addr → Sp → Prop} (A : ∀ f sp, S f sp → HeldS X.prog X.w X.K X.mg X.base k f sp) (hr : Room j X.A) (hN : X.N[i]? = some x) (hv : Vis X.env.scope x) (ha : PA X (e :: es) t) (hk : k ≤ j := by decide)
    (hdb : (x == ("__debug__" : Str)) = false := by decide) (hcd : (x == ("__classdict__" : Str)) = false := by decide)
    (he : starEach (e :: es) X.env = (false, eval e X.env) :: starEach es X.env := by rfl) (hst : (backTo pos (starEach es X.env)).any (·.1) = true := by rfl) : PE X (.Call (.Name x p) (e :: es) [] pos) (tCallAS i S t) := by
  refine ⟨fun pins s σ H Q I h => ?_⟩
  obtain ⟨f, sp, hs, hS, ht⟩ := h
  obtain ⟨fd, ps, j', hj, F, hkp, hb⟩ := (A f sp hS).ex
  refine wpAny_Call_Name_kw (thn ((pe_var (pos := p) hN hv hdb hcd).run pins s σ H (fun v H1 => v = .ref f ∧ H1 = H) I ⟨.ref f, hs, rfl, rfl⟩) fun u s1 ⟨v, H1, I1, r1, q1⟩ => ?_)
  obtain ⟨rfl, rfl⟩ := q1
  cases r1
  refine PySem.W.callWith_S2 (h₀ := X.base) I.ok.mod.kin hkp (thn (ha.run pos pins s1 σ _ _ I1 ht) fun us s2 ⟨vs, H2, I2, r, q⟩ => ⟨I2.kIn, ?_⟩) he hst
  exact run_fn (dvs := []) (ds := []) (E := fun _ _ _ => False) F (hr.mono (Nat.le_trans hj hk)) hb .nil (fun _ _ _ _ _ _ _ z => z.elim) I2 r (by rw [List.append_nil]; exact q)
-- part pln7
def valI (o : Option (Int × Int)) : Int := match o with
  | some (x, _) => x
  | none => 0
def drw (p : Int) (word : Str) (xs : List Int) : List Row4 := match xs with
  | [a] => oppR p a
  | [a, b] => if word = "sum" then sumR p a b else if word = "product" then prdR p a b else quoR p a b
  | _ => []
def DrS (C : Addr) (K : PySem.W.Frag) (F1 F2 F3 F4 : Addr) (f : Addr) (sp : Sp) : Prop :=
  (f = F1 ∧ sp = spDr C K (fun _ _ _ => True) sumR) ∨ (f = F2 ∧ sp = spDr C K (fun _ _ _ => True) prdR) ∨ (f = F3 ∧ sp = spDr C K (fun p _ b => ¬ p ∣ b) quoR) ∨ (f = F4 ∧ sp = spDr1 C K oppR)
def drwV (F1 F2 F3 F4 : Addr) : List (Str × V) := [("sum", .ref F1), ("product", .ref F2), ("quotient", .ref F3), ("opposite", .ref F4)]
theorem bltF_args {word : Str} {fs : List (Option (Int × Int))} {p : Int} {r : Int × Int} (h : bltF word fs p = some r) : none ∉ fs := fun n => by
  rw [bltF_none n] at h
  cases h
abbrev s_rushow : Stmt := inClass (top 44) 9
theorem sc_rushow : FnScope ["self", "name", "p", "fractions", "word", "rest", "points", "other", "sheet", "draw"] ["self", "name", "p"] (defScope s_rushow) := ⟨rfl, rfl, rfl, by decide +kernel, rfl, by decide +kernel, by decide +kernel⟩
def spShow (C CB CU : Addr) (K : PySem.W.Frag) : Sp := fun vs H Q E => ∃ (a : Addr) (R : List Stp) (z : Str) (p : Int), vs = [.ref a, .str z, .int p] ∧ RulAt C H a R ∧ R.length ≤ 900 ∧ z.length ≤ 1000 ∧ p < 2 ^ 62 ∧
  (¬ Pr p → ∀ d H', Same H H' → H' d = some (.xd [("p", .int p)]) → E (.ref CB) (some d) H') ∧
  (Pr p → knownB (namesS R) z = false → ∀ d H', Same H H' → H' d = some (.xd [("name", .str z)]) → E (.ref CU) (some d) H') ∧
  (Pr p → z ∈ gvnS → ∀ l H', Same H H' → H' l = some (.lst []) → Q (.ref l) H') ∧
  (Pr p → z ∉ gvnS → z ∈ namesS R → valF p R z = none → ∀ H', Same H H' → Q .non H') ∧
  (Pr p → ∀ (i : Nat) st, R[i]? = some st → st.1 = z → (∃ x, valF p R z = some x) → ∀ l H', Same H H' → H l = none → RowsL K H' l (drw p st.2.1 (st.2.2.map fun r => valI (valF p R r))) → Q (.ref l) H')
theorem ok_rushow {f C CB CU CS DG Z O DD F1 F2 F3 F4 : Addr} {fd : FuncData} (T : RulT K mg C) (TS : ShT K mg CS) (WG : WDict K w DG (gvnV Z O)) (hG : mg "_GIVEN" = some (.ref DG)) (WD : WDict K w DD (drwV F1 F2 F3 F4)) (hD : mg "_DRAWS" = some (.ref DD)) (F : Fun K "shown" "Ruler.shown" s_rushow f fd)
    (c_chkp : Cl P w K mg base (L2N.CX P w) 3 "checked_prime" (spChkp CB)) (m_chk : MeN P w K mg base 3 C "_check_names" (spRuChk C CU K)) (m_frs : Me P w K mg base 5 C "_fractions" (spFrs C K)) (c_sh : Ma P w K mg base 1 CS (spShI CS K)) (A4 : ∀ f sp, DrS CS K F1 F2 F3 F4 f sp → HeldS P w K mg base 8 f sp) : FnOk P w K mg base (L2N.CX P w) 9 f fd ["self", "name", "p"] (spShow C CB CU K) := by
  refine okN F sc_rushow (fun vs H Q E h => ?_) (fun cdv A outer s H vs Q E hr h => ?_)
  · obtain ⟨a, R, z, p, rfl, _⟩ := h
    rfl
  · obtain ⟨a, R, z, p, rfl, ru, few, zl, hb, eB, eU, qG, qN, q⟩ := h
    obtain ⟨dx, d, kvs0, oa, od, sa⟩ := ru.ob
    have wf := ru.ok
    refine ⟨_, (pss_cons (ps_expr (pe_clNX c_chkp hr (L2N.takes_of rfl rfl rfl rfl) (pa_cons (pv 2) pa_nil)))
 (pss_cons (ps_expr (pe_meX m_chk T.cl hr (L2N.takes_of rfl rfl rfl rfl) (pv 0) (pa_cons (pe_lst (pa_cons (pv 1) pa_nil)) pa_nil)))
 (pss_cons (ps_if (pt_cmpR (op_inW WG) (pv 1) (pe_glob (v := .ref DG) (by rfl) hG rfl) (by with_unfolding_all rfl)) (pss_one (ps_ret (pe_lst pa_nil))) pss_nil)
 (pss_cons (ps_set (i := 3) sc_rushow.nd rfl (Or.inr rfl) (pe_me m_frs T.cl hr (pv 0) (pa_cons (pe_lst (pa_cons (pv 1) pa_nil)) (pa_cons (pv 2) pa_nil))))
 (pss_cons (ps_if (pt_cmpR op_isN (pe_dget (by exact hu1 hr) (pv 3) (pv 1) (fun _ _ => rfl)) pe_non (nomark _)) (pss_one (ps_ret pe_non)) pss_nil)
 (pss_cons (ps_asg (pe_dget (by exact hu1 hr) (pe_fld (pv 0) rfl) (pv 1) (fun _ _ => rfl)) (pg_tup rfl (pgs_cons (pg_name (i := 4) sc_rushow.nd rfl (Or.inl rfl)) (pgs_cons (pg_name (i := 5) sc_rushow.nd rfl (Or.inl rfl)) pgs_nil))))
 (pss_cons (ps_setLc (i := 6) (own := [("other", 7)]) (g := (gName 7)) (tt := tYes) rfl sc_rushow.nd rfl rfl (sw_true rfl rfl rfl (by decide +kernel)) (pi_list (pv 5)) (blkOk_by (N := ["self", "name", "p", "fractions", "word", "rest", "points", "other", "sheet", "draw"]) (sc := defScope s_rushow) (by decide +kernel)) (fun _ _ _ _ _ => (pg_name (i := 7) sc_rushow.nd rfl (Or.inl rfl))) (fun _ _ _ _ _ => pts_nil) (fun _ _ _ _ _ => (pe_tup (pa_cons (pe_ix (r := rIxT K) (by exact ix_tup) (pe_dget (by exact hu1 hr) (pv 3) (pv 7) (fun _ _ => rfl)) pe_int (fun _ _ => rfl)) (pa_cons pe_int (pa_cons pe_int pa_nil))))))
 (pss_cons (ps_set (i := 8) sc_rushow.nd rfl (Or.inl rfl) (pe_ma c_sh hr TS.g (pa_cons (pv 2) pa_nil)))
 (pss_cons (ps_set (i := 9) sc_rushow.nd rfl (Or.inl rfl) (pe_ix ix_kdict (pe_glob (v := .ref DD) (by rfl) hD rfl) (pv 4) (fun _ _ => rfl)))
 (pss_cons (ps_expr (pe_callAS (k := 8) (i := 9) A4 hr rfl (by first | exact Or.inl rfl | exact Or.inr (Or.inl rfl) | exact Or.inr (Or.inr rfl)) (pa_cons (pv 8) (StX.pa_star (pv 6) pa_nil))))
 (pss_one (ps_ret (pe_fld (pv 8) rfl))))))))))))), ?_⟩
    refine ⟨_, rfl, p, rfl, hb, fun hp => ?_, fun hp d H' s hd => eB hp d H' s hd⟩
    refine ⟨_, rfl, a, dx, _, rfl, oa, ru_no _ (by decide +kernel), _, rfl, (by show 1 ≤ sizeLine; decide), fun l1 nl1 => ?_⟩
    have s1 := same_upd (o := .lst [.str z]) nl1
    refine ⟨a, l1, R, [z], rfl, ru.same s1, SqL.of upd_same, fun y hy => by rw [List.mem_singleton.mp hy]; exact zl, fun hk => ?_, fun i y hy hk _ d H' s2 hd => ?_⟩
    · have hk1 := hk z List.mem_cons_self
      refine ⟨_, rfl, z, rfl, rfl, _, rfl, ?_⟩
      rw [gvn_some]
      by_cases cg : z ∈ gvnS
      · refine if_pos_of (decide_eq_true cg) ⟨(by show 0 ≤ sizeLine; decide), fun l nl => ?_⟩
        exact qG hp cg l _ (s1.trans (same_upd nl)) upd_same
      refine if_neg_of (decide_eq_false cg) ?_
      have mz : z ∈ namesS R := (knownB_iff.mp hk1).elim (fun h => absurd h cg) id
      refine ⟨_, rfl, a, dx, _, rfl, s1 _ _ oa, ru_no _ (by decide +kernel), _, rfl, (by show 1 ≤ sizeLine; decide), fun l2 nl2 => ?_⟩
      have s2 := s1.trans (same_upd (o := .lst [.str z]) nl2)
      refine ⟨_, rfl, a, l2, p, R, [z], rfl, ru.same s2, few, SqL.of upd_same, by simp, .inr hp, hb, bnd_pr ru.ok hp hb, fun S D H3 cl s3 fd => ?_⟩
      obtain ⟨kvs, hDk, fnd⟩ := fd
      have mS := cl.inn z List.mem_cons_self
      obtain ⟨v, hv1, hv2⟩ := fnd z (.inr (mem_way mz mS))
      have s4 := s2.trans s3
      refine ⟨_, rfl, _, rfl, D, v, rfl, (by have z := DGet.k (k := Sum.inr z) hDk; rw [hv1] at z; exact z), rfl, _, rfl, ?_⟩
      match hvf : valF p R z, hv2 with
      | none, hv2 =>
        have e : v = .non := hv2
        subst e
        exact if_pos_of (decide_eq_true rfl) (qN hp cg mz hvf H3 s4)
      | some (x, y), ⟨t, e, ht⟩ =>
        subst e
        refine if_neg_of (decide_eq_false fun e => nomatch e) ?_
        obtain ⟨k, hk⟩ := List.getElem?_of_mem mz
        obtain ⟨st, hst, ez⟩ : ∃ st, R[k]? = some st ∧ st.1 = z := by
          unfold namesS at hk
          rw [List.getElem?_map] at hk
          exact Option.map_eq_some_iff.mp hk
        subst ez
        obtain ⟨sv, hsv, tt, r, rfl, htt, hr'⟩ := sa.get wf hst
        have lr := tks_le (wf k st hst).k
        refine ⟨_, rfl, a, C, dx, _, _, rfl, s4 _ _ oa, T.cl, T.nS, ru_s d, _, rfl, d, .ref tt, rfl, (by have z := DGet.k (k := Sum.inr st.1) (s4 _ _ od); rw [hsv] at z; exact z), tt, _, rfl, SqT.of (s4 _ _ htt), rfl, _, _, rfl, _, _, rfl, rfl, ?_⟩
        have vb := valF_step (p := p) wf hst
        rw [hvf] at vb
        have nn := bltF_args vb.symm
        have argv : ∀ y ∈ st.2.2, ∃ x1, valF p R y = some (x1, 1) := fun y hy => by
          match hq : valF p R y with
          | none => exact absurd (List.mem_map.mpr ⟨y, hy, hq⟩) nn
          | some (x1, y1) =>
            rw [(valF_pr wf hp hq).1]
            exact ⟨x1, rfl⟩
        refine ⟨_, rfl, r, rfl, ⟨_, SqL.of (s4 _ _ hr')⟩, fun E nE => lc_it walk_list (fun j G' => Same H3 G' ∧ ∃ acc, G' E = some (.lst acc) ∧ AllS (fun v (x : Int) => ∃ t, v = .ref t ∧ G' t = some (.tup (i3 (x, 0, 1)))) acc ((st.2.2.take j).map fun r => valI (valF p R r))) ⟨same_upd nE, [], upd_same, AllS.nil⟩ (fun j G' _ h => SqL.of (h.1 _ _ (s4 _ _ hr'))) ?_ ?_⟩
        · rintro j x _ G' hj ⟨s5, acc, hE, al⟩ ⟨rfl, hx⟩
          obtain ⟨y', rfl, hy⟩ := strAt hx
          have my := List.mem_of_getElem? hy
          obtain ⟨x1, hx1⟩ := argv y' my
          have py : y' ∈ gvnS ∨ y' ∈ wayOf R S := by
            rcases wfr_known_in wf hst my with g | g
            · exact .inl g
            · exact .inr (mem_way g (cl.cl k st hst mS y' my))
          obtain ⟨v', e1, e2⟩ := fnd y' py
          rw [hx1] at e2
          obtain ⟨tv, rfl, htv⟩ := e2
          have la := al.1
          rw [List.length_map, List.length_take] at la
          refine ⟨rfl, _, rfl, _, rfl, D, .ref tv, rfl, (by have z := DGet.k (k := Sum.inr y') (s5 _ _ hDk); rw [e1] at z; exact z), tv, _, _, _, rfl, rfl, sqT_same s5 htv, atI_nat (j := 0) rfl, (by show 3 ≤ sizeLine; decide), fun tn ntn => ?_⟩
          have s6 := same_upd (o := .tup [.int x1, .int 0, .int 1]) ntn
          refine ⟨acc, s6 _ _ hE, by rw [sizeLine_eq]; omega, fun b o hb => ?_, _, upd_same, ?_⟩
          · rw [upd_ne (ne_of_none hb nE)]
            exact s6 _ _ (s5 b o hb)
          · rw [List.take_add_one, hy, List.map_append]
            have nw : ∃ t, V.ref tn = .ref t ∧ upd G' tn (.tup [.int x1, .int 0, .int 1]) t = some (.tup (i3 (valI (valF p R y'), 0, 1))) := ⟨tn, rfl, by rw [hx1]; exact upd_same⟩
            have al2 : AllS (fun v (x : Int) => ∃ t, v = .ref t ∧ upd G' tn (.tup [.int x1, .int 0, .int 1]) t = some (.tup (i3 (x, 0, 1)))) acc ((st.2.2.take j).map fun r => valI (valF p R r)) := al.mono fun v b _ ⟨t, e, h⟩ => ⟨t, e, s6 _ _ h⟩
            have hE6 := s6 _ _ hE
            exact (al2.snoc nw).mono fun v b _ ⟨t, e, h⟩ => ⟨t, e, by rw [upd_ne (fun q => by rw [q, hE6] at h; cases h)]; exact h⟩
        · rintro G' ⟨s5, acc, hE, al⟩
          rw [List.length_map, List.take_length] at al
          have s45 := s4.trans s5
          refine ⟨_, rfl, fun sx sdx nsx nsdx _ => ⟨sx, sdx, p, rfl, upd_same, fun l G2 sh nl keep => ⟨rfl, ?_⟩⟩⟩
          have sm : Same G' (upd (upd G' sdx (.own sx)) sx (.ins CS sdx [])) := fun b o eb => by
            rw [upd_ne (ne_of_none eb nsx), upd_ne (ne_of_none eb nsdx)]
            exact eb
          have sg : Same G' G2 := fun b o eb => keep b o (sm b o eb) (ne_of_none eb nsx)
          have nlG : G' l = none := by
            cases e : G' l with
            | none => rfl
            | some o => rw [sm _ _ e] at nl; cases nl
          have nlH : H l = none := by
            cases e : H l with
            | none => rfl
            | some o => rw [s45 _ _ e] at nlG; cases nlG
          have hE2 := sg _ _ hE
          have fin : ∀ G3, SameBut l G2 G3 → ShAt CS K G3 sx p l (drw p st.2.1 (st.2.2.map fun r => valI (valF p R r))) → ∃ dx3, G3 sx = some (.ins CS dx3 (shF p l)) ∧ Q (.ref l) G3 := fun G3 k3 sh3 => by
            obtain ⟨dx3, ob3⟩ := sh3.ob
            have s7 : Same H G3 := fun b o hb => k3 b o (fun e => by rw [e, nlH] at hb; cases hb) (sg _ _ (s45 _ _ hb))
            exact ⟨dx3, ob3, q hp k st hst rfl ⟨_, hvf⟩ l G3 s7 nlH sh3.rw_⟩
          have fit := (wf k st hst).k
          match hrest : st.2.2, fit, al, argv, vb, fin with
          | [], fit, _, _, _, _ => exact absurd fit (by unfold tksS; split; simp; split; simp; split; simp; split <;> simp)
          | [y1], fit, al, argv, vb, fin =>
            have ew := tks_one fit
            obtain ⟨v1, hv1, t1, rfl, ht1⟩ := al.2 0 _ rfl
            have la := al.1
            have eacc : acc = [.ref t1] := by
              match acc, la, hv1 with
              | [_], _, h => rw [Option.some.inj h]
            subst eacc
            refine ⟨_, rfl, DD, st.2.1, .ref F4, rfl, rfl, WD.kdct (by rw [ew]; rfl), F4, _, rfl, .inr (.inr (.inr ⟨rfl, rfl⟩)), _, rfl, _, rfl, E, _, rfl, .inr (SqL.of hE2), ?_⟩
            refine ⟨sx, t1, l, p, _, rfl, sh, SqT.of (sg _ _ ht1), hp, hb, fun G3 k3 sh3 => ?_⟩
            obtain ⟨dx3, ob3, q3⟩ := fin G3 k3 sh3
            exact ⟨_, rfl, sx, CS, dx3, _, _, rfl, ob3, TS.cl, TS.nR, shF_r p l, q3⟩
          | [y1, y2], fit, al, argv, vb, fin =>
            obtain ⟨ne, ew⟩ := tks_two fit
            obtain ⟨v1, hv1, t1, rfl, ht1⟩ := al.2 0 _ rfl
            obtain ⟨v2, hv2', t2, rfl, ht2⟩ := al.2 1 _ rfl
            have la := al.1
            have eacc : acc = [.ref t1, .ref t2] := by
              match acc, la, hv1, hv2' with
              | [_, _], _, h, h' => rw [Option.some.inj h, Option.some.inj h']
            subst eacc
            rcases ew with ew | ew | ew
            · refine ⟨_, rfl, DD, st.2.1, .ref F1, rfl, rfl, WD.kdct (by rw [ew]; rfl), F1, _, rfl, .inl ⟨rfl, rfl⟩, _, rfl, _, rfl, E, _, rfl, .inr (SqL.of hE2), ?_⟩
              refine ⟨sx, t1, t2, l, p, _, _, rfl, sh, SqT.of (sg _ _ ht1), SqT.of (sg _ _ ht2), hp, hb, trivial, fun G3 k3 sh3 => ?_⟩
              have e : ∀ a b, drw p st.2.1 [a, b] = sumR p a b := fun a b => if_pos ew
              obtain ⟨dx3, ob3, q3⟩ := fin G3 k3 (by rw [List.map_cons, List.map_cons, List.map_nil, e]; exact sh3)
              exact ⟨_, rfl, sx, CS, dx3, _, _, rfl, ob3, TS.cl, TS.nR, shF_r p l, q3⟩
            · refine ⟨_, rfl, DD, st.2.1, .ref F2, rfl, rfl, WD.kdct (by rw [ew]; rfl), F2, _, rfl, .inr (.inl ⟨rfl, rfl⟩), _, rfl, _, rfl, E, _, rfl, .inr (SqL.of hE2), ?_⟩
              refine ⟨sx, t1, t2, l, p, _, _, rfl, sh, SqT.of (sg _ _ ht1), SqT.of (sg _ _ ht2), hp, hb, trivial, fun G3 k3 sh3 => ?_⟩
              have e : ∀ a b, drw p st.2.1 [a, b] = prdR p a b := fun a b => (if_neg (by rw [ew]; decide)).trans (if_pos ew)
              obtain ⟨dx3, ob3, q3⟩ := fin G3 k3 (by rw [List.map_cons, List.map_cons, List.map_nil, e]; exact sh3)
              exact ⟨_, rfl, sx, CS, dx3, _, _, rfl, ob3, TS.cl, TS.nR, shF_r p l, q3⟩
            · refine ⟨_, rfl, DD, st.2.1, .ref F3, rfl, rfl, WD.kdct (by rw [ew]; rfl), F3, _, rfl, .inr (.inr (.inl ⟨rfl, rfl⟩)), _, rfl, _, rfl, E, _, rfl, .inr (SqL.of hE2), ?_⟩
              obtain ⟨x1, hx1⟩ := argv y1 List.mem_cons_self
              obtain ⟨x2, hx2⟩ := argv y2 (List.mem_cons_of_mem _ List.mem_cons_self)
              have nd : ¬ p ∣ valI (valF p R y2) := fun dd => by
                rw [hx2] at dd
                have dd' : p ∣ x2 := dd
                have vb' : some (x, y) = bltF st.2.1 [valF p R y1, valF p R y2] p := vb
                rw [hx1, hx2, ew] at vb'
                have vb2 : some (x, y) = fr p (x1 * 1) (1 * x2) := vb'
                unfold fr at vb2
                have p2 := hp.1
                rw [if_neg (by omega), if_pos (mod0.mpr (by rw [Int.one_mul]; exact dd'))] at vb2
                cases vb2
              refine ⟨sx, t1, t2, l, p, _, _, rfl, sh, SqT.of (sg _ _ ht1), SqT.of (sg _ _ ht2), hp, hb, nd, fun G3 k3 sh3 => ?_⟩
              have e : ∀ a b, drw p st.2.1 [a, b] = quoR p a b := fun a b => (if_neg (by rw [ew]; decide)).trans (if_neg (by rw [ew]; decide))
              obtain ⟨dx3, ob3, q3⟩ := fin G3 k3 (by rw [List.map_cons, List.map_cons, List.map_nil, e]; exact sh3)
              exact ⟨_, rfl, sx, CS, dx3, _, _, rfl, ob3, TS.cl, TS.nR, shF_r p l, q3⟩
          | _ :: _ :: _ :: fs', fit, _, _, _, _ => exact absurd (tks_le fit) (by simp only [List.length_cons]; omega)
    · have e : y = z := by
        cases i with
        | zero => exact (Option.some.inj hy).symm
        | succ i => cases hy
      rw [e] at hk hd
      exact eU hp hk d H' (s1.trans s2) hd
-- part r85a
/-- for x in a list or a tuple -/
theorem pi_seqK {X : Cx} {K : PySem.W.Frag} {tg l : Expr} {tl : TE} (hK : X.K = K) (hl : PE X l tl) : PI X tg l (fun σ H R => iList K tl σ H R ∨ iTup K tl σ H R) := by
  subst hK
  refine ⟨fun pins s σ H R I h => ?_⟩
  rcases h with h | h
  · exact (pi_list hl).run pins s σ H R I h
  · exact (pi_tup hl).run pins s σ H R I h
def nzL (L : List Int) : List Int := L.filter fun x => decide (x ≠ 0)
theorem nzL_head {x y z : Int} : (fstU x y z = 0 ∧ nzL [x, y, z] = []) ∨ (fstU x y z ≠ 0 ∧ (nzL [x, y, z])[0]? = some (fstU x y z)) := by
  unfold nzL fstU
  by_cases a : x = 0
  · by_cases b : y = 0
    · by_cases c : z = 0
      · left
        simp [a, b, c]
      · right
        simp [a, b, c]
    · right
      simp [a, b]
  · right
    simp [a]
theorem inv_find {p n : Int} (hp : Pr p) (h : ¬ p ∣ n) : ∃ k : Nat, ((List.range p.toNat).filter fun k => decide (((k : Nat) : Int) * n % p = 1))[0]? = some k ∧ inv p n = (k : Nat) := by
  have p2 := hp.1
  obtain ⟨i1, _, _⟩ := inv_spec hp h
  unfold inv at i1 ⊢
  have e := List.head?_filter (p := fun k => decide (((k : Nat) : Int) * n % p = 1)) (l := List.range p.toNat)
  cases q : (List.range p.toNat).find? fun k => decide (((k : Nat) : Int) * n % p = 1) with
  | none =>
    rw [q] at i1
    have i2 : p ∣ 0 * n - 1 := i1
    rw [Int.zero_mul] at i2
    exact absurd i2 (by
      have := neg_nd hp
      exact this)
  | some k =>
    rw [q, List.head?_eq_getElem?] at e
    exact ⟨k, e, rfl⟩
abbrev s_lnrm : Stmt := top 51
theorem sc_lnrm : FnScope ["_law_row", "_law_char", "_law_item", "_law_heads", "_law_back", "_law_k"] ["_law_row", "_law_char"] (defScope s_lnrm) := ⟨rfl, rfl, rfl, by decide +kernel, rfl, by decide +kernel, by decide +kernel⟩
def spLnrm (K : PySem.W.Frag) : Sp := fun vs H Q _ => ∃ (t : Addr) (P : T3) (p : Int), vs = [.ref t, .int p] ∧ (SqL K H t (i3 P) ∨ SqT K H t (i3 P)) ∧ Pr p ∧ p ≤ 2000 ∧ ∀ v H', Same H H' → TrV K H' v (nrm p P) → Q v H'
theorem ok_lnrm {f : Addr} {fd : FuncData} (TT : Txt mg) (F : Fun K "_law_normal" "_law_normal" s_lnrm f fd) : FnOk P w K mg base CX0 1 f fd ["_law_row", "_law_char"] (spLnrm K) := by
  refine F.ok sc_lnrm (fun vs H Q E h => ?_) (fun cdv A outer s H vs Q E hr h => ?_)
  · obtain ⟨_, _, _, rfl, _⟩ := h
    rfl
  · obtain ⟨t, P, p, rfl, ht, hp, hb, q⟩ := h
    have p2 := hp.1
    refine ⟨_, (Evl.pss_cut (ps_setLc (i := 0) (own := [("_law_item", 2)]) (g := (gName 2)) (tt := tYes) rfl sc_lnrm.nd rfl rfl (sw_true rfl rfl rfl (by decide +kernel)) (pi_seqK (K := K) rfl (pv 0)) (blkOk_by (N := ["_law_row", "_law_char", "_law_item", "_law_heads", "_law_back", "_law_k"]) (sc := defScope s_lnrm) (by decide +kernel)) (fun _ _ _ _ _ => (pg_name (i := 2) sc_lnrm.nd rfl (Or.inl rfl))) (fun _ _ _ _ _ => pts_nil) (fun _ _ _ _ _ => (pe_op op_mod (pe_callTy call_int1 (by rfl) TT.int boot_int (pa_cons (pv 2) pa_nil)) (pv 1))))
 (pss_cons (ps_set (i := 3) sc_lnrm.nd rfl (Or.inr rfl) (pe_lc (own := [("_law_item", 2)]) (g := (gName 2)) rfl sc_lnrm.nd (pi_seqK (K := K) rfl (pv 0)) (blkOk_by (N := ["_law_row", "_law_char", "_law_item", "_law_heads", "_law_back", "_law_k"]) (sc := defScope s_lnrm) (by decide +kernel)) (fun _ _ _ _ _ => (pg_name (i := 2) sc_lnrm.nd rfl (Or.inl rfl))) (fun _ _ _ _ _ => (pts_one (pt_cmpR op_ne (pv 2) pe_int (nomark _)))) (fun _ _ _ _ _ => (pv 2))))
 (pss_cons (ps_if (pt_cmpR (op_eqNil hr) (pv 3) (pe_lst pa_nil) (nomark _)) (pss_one (ps_ret pe_non)) pss_nil)
 (pss_cons (ps_set (i := 4) sc_lnrm.nd rfl (Or.inr rfl) (pe_ix ix_list (pe_lc (own := [("_law_k", 5)]) (g := (gName 5)) rfl sc_lnrm.nd (pi_range1 rfl TT.range (pa_cons (pv 1) pa_nil)) (blkOk_by (N := ["_law_row", "_law_char", "_law_item", "_law_heads", "_law_back", "_law_k"]) (sc := defScope s_lnrm) (by decide +kernel)) (fun _ _ _ _ _ => (pg_name (i := 5) sc_lnrm.nd rfl (Or.inl rfl))) (fun _ _ _ _ _ => (pts_one (pt_cmpR op_eq (pe_op op_mod (pe_callTy call_int1 (by rfl) TT.int boot_int (pa_cons (pe_op op_mulW (pv 5) (pe_ix (r := rIxL K) (by exact ix_list) (pv 3) pe_int (fun _ _ => rfl))) pa_nil)) (pv 1)) pe_int (nomark _)))) (fun _ _ _ _ _ => (pv 5))) pe_int (fun _ _ => rfl)))
 (pss_one (ps_ret (pe_tupleOf (by rfl) TT.tuple (pe_lc (own := [("_law_item", 2)]) (g := (gName 2)) (tt := tYes) rfl sc_lnrm.nd (pi_seqK (K := K) rfl (pv 0)) (blkOk_by (N := ["_law_row", "_law_char", "_law_item", "_law_heads", "_law_back", "_law_k"]) (sc := defScope s_lnrm) (by decide +kernel)) (fun _ _ _ _ _ => (pg_name (i := 2) sc_lnrm.nd rfl (Or.inl rfl))) (fun _ _ _ _ _ => pts_nil) (fun _ _ _ _ _ => (pe_op op_mod (pe_callTy call_int1 (by rfl) TT.int boot_int (pa_cons (pe_op op_mulW (pv 2) (pv 4)) pa_nil)) (pv 1))))))))))), ?_⟩
    have md (x : Int) : 0 ≤ x % p ∧ x % p < p := ⟨Int.emod_nonneg _ (by omega), Int.emod_lt_of_pos _ (by omega)⟩
    refine ⟨fun σ G => ∃ D, Same H G ∧ σ = [some (.ref D), some (.int p), none, none, none, none] ∧ G D = some (.lst (i3 (P.1 % p, P.2.1 % p, P.2.2 % p))), ?_, ?_⟩
    · have el : ∀ (D : Addr) (i : Nat) (x : V) (G : Hp), H D = none → Same H G → G D = some (.lst (tkV (i3 (P.1 % p, P.2.1 % p, P.2.2 % p)) i)) → (i3 P)[i]? = some x → ∃ y, x = .int y ∧ ∃ acc, G D = some (.lst acc) ∧ acc.length < sizeLine ∧ PvM H D (tkV (i3 (P.1 % p, P.2.1 % p, P.2.2 % p))) (i + 1) (upd G D (.lst (acc ++ [.int (y % p)]))) := fun D i x G nD s1 hD hx => by
        obtain ⟨y, rfl, _, hy⟩ := triAt hx
        exact ⟨y, rfl, mapEnd nD (by show 3 < 1000; decide) s1 hD (hy fun y => y % p)⟩
      rcases ht with ht | ht
      · refine .inl ⟨_, rfl, t, rfl, ⟨_, ht⟩, fun D nD => lcMap (walk_list (xs := i3 P)) (i3 (P.1 % p, P.2.1 % p, P.2.2 % p)) rfl nD (fun H s => s.seq ht) ?_ ?_⟩
        · rintro i x _ G hi s1 hD ⟨rfl, hx⟩
          obtain ⟨y, rfl, fin⟩ := el D i x G nD s1 hD hx
          exact ⟨rfl, _, rfl, .inl ⟨_, rfl, _, rfl, _, _, rfl, rfl, by omega, fin⟩⟩
        · intro G s1 hD
          exact ⟨D, s1, rfl, hD⟩
      · refine .inr ⟨_, rfl, t, rfl, ⟨_, ht⟩, fun D nD => lcMap (walk_tup (xs := i3 P)) (i3 (P.1 % p, P.2.1 % p, P.2.2 % p)) rfl nD (fun H s => sqT_same s ht) ?_ ?_⟩
        · rintro i x _ G hi s1 hD ⟨rfl, hx⟩
          obtain ⟨y, rfl, fin⟩ := el D i x G nD s1 hD hx
          exact ⟨rfl, _, rfl, .inl ⟨_, rfl, _, rfl, _, _, rfl, rfl, by omega, fin⟩⟩
        · intro G s1 hD
          exact ⟨D, s1, rfl, hD⟩
    rintro σ G ⟨D, s1, rfl, hD⟩
    have a1 := md P.1
    have a2 := md P.2.1
    have a3 := md P.2.2
    obtain ⟨f1, f2⟩ := fstU_lt (p := p) (P := P) (by omega)
    have hn : nrm p P = if fstU (P.1 % p) (P.2.1 % p) (P.2.2 % p) = 0 then none else some (P.1 % p * inv p (fstU (P.1 % p) (P.2.1 % p) (P.2.2 % p)) % p, P.2.1 % p * inv p (fstU (P.1 % p) (P.2.1 % p) (P.2.2 % p)) % p, P.2.2 % p * inv p (fstU (P.1 % p) (P.2.1 % p) (P.2.2 % p)) % p) := rfl
    have hh := nzL_head (x := P.1 % p) (y := P.2.1 % p) (z := P.2.2 % p)
    generalize fstU (P.1 % p) (P.2.1 % p) (P.2.2 % p) = ff at *
    generalize P.1 % p = x1 at *
    generalize P.2.1 % p = x2 at *
    generalize P.2.2 % p = x3 at *
    refine .inl ⟨_, rfl, D, rfl, ⟨_, SqL.of hD⟩, fun D2 nD2 => lcW (walk_list (xs := i3 (x1, x2, x3))) (fun i => (nzL ([x1, x2, x3].take i)).map V.int) nD2 rfl (fun H s => SqL.of (s _ _ hD)) ?_ ?_⟩
    · rintro i x _ G2 hi s2 hD2 ⟨rfl, hx⟩
      obtain ⟨y, rfl, hy⟩ : ∃ y, x = .int y ∧ [x1, x2, x3][i]? = some y := by
        have h : ([x1, x2, x3].map V.int)[i]? = some x := hx
        rw [List.getElem?_map] at h
        obtain ⟨y, h1, h2⟩ := Option.map_eq_some_iff.mp h
        exact ⟨y, h2.symm, h1⟩
      have few : ((nzL ([x1, x2, x3].take i)).map V.int).length < 1000 := by
        rw [List.length_map]
        have z1 := List.length_filter_le (fun x => decide (x ≠ 0)) ([x1, x2, x3].take i)
        have z2 := List.length_take_le' i [x1, x2, x3]
        have z3 : [x1, x2, x3].length = 3 := rfl
        unfold nzL
        omega
      have nx : nzL ([x1, x2, x3].take (i + 1)) = nzL ([x1, x2, x3].take i) ++ (if y ≠ 0 then [y] else []) := by
        unfold nzL
        rw [List.take_add_one, hy, List.filter_append]
        congr 1
        show [y].filter _ = _
        rw [List.filter_cons]
        by_cases c : y = 0
        · simp [c]
        · simp [c]
      refine ⟨rfl, _, rfl, rfl, _, rfl, ?_⟩
      by_cases c : y = 0
      · refine if_neg_of (by simp [c]) (PvM.skip s2 hD2 ?_)
        show (nzL _).map V.int = (nzL _).map V.int
        rw [nx, if_neg (fun n => n c), List.append_nil]
      · refine if_pos_of (by simp [c]) ⟨_, rfl, PvM.push nD2 s2 hD2 few ?_⟩
        show (nzL _).map V.int = (nzL _).map V.int ++ _
        rw [nx, if_pos c, List.map_append] <;> rfl
    · intro G2 s2 hD2
      have et : [x1, x2, x3].take (i3 (x1, x2, x3)).length = [x1, x2, x3] := rfl
      rw [et] at hD2
      refine ⟨_, rfl, (by show 0 ≤ sizeLine; decide), fun e0 ne0 => ?_⟩
      have s3 := same_upd (o := .lst []) ne0
      refine ⟨D2, e0, _, rfl, rfl, SqL.of (s3 _ _ hD2), SqL.of upd_same, _, rfl, ?_⟩
      rcases hh with ⟨h1, h2⟩ | ⟨h1, h2⟩
      · rw [h2]
        refine if_pos_of rfl ?_
        refine q .non _ (s1.trans (s2.trans s3)) ?_
        rw [hn, if_pos h1] <;> rfl
      have ne : ((nzL [x1, x2, x3]).map V.int).isEmpty = false := by
        cases hz : nzL [x1, x2, x3] with
        | nil => rw [hz] at h2; cases h2
        | cons _ _ => rfl
      refine if_neg_of ne ?_
      have nd := nz_not (show 0 < p by omega) h1 f1 f2
      obtain ⟨kk, hk0, hki⟩ := inv_find hp nd
      rw [hn, if_neg h1, hki] at q
      have kl : kk < p.toNat := List.mem_range.mp (List.mem_filter.mp (List.mem_of_getElem? hk0)).1
      have pn : ((p.toNat : Nat) : Int) = p := Int.toNat_of_nonneg (by omega)
      have hD23 := s3 _ _ hD2
      refine ⟨_, rfl, p.toNat, by rw [pn], by omega, by omega, fun D3 nD3 => lcW (walk_range0 (n := p.toNat)) (fun i => ((List.range i).filter fun k => decide (((k : Nat) : Int) * ff % p = 1)).map fun k => V.int (k : Nat)) nD3 rfl (fun _ _ => trivial) ?_ ?_⟩
      · rintro i x _ G3 hi s4 hD3 ⟨rfl, rfl⟩
        have bi : ((i : Nat) : Int).natAbs < 2 ^ 12 := by
          show i < 4096
          omega
        have bf : ff.natAbs < 2 ^ 12 := by
          show ff.natAbs < 4096
          omega
        have h20 : atI ((nzL [x1, x2, x3]).map V.int) (0 : Int) = some (.int ff) := atI_nat (j := 0) (by rw [List.getElem?_map, h2] <;> rfl)
        have few : (((List.range i).filter fun k => decide (((k : Nat) : Int) * ff % p = 1)).map fun k => V.int (k : Nat)).length < sizeLine := by
          rw [List.length_map]
          have z1 := List.length_filter_le (fun k => decide (((k : Nat) : Int) * ff % p = 1)) (List.range i)
          rw [List.length_range] at z1
          rw [sizeLine_eq]
          omega
        have nx : (List.range (i + 1)).filter (fun k => decide (((k : Nat) : Int) * ff % p = 1)) = (List.range i).filter (fun k => decide (((k : Nat) : Int) * ff % p = 1)) ++ (if ((i : Nat) : Int) * ff % p = 1 then [i] else []) := by
          rw [List.range_succ, List.filter_append]
          congr 1
          rw [List.filter_cons]
          by_cases c : ((i : Nat) : Int) * ff % p = 1
          · rw [if_pos c, decide_eq_true c] <;> rfl
          · rw [if_neg c, decide_eq_false c] <;> rfl
        refine ⟨rfl, _, rfl, _, rfl, D2, _, _, _, rfl, rfl, SqL.of (s4 _ _ hD23), h20, _, _, rfl, rfl, wide_mul bi bf (by decide) (by decide) (by decide), .inl ⟨_, rfl, _, rfl, _, _, rfl, rfl, by omega, rfl, _, rfl, ?_⟩⟩
        by_cases c : ((i : Nat) : Int) * ff % p = 1
        · refine if_pos_of (decide_eq_true (congrArg V.int c)) ⟨_, rfl, _, hD3, few, ⟨fun b o eb => ?_, ?_⟩⟩
          · rw [upd_ne (ne_of_none eb nD3)]
            exact s4 b o eb
          · have e : ((List.range (i + 1)).filter fun k => decide (((k : Nat) : Int) * ff % p = 1)).map (fun k => V.int (k : Nat)) = ((List.range i).filter fun k => decide (((k : Nat) : Int) * ff % p = 1)).map (fun k => V.int (k : Nat)) ++ [V.int (i : Nat)] := by
              rw [nx, if_pos c, List.map_append] <;> rfl
            show _ = some (HO.lst (((List.range (i + 1)).filter fun k => decide (((k : Nat) : Int) * ff % p = 1)).map fun k => V.int (k : Nat)))
            rw [e]
            exact upd_same
        · refine if_neg_of (decide_eq_false fun e => c (V.int.inj e)) (PvM.skip s4 hD3 ?_)
          show List.map _ _ = List.map _ _
          rw [nx, if_neg c, List.append_nil]
      · intro G3 s4 hD3
        refine ⟨D3, _, _, _, rfl, rfl, SqL.of hD3, atI_nat (j := 0) (by rw [List.getElem?_map, hk0] <;> rfl), ?_⟩
        have s14 := s2.trans (s3.trans s4)
        have hD4 := s14 _ _ hD
        refine .inl ⟨_, rfl, D, rfl, ⟨_, SqL.of hD4⟩, fun D5 nD5 => lcMap (walk_list (xs := i3 (x1, x2, x3))) [.int (x1 * (kk : Nat) % p), .int (x2 * (kk : Nat) % p), .int (x3 * (kk : Nat) % p)] rfl nD5 (fun H s => SqL.of (s _ _ hD4)) ?_ ?_⟩
        · rintro i x _ G4 hi s5 hL ⟨rfl, hx⟩
          obtain ⟨y, rfl, ym, hy⟩ := triAt (P := (x1, x2, x3)) hx
          have b1 : y.natAbs < 2 ^ 12 := by
            show y.natAbs < 4096
            rcases ym with h | h | h
            · have h' : y = x1 := h
              omega
            · have h' : y = x2 := h
              omega
            · have h' : y = x3 := h
              omega
          have b2 : ((kk : Nat) : Int).natAbs < 2 ^ 12 := by
            show kk < 4096
            omega
          exact ⟨rfl, _, rfl, _, rfl, _, _, rfl, rfl, wide_mul b1 b2 (by decide) (by decide) (by decide), .inl ⟨_, rfl, _, rfl, _, _, rfl, rfl, by omega, mapEnd nD5 (by show 3 < 1000; decide) s5 hL (hy fun y => y * (kk : Nat) % p)⟩⟩
        · intro G4 s5 hL
          refine .inl ⟨D5, _, rfl, SqL.of hL, fun t2 nt2 => ?_⟩
          exact q (.ref t2) _ (s1.trans (s14.trans (s5.trans (same_upd nt2)))) ⟨t2, rfl, SqT.of upd_same⟩
-- part r85b
theorem N3_ne {p : Int} {P : T3} (hp : Pr p) (h : NZ p P) : nrm p P = some (N3 p P) := (N3_eqv hp h).1
abbrev s_lboth : Stmt := top 52
theorem sc_lboth : FnScope ["_law_rows", "_law_word", "_law_first", "_law_second", "_law_char", "_law_three_sums", "_law_found"] ["_law_rows", "_law_word", "_law_first", "_law_second", "_law_char"] (defScope s_lboth) := ⟨rfl, rfl, rfl, by decide +kernel, rfl, by decide +kernel, by decide +kernel⟩
/-- SqT or SqL -/
def Sq (K : PySem.W.Frag) (H : Hp) (a : Addr) (xs : List V) : Prop := SqL K H a xs ∨ SqT K H a xs
def spLboth (K : PySem.W.Frag) : Sp := fun vs H Q _ => ∃ (l t1 t2 : Addr) (word : Str) (p : Int) (rows : List Row4) (X1 X2 E1 E2 : T3), vs = [.ref l, .str word, .ref t1, .ref t2, .int p] ∧ RowsL K H l rows ∧ rows.length < 20 ∧ SqT K H t1 (i3 X1) ∧ SqT K H t2 (i3 X2) ∧ B62 X1 ∧ B62 X2 ∧ Pr p ∧ p ≤ 2000 ∧ StepP p X1 X2 E1 E2 ∧
  ∀ t H', SameBut l H H' → RowsL K H' l (rows ++ [rowO p word E1 E2]) → SqT K H' t (i3 (N3 p (crs E1 E2))) → Q (.ref t) H'
theorem RowsL.new {H : Hp} {l a : Addr} {rows : List Row4} (h : RowsL K H l rows) (n : H a = none) : a ≠ l := fun e => by
  obtain ⟨us, hl, _⟩ := h
  rw [e, hl] at n
  cases n
theorem ok_lboth {f : Addr} {fd : FuncData} (F : Fun K "_law_both" "_law_both" s_lboth f fd) (c_nrm : Cl P w K mg base CX0 1 "_law_normal" (spLnrm K)) : FnOk P w K mg base CX0 2 f fd ["_law_rows", "_law_word", "_law_first", "_law_second", "_law_char"] (spLboth K) := by
  refine F.ok sc_lboth (fun vs H Q E h => ?_) (fun cdv A outer s H vs Q E hr h => ?_)
  · obtain ⟨_, _, _, _, _, _, _, _, _, _, rfl, _⟩ := h
    rfl
  · obtain ⟨l, t1, t2, word, p, rows, X1, X2, E1, E2, rfl, hl, few, ht1, ht2, ⟨x1, x2, x3⟩, ⟨y1, y2, y3⟩, hp, hb, st, q⟩ := h
    obtain ⟨e1, e2, e3, _, _⟩ := step_eqv hp st.h1 st.h2 st.n1 st.n2 st.n
    have W : ∀ {x y : Int}, x.natAbs < 2 ^ 62 → y.natAbs < 2 ^ 62 → CMulW x y := fun hx hy => wide_mul hx hy (by decide) (by decide) (by decide)
    refine ⟨_, (pss_cons (ps_set (i := 5) sc_lboth.nd rfl (Or.inl rfl) (pe_lst (pa_cons (pe_op op_sub (pe_op op_mulW (pe_ix ix_tup (pv 2) pe_int (fun _ _ => rfl)) (pe_ix ix_tup (pv 3) pe_int (fun _ _ => rfl))) (pe_op op_mulW (pe_ix ix_tup (pv 2) pe_int (fun _ _ => rfl)) (pe_ix ix_tup (pv 3) pe_int (fun _ _ => rfl)))) (pa_cons (pe_op op_sub (pe_op op_mulW (pe_ix ix_tup (pv 2) pe_int (fun _ _ => rfl)) (pe_ix ix_tup (pv 3) pe_int (fun _ _ => rfl))) (pe_op op_mulW (pe_ix ix_tup (pv 2) pe_int (fun _ _ => rfl)) (pe_ix ix_tup (pv 3) pe_int (fun _ _ => rfl)))) pa_nil))))
 (pss_cons (ps_expr (pe_bm PySem.F.plainAttrs_list PySem.F.slot_list_append PySem.F.type_list_append mt_append (pv 5) (pa_cons (pe_op op_sub (pe_op op_mulW (pe_ix ix_tup (pv 2) pe_int (fun _ _ => rfl)) (pe_ix ix_tup (pv 3) pe_int (fun _ _ => rfl))) (pe_op op_mulW (pe_ix ix_tup (pv 2) pe_int (fun _ _ => rfl)) (pe_ix ix_tup (pv 3) pe_int (fun _ _ => rfl)))) pa_nil)))
 (pss_cons (ps_set (i := 6) sc_lboth.nd rfl (Or.inl rfl) (pe_cl c_nrm hr (pa_cons (pv 5) (pa_cons (pv 4) pa_nil))))
 (pss_cons (ps_expr (pe_bm PySem.F.plainAttrs_list PySem.F.slot_list_append PySem.F.type_list_append mt_append (pv 0) (pa_cons (pe_tup (pa_cons (pv 1) (pa_cons (pv 6) (pa_cons (pe_cl c_nrm hr (pa_cons (pv 2) (pa_cons (pv 4) pa_nil))) (pa_cons (pe_cl c_nrm hr (pa_cons (pv 3) (pa_cons (pv 4) pa_nil))) pa_nil))))) pa_nil)))
 (pss_one (ps_ret (pv 6))))))), ?_⟩
    have f0 : ∀ {P : T3}, atI (i3 P) (0 : Int) = some (.int P.1) := fun {P} => atI_nat (j := 0) rfl
    have f1 : ∀ {P : T3}, atI (i3 P) (1 : Int) = some (.int P.2.1) := fun {P} => atI_nat (j := 1) rfl
    have f2 : ∀ {P : T3}, atI (i3 P) (2 : Int) = some (.int P.2.2) := fun {P} => atI_nat (j := 2) rfl
    refine ⟨_, rfl, t1, _, _, _, rfl, rfl, ht1, f1, _, rfl, t2, _, _, _, rfl, rfl, ht2, f2, _, _, rfl, rfl, W x2 y3, _, rfl, t1, _, _, _, rfl, rfl, ht1, f2, _, rfl, t2, _, _, _, rfl, rfl, ht2, f1, _, _, rfl, rfl, W x3 y2, _, _, rfl, rfl, ?_⟩
    refine ⟨_, rfl, t1, _, _, _, rfl, rfl, ht1, f2, _, rfl, t2, _, _, _, rfl, rfl, ht2, f0, _, _, rfl, rfl, W x3 y1, _, rfl, t1, _, _, _, rfl, rfl, ht1, f0, _, rfl, t2, _, _, _, rfl, rfl, ht2, f2, _, _, rfl, rfl, W x1 y3, _, _, rfl, rfl, (by show 2 ≤ sizeLine; decide), fun r nr => ?_⟩
    have s1 := same_upd (o := .lst [.int (crs X1 X2).1, .int (crs X1 X2).2.1]) nr
    have ht1' := sqT_same s1 ht1
    have ht2' := sqT_same s1 ht2
    refine ⟨_, rfl, .inl ⟨rfl, _, SqL.of upd_same⟩, ?_⟩
    refine ⟨_, rfl, t1, _, _, _, rfl, rfl, ht1', f0, _, rfl, t2, _, _, _, rfl, rfl, ht2', f1, _, _, rfl, rfl, W x1 y2, _, rfl, t1, _, _, _, rfl, rfl, ht1', f1, _, rfl, t2, _, _, _, rfl, rfl, ht2', f0, _, _, rfl, rfl, W x2 y1, _, _, rfl, rfl, r, _, _, rfl, rfl, upd_same, by show 2 < sizeLine; decide, ?_⟩
    rw [upd_upd]
    have s2 := same_upd (o := .lst (i3 (crs X1 X2))) nr
    refine ⟨_, rfl, _, rfl, r, crs X1 X2, p, rfl, .inl (SqL.of upd_same), hp, hb, fun v1 H1 s3 tv1 => ?_⟩
    rw [e3] at tv1
    obtain ⟨a3, rfl, ha3⟩ := tv1
    have s4 := s2.trans s3
    have hl4 := hl.same s4
    obtain ⟨us, hus, al⟩ := hl4
    refine ⟨_, rfl, .inl ⟨rfl, us, SqL.of hus⟩, _, rfl, _, rfl, _, rfl, _, rfl, t1, X1, p, rfl, .inr (sqT_same s4 ht1), hp, hb, fun v2 H2 s5 tv2 => ?_⟩
    rw [e1] at tv2
    obtain ⟨a1, rfl, ha1⟩ := tv2
    refine ⟨_, rfl, _, rfl, t2, X2, p, rfl, .inr (sqT_same (s4.trans s5) ht2), hp, hb, fun v3 H3 s6 tv3 => ?_⟩
    rw [e2] at tv3
    obtain ⟨a2, rfl, ha2⟩ := tv3
    refine ⟨(by show 4 ≤ sizeLine; decide), fun t nt => ?_⟩
    have s7 := same_upd (o := .tup [.str word, .ref a3, .ref a1, .ref a2]) nt
    have s567 := s5.trans (s6.trans s7)
    have hus6 := s567 _ _ hus
    have la := al.1
    refine ⟨l, us, _, rfl, rfl, hus6, by rw [sizeLine_eq]; omega, ?_⟩
    have sb : SameBut l (upd H3 t (.tup [.str word, .ref a3, .ref a1, .ref a2])) (upd (upd H3 t (.tup [.str word, .ref a3, .ref a1, .ref a2])) l (.lst (us ++ [.ref t]))) := fun b o hb hbo => by
      rw [upd_ne hb]
      exact hbo
    have row : RowV K (upd H3 t (.tup [.str word, .ref a3, .ref a1, .ref a2])) (.ref t) (rowO p word E1 E2) := ⟨t, a3, a1, a2, rfl, upd_same, sqT_same s567 ha3, sqT_same (s6.trans s7) ha1, sqT_same s7 ha2⟩
    have al6 : AllS (RowV K (upd H3 t (.tup [.str word, .ref a3, .ref a1, .ref a2]))) us rows := by
      obtain ⟨us', hus', al'⟩ := (hl.same s4).same s567
      rw [hus6] at hus'
      cases hus'
      exact al'
    exact ⟨_, rfl, q a3 _ ((sbut (s4.trans s567)).trans sb) ⟨us ++ [.ref t], upd_same, (al6.snoc row).mono fun v b _ r => r.sb sb hus6⟩ (sqT_sb sb hus6 (sqT_same s567 ha3))⟩
abbrev s_lbes : Stmt := top 53
theorem sc_lbes : FnScope ["_law_rows", "_law_line", "_law_point", "_law_char", "_law_away"] ["_law_rows", "_law_line", "_law_point", "_law_char"] (defScope s_lbes) := ⟨rfl, rfl, rfl, by decide +kernel, rfl, by decide +kernel, by decide +kernel⟩
def spLbes (K : PySem.W.Frag) : Sp := fun vs H Q _ => ∃ (l t1 t2 : Addr) (p : Int) (rows : List Row4) (X1 X2 E1 E2 E3 : T3), vs = [.ref l, .ref t1, .ref t2, .int p] ∧ RowsL K H l rows ∧ rows.length < 19 ∧ SqT K H t1 (i3 X1) ∧ SqT K H t2 (i3 X2) ∧ B62 X1 ∧ B62 X2 ∧ Pr p ∧ p ≤ 2000 ∧ crs E1 FAR = E3 ∧ StepP p X1 FAR E1 FAR ∧ StepP p X2 (N3 p E3) E2 E3 ∧
  ∀ t H', SameBut l H H' → RowsL K H' l (rows ++ [rowO p "meet" E1 FAR, rowO p "join" E2 E3]) → SqT K H' t (i3 (N3 p (crs E2 E3))) → Q (.ref t) H'
theorem b62_far : B62 FAR := ⟨by decide, by decide, by decide⟩
theorem ok_lbes {f : Addr} {fd : FuncData} (F : Fun K "_law_beside" "_law_beside" s_lbes f fd) (c_both : Cl P w K mg base CX0 2 "_law_both" (spLboth K)) : FnOk P w K mg base CX0 3 f fd ["_law_rows", "_law_line", "_law_point", "_law_char"] (spLbes K) := by
  refine F.ok sc_lbes (fun vs H Q E h => ?_) (fun cdv A outer s H vs Q E hr h => ?_)
  · obtain ⟨_, _, _, _, _, _, _, _, _, _, rfl, _⟩ := h
    rfl
  · obtain ⟨l, t1, t2, p, rows, X1, X2, E1, E2, E3, rfl, hl, few, ht1, ht2, b1, b2, hp, hb, e3, st1, st2, q⟩ := h
    refine ⟨_, (pss_cons (ps_set (i := 4) sc_lbes.nd rfl (Or.inl rfl) (pe_cl c_both hr (pa_cons (pv 0) (pa_cons pe_str (pa_cons (pv 1) (pa_cons (pe_tup (pa_cons pe_int (pa_cons pe_int (pa_cons pe_int pa_nil)))) (pa_cons (pv 3) pa_nil)))))))
 (pss_one (ps_ret (pe_cl c_both hr (pa_cons (pv 0) (pa_cons pe_str (pa_cons (pv 2) (pa_cons (pv 4) (pa_cons (pv 3) pa_nil))))))))), ?_⟩
    refine ⟨_, rfl, _, rfl, (by show 3 ≤ sizeLine; decide), fun tf ntf => ?_⟩
    have s1 := same_upd (o := .tup (i3 FAR)) ntf
    refine ⟨_, rfl, l, t1, tf, "meet", p, rows, X1, FAR, E1, FAR, rfl, hl.same s1, by omega, sqT_same s1 ht1, SqT.of upd_same, b1, b62_far, hp, hb, st1, fun t3 H1 k1 hl1 ht3 => ?_⟩
    rw [e3] at ht3
    obtain ⟨us, hus, _⟩ := hl.same s1
    refine ⟨_, rfl, _, rfl, _, rfl, _, rfl, l, t2, t3, "join", p, _, X2, N3 p E3, E2, E3, rfl, hl1, by rw [List.length_append]; show rows.length + 1 < 20; omega, sqT_sb k1 hus (sqT_same s1 ht2), ht3, b2, N3_b62 hp (by omega), hp, hb, st2, fun t4 H2 k2 hl2 ht4 => ?_⟩
    rw [List.append_assoc] at hl2
    exact q t4 H2 ((sbut s1).trans (k1.trans k2)) hl2 ht4
-- part r85c
abbrev s_ldue : Stmt := top 54
theorem sc_ldue : FnScope ["_law_rule", "_law_a", "_law_b", "_law_char", "_law_rows", "_law_one", "_law_top", "_law_slanted", "_law_up", "_law_corner", "_law_line", "_law_across", "_law_height"] ["_law_rule", "_law_a", "_law_b", "_law_char"] (defScope s_ldue) := ⟨rfl, rfl, rfl, by decide +kernel, rfl, by decide +kernel, by decide +kernel⟩
theorem b62_i (a : Int) (h : a.natAbs < 2 ^ 62) : B62 (a, 0, 1) := ⟨h, show (0 : Int).natAbs < 2 ^ 62 by decide, show (1 : Int).natAbs < 2 ^ 62 by decide⟩
def DueC (p : Int) (word : Str) (vb : V) (a : Int) (xs : List Int) : Prop := (word = "opposite" ∧ xs = [a]) ∨ ∃ b, vb = .int b ∧ b.natAbs < 2 ^ 62 ∧ xs = [a, b] ∧ (word = "sum" ∨ word = "product" ∨ (word = "quotient" ∧ ¬ p ∣ b))
def spLdue (K : PySem.W.Frag) : Sp := fun vs H Q _ => ∃ (word : Str) (a p : Int) (vb : V) (xs : List Int), vs = [.str word, .int a, vb, .int p] ∧ Pr p ∧ p ≤ 2000 ∧ a.natAbs < 2 ^ 62 ∧ DueC p word vb a xs ∧ ∀ l H', Same H H' → H l = none → RowsL K H' l (drw p word xs) → Q (.ref l) H'
theorem ok_ldue {f : Addr} {fd : FuncData} (F : Fun K "_law_due" "_law_due" s_ldue f fd) (c_both : Cl P w K mg base CX0 2 "_law_both" (spLboth K)) (c_bes : Cl P w K mg base CX0 3 "_law_beside" (spLbes K)) : FnOk P w K mg base CX0 4 f fd ["_law_rule", "_law_a", "_law_b", "_law_char"] (spLdue K) := by
  refine F.ok sc_ldue (fun vs H Q E h => ?_) (fun cdv A outer s H vs Q E hr h => ?_)
  · obtain ⟨_, _, _, _, _, rfl, _⟩ := h
    rfl
  · obtain ⟨word, a, p, vb, xs, rfl, hp, hb, ba, due, q⟩ := h
    have o1 := one_nd hp
    have o2 := neg_nd hp
    have bA := b62_i a ba
    have p62 : p < 2 ^ 62 := by omega
    have bT : B62 TOP := ⟨by decide, by decide, by decide⟩
    have bO : B62 ONE3 := ⟨by decide, by decide, by decide⟩
    have bV : B62 ABV := ⟨by decide, by decide, by decide⟩
    have bX : B62 AXS := ⟨by decide, by decide, by decide⟩
    have bL : B62 LVL := ⟨by decide, by decide, by decide⟩
    have bU : B62 UPR := ⟨by decide, by decide, by decide⟩
    refine ⟨_, (pss_cons (ps_set (i := 4) sc_ldue.nd rfl (Or.inl rfl) (pe_lst pa_nil))
 (pss_cons (ps_set (i := 5) sc_ldue.nd rfl (Or.inl rfl) (pe_tup (pa_cons (pv 1) (pa_cons pe_int (pa_cons pe_int pa_nil)))))
 (pss_cons (ps_set (i := 6) sc_ldue.nd rfl (Or.inl rfl) (pe_tup (pa_cons pe_int (pa_cons pe_int (pa_cons pe_int pa_nil)))))
 (Evl.pss_cut (ps_if (pt_cmpR op_eq (pv 0) pe_str (nomark _)) (pss_cons (ps_set (i := 7) sc_ldue.nd rfl (Or.inl rfl) (pe_cl c_both hr (pa_cons (pv 4) (pa_cons pe_str (pa_cons (pv 6) (pa_cons (pe_tup (pa_cons (pv 2) (pa_cons pe_int (pa_cons pe_int pa_nil)))) (pa_cons (pv 3) pa_nil)))))))
 (pss_cons (ps_set (i := 8) sc_ldue.nd rfl (Or.inl rfl) (pe_cl c_both hr (pa_cons (pv 4) (pa_cons pe_str (pa_cons (pv 5) (pa_cons (pe_tup (pa_cons pe_int (pa_cons pe_int (pa_cons pe_int pa_nil)))) (pa_cons (pv 3) pa_nil)))))))
 (pss_cons (ps_set (i := 9) sc_ldue.nd rfl (Or.inl rfl) (pe_cl c_both hr (pa_cons (pv 4) (pa_cons pe_str (pa_cons (pv 8) (pa_cons (pe_tup (pa_cons pe_int (pa_cons pe_int (pa_cons (pe_un un_neg pe_int) pa_nil)))) (pa_cons (pv 3) pa_nil)))))))
 (pss_one (ps_set (i := 10) sc_ldue.nd rfl (Or.inl rfl) (pe_cl c_bes hr (pa_cons (pv 4) (pa_cons (pv 7) (pa_cons (pv 9) (pa_cons (pv 3) pa_nil)))))))))) (pss_one (ps_if (pt_cmpR op_eq (pv 0) pe_str (nomark _)) (pss_cons (ps_set (i := 8) sc_ldue.nd rfl (Or.inl rfl) (pe_cl c_both hr (pa_cons (pv 4) (pa_cons pe_str (pa_cons (pv 5) (pa_cons (pe_tup (pa_cons pe_int (pa_cons pe_int (pa_cons pe_int pa_nil)))) (pa_cons (pv 3) pa_nil)))))))
 (pss_cons (ps_set (i := 9) sc_ldue.nd rfl (Or.inl rfl) (pe_cl c_both hr (pa_cons (pv 4) (pa_cons pe_str (pa_cons (pv 8) (pa_cons (pe_tup (pa_cons pe_int (pa_cons pe_int (pa_cons (pe_un un_neg pe_int) pa_nil)))) (pa_cons (pv 3) pa_nil)))))))
 (pss_one (ps_set (i := 10) sc_ldue.nd rfl (Or.inl rfl) (pe_cl c_bes hr (pa_cons (pv 4) (pa_cons (pe_cl c_both hr (pa_cons (pv 4) (pa_cons pe_str (pa_cons (pv 9) (pa_cons (pe_tup (pa_cons pe_int (pa_cons pe_int (pa_cons pe_int pa_nil)))) (pa_cons (pv 3) pa_nil)))))) (pa_cons (pv 6) (pa_cons (pv 3) pa_nil))))))))) (pss_cons (ps_set (i := 7) sc_ldue.nd rfl (Or.inl rfl) (pe_cl c_both hr (pa_cons (pv 4) (pa_cons pe_str (pa_cons (pe_tup (pa_cons pe_int (pa_cons pe_int (pa_cons pe_int pa_nil)))) (pa_cons (pv 6) (pa_cons (pv 3) pa_nil)))))))
 (pss_cons (ps_set (i := 11) sc_ldue.nd rfl (Or.inl rfl) (pe_cl c_bes hr (pa_cons (pv 4) (pa_cons (pv 7) (pa_cons (pe_tup (pa_cons (pv 2) (pa_cons pe_int (pa_cons pe_int pa_nil)))) (pa_cons (pv 3) pa_nil))))))
 (pss_cons (ps_set (i := 12) sc_ldue.nd rfl (Or.inl rfl) (pe_cl c_both hr (pa_cons (pv 4) (pa_cons pe_str (pa_cons (pv 11) (pa_cons (pe_tup (pa_cons pe_int (pa_cons pe_int (pa_cons pe_int pa_nil)))) (pa_cons (pv 3) pa_nil)))))))
 (pss_one (ps_if (pt_cmpR op_eq (pv 0) pe_str (nomark _)) (pss_one (ps_set (i := 10) sc_ldue.nd rfl (Or.inl rfl) (pe_cl c_bes hr (pa_cons (pv 4) (pa_cons (pe_cl c_both hr (pa_cons (pv 4) (pa_cons pe_str (pa_cons (pv 6) (pa_cons (pv 5) (pa_cons (pv 3) pa_nil)))))) (pa_cons (pv 12) (pa_cons (pv 3) pa_nil))))))) (pss_one (ps_set (i := 10) sc_ldue.nd rfl (Or.inl rfl) (pe_cl c_bes hr (pa_cons (pv 4) (pa_cons (pe_cl c_both hr (pa_cons (pv 4) (pa_cons pe_str (pa_cons (pv 12) (pa_cons (pv 5) (pa_cons (pv 3) pa_nil)))))) (pa_cons (pv 6) (pa_cons (pv 3) pa_nil)))))))))))))))
 (pss_cons (ps_expr (pe_cl c_both hr (pa_cons (pv 4) (pa_cons pe_str (pa_cons (pv 10) (pa_cons (pe_tup (pa_cons pe_int (pa_cons pe_int (pa_cons pe_int pa_nil)))) (pa_cons (pv 3) pa_nil)))))))
 (pss_one (ps_ret (pv 4)))))))), ?_⟩
    refine ⟨(by show 0 ≤ sizeLine; decide), fun l nl => ?_⟩
    have s1 := same_upd (o := .lst []) nl
    have hl0 : RowsL K (upd H l (.lst [])) l [] := ⟨[], upd_same, AllS.nil⟩
    refine ⟨_, rfl, (by show 3 ≤ sizeLine; decide), fun tA ntA => ?_⟩
    have s2 := s1.trans (same_upd (o := .tup (i3 (a, 0, 1))) ntA)
    have hl2 := hl0.same (same_upd (o := .tup (i3 (a, 0, 1))) ntA)
    refine ⟨(by show 3 ≤ sizeLine; decide), fun tT ntT => ?_⟩
    have gT := same_upd (o := .tup (i3 TOP)) ntT
    have s3 := s2.trans gT
    have hl := hl2.same gT
    have hA : SqT K (upd (upd (upd H l (.lst [])) tA (.tup (i3 (a, 0, 1)))) tT (.tup (i3 TOP))) tA (i3 (a, 0, 1)) := SqT.of (gT _ _ upd_same)
    have hT : SqT K (upd (upd (upd H l (.lst [])) tA (.tup (i3 (a, 0, 1)))) tT (.tup (i3 TOP))) tT (i3 TOP) := SqT.of upd_same
    refine ⟨fun σ G => SameBut l H G ∧ ∃ (pre : List Row4) (EL : T3) (tl : Addr), pre.length < 20 ∧ drw p word xs = pre ++ [rowO p "meet" EL AXS] ∧ RowsL K G l pre ∧ SqT K G tl (i3 (N3 p EL)) ∧ NZ p EL ∧ NZ p (crs EL AXS) ∧ ∃ y7 y8 y9 y11 y12, σ = [some (.str word), some (.int a), some vb, some (.int p), some (.ref l), some (.ref tA), some (.ref tT), y7, y8, y9, some (.ref tl), y11, y12], ?_, ?_⟩
    · have kk0 : SameBut l H (upd (upd (upd H l (.lst [])) tA (.tup (i3 (a, 0, 1)))) tT (.tup (i3 TOP))) := sbut s3
      refine ⟨_, rfl, rfl, _, rfl, ?_⟩
      rw [str_eq]
      rcases due with ⟨ew, exs⟩ | ⟨b, rfl, bb, exs, ew⟩
      · have c1 : ¬ word = "sum" := by rw [ew]; decide
        refine if_neg_of (decide_eq_false c1) ?_
        refine ⟨_, rfl, rfl, _, rfl, ?_⟩
        rw [str_eq]
        refine if_pos_of (decide_eq_true ew) ?_
        have n2 : NZ p (-1, 0, a) := nz1 o2
        have n3 : NZ p (-a, -1, -1) := nz2 o2
        have m4 : NZ p (-1, a, 0) := nz1 o2
        have m5 : NZ p (a, 1, 0) := nz2 o1
        have m6 : NZ p (-1, a, -a) := nz1 o2
        refine ⟨_, rfl, _, rfl, (by show 3 ≤ sizeLine; decide), fun t1 nt1 => ?_⟩
        have g1 := same_upd (o := .tup (i3 ABV)) nt1
        have hl1 := hl.same g1
        have kk1 := kk0.trans (sbut g1)
        have h1_tA := sqT_same g1 hA
        have h1_tT := sqT_same g1 hT
        have h1_t1 : SqT K (upd (upd (upd (upd H l (.lst [])) tA (.tup (i3 (a, 0, 1)))) tT (.tup (i3 TOP))) t1 (.tup (i3 ABV))) t1 (i3 ABV) := SqT.of upd_same
        refine ⟨_, rfl, l, tA, t1, "join", p, _, (a, 0, 1), ABV, (a, 0, 1), ABV, rfl, hl1, by simp [uprR], h1_tA, h1_t1, bA, bV, hp, hb, (stp_ (eqv_refl hp _) (eqv_refl hp _) (nz3 o1) (nz2 o1) (cs2 a) n2), fun t2 G2 k2 hl2 ht2 => ?_⟩
        rw [cs2] at ht2
        obtain ⟨us2, hus2, _⟩ := hl1
        have h2_tA := sqT_sb k2 hus2 h1_tA
        have h2_tT := sqT_sb k2 hus2 h1_tT
        have h2_t1 := sqT_sb k2 hus2 h1_t1
        have kk2 := kk1.trans k2
        refine ⟨_, rfl, _, rfl, _, rfl, (by show 3 ≤ sizeLine; decide), fun t3 nt3 => ?_⟩
        have g3 := same_upd (o := .tup (i3 LVL)) nt3
        have hl3 := hl2.same g3
        have kk3 := kk2.trans (sbut g3)
        have h3_tA := sqT_same g3 h2_tA
        have h3_tT := sqT_same g3 h2_tT
        have h3_t1 := sqT_same g3 h2_t1
        have h3_t2 := sqT_same g3 ht2
        have h3_t3 : SqT K (upd G2 t3 (.tup (i3 LVL))) t3 (i3 LVL) := SqT.of upd_same
        refine ⟨_, rfl, l, t2, t3, "meet", p, _, (N3 p (-1, 0, a)), LVL, (-1, 0, a), LVL, rfl, hl3, by simp [uprR], h3_t2, h3_t3, (N3_b62 hp p62), bL, hp, hb, (stp_ (N3_eqv hp n2).2 (eqv_refl hp _) n2 (nz2 o1) (cs3 a) n3), fun t4 G4 k4 hl4 ht4 => ?_⟩
        rw [cs3] at ht4
        obtain ⟨us4, hus4, _⟩ := hl3
        have h4_tA := sqT_sb k4 hus4 h3_tA
        have h4_tT := sqT_sb k4 hus4 h3_tT
        have h4_t1 := sqT_sb k4 hus4 h3_t1
        have h4_t2 := sqT_sb k4 hus4 h3_t2
        have h4_t3 := sqT_sb k4 hus4 h3_t3
        have kk4 := kk3.trans k4
        refine ⟨_, rfl, _, rfl, _, rfl, (by show 3 ≤ sizeLine; decide), fun t5 nt5 => ?_⟩
        have g5 := same_upd (o := .tup (i3 ZRO)) nt5
        have hl5 := hl4.same g5
        have kk5 := kk4.trans (sbut g5)
        have h5_tA := sqT_same g5 h4_tA
        have h5_tT := sqT_same g5 h4_tT
        have h5_t1 := sqT_same g5 h4_t1
        have h5_t2 := sqT_same g5 h4_t2
        have h5_t3 := sqT_same g5 h4_t3
        have h5_t4 := sqT_same g5 ht4
        have h5_t5 : SqT K (upd G4 t5 (.tup (i3 ZRO))) t5 (i3 ZRO) := SqT.of upd_same
        refine ⟨_, rfl, l, t4, t5, "join", p, _, (N3 p (-a, -1, -1)), ZRO, (-a, -1, -1), ZRO, rfl, hl5, by simp [uprR], h5_t4, h5_t5, (N3_b62 hp p62), b62_far, hp, hb, (stp_ (N3_eqv hp n3).2 (eqv_refl hp _) n3 (nz3 o1) (co3 a) m4), fun t6 G6 k6 hl6 ht6 => ?_⟩
        rw [co3] at ht6
        obtain ⟨us6, hus6, _⟩ := hl5
        have h6_tA := sqT_sb k6 hus6 h5_tA
        have h6_tT := sqT_sb k6 hus6 h5_tT
        have h6_t1 := sqT_sb k6 hus6 h5_t1
        have h6_t2 := sqT_sb k6 hus6 h5_t2
        have h6_t3 := sqT_sb k6 hus6 h5_t3
        have h6_t4 := sqT_sb k6 hus6 h5_t4
        have h6_t5 := sqT_sb k6 hus6 h5_t5
        have kk6 := kk5.trans k6
        refine ⟨_, rfl, _, rfl, l, t6, tT, p, _, (N3 p (-1, a, 0)), TOP, (-1, a, 0), TOP, (a, 1, 0), rfl, hl6, by simp [uprR], ht6, h6_tT, (N3_b62 hp p62), bT, hp, hb, (co4 a), (stp_ (N3_eqv hp m4).2 (eqv_refl hp _) m4 (nz3 o1) (co4 a) m5), (stp_ (eqv_refl hp _) (N3_eqv hp m5).2 (nz2 o1) m5 (co5 a) m6), fun t7 G7 k7 hl7 ht7 => ?_⟩
        rw [co5] at ht7
        obtain ⟨us7, hus7, _⟩ := hl6
        have h7_tA := sqT_sb k7 hus7 h6_tA
        have h7_tT := sqT_sb k7 hus7 h6_tT
        have h7_t1 := sqT_sb k7 hus7 h6_t1
        have h7_t2 := sqT_sb k7 hus7 h6_t2
        have h7_t3 := sqT_sb k7 hus7 h6_t3
        have h7_t4 := sqT_sb k7 hus7 h6_t4
        have h7_t5 := sqT_sb k7 hus7 h6_t5
        have h7_t6 := sqT_sb k7 hus7 ht6
        have kk7 := kk6.trans k7
        exact ⟨kk7, _, (-1, a, -a), t7, by simp [uprR], (by rw [exs]; rfl), hl7, ht7, m6, (by rw [co6]; exact nz3 o2), _, _, _, _, _, rfl⟩
      · have bB := b62_i b bb
        by_cases c1 : word = "sum"
        · refine if_pos_of (decide_eq_true c1) ?_
          have n1 : NZ p (1, b, -b) := nz1 o1
          have n2 : NZ p (-1, 0, a) := nz1 o2
          have n3 : NZ p (-a, -1, -1) := nz2 o2
          have n4 : NZ p (b, -1, 0) := nz2 o2
          have n5 : NZ p (-1, -b, a + b) := nz1 o2
          refine ⟨_, rfl, _, rfl, _, rfl, (by show 3 ≤ sizeLine; decide), fun t1 nt1 => ?_⟩
          have g1 := same_upd (o := .tup (i3 (b, 0, 1))) nt1
          have hl1 := hl.same g1
          have kk1 := kk0.trans (sbut g1)
          have h1_tA := sqT_same g1 hA
          have h1_tT := sqT_same g1 hT
          have h1_t1 : SqT K (upd (upd (upd (upd H l (.lst [])) tA (.tup (i3 (a, 0, 1)))) tT (.tup (i3 TOP))) t1 (.tup (i3 (b, 0, 1)))) t1 (i3 (b, 0, 1)) := SqT.of upd_same
          refine ⟨_, rfl, l, tT, t1, "join", p, _, TOP, (b, 0, 1), TOP, (b, 0, 1), rfl, hl1, by simp [uprR], h1_tT, h1_t1, bT, bB, hp, hb, (stp_ (eqv_refl hp _) (eqv_refl hp _) (nz2 o1) (nz3 o1) (cs1 b) n1), fun t2 G2 k2 hl2 ht2 => ?_⟩
          rw [cs1] at ht2
          obtain ⟨us2, hus2, _⟩ := hl1
          have h2_tA := sqT_sb k2 hus2 h1_tA
          have h2_tT := sqT_sb k2 hus2 h1_tT
          have h2_t1 := sqT_sb k2 hus2 h1_t1
          have kk2 := kk1.trans k2
          refine ⟨_, rfl, _, rfl, (by show 3 ≤ sizeLine; decide), fun t3 nt3 => ?_⟩
          have g3 := same_upd (o := .tup (i3 ABV)) nt3
          have hl3 := hl2.same g3
          have kk3 := kk2.trans (sbut g3)
          have h3_tA := sqT_same g3 h2_tA
          have h3_tT := sqT_same g3 h2_tT
          have h3_t1 := sqT_same g3 h2_t1
          have h3_t2 := sqT_same g3 ht2
          have h3_t3 : SqT K (upd G2 t3 (.tup (i3 ABV))) t3 (i3 ABV) := SqT.of upd_same
          refine ⟨_, rfl, l, tA, t3, "join", p, _, (a, 0, 1), ABV, (a, 0, 1), ABV, rfl, hl3, by simp [uprR], h3_tA, h3_t3, bA, bV, hp, hb, (stp_ (eqv_refl hp _) (eqv_refl hp _) (nz3 o1) (nz2 o1) (cs2 a) n2), fun t4 G4 k4 hl4 ht4 => ?_⟩
          rw [cs2] at ht4
          obtain ⟨us4, hus4, _⟩ := hl3
          have h4_tA := sqT_sb k4 hus4 h3_tA
          have h4_tT := sqT_sb k4 hus4 h3_tT
          have h4_t1 := sqT_sb k4 hus4 h3_t1
          have h4_t2 := sqT_sb k4 hus4 h3_t2
          have h4_t3 := sqT_sb k4 hus4 h3_t3
          have kk4 := kk3.trans k4
          refine ⟨_, rfl, _, rfl, _, rfl, (by show 3 ≤ sizeLine; decide), fun t5 nt5 => ?_⟩
          have g5 := same_upd (o := .tup (i3 LVL)) nt5
          have hl5 := hl4.same g5
          have kk5 := kk4.trans (sbut g5)
          have h5_tA := sqT_same g5 h4_tA
          have h5_tT := sqT_same g5 h4_tT
          have h5_t1 := sqT_same g5 h4_t1
          have h5_t2 := sqT_same g5 h4_t2
          have h5_t3 := sqT_same g5 h4_t3
          have h5_t4 := sqT_same g5 ht4
          have h5_t5 : SqT K (upd G4 t5 (.tup (i3 LVL))) t5 (i3 LVL) := SqT.of upd_same
          refine ⟨_, rfl, l, t4, t5, "meet", p, _, (N3 p (-1, 0, a)), LVL, (-1, 0, a), LVL, rfl, hl5, by simp [uprR], h5_t4, h5_t5, (N3_b62 hp p62), bL, hp, hb, (stp_ (N3_eqv hp n2).2 (eqv_refl hp _) n2 (nz2 o1) (cs3 a) n3), fun t6 G6 k6 hl6 ht6 => ?_⟩
          rw [cs3] at ht6
          obtain ⟨us6, hus6, _⟩ := hl5
          have h6_tA := sqT_sb k6 hus6 h5_tA
          have h6_tT := sqT_sb k6 hus6 h5_tT
          have h6_t1 := sqT_sb k6 hus6 h5_t1
          have h6_t2 := sqT_sb k6 hus6 h5_t2
          have h6_t3 := sqT_sb k6 hus6 h5_t3
          have h6_t4 := sqT_sb k6 hus6 h5_t4
          have h6_t5 := sqT_sb k6 hus6 h5_t5
          have kk6 := kk5.trans k6
          refine ⟨_, rfl, _, rfl, _, rfl, _, rfl, l, t2, t6, p, _, (N3 p (1, b, -b)), (N3 p (-a, -1, -1)), (1, b, -b), (-a, -1, -1), (b, -1, 0), rfl, hl6, by simp [uprR], h6_t2, ht6, (N3_b62 hp p62), (N3_b62 hp p62), hp, hb, (cs4 b), (stp_ (N3_eqv hp n1).2 (eqv_refl hp _) n1 (nz3 o1) (cs4 b) n4), (stp_ (N3_eqv hp n3).2 (N3_eqv hp n4).2 n3 n4 (cs5 a b) n5), fun t7 G7 k7 hl7 ht7 => ?_⟩
          rw [cs5] at ht7
          obtain ⟨us7, hus7, _⟩ := hl6
          have h7_tA := sqT_sb k7 hus7 h6_tA
          have h7_tT := sqT_sb k7 hus7 h6_tT
          have h7_t1 := sqT_sb k7 hus7 h6_t1
          have h7_t2 := sqT_sb k7 hus7 h6_t2
          have h7_t3 := sqT_sb k7 hus7 h6_t3
          have h7_t4 := sqT_sb k7 hus7 h6_t4
          have h7_t5 := sqT_sb k7 hus7 h6_t5
          have h7_t6 := sqT_sb k7 hus7 ht6
          have kk7 := kk6.trans k7
          exact ⟨kk7, _, (-1, -b, a + b), t7, by simp [uprR], (by rw [exs]; exact (if_pos c1)), hl7, ht7, n5, (by rw [cs6]; exact nz3 o2), _, _, _, _, _, rfl⟩
        · refine if_neg_of (decide_eq_false c1) ?_
          have ew2 := ew.elim (fun h => absurd h c1) id
          have c2 : ¬ word = "opposite" := fun e => by rw [e] at ew2; rcases ew2 with h | ⟨h, _⟩ <;> exact absurd h (by decide)
          refine ⟨_, rfl, rfl, _, rfl, ?_⟩
          rw [str_eq]
          refine if_neg_of (decide_eq_false c2) ?_
          have u1 : NZ p (-1, -1, 1) := nz1 o2
          have u2 : NZ p (-1, 1, 0) := nz1 o2
          have u3 : NZ p (-1, -1, b) := nz1 o2
          have u4 : NZ p (0, b, 1) := nz3 o1
          refine ⟨_, rfl, (by show 3 ≤ sizeLine; decide), fun t1 nt1 => ?_⟩
          have g1 := same_upd (o := .tup (i3 ONE3)) nt1
          have hl1 := hl.same g1
          have kk1 := kk0.trans (sbut g1)
          have h1_tA := sqT_same g1 hA
          have h1_tT := sqT_same g1 hT
          have h1_t1 : SqT K (upd (upd (upd (upd H l (.lst [])) tA (.tup (i3 (a, 0, 1)))) tT (.tup (i3 TOP))) t1 (.tup (i3 ONE3))) t1 (i3 ONE3) := SqT.of upd_same
          refine ⟨_, rfl, _, rfl, l, t1, tT, "join", p, _, ONE3, TOP, ONE3, TOP, rfl, hl1, by simp [uprR], h1_t1, h1_tT, bO, bT, hp, hb, (stp_ (eqv_refl hp _) (eqv_refl hp _) (nz1 o1) (nz2 o1) cu1 u1), fun t2 G2 k2 hl2 ht2 => ?_⟩
          rw [cu1] at ht2
          obtain ⟨us2, hus2, _⟩ := hl1
          have h2_tA := sqT_sb k2 hus2 h1_tA
          have h2_tT := sqT_sb k2 hus2 h1_tT
          have h2_t1 := sqT_sb k2 hus2 h1_t1
          have kk2 := kk1.trans k2
          refine ⟨_, rfl, _, rfl, _, rfl, (by show 3 ≤ sizeLine; decide), fun t3 nt3 => ?_⟩
          have g3 := same_upd (o := .tup (i3 (b, 0, 1))) nt3
          have hl3 := hl2.same g3
          have kk3 := kk2.trans (sbut g3)
          have h3_tA := sqT_same g3 h2_tA
          have h3_tT := sqT_same g3 h2_tT
          have h3_t1 := sqT_same g3 h2_t1
          have h3_t2 := sqT_same g3 ht2
          have h3_t3 : SqT K (upd G2 t3 (.tup (i3 (b, 0, 1)))) t3 (i3 (b, 0, 1)) := SqT.of upd_same
          refine ⟨_, rfl, l, t2, t3, p, _, (N3 p (-1, -1, 1)), (b, 0, 1), (-1, -1, 1), (b, 0, 1), (-1, 1, 0), rfl, hl3, by simp [uprR], h3_t2, h3_t3, (N3_b62 hp p62), bB, hp, hb, cu2, (stp_ (N3_eqv hp u1).2 (eqv_refl hp _) u1 (nz3 o1) cu2 u2), (stp_ (eqv_refl hp _) (N3_eqv hp u2).2 (nz3 o1) u2 (cu3 b) u3), fun t4 G4 k4 hl4 ht4 => ?_⟩
          rw [cu3] at ht4
          obtain ⟨us4, hus4, _⟩ := hl3
          have h4_tA := sqT_sb k4 hus4 h3_tA
          have h4_tT := sqT_sb k4 hus4 h3_tT
          have h4_t1 := sqT_sb k4 hus4 h3_t1
          have h4_t2 := sqT_sb k4 hus4 h3_t2
          have h4_t3 := sqT_sb k4 hus4 h3_t3
          have kk4 := kk3.trans k4
          refine ⟨_, rfl, _, rfl, (by show 3 ≤ sizeLine; decide), fun t5 nt5 => ?_⟩
          have g5 := same_upd (o := .tup (i3 UPR)) nt5
          have hl5 := hl4.same g5
          have kk5 := kk4.trans (sbut g5)
          have h5_tA := sqT_same g5 h4_tA
          have h5_tT := sqT_same g5 h4_tT
          have h5_t1 := sqT_same g5 h4_t1
          have h5_t2 := sqT_same g5 h4_t2
          have h5_t3 := sqT_same g5 h4_t3
          have h5_t4 := sqT_same g5 ht4
          have h5_t5 : SqT K (upd G4 t5 (.tup (i3 UPR))) t5 (i3 UPR) := SqT.of upd_same
          refine ⟨_, rfl, l, t4, t5, "meet", p, _, (N3 p (-1, -1, b)), UPR, (-1, -1, b), UPR, rfl, hl5, by simp [uprR], h5_t4, h5_t5, (N3_b62 hp p62), bU, hp, hb, (stp_ (N3_eqv hp u3).2 (eqv_refl hp _) u3 (nz1 o1) (cu4 b) u4), fun t6 G6 k6 hl6 ht6 => ?_⟩
          rw [cu4] at ht6
          obtain ⟨us6, hus6, _⟩ := hl5
          have h6_tA := sqT_sb k6 hus6 h5_tA
          have h6_tT := sqT_sb k6 hus6 h5_tT
          have h6_t1 := sqT_sb k6 hus6 h5_t1
          have h6_t2 := sqT_sb k6 hus6 h5_t2
          have h6_t3 := sqT_sb k6 hus6 h5_t3
          have h6_t4 := sqT_sb k6 hus6 h5_t4
          have h6_t5 := sqT_sb k6 hus6 h5_t5
          have kk6 := kk5.trans k6
          refine ⟨_, rfl, rfl, _, rfl, ?_⟩
          rw [str_eq]
          by_cases c3 : word = "product"
          · refine if_pos_of (decide_eq_true c3) ?_
            have n1 : NZ p (1, a, -a) := nz1 o1
            have n2 : NZ p (a, -1, 0) := nz2 o2
            have n3 : NZ p (1, a, -(a * b)) := nz1 o1
            refine ⟨_, rfl, _, rfl, _, rfl, _, rfl, _, rfl, l, tT, tA, "join", p, _, TOP, (a, 0, 1), TOP, (a, 0, 1), rfl, hl6, by simp [uprR], h6_tT, h6_tA, bT, bA, hp, hb, (stp_ (eqv_refl hp _) (eqv_refl hp _) (nz2 o1) (nz3 o1) (cp1 a) n1), fun t7 G7 k7 hl7 ht7 => ?_⟩
            rw [cp1] at ht7
            obtain ⟨us7, hus7, _⟩ := hl6
            have h7_tA := sqT_sb k7 hus7 h6_tA
            have h7_tT := sqT_sb k7 hus7 h6_tT
            have h7_t1 := sqT_sb k7 hus7 h6_t1
            have h7_t2 := sqT_sb k7 hus7 h6_t2
            have h7_t3 := sqT_sb k7 hus7 h6_t3
            have h7_t4 := sqT_sb k7 hus7 h6_t4
            have h7_t5 := sqT_sb k7 hus7 h6_t5
            have h7_t6 := sqT_sb k7 hus7 ht6
            have kk7 := kk6.trans k7
            refine ⟨_, rfl, _, rfl, l, t7, t6, p, _, (N3 p (1, a, -a)), (N3 p (0, b, 1)), (1, a, -a), (0, b, 1), (a, -1, 0), rfl, hl7, by simp [uprR], ht7, h7_t6, (N3_b62 hp p62), (N3_b62 hp p62), hp, hb, (cp2 a), (stp_ (N3_eqv hp n1).2 (eqv_refl hp _) n1 (nz3 o1) (cp2 a) n2), (stp_ (N3_eqv hp u4).2 (N3_eqv hp n2).2 u4 n2 (cp3 a b) n3), fun t8 G8 k8 hl8 ht8 => ?_⟩
            rw [cp3] at ht8
            obtain ⟨us8, hus8, _⟩ := hl7
            have h8_tA := sqT_sb k8 hus8 h7_tA
            have h8_tT := sqT_sb k8 hus8 h7_tT
            have h8_t1 := sqT_sb k8 hus8 h7_t1
            have h8_t2 := sqT_sb k8 hus8 h7_t2
            have h8_t3 := sqT_sb k8 hus8 h7_t3
            have h8_t4 := sqT_sb k8 hus8 h7_t4
            have h8_t5 := sqT_sb k8 hus8 h7_t5
            have h8_t6 := sqT_sb k8 hus8 h7_t6
            have h8_t7 := sqT_sb k8 hus8 ht7
            have kk8 := kk7.trans k8
            exact ⟨kk8, _, (1, a, -(a * b)), t8, by simp [uprR], (by rw [exs]; exact (if_neg c1).trans (if_pos c3)), hl8, ht8, n3, (by rw [cp4]; exact nz3 o1), _, _, _, _, _, rfl⟩
          · refine if_neg_of (decide_eq_false c3) ?_
            obtain ⟨_, nb⟩ := ew2.elim (fun h => absurd h c3) id
            have n1 : NZ p (b, a, -(a * b)) := nz1 nb
            have n2 : NZ p (a, -b, 0) := nz2 (fun d => nb (Int.dvd_neg.mp d))
            have n3 : NZ p (b, a, -a) := nz1 nb
            refine ⟨_, rfl, _, rfl, _, rfl, _, rfl, _, rfl, l, t6, tA, "join", p, _, (N3 p (0, b, 1)), (a, 0, 1), (0, b, 1), (a, 0, 1), rfl, hl6, by simp [uprR], ht6, h6_tA, (N3_b62 hp p62), bA, hp, hb, (stp_ (N3_eqv hp u4).2 (eqv_refl hp _) u4 (nz3 o1) (cq1 a b) n1), fun t7 G7 k7 hl7 ht7 => ?_⟩
            rw [cq1] at ht7
            obtain ⟨us7, hus7, _⟩ := hl6
            have h7_tA := sqT_sb k7 hus7 h6_tA
            have h7_tT := sqT_sb k7 hus7 h6_tT
            have h7_t1 := sqT_sb k7 hus7 h6_t1
            have h7_t2 := sqT_sb k7 hus7 h6_t2
            have h7_t3 := sqT_sb k7 hus7 h6_t3
            have h7_t4 := sqT_sb k7 hus7 h6_t4
            have h7_t5 := sqT_sb k7 hus7 h6_t5
            have h7_t6 := sqT_sb k7 hus7 ht6
            have kk7 := kk6.trans k7
            refine ⟨_, rfl, _, rfl, l, t7, tT, p, _, (N3 p (b, a, -(a * b))), TOP, (b, a, -(a * b)), TOP, (a, -b, 0), rfl, hl7, by simp [uprR], ht7, h7_tT, (N3_b62 hp p62), bT, hp, hb, (cq2 a b), (stp_ (N3_eqv hp n1).2 (eqv_refl hp _) n1 (nz3 o1) (cq2 a b) n2), (stp_ (eqv_refl hp _) (N3_eqv hp n2).2 (nz2 o1) n2 (cq3 a b) n3), fun t8 G8 k8 hl8 ht8 => ?_⟩
            rw [cq3] at ht8
            obtain ⟨us8, hus8, _⟩ := hl7
            have h8_tA := sqT_sb k8 hus8 h7_tA
            have h8_tT := sqT_sb k8 hus8 h7_tT
            have h8_t1 := sqT_sb k8 hus8 h7_t1
            have h8_t2 := sqT_sb k8 hus8 h7_t2
            have h8_t3 := sqT_sb k8 hus8 h7_t3
            have h8_t4 := sqT_sb k8 hus8 h7_t4
            have h8_t5 := sqT_sb k8 hus8 h7_t5
            have h8_t6 := sqT_sb k8 hus8 h7_t6
            have h8_t7 := sqT_sb k8 hus8 ht7
            have kk8 := kk7.trans k8
            exact ⟨kk8, _, (b, a, -a), t8, by simp [uprR], (by rw [exs]; exact (if_neg c1).trans (if_neg c3)), hl8, ht8, n3, (by rw [cq4]; exact nz3 nb), _, _, _, _, _, rfl⟩
    · rintro σ G ⟨kG, pre, EL, tl, few, et, hlG, htl, nz, nzc, y7, y8, y9, y11, y12, rfl⟩
      refine ⟨_, rfl, _, rfl, (by show 3 ≤ sizeLine; decide), fun tx ntx => ?_⟩
      have gx := same_upd (o := .tup (i3 AXS)) ntx
      refine ⟨_, rfl, l, tl, tx, "meet", p, pre, N3 p EL, AXS, EL, AXS, rfl, hlG.same gx, few, sqT_same gx htl, SqT.of upd_same, N3_b62 hp p62, bX, hp, hb, ⟨(N3_eqv hp nz).2, eqv_refl hp _, nz, nz2 o1, nzc⟩, fun t G2 k2 hl2 _ => ?_⟩
      rw [← et] at hl2
      exact ⟨_, rfl, q l G2 (fun b o hb => k2 b o (fun e => by rw [e, nl] at hb; cases hb) (gx _ _ (kG b o (fun e => by rw [e, nl] at hb; cases hb) hb))) nl hl2⟩
-- part tryas
/-! try .. except A as n: .. except B as m: .. (exceptions whose context is None) -/
/-- the suite's wish, its name's place filled before and emptied behind -/
def gone (i : Nat) (ts : Addr → Value → Option Addr → TS) : Addr → Value → Option Addr → TS := fun a cls d D σ H =>
  ts a cls d { nx := fun τ G => D.nx (τ.set i none) G, rt := D.rt, bk := fun τ G => D.bk (τ.set i none) G, ct := fun τ G => D.ct (τ.set i none) G } (σ.set i (some (.ref a))) H
abbrev Clauses := List (Value × (Addr → Value → Option Addr → TS))
inductive HAs (X : Cx) : List ExceptHandler → Clauses → Prop
  | none : HAs X [] []
  | more {x n : Str} {i : Nat} {c : Value} {ts : Addr → Value → Option Addr → TS} {b0 : Stmt} {bs : List Stmt} {q1 q2 : Pos} {rest : List ExceptHandler} {l : Clauses}
      (place : X.N[i]? = some n) (isLocal : X.env.kindOf n = some .local) (named : Names X x c)
      (su : ∀ (a : Addr) (oe : Obj) (cls : Value) (d : Option Addr) (pn : List (Addr × Obj)), L2N.Zn cls d oe → (∃ vs, oe.data = .fields vs) → PSs (X.suite a ((a, oe) :: pn)) (b0 :: bs) (ts a cls d)) (others : HAs X rest l) :
      HAs X (.ExceptHandler (some (.Name x q1)) (some n) (b0 :: bs) q2 :: rest) ((c, gone i ts) :: l)
  | plain {x : Str} {c : Value} {ts : Addr → Value → Option Addr → TS} {b0 : Stmt} {bs : List Stmt} {q1 q2 : Pos} {rest : List ExceptHandler} {l : Clauses}
      (named : Names X x c)
      (su : ∀ (a : Addr) (oe : Obj) (cls : Value) (d : Option Addr) (pn : List (Addr × Obj)), L2N.Zn cls d oe → (∃ vs, oe.data = .fields vs) → PSs (X.suite a ((a, oe) :: pn)) (b0 :: bs) (ts a cls d)) (others : HAs X rest l) :
      HAs X (.ExceptHandler (some (.Name x q1)) none (b0 :: bs) q2 :: rest) ((c, ts) :: l)
section
variable {X : Cx} {pins : List (Addr × Obj)} {D : Ends}
/-- the suite is over: the name is emptied -/
theorem suite_over {a : Addr} {oe : Obj} {i : Nat} {n : Str} {q : Pos} {τ : L2.St} {G : Hp} {t : Shared} {R : Shared → Prop} (ok : X.Ok) (J : Inv (X.suite a ((a, oe) :: (X.pn ++ pins))) [] τ G t) (nd : X.N.Nodup) (place : X.N[i]? = some n) (isLocal : X.env.kindOf n = some .local)
    (k : ∀ t', Inv X pins (τ.set i none) G t' → R t') : wpAny (model X.prog X.w) X.A (do bindName X.env n .none; unbindBehindTheSuite X.env n q) (fun _ t' => R t') X.xe t :=
  gone_ok (J.unsuite ok) nd place isLocal k
end
section
variable {X : Cx} {body : List Stmt} {first : ExceptHandler} {others : List ExceptHandler} {l : Clauses} {pos : Pos} {tb : WX → TS} {Wout : WX}
theorem ps_try_ms (stk : X.stack = X.env :: X.outer) (frm : X.env.frame = some X.env.locals) (nd : X.N.Nodup) (out : L2N.Takes X Wout)
    (bodies : ∀ (W : WX) (pn : List (Addr × Obj)) (xe : Value → Shared → Prop), L2N.Takes (X.tr pn xe) W → PassesOwn (model X.prog X.w) X.A X.env xe → PSs (X.tr pn xe) body (tb W))
    (cl : HAs X (first :: others) l) : PS X (.Try body (first :: others) [] [] pos) (fun D σ H => tb (wMany X.K Wout D l) D σ H) := by
  refine ⟨fun pins s σ H D I h => wpAny_Try_except ?_⟩
  have fits := I.ok
  have frames : X.A.frames = some (X.env :: X.outer) := by
    rw [fits.frames, stk]
  refine wpAny_mono ((bodies (wMany X.K Wout D l) (X.pn ++ pins) _ (fun u t flying => ?_) PassesOwn.looking).run [] s σ H D (I.toTry _) h) (fun f t went => ?_) (fun _ _ z => z)
  · -- it is caught here, or by none
    obtain ⟨a, B, t0, pins0, τ, G, cls, d, rfl, J0, old, up0, air, fresh, oss, bare, wish⟩ := flying
    have J : Inv X pins τ G t0 := J0.ofTry fits
    have air1 : Sky B (X.env :: X.outer) a (L2N.Zn cls d) X.env.locals t.heap := by
      rw [← stk]
      exact air
    show wpAny (model X.prog X.w) X.A (noteFrame (.ref a) X.env) _ _ _
    refine L2N.Sky.land L2N.Zn.steady frames frm air1 fun g held up1 => ?_
    have J1 : Inv X pins τ G { t with heap := g } := J.landed old held.1 (up0.trans up1) oss bare
    obtain ⟨o1, v1, at1, zn1, da1⟩ := held.there
    have apart : a ∉ frs (X.env :: X.outer) := fun hm => by
      obtain ⟨_, o2, e2, no⟩ := held.2.2.1.mem hm
      rw [at1] at e2
      cases e2
      exact no _ da1
    have notL : a ≠ X.env.locals := fun z => apart (List.mem_filterMap.mpr ⟨X.env, List.mem_cons_self, by rw [frm, z]⟩)
    have notF : a ∉ X.fs := fun hm => by
      obtain ⟨e, he, q⟩ := List.mem_filterMap.mp hm
      exact apart (List.mem_filterMap.mpr ⟨e, List.mem_cons_of_mem _ he, q⟩)
    have S1 := J1.suite at1 da1 fresh notL notF
    have go : ∀ {hs : List ExceptHandler} {ws : Clauses}, HAs X hs ws → wMany X.K Wout D ws cls d τ G → wpAny (model X.prog X.w) X.A (handleBy (.ref a) X.env hs) (SP X pins D) X.xe { t with heap := g } := by
      intro hs ws hk
      induction hk with
      | none =>
        intro wish
        refine wpAny_handleBy_nil ?_
        obtain ⟨_, _, _, o2, v2, T, oT, tv, e2, _, d2, one, _⟩ := id held
        unfold PySem.passOn
        refine wpAny_bind (wpAny_field e2 d2 one ?_)
        rw [if_neg (show ¬ ((Value.ref T == Value.none) = true) by simp)]
        have on : wpAny (model X.prog X.w) X.A (setFlight (.ref a) X.env.frame) (fun _ t4 => wpAny (model X.prog X.w) X.A (throw (.ref a) : Sem Flow) (SP X pins D) X.xe t4) X.xe { t with heap := g } := by
          rw [frm]
          exact HandSPX.setFlight_upZ held fun g4 fl4 up4 => wpAny_throw (out _ _ ⟨a, B, t0, pins, τ, G, cls, d, rfl, J, old, (up0.trans up1).trans up4, .inr (.inr (by rw [stk]; exact fl4)), fresh, oss, bare, wish⟩)
        first
          | exact wpAny_bind (wpAny_pure (wpAny_bind on))
          | exact wpAny_bind on
      | @more x n i c ts b0 bs q1 q2 rest l2 place isLocal named su more ih =>
        intro wish
        obtain ⟨b, says, yes, no⟩ := wish
        refine wpAny_handleBy_cons (codeAny_handlers_test ?_) (fun z => nomatch z)
        have kind : PySem.W.Looks (model X.prog X.w) g (typeOf (.ref a)) cls := fun _ _ _ _ keep q => wpAny_typeOf_ref (keep _ _ at1) (by rw [zn1.1]; exact q)
        have asks := PySem.W.exm_one (M := model X.prog X.w) J1.kIn kind says
        have read : ∀ {Q R : Value → Shared → Prop}, Q c { t with heap := g } → wpAny (model X.prog X.w) (X.A.mark (some (.ref a))) (eval (.Name x q1) X.env) Q R { t with heap := g } := fun {Q R} q => by
          obtain ⟨gl, db, own | ⟨m0, bv, nn⟩⟩ := named
          · exact ld_glob (X := X.suite a ((a, o1) :: (X.pn ++ pins))) S1 gl own q db
          · exact ld_blt (X := X.suite a ((a, o1) :: (X.pn ++ pins))) S1 gl m0 bv q nn db
        refine read (asks.here ?_)
        cases b with
        | false => exact ih (no rfl)
        | true =>
          refine codeAny_handlers_suite_as (HandSPX.lands_againZ held fun g4 held4 up4 => ?_)
          have J4 : Inv X pins τ G { t with heap := g4 } := J.landed old held4.1 ((up0.trans up1).trans up4) oss bare
          obtain ⟨o4, v4, at4, zn4, da4⟩ := held4.there
          refine store_ok (X := X.suite a ((a, o4) :: (X.pn ++ pins))) (v := .ref a) (J4.suite at4 da4 fresh notL notF) nd place (.inl isLocal) rfl (fun t5 S5 => ?_) (.inr isLocal)
          refine wpAny_mono ((su a o4 cls d (X.pn ++ pins) zn4 ⟨_, da4⟩).run [] t5 _ G _ S5 (yes rfl a fresh)) (fun f t6 went => ?_) (fun _ _ z => False.elim z)
          cases f with
          | ret u =>
            obtain ⟨v6, τ6, G6, S6, r6, q6⟩ := went
            exact suite_over (pins := pins) fits S6 nd place isLocal fun t7 J7 => ⟨_, _, _, J7, r6, q6⟩
          | next =>
            obtain ⟨τ6, G6, S6, q6⟩ := went
            exact suite_over (pins := pins) fits S6 nd place isLocal fun t7 J7 => ⟨_, _, J7, q6⟩
          | brk =>
            obtain ⟨τ6, G6, S6, q6⟩ := went
            exact suite_over (pins := pins) fits S6 nd place isLocal fun t7 J7 => ⟨_, _, J7, q6⟩
          | cont =>
            obtain ⟨τ6, G6, S6, q6⟩ := went
            exact suite_over (pins := pins) fits S6 nd place isLocal fun t7 J7 => ⟨_, _, J7, q6⟩
      | @plain x c ts b0 bs q1 q2 rest l2 named su more ih =>
        intro wish
        obtain ⟨b, says, yes, no⟩ := wish
        refine wpAny_handleBy_cons (codeAny_handlers_test ?_) (fun z => nomatch z)
        have kind : PySem.W.Looks (model X.prog X.w) g (typeOf (.ref a)) cls := fun _ _ _ _ keep q => wpAny_typeOf_ref (keep _ _ at1) (by rw [zn1.1]; exact q)
        have asks := PySem.W.exm_one (M := model X.prog X.w) J1.kIn kind says
        have read : ∀ {Q R : Value → Shared → Prop}, Q c { t with heap := g } → wpAny (model X.prog X.w) (X.A.mark (some (.ref a))) (eval (.Name x q1) X.env) Q R { t with heap := g } := fun {Q R} q => by
          obtain ⟨gl, db, own | ⟨m0, bv, nn⟩⟩ := named
          · exact ld_glob (X := X.suite a ((a, o1) :: (X.pn ++ pins))) S1 gl own q db
          · exact ld_blt (X := X.suite a ((a, o1) :: (X.pn ++ pins))) S1 gl m0 bv q nn db
        refine read (asks.here ?_)
        cases b with
        | false => exact ih (no rfl)
        | true =>
          refine codeAny_handlers_suite (HandSPX.lands_againZ held fun g4 held4 up4 => ?_)
          have J4 : Inv X pins τ G { t with heap := g4 } := J.landed old held4.1 ((up0.trans up1).trans up4) oss bare
          obtain ⟨o4, v4, at4, zn4, da4⟩ := held4.there
          refine wpAny_mono ((su a o4 cls d (X.pn ++ pins) zn4 ⟨_, da4⟩).run [] _ _ G _ (J4.suite at4 da4 fresh notL notF) (yes rfl a fresh)) (fun f t6 went => ?_) (fun _ _ z => False.elim z)
          cases f with
          | ret u =>
            obtain ⟨v6, τ6, G6, S6, r6, q6⟩ := went
            exact ⟨_, _, _, S6.unsuite fits, r6, q6⟩
          | next =>
            obtain ⟨τ6, G6, S6, q6⟩ := went
            exact ⟨_, _, S6.unsuite fits, q6⟩
          | brk =>
            obtain ⟨τ6, G6, S6, q6⟩ := went
            exact ⟨_, _, S6.unsuite fits, q6⟩
          | cont =>
            obtain ⟨τ6, G6, S6, q6⟩ := went
            exact ⟨_, _, S6.unsuite fits, q6⟩
    exact go cl wish
  · cases f with
    | ret u =>
      obtain ⟨v, τ, G, J, r, q⟩ := went
      exact ⟨v, τ, G, J.ofTry fits, r, q⟩
    | next =>
      obtain ⟨τ, G, J, q⟩ := went
      exact wpAny_execs_nil ⟨τ, G, J.ofTry fits, q⟩
    | brk =>
      obtain ⟨τ, G, J, q⟩ := went
      exact ⟨τ, G, J.ofTry fits, q⟩
    | cont =>
      obtain ⟨τ, G, J, q⟩ := went
      exact ⟨τ, G, J.ofTry fits, q⟩
end
-- part lctok
/-! a list comprehension whose element wants a token that is out: [x.replace(..) for x in ..] -/
section
variable {X : Cx}
theorem with_tok {α : Type} {M : Model} {A : Around} {t : Sem α} {P : α → Shared → Prop} {Q : α → Shared → Prop} {E F : Value → Shared → Prop} {s : Shared} (h1 : 1 ≤ s.toks) (h : wpAny M A t P F s) (k : ∀ a s', P a s' → 1 ≤ s'.toks → Q a s') (f : ∀ e s', F e s' → E e s') : wpAny M A t Q E s :=
  PySem.wpAny_with_toks h1 (wpAny_mono h (fun a s' z => k a s' z) fun e s' z _ => f e s' z)
theorem lcT_core {pins : List (Addr × Obj)} {s0 : Shared} {σ : L2.St} {H : Hp} {Q : VK} {ex tg iter : Expr} {ifs : List Expr} {sco : Scope} {own : List (Str × Nat)} {pos pos' : Pos} {wi : TI} {g : TG} {tt : TT} {te : TE} {use : Option (Value → Sem Unit)} {Qf : Value → Shared → Prop}
    (tok0 : 1 ≤ s0.toks) (calm : X.calm = true) (nd : X.N.Nodup) (I : Inv X pins σ H s0) (walk : PI X tg iter wi) (blk : BlkOk X.N X.env.scope sco own)
    (pgs : ∀ (s : Shared) (H : Hp) (C : Addr) (cl : List (Str × Addr)) (fp : List Addr), PG (X.blk s H sco (compEnvC sco cl C X.env) fp) tg g) (pts : ∀ (s : Shared) (H : Hp) (C : Addr) (cl : List (Str × Addr)) (fp : List Addr), PTs (X.blk s H sco (compEnvC sco cl C X.env) fp) ifs tt)
    (pxs : ∀ (s : Shared) (H : Hp) (C : Addr) (cl : List (Str × Addr)) (fp : List Addr), PET (X.blk s H sco (compEnvC sco cl C X.env) fp) ex te) (fold : ∀ x, foldedSetIterable iter X.env x = pure x)
    (h : tLc wi g tt te (own.map (·.2)) σ H Q)
    (out : ∀ D C t m G, Inv X pins σ G t → Q (.ref D) G → t.heap.Ns C m → FpOk X pins G C → compPost (model X.prog X.w) X.A X.xe use Qf (.ref D) C (.ok .next) t) :
    wpAny (model X.prog X.w) X.A (comprehension (.ListComp ex [⟨tg, iter, ifs, 0⟩] sco pos) sco X.env pos' (newList []) false (eval iter X.env) use) Qf X.xe s0 := by
  have closed : ∀ y ∈ sco.names, y.2 = .free → ∃ c, X.env.cells.lookup y.1 = some c := fun y hy e => by
    rcases blk.free y hy e with k | k
    · exact I.ok.has _ (.inl k)
    · exact I.ok.has _ (.inr k)
  refine wpAny_comprehension_free (use := use) rfl fold (closure_ok closed) blk.kind (fun y hy e => by rw [blk.uniq y hy, e])
    (with_tok tok0 (walk.run pins s0 σ H _ I h) (fun xv s1 hx tok1 => with_tok tok1 hx (fun itv s2 made tok2 => ?_) fun _ _ z => z) fun _ _ z => z)
  obtain ⟨it, fp, tn, J, H2, e, I2, T, st2, f2, q⟩ := made
  subst e
  refine wpAny_newObj_type (newEnv_comp ?_) (by show 0 ≤ sizeLine; decide)
  generalize eD : s2.heap.objs.size = D
  have nD : H2 D = none := I2.hok.fresh (Nat.le_of_eq eD)
  obtain ⟨W, ⟨m0, w0⟩, turn⟩ := q D nD
  -- the list that is made
  generalize es3 : ({ s2 with heap := s2.heap.push { cls := .type "list", data := .seq ([] : List Value).toArray } } : Shared) = s3
  have tok3 : 1 ≤ s3.toks := by rw [← es3]; exact tok2
  have I3 : Inv X pins σ (upd H2 D (.lst [])) s3 := by
    rw [← es3]
    refine I2.laid (t' := s2.toks) (fun b o e => Heap.get?_push_of_some _ e) (Nat.le_of_eq eD) ⟨Nat.zero_le _, [], 0, .nil, ?_⟩
    rw [← eD]
    exact Heap.get?_push_size _ rfl
  have heap3 : s3.heap = s2.heap.push { cls := .type "list", data := .seq ([] : List Value).toArray } := by rw [← es3]
  have old : ∀ b ∈ fp, b < s2.heap.objs.size := fun b hb => by
    obtain ⟨o, e, _⟩ := T.obj _ _ st2 b hb
    exact Heap.lt_size e
  have f3 : ∀ b ∈ fp, FpOk X pins (upd H2 D (.lst [])) b ∧ b < s3.heap.objs.size := fun b hb => by
    have lt := old b hb
    refine ⟨⟨?_, (f2 b hb).2⟩, by rw [heap3, Heap.size_push]; exact Nat.lt_succ_of_lt lt⟩
    rw [upd_ne (by rw [← eD]; exact Nat.ne_of_lt lt)]
    exact (f2 b hb).1
  have st3 : tn 0 s3.heap := T.keep _ _ _ st2 fun b _ o e => by rw [heap3]; exact Heap.get?_push_of_some _ e
  have I4 := block_start I3 blk nd f3
  have pg := pgs s3 (upd H2 D (.lst [])) s3.heap.objs.size (cellsFrom (s3.heap.objs.size + 1) sco.names (cloFrom X.env.cells sco.names [])) fp
  have pt := pts s3 (upd H2 D (.lst [])) s3.heap.objs.size (cellsFrom (s3.heap.objs.size + 1) sco.names (cloFrom X.env.cells sco.names [])) fp
  have px := pxs s3 (upd H2 D (.lst [])) s3.heap.objs.size (cellsFrom (s3.heap.objs.size + 1) sco.names (cloFrom X.env.cells sco.names [])) fp
  show codeAny _ _ (.compStart (.ListComp ex [⟨tg, iter, ifs, 0⟩] sco pos) 0 (.ref it) (.ref D) (compEnvC sco (cellsFrom (s3.heap.objs.size + 1) sco.names (cloFrom X.env.cells sco.names [])) s3.heap.objs.size X.env)) (compPost (model X.prog X.w) X.A X.xe use Qf (.ref D) s3.heap.objs.size) { s3 with heap := pushCells (s3.heap.push { cls := .type "dict", data := .dict #[] }) sco.names }
  have none3 : ∀ b ∈ fp, (upd H2 D (.lst [])) b = none := fun b hb => (f3 b hb).1.1
  generalize ece : compEnvC sco (cellsFrom (s3.heap.objs.size + 1) sco.names (cloFrom X.env.cells sco.names [])) s3.heap.objs.size X.env = ce at I4 pg pt px ⊢
  have ceL : ce.locals = s3.heap.objs.size := by subst ece; rfl
  generalize eH3 : upd H2 D (.lst []) = H3 at I3 I4 pg pt px w0 none3 f3
  generalize es4 : ({ s3 with heap := pushCells (s3.heap.push { cls := .type "dict", data := .dict #[] }) sco.names } : Shared) = s4 at I4 ⊢
  have tok4 : 1 ≤ s4.toks := by rw [← es4]; exact tok3
  have st4 : tn 0 s4.heap := T.keep _ _ _ st3 fun b _ o e => by rw [← es4]; exact pushCells_keeps _ _ _ _ (Heap.get?_push_of_some _ e)
  have still : ∀ {τ : L2.St} {G : Hp} {t : Shared}, Inv (X.blk s3 H3 sco ce fp) [] τ G t → (∀ b ∈ fp, G b = none) → ∀ b ∈ fp, FpOk (X.blk s3 H3 sco ce fp) [] G b := fun {τ G t} J nn b hb =>
    ⟨nn b hb, (J.ok.exf b hb).1, J.ok.exfs b hb, .inl hb, fun x c e => (J.ok.exf b hb).2 x c e, fun p hp => absurd (show p ∈ ([] : List (Addr × Obj)) ++ [] from hp) (by simp)⟩
  have loop : codeAny (model X.prog X.w) X.A (.compLoop (.ListComp ex [⟨tg, iter, ifs, 0⟩] sco pos) 0 (.ref it) (.ref D) ce) (compPost (model X.prog X.w) X.A X.xe use Qf (.ref D) s3.heap.objs.size) s4 := by
    refine compLoop_any (fun n t => 1 ≤ t.toks ∧ ∃ i G, Inv (X.blk s3 H3 sco ce fp) [] (wipe σ (own.map (·.2))) G t ∧ tn i t.heap ∧ (∀ b ∈ fp, G b = none) ∧ W i n G) ?_ m0 ⟨tok4, 0, H3, I4, st4, none3, w0⟩
    rintro n s5 ⟨tok5, i, H5, I5, st5, n5, w5⟩
    rcases turn i n H5 w5 with ⟨stop, qq⟩ | ⟨go, N, less, step⟩
    · have over := T.done (X.blk s3 H3 sco ce fp) rfl rfl rfl calm i [] s5 _ H5 (fun _ _ => False) I5 (still I5 n5) st5 stop
      refine thnF over fun r s6 ⟨er, I6⟩ => ?_
      subst er
      have I7 : Inv X pins σ H5 s6 := I3.call' (ch := fp) I6.os I6.base I6.hok I6.bare fun b hb => ⟨(f3 b hb).1.2.2.2.1, (f3 b hb).1.2.1, (f3 b hb).1.2.2.2.2.1, (f3 b hb).1.2.2.2.2.2⟩
      have nC : H5 s3.heap.objs.size = none := by
        have z : H5 ce.locals = none := I6.free
        rw [ceL] at z
        exact z
      obtain ⟨m, names, _⟩ := I6.loc
      have names : s6.heap.Ns ce.locals m := names
      rw [ceL] at names
      exact out D s3.heap.objs.size s6 m H5 I7 qq names (I3.fpOk (Nat.le_refl _) nC)
    · have next := T.item (X.blk s3 H3 sco ce fp) rfl rfl rfl calm i [] s5 _ H5 (fun _ _ => False) I5 (still I5 n5) st5 go
      refine with_tok tok5 next (fun r s6 ⟨u, er, h6⟩ tok6 => ?_) fun _ _ z => z.elim
      subst er
      refine with_tok tok6 h6 (fun _ s7 ⟨x, H7, I7, r7, y7, st7, n7⟩ tok7 => ?_) fun _ _ z => z.elim
      have I8 := I7.pinned (still I7 n7) (T.obj _ _ st7)
      refine with_tok tok7 (pg.run _ s7 _ H7 x u _ I8 r7 (step x H7 y7)) (fun _ s8 ⟨σ8, H8, J8, hw8, q8⟩ tok8 => ?_) fun _ _ z => z.elim
      refine with_tok tok8 (pt.run _ s8 σ8 H8 _ J8 q8) (fun b s9 ⟨H9, I9, q9⟩ tok9 => ?_) fun _ _ z => z.elim
      have fin : ∀ {t : Shared} {G : Hp}, Inv (X.blk s3 H3 sco ce fp) ([] ++ pinsAt fp s7.heap) σ8 G t → 1 ≤ t.toks → N G → ∃ m, m < n ∧ 1 ≤ t.toks ∧ ∃ i G, Inv (X.blk s3 H3 sco ce fp) [] (wipe σ (own.map (·.2))) G t ∧ tn i t.heap ∧ (∀ b ∈ fp, G b = none) ∧ W i m G := fun {t G} J tk ng => by
        obtain ⟨m', hm, w'⟩ := less G ng
        have pin : ∀ b ∈ fp, ∀ o, s7.heap.get? b = some o → t.heap.get? b = some o ∧ G b = none := fun b hb o e =>
          let z := J.pin (b, o) (List.mem_append_right _ (List.mem_append_right _ (mem_pinsAt hb e)))
          ⟨z.1, z.2.1⟩
        have len : (wipe σ (own.map (·.2))).length = σ8.length := by rw [← hw8, wipe_length]
        refine ⟨m', hm, tk, i + 1, G, (J.unpinned (pins := [])).weak len (fun j v e => ?_), T.keep _ _ _ st7 fun b hb o e => (pin b hb o e).1, fun b hb => ?_, w'⟩
        · rw [← hw8] at e
          exact (wipe_some e).1
        · obtain ⟨o, e, _⟩ := T.obj _ _ st7 b hb
          exact (pin b hb o e).2
      cases b with
      | false =>
        simp only [Bool.false_eq_true, if_false] at q9 ⊢
        exact fin I9 tok9 q9
      | true =>
        simp only [if_true] at q9 ⊢
        refine with_tok tok9 (px _ s9 σ8 H9 _ tok9 I9 q9) (fun z s10 ⟨yv, H10, I10, r10, acc, hD, hz, ng⟩ tok10 => ?_) fun _ _ z => z.elim
        exact PySem.wpAny_with_toks tok10 (app_ok (X := X.blk s3 H3 sco ce fp) I10 hD hz r10 fun s12 I12 tok12 => fin I12 tok12 ng)
  exact codeAny_compStart_list loop (T.self X.A 0 _ _ _ st4 loop)
theorem pet_lc {ex tg iter : Expr} {ifs : List Expr} {sco : Scope} {own : List (Str × Nat)} {pos : Pos} {wi : TI} {g : TG} {tt : TT} {te : TE} (calm : X.calm = true) (nd : X.N.Nodup) (walk : PI X tg iter wi) (blk : BlkOk X.N X.env.scope sco own)
    (pgs : ∀ (s : Shared) (H : Hp) (C : Addr) (cl : List (Str × Addr)) (fp : List Addr), PG (X.blk s H sco (compEnvC sco cl C X.env) fp) tg g) (pts : ∀ (s : Shared) (H : Hp) (C : Addr) (cl : List (Str × Addr)) (fp : List Addr), PTs (X.blk s H sco (compEnvC sco cl C X.env) fp) ifs tt)
    (pxs : ∀ (s : Shared) (H : Hp) (C : Addr) (cl : List (Str × Addr)) (fp : List Addr), PET (X.blk s H sco (compEnvC sco cl C X.env) fp) ex te) (fold : ∀ x, foldedSetIterable iter X.env x = pure x := by intro _; rfl) :
    PET X (.ListComp ex [⟨tg, iter, ifs, 0⟩] sco pos) (tLc wi g tt te (own.map (·.2))) := by
  intro pins s σ H Q tok I h
  rw [eval_ListComp]
  refine lcT_core tok calm nd I walk blk pgs pts pxs fold h fun D C t m G J q names f => ⟨m, names, fun h2 sb => ?_⟩
  obtain ⟨f0, f1, f2, f3, f4, f5⟩ := f
  exact ⟨.ref D, G, J.turned (t' := t.toks) (fun b o hb e => (sb.2 b hb).trans e) f0 f1 f3 f4 f5, rfl, q⟩
/-- a written text .join(e): a token is out for e -/
theorem pe_joinT {z : Str} {j : Nat} {cp : Pos} {e : Expr} {te : TE} {apos pos : Pos} (he : PET X e te) (hs : starEach [e] X.env = [(false, eval e X.env)] := by rfl) (hbase : attributeBase (.Constant (.str z) j cp) "join" X.env (eval (.Constant (.str z) j cp) X.env) = eval (.Constant (.str z) j cp) X.env := by rfl) (hline : (apos.endLine == pos.line) = true := by rfl) :
    PE X (.Call (.Attribute (.Constant (.str z) j cp) "join" apos) [e] [] pos) (fun σ H Q => te σ H fun y H1 => ∃ p, ∃ ys : List Str, y = .ref p ∧ (SqL X.K H1 p (ys.map V.str) ∨ SqT X.K H1 p (ys.map V.str)) ∧ (ys.map (·.length)).sum + ys.length * z.length ≤ 16777216 ∧ Q (.str (Txt.join z ys)) H1) := by
  refine ⟨fun pins s σ H Q I h => ?_⟩
  refine PySem.Call_method1 hbase hs hline (Calls.Constant_str ?_)
  refine ⟨"str", _, PySem.F.plainAttrs_str, PySem.F.slot_str_join, PySem.F.type_str_join, typeIs_str _ _ _, (fun _ e => nomatch e), Calls.callWith_builtin rfl (Calls.evalArgs_plain (Calls.spliced_cons ?_))⟩
  refine thn (he pins _ σ H _ (Nat.succ_le_succ (Nat.zero_le _)) (I.tok _) h) fun u s2 ⟨y, H2, I2, r2, p, ys, ey, hp, hz, q⟩ => Calls.spliced_nil ?_
  subst ey
  exact mt_join pins s2 σ H2 (.str z) [.ref p] _ [u] Q I2 ⟨_, rfl⟩ (.cons r2 .nil) ⟨z, p, ys, rfl, rfl, hp, hz, q⟩
end
-- part r85d
/-! the rows as data -/
def dt3 (P : T3) : PyData := .tuple ([P.1, P.2.1, P.2.2].map PyData.int)
def d4 (r : Row4) : PyData := .tuple [.str r.1, dt3 r.2.1, dt3 r.2.2.1, dt3 r.2.2.2]
theorem dp_t3 {H : Hp} {t : Addr} {P : T3} (h : SqT K H t (i3 P)) : Dp K H (.ref t) (dt3 P) := dp_tup (l := [P.1, P.2.1, P.2.2]) h
theorem dp_row {H : Hp} {v : V} {r : Row4} (h : RowV K H v r) : Dp K H v (d4 r) := by
  obtain ⟨t, tf, ta, tb, rfl, h1, h2, h3, h4⟩ := h
  exact .tup (SqT.of h1) (.cons (.str _) (.cons (dp_t3 h2) (.cons (dp_t3 h3) (.cons (dp_t3 h4) .nil))))
theorem dpAll_rows {H : Hp} : ∀ {us : List V} {rows : List Row4}, AllS (RowV K H) us rows → DpAll K H us (rows.map d4)
  | [], [], _ => .nil
  | [], _ :: _, h => by have := h.1; simp at this
  | _ :: _, [], h => by have := h.1; simp at this
  | u :: us, r :: rows, h => by
    obtain ⟨v, h1, h2⟩ := h.2 0 r rfl
    cases h1
    exact .cons (dp_row h2) (dpAll_rows ⟨by have := h.1; simpa using this, fun i b hb => h.2 (i + 1) b hb⟩)
theorem dp_rows {H : Hp} {l : Addr} {rows : List Row4} (h : RowsL K H l rows) : Dp K H (.ref l) (.list (rows.map d4)) := by
  obtain ⟨us, h1, h2⟩ := h
  exact .lst (SqL.of h1) (dpAll_rows h2)
theorem lay_t3 (P : T3) : (dt3 P).canLay0 = true := by
  unfold dt3
  rw [PyData.canLay0, canLay_ints]
theorem depth_t3 (P : T3) : (dt3 P).depth = 1 := by
  unfold dt3
  rw [PyData.depth, depth_ints]
theorem shaped_t3 (P : T3) : SeqAt.shaped (dt3 P) = true := by
  unfold SeqAt.shaped
  rw [lay_t3, depth_t3]
  rfl
theorem lay_rows : ∀ {rows : List Row4}, (∀ r ∈ rows, PyData.strOk r.1 = true) → PyData.canLayAll0 (rows.map d4) = true
  | [], _ => by rw [List.map_nil, PyData.canLayAll0]
  | r :: rows, h => by
    rw [List.map_cons, PyData.canLayAll0, lay_rows fun r' hr => h r' (List.mem_cons_of_mem _ hr)]
    unfold d4
    rw [PyData.canLay0, PyData.canLayAll0, PyData.canLayAll0, PyData.canLayAll0, PyData.canLayAll0, PyData.canLayAll0, PyData.canLay0, lay_t3, lay_t3, lay_t3, h r List.mem_cons_self]
    rfl
theorem depth_rows : ∀ {rows : List Row4}, PyData.depthAll (rows.map d4) ≤ 2
  | [] => by rw [List.map_nil, PyData.depthAll]; decide
  | r :: rows => by
    have ih := depth_rows (rows := rows)
    rw [List.map_cons, PyData.depthAll]
    have e : (d4 r).depth = 2 := by
      unfold d4
      rw [PyData.depth, PyData.depthAll, PyData.depthAll, PyData.depthAll, PyData.depthAll, PyData.depthAll, PyData.depth, depth_t3, depth_t3, depth_t3]
      rfl
    rw [e]
    omega
theorem shaped_rows {rows : List Row4} (h : ∀ r ∈ rows, PyData.strOk r.1 = true) : SeqAt.shaped (.list (rows.map d4)) = true := by
  unfold SeqAt.shaped
  have d := depth_rows (rows := rows)
  rw [PyData.canLay0, lay_rows h, PyData.depth]
  simp only [Bool.true_and, decide_eq_true_eq]
  omega
theorem eqv_rows {rows : List Row4} (h : ∀ r ∈ rows, PyData.strOk r.1 = true) : PyData.eqv (.list (rows.map d4)) (.list (rows.map d4)) = true :=
  SeqAt.eqv_refl _ (by rw [PyData.canLay0, lay_rows h])
theorem eqv_t3 (P : T3) : PyData.eqv (dt3 P) (dt3 P) = true := SeqAt.eqv_refl _ (lay_t3 P)
theorem str_jm : PyData.strOk "join" = true ∧ PyData.strOk "meet" = true := by decide +kernel
theorem jm_ok {p : Int} {w : Str} {E1 E2 : T3} (h : w = "join" ∨ w = "meet") : PyData.strOk (rowO p w E1 E2).1 = true := by
  show PyData.strOk w = true
  rcases h with h | h <;> rw [h]
  · exact str_jm.1
  · exact str_jm.2
def JM (rows : List Row4) : Prop := ∀ r ∈ rows, PyData.strOk r.1 = true
theorem jm_nil : JM [] := fun _ h => nomatch h
theorem jm_cons {p : Int} {w : Str} {E1 E2 : T3} {rows : List Row4} (h : w = "join" ∨ w = "meet") (t : JM rows) : JM (rowO p w E1 E2 :: rows) := fun r hr => (List.mem_cons.mp hr).elim (fun e => by rw [e]; exact jm_ok h) fun m => t r m
theorem jm_sum (p a b : Int) : JM (sumR p a b) := jm_cons (.inl rfl) (jm_cons (.inl rfl) (jm_cons (.inr rfl) (jm_cons (.inr rfl) (jm_cons (.inl rfl) (jm_cons (.inr rfl) jm_nil)))))
theorem jm_opp (p a : Int) : JM (oppR p a) := jm_cons (.inl rfl) (jm_cons (.inr rfl) (jm_cons (.inl rfl) (jm_cons (.inr rfl) (jm_cons (.inl rfl) (jm_cons (.inr rfl) jm_nil)))))
theorem jm_prd (p a b : Int) : JM (prdR p a b) := jm_cons (.inl rfl) (jm_cons (.inr rfl) (jm_cons (.inl rfl) (jm_cons (.inr rfl) (jm_cons (.inl rfl) (jm_cons (.inr rfl) (jm_cons (.inl rfl) (jm_cons (.inr rfl) jm_nil)))))))
theorem jm_quo (p a b : Int) : JM (quoR p a b) := jm_cons (.inl rfl) (jm_cons (.inr rfl) (jm_cons (.inl rfl) (jm_cons (.inr rfl) (jm_cons (.inl rfl) (jm_cons (.inr rfl) (jm_cons (.inl rfl) (jm_cons (.inr rfl) jm_nil)))))))
theorem jm_drw (p : Int) (word : Str) : ∀ xs : List Int, JM (drw p word xs)
  | [] => jm_nil
  | [a] => jm_opp p a
  | [a, b] => by
    show JM (if word = "sum" then sumR p a b else if word = "product" then prdR p a b else quoR p a b)
    split
    · exact jm_sum p a b
    · split
      · exact jm_prd p a b
      · exact jm_quo p a b
  | _ :: _ :: _ :: _ => jm_nil
/-! the last point is the one of the number -/
theorem fr_val {p u l v y : Int} (hp : Pr p) (h : fr p u l = some (v, y)) : ¬ p ∣ l ∧ Cg p (v * l) u := by
  have p2 := hp.1
  unfold fr at h
  rw [if_neg (by omega)] at h
  split at h
  · cases h
  · rename_i c
    cases h
    have nd : ¬ p ∣ l := fun d => c (mod0.mpr d)
    obtain ⟨i1, _, _⟩ := inv_spec hp nd
    refine ⟨nd, cg_trans (cg_mul cg_mod cg_refl) ?_⟩
    rw [Int.mul_assoc]
    have e : Cg p (u * (inv p l * l)) (u * 1) := cg_mul cg_refl i1
    rwa [Int.mul_one] at e
def lastP (word : Str) (xs : List Int) : T3 := match xs with
  | [a] => (a, 0, -1)
  | [a, b] => if word = "sum" then (-(a + b), 0, -1) else if word = "product" then (a * b, 0, 1) else (a, 0, b)
  | _ => (0, 0, 0)
theorem eqv_n1 {p x v : Int} (hp : Pr p) (h : Cg p v (-x)) : Eqv p (x, 0, -1) (v, 0, 1) := ⟨-1, neg_nd hp, by
  have : Cg p (-1 * v) (-1 * -x) := cg_mul cg_refl h
  have e : (-1 : Int) * -x = x := by omega
  rw [e] at this
  exact cg_symm this, by show p ∣ 0 - -1 * 0; simp, by show p ∣ -1 - -1 * 1; simp⟩
theorem last_ok {p : Int} {word : Str} {fs : List (Option (Int × Int))} {v y : Int} (hp : Pr p) (one : ∀ o ∈ fs, ∀ x z, o = some (x, z) → z = 1) (tk : tksS word = some fs.length) (h : bltF word fs p = some (v, y)) :
    (∃ pre w A B, drw p word (fs.map valI) = pre ++ [(w, N3 p (lastP word (fs.map valI)), A, B)]) ∧ N3 p (lastP word (fs.map valI)) = N3 p (v, 0, 1) ∧ NZ p (v, 0, 1) := by
  have nz : NZ p (v, 0, 1) := nz3 (one_nd hp)
  match fs, h, tk, one with
  | [some (a, b)], h, tk, one =>
    have b1 := one _ List.mem_cons_self a b rfl
    subst b1
    have ew := tks_one tk
    have h' : (if word = "opposite" then fr p (-a) 1 else none) = some (v, y) := h
    rw [if_pos ew] at h'
    obtain ⟨_, c⟩ := fr_val hp h'
    rw [Int.mul_one] at c
    exact ⟨⟨[rowO p "join" (a, 0, 1) ABV, rowO p "meet" (-1, 0, a) LVL, rowO p "join" (-a, -1, -1) ZRO, rowO p "meet" (-1, a, 0) FAR, rowO p "join" TOP (a, 1, 0)], "meet", N3 p (-1, a, -a), N3 p AXS, by
      show oppR p a = ([_, _, _, _, _] : List Row4) ++ [(("meet" : Str), N3 p (a, 0, -1), N3 p (-1, a, -a), N3 p AXS)]
      rw [← co6]
      rfl⟩, N3_of_eqv hp (eqv_n1 hp c) nz, nz⟩
  | [some (a, b), some (c', d)], h, tk, one =>
    have b1 := one _ List.mem_cons_self a b rfl
    have d1 := one _ (List.mem_cons_of_mem _ List.mem_cons_self) c' d rfl
    subst b1 d1
    obtain ⟨ne, ew⟩ := tks_two tk
    have h' : (if word = "opposite" then fr p (-a) 1 else if word = "sum" then fr p (a * 1 + c' * 1) (1 * 1) else if word = "product" then fr p (a * c') (1 * 1) else fr p (a * 1) (1 * c')) = some (v, y) := h
    rw [if_neg ne] at h'
    by_cases c1 : word = "sum"
    · rw [if_pos c1] at h'
      obtain ⟨_, c⟩ := fr_val hp h'
      rw [Int.mul_one, Int.mul_one, Int.mul_one, Int.mul_one] at c
      have el : lastP word [a, c'] = (-(a + c'), 0, -1) := if_pos c1
      refine ⟨⟨[rowO p "join" TOP (c', 0, 1), rowO p "join" (a, 0, 1) ABV, rowO p "meet" (-1, 0, a) LVL, rowO p "meet" (1, c', -c') FAR, rowO p "join" (-a, -1, -1) (c', -1, 0)], "meet", N3 p (-1, -c', a + c'), N3 p AXS, ?_⟩, ?_, nz⟩
      · rw [show [some (a, 1), some (c', 1)].map valI = [a, c'] from rfl]
        rw [el, ← cs6, show drw p word [a, c'] = sumR p a c' from if_pos c1]
        rfl
      · show N3 p (lastP word [a, c']) = _
        rw [el]
        exact N3_of_eqv hp (eqv_n1 hp (by have e : -(-(a + c')) = a + c' := by omega
                                          rw [e]; exact c)) nz
    · rw [if_neg c1] at h'
      by_cases c2 : word = "product"
      · rw [if_pos c2] at h'
        obtain ⟨_, c⟩ := fr_val hp h'
        rw [Int.mul_one, Int.mul_one] at c
        have el : lastP word [a, c'] = (a * c', 0, 1) := (if_neg c1).trans (if_pos c2)
        refine ⟨⟨uprR p c' ++ [rowO p "join" TOP (a, 0, 1), rowO p "meet" (1, a, -a) FAR, rowO p "join" (0, c', 1) (a, -1, 0)], "meet", N3 p (1, a, -(a * c')), N3 p AXS, ?_⟩, ?_, nz⟩
        · rw [show [some (a, 1), some (c', 1)].map valI = [a, c'] from rfl]
          rw [el, ← cp4, show drw p word [a, c'] = prdR p a c' from (if_neg c1).trans (if_pos c2)]
          rfl
        · show N3 p (lastP word [a, c']) = _
          rw [el]
          refine N3_of_eqv hp ⟨1, one_nd hp, ?_, by simp, by simp⟩ nz
          show Cg p (a * c') (1 * v)
          rw [Int.one_mul]
          exact cg_symm c
      · rw [if_neg c2] at h'
        obtain ⟨nd, c⟩ := fr_val hp h'
        rw [Int.one_mul] at nd c
        rw [Int.mul_one] at c
        have el : lastP word [a, c'] = (a, 0, c') := (if_neg c1).trans (if_neg c2)
        refine ⟨⟨uprR p c' ++ [rowO p "join" (0, c', 1) (a, 0, 1), rowO p "meet" (c', a, -(a * c')) FAR, rowO p "join" TOP (a, -c', 0)], "meet", N3 p (c', a, -a), N3 p AXS, ?_⟩, ?_, nz⟩
        · rw [show [some (a, 1), some (c', 1)].map valI = [a, c'] from rfl]
          rw [el, ← cq4 a c', show drw p word [a, c'] = quoR p a c' from (if_neg c1).trans (if_neg c2)]
          rfl
        · show N3 p (lastP word [a, c']) = _
          rw [el]
          refine N3_of_eqv hp ⟨c', nd, ?_, by simp, by simp⟩ nz
          show Cg p a (c' * v)
          rw [Int.mul_comm]
          exact cg_symm c
  | none :: _, h, _, _ => exact absurd (bltF_none (word := word) (p := p) (fs := none :: _) List.mem_cons_self) (by rw [h]; exact fun e => nomatch e)
  | some _ :: none :: _, h, _, _ => exact absurd (bltF_none (word := word) (p := p) (fs := some _ :: none :: _) (List.mem_cons_of_mem _ List.mem_cons_self)) (by rw [h]; exact fun e => nomatch e)
  | [], h, _, _ => cases h
  | some (_, _) :: some (_, _) :: _ :: _, h, _, _ => cases h
-- part r85m
/-! the law's text -/
def W7 : List Str := ["zero", "one", "two", "three", "half", "minus", "third"]
def lin5 : List Str := ["sum two one one", "sum three two one", "quotient half one two", "opposite minus three", "quotient third two three"]
def rowMy (rule n0 n1 : Str) : Str := rule ++ " my" ++ rule ++ " " ++ n0 ++ " " ++ n1
def lin9 (n0 n1 : Str) : List Str := lin5 ++ [rowMy "sum" n0 n1, rowMy "product" n0 n1, rowMy "quotient" n0 n1] ++ ["opposite myother " ++ n0]
def repl2 (z : Str) : Str := Txt.replace (Txt.replace z "myquotient" "myshare") "myproduct" "myprod"
def text85 (n0 n1 : Str) : Str := Txt.join "\n" ((lin9 n0 n1).map repl2)
def stp5 : List Stp := [("two", "sum", ["one", "one"]), ("three", "sum", ["two", "one"]), ("half", "quotient", ["one", "two"]), ("minus", "opposite", ["three"]), ("third", "quotient", ["two", "three"])]
def stp9 (n0 n1 : Str) : List Stp := stp5 ++ ([("mysum", "sum", [n0, n1]), ("myprod", "product", [n0, n1]), ("myshare", "quotient", [n0, n1]), ("myother", "opposite", [n0])] : List Stp)
def wrd5 : List (List Str) := [["sum", "two", "one", "one"], ["sum", "three", "two", "one"], ["quotient", "half", "one", "two"], ["opposite", "minus", "three"], ["quotient", "third", "two", "three"]]
def wrd9 (n0 n1 : Str) : List (List Str) := wrd5 ++ (([["sum", "mysum", n0, n1], ["product", "myprod", n0, n1], ["quotient", "myshare", n0, n1]] : List (List Str)) ++ ([["opposite", "myother", n0]] : List (List Str)))
theorem lin5_ok : lin5.map repl2 = wrd5.map (Txt.join " ") := by decide +kernel
theorem row_sum : (W7.all fun n0 => W7.all fun n1 => decide (repl2 (rowMy "sum" n0 n1) = Txt.join " " ["sum", "mysum", n0, n1])) = true := by decide +kernel
theorem row_prd : (W7.all fun n0 => W7.all fun n1 => decide (repl2 (rowMy "product" n0 n1) = Txt.join " " ["product", "myprod", n0, n1])) = true := by decide +kernel
theorem row_quo : (W7.all fun n0 => W7.all fun n1 => decide (repl2 (rowMy "quotient" n0 n1) = Txt.join " " ["quotient", "myshare", n0, n1])) = true := by decide +kernel
theorem row_opp : (W7.all fun n0 => decide (repl2 ("opposite myother " ++ n0) = Txt.join " " ["opposite", "myother", n0])) = true := by decide +kernel
theorem rd_ok : (W7.all fun n0 => W7.all fun n1 => decide (rdAll (wrd9 n0 n1) = some (stp9 n0 n1))) = true := by decide +kernel
theorem wrd_ok : (W7.all fun n0 => W7.all fun n1 => (wrd9 n0 n1).all fun ws => !ws.isEmpty && decide (ws.length ≤ 4) && ws.all fun z => decide (32 ∉ TL.tl z) && decide (10 ∉ TL.tl z) && decide (z.length ≤ 10)) = true := by decide +kernel
theorem all7 {f : Str → Bool} (h : W7.all f = true) {z : Str} (hz : z ∈ W7) : f z = true := List.all_eq_true.mp h z hz
theorem all77 {f : Str → Str → Bool} (h : (W7.all fun n0 => W7.all fun n1 => f n0 n1) = true) {n0 n1 : Str} (h0 : n0 ∈ W7) (h1 : n1 ∈ W7) : f n0 n1 = true := all7 (f := f n0) (all7 (f := fun n0 => W7.all fun n1 => f n0 n1) h h0) h1
theorem rows9 {n0 n1 : Str} (h0 : n0 ∈ W7) (h1 : n1 ∈ W7) : (lin9 n0 n1).map repl2 = (wrd9 n0 n1).map (Txt.join " ") := by
  unfold lin9 wrd9
  rw [List.map_append, List.map_append, lin5_ok, List.map_append, List.append_assoc]
  congr 1
  rw [List.map_append]
  congr 1
  · rw [List.map_cons, List.map_cons, List.map_cons, List.map_nil, of_decide_eq_true (all77 row_sum h0 h1), of_decide_eq_true (all77 row_prd h0 h1), of_decide_eq_true (all77 row_quo h0 h1)] <;> rfl
  · rw [List.map_cons, List.map_nil, of_decide_eq_true (all7 row_opp h0)] <;> rfl
theorem joinL_free {S : List Nat} {c : Nat} (hS : c ∉ S) : ∀ {ps : List (List Nat)}, (∀ p ∈ ps, c ∉ p) → c ∉ TL.joinL S ps
  | [], _ => fun h => nomatch h
  | [p], h => h p List.mem_cons_self
  | p :: q :: r, h => by
    have ih := joinL_free hS (ps := q :: r) fun x hx => h x (List.mem_cons_of_mem _ hx)
    show c ∉ p ++ (S ++ TL.joinL S (q :: r))
    simp only [List.mem_append, not_or]
    exact ⟨h p List.mem_cons_self, hS, ih⟩
theorem tl_space : TL.tl (" " : Str) = [32] := by decide +kernel
theorem text_ok {n0 n1 : Str} (h0 : n0 ∈ W7) (h1 : n1 ∈ W7) : rdAll (rowsW (text85 n0 n1)) = some (stp9 n0 n1) ∧ FitsT (text85 n0 n1) := by
  have wk := List.all_eq_true.mp (all77 wrd_ok h0 h1)
  have wd : ∀ ws ∈ wrd9 n0 n1, ws ≠ [] ∧ ws.length ≤ 4 ∧ ∀ z ∈ ws, 32 ∉ TL.tl z ∧ 10 ∉ TL.tl z ∧ z.length ≤ 10 := fun ws hw => by
    have z := wk ws hw
    simp only [Bool.and_eq_true, decide_eq_true_eq, List.all_eq_true, Bool.not_eq_true'] at z
    obtain ⟨⟨z1, z2⟩, z3⟩ := z
    refine ⟨fun e => ?_, z2, fun y hy => ?_⟩
    · rw [e] at z1
      cases z1
    · obtain ⟨⟨a, b⟩, c⟩ := z3 y hy
      exact ⟨a, b, c⟩
  have e9 := rows9 h0 h1
  have sp : Txt.split (text85 n0 n1) "\n" = (wrd9 n0 n1).map (Txt.join " ") := by
    unfold text85
    rw [e9]
    refine TL.split_join (s := 10) (S := []) (by decide +kernel) (by decide +kernel) (fun e => ?_) fun row hr => ?_
    · have := congrArg List.length e
      rw [List.length_map] at this
      exact absurd this (by show 9 ≠ 0; decide)
    · obtain ⟨ws, hw, rfl⟩ := List.mem_map.mp hr
      rw [TL.join_eq, TL.tl_join, tl_space]
      refine joinL_free (by decide) fun p hp => ?_
      obtain ⟨z, hz, rfl⟩ := List.mem_map.mp hp
      exact ((wd ws hw).2.2 z hz).2.1
  have sr : ∀ ws ∈ wrd9 n0 n1, Txt.split (Txt.join " " ws) " " = ws := fun ws hw =>
    TL.split_join (s := 32) (S := []) (by decide +kernel) (by decide +kernel) (wd ws hw).1 fun z hz => ((wd ws hw).2.2 z hz).1
  have rw9 : rowsW (text85 n0 n1) = wrd9 n0 n1 := by
    unfold rowsW
    rw [sp, List.map_map]
    have : (wrd9 n0 n1).map ((fun row => Txt.split row " ") ∘ Txt.join " ") = (wrd9 n0 n1).map id := List.map_congr_left fun ws hw => sr ws hw
    rw [this, List.map_id]
  have l1 : (" " : Str).length = 1 := by decide +kernel
  have ln : ("\n" : Str).length = 1 := by decide +kernel
  have rl : ∀ ws ∈ wrd9 n0 n1, (Txt.join " " ws).length ≤ 44 := fun ws hw => by
    have a := join_len (y := " ") (k := 10) fun z hz => ((wd ws hw).2.2 z hz).2.2
    rw [l1] at a
    have := (wd ws hw).2.1
    omega
  have tl_ : (text85 n0 n1).length ≤ 1000 := by
    unfold text85
    rw [e9]
    have a := join_len (y := "\n") (k := 44) (ws := (wrd9 n0 n1).map (Txt.join " ")) fun z hz => by
      obtain ⟨ws, hw, rfl⟩ := List.mem_map.mp hz
      exact rl ws hw
    rw [ln, List.length_map] at a
    have : (wrd9 n0 n1).length = 9 := rfl
    omega
  refine ⟨by rw [rw9]; exact of_decide_eq_true (all77 rd_ok h0 h1), by omega, ?_, fun row hr => ?_⟩
  · rw [sp, List.length_map]
    show 9 ≤ 1000000
    decide
  · rw [sp] at hr
    obtain ⟨ws, hw, rfl⟩ := List.mem_map.mp hr
    rw [sr ws hw]
    have a := rl ws hw
    have b := (wd ws hw).2
    exact ⟨by omega, by omega, fun y hy => by have := (b.2 y hy).2.2; omega⟩
theorem w7_cases {P : Str → Prop} {z : Str} (h : z ∈ W7) (h0 : P "zero") (h1 : P "one") (h2 : P "two") (h3 : P "three") (h4 : P "half") (h5 : P "minus") (h6 : P "third") : P z := by
  unfold W7 at h
  simp only [List.mem_cons, List.not_mem_nil, or_false] at h
  rcases h with e | e | e | e | e | e | e <;> rw [e] <;> assumption
-- part wdmk
theorem dicW_mk {K : PySem.W.Frag} {d : Addr} {es : Array DictEntry} {n : Nat} {l : List (Option (Str × Int))} (lk : K.lookup d = some ⟨.type "dict", none, .dict es n, #[]⟩) (lo : (d == sysModules) = false) (dk : es.toList.map He.keyOf = l) : He.dicW K d = some l := by
  unfold He.dicW
  rw [lk]
  have c : (decide ("dict" = "dict") && ((#[] : Array (Option Value)).isEmpty && !(d == sysModules))) = true := by
    rw [lo]
    rfl
  show (match decide ("dict" = "dict") && ((#[] : Array (Option Value)).isEmpty && !(d == sysModules)) with
    | true => some (es.toList.map He.keyOf)
    | false => none) = some l
  rw [c, dk]
def WdV (K : PySem.W.Frag) (d : Addr) (kvs : List (Str × V)) : Prop := ∀ kv ∈ kvs, ∃ u, PySem.W.nsIn K d kv.1 = some (some u) ∧ RelV kv.2 u
theorem wd_nil {K : PySem.W.Frag} {d : Addr} : WdV K d [] := fun _ h => nomatch h
theorem wd_cons {K : PySem.W.Frag} {d : Addr} {kv : Str × V} {kvs : List (Str × V)} (h : ∃ u, PySem.W.nsIn K d kv.1 = some (some u) ∧ RelV kv.2 u) (t : WdV K d kvs) : WdV K d (kv :: kvs) := fun x hx => (List.mem_cons.mp hx).elim (fun e => by rw [e]; exact h) fun m => t x m
theorem wd_mk {K : PySem.W.Frag} {w : World} {d : Addr} {es : Array DictEntry} {n : Nat} {kvs : List (Str × V)} (lk : K.lookup d = some ⟨.type "dict", none, .dict es n, #[]⟩) (lo : (d == sysModules) = false) (dk : es.toList.map He.keyOf = He.keysIn w.params (kvs.map (·.1))) (vs : WdV K d kvs) (nd : (kvs.map (·.1)).Nodup) : WDict K w d kvs := ⟨dicW_mk lk lo dk, vs, nd⟩
theorem sqT_k2 {K : PySem.W.Frag} {a : Addr} {od : Option Addr} {x y : Int} {t u : Tok} {n : Nat} {sl : Array (Option Value)} (h : K.lookup a = some ⟨.type "tuple", od, .seq #[.int x t, .int y u] n, sl⟩) (H : Hp) : SqT K H a [.int x, .int y] :=
  .inr ⟨_, _, _, h, rfl, rfl, (by show 2 ≤ sizeLine; decide), .cons ⟨_, rfl⟩ (.cons ⟨_, rfl⟩ .nil)⟩
theorem sqT_k3 {K : PySem.W.Frag} {a : Addr} {od : Option Addr} {x y z : Int} {t u v : Tok} {n : Nat} {sl : Array (Option Value)} (h : K.lookup a = some ⟨.type "tuple", od, .seq #[.int x t, .int y u, .int z v] n, sl⟩) (H : Hp) : SqT K H a [.int x, .int y, .int z] :=
  .inr ⟨_, _, _, h, rfl, rfl, (by show 3 ≤ sizeLine; decide), .cons ⟨_, rfl⟩ (.cons ⟨_, rfl⟩ (.cons ⟨_, rfl⟩ .nil))⟩
-- part comof
abbrev s_comof : Stmt := top 15
theorem sc_comof : FnScope ["numbers", "found", "n"] ["numbers"] (defScope s_comof) := ⟨rfl, rfl, rfl, by decide +kernel, rfl, by decide +kernel, by decide +kernel⟩
theorem ok_comof {f : Addr} {fd : FuncData} (F : Fun K "common_of" "common_of" s_comof f fd) (c_common : Cl P w K mg base CX0 1 "common" spCommon) : FnOk P w K mg base CX0 2 f fd ["numbers"] (fun _ _ _ _ => False) := by
  refine F.ok sc_comof (fun vs H Q E h => h.elim) (fun cdv A outer s H vs Q E hr h => ?_)
  exact ⟨_, (pss_cons (ps_set (i := 1) sc_comof.nd rfl (Or.inl rfl) pe_int)
 (pss_cons (ps_for PassesOwn.never rfl (pi_list (pv 0)) (pg_name (i := 2) sc_comof.nd rfl (Or.inl rfl)) (pss_one (ps_set (i := 1) sc_comof.nd rfl (Or.inl rfl) (pe_cl c_common hr (pa_cons (pv 1) (pa_cons (pv 2) pa_nil))))))
 (pss_one (ps_ret (pv 1))))), h.elim⟩
-- part r85e
abbrev s_lref85 : Stmt := top 55
theorem sc_lref85 : FnScope ["_law_ruler", "_law_name", "_law_char", "e"] ["_law_ruler", "_law_name", "_law_char"] (defScope s_lref85) := ⟨rfl, rfl, rfl, by decide +kernel, rfl, by decide +kernel, by decide +kernel⟩
def spLref85 (C : Addr) : Sp := fun vs H Q _ => ∃ (a : Addr) (R : List Stp) (z : Str) (p : Int), vs = [.ref a, .str z, .int p] ∧ RulAt C H a R ∧ R.length ≤ 900 ∧ z.length ≤ 1000 ∧ p < 2 ^ 62 ∧ knownB (namesS R) z = false ∧
  (¬ Pr p → ∀ r H', Same H H' → H' r = some (.lst [.str "bad", .int p]) → Q (.ref r) H') ∧ (Pr p → ∀ r H', Same H H' → H' r = some (.lst [.str "name", .str z]) → Q (.ref r) H')
theorem ok_lref85 {f C CB CU fB fU : Addr} {fd : FuncData} (T : RulT K mg C) (TU : ErrC K mg "UnknownName" "name" CU fU) (TB : ErrC K mg "BadCharacteristic" "p" CB fB) (ex : PySem.W.exmOne K (.ref CB) (.ref CU) = some false) (F : Fun K "_law_refused" "_law_refused" s_lref85 f fd)
    (c_show : MeKw P w K mg base (L2N.CX P w) 9 C "shown" 1 ["p"] (spShow C CB CU K)) : FnOk P w K mg base CX0 10 f fd ["_law_ruler", "_law_name", "_law_char"] (spLref85 C) := by
  refine F.ok sc_lref85 (fun vs H Q E h => ?_) (fun cdv A outer s H vs Q E hr h => ?_)
  · obtain ⟨_, _, _, _, rfl, _⟩ := h
    rfl
  · obtain ⟨a, R, z, p, rfl, ru, few, zl, hb, un, qB, qU⟩ := h
    obtain ⟨dx, d, kvs, oa, od, sa⟩ := ru.ob
    refine ⟨_, (Evl.pss_cut (ps_try_ms rfl rfl sc_lref85.nd takes0N
  (fun W pn xe tk _ => (pss_one (ps_expr (pe_meKw (E := WE W) c_show T.cl hr (fun σ => L2N.passAt tk σ) (pv 0) (pa_cons (pv 1) pa_nil) (pk_cons (pv 2) pk_nil)))))
  (.more (i := 3) rfl rfl ⟨rfl, by decide, Or.inl TU.g⟩ (fun a oe cls d pn hz hf => (pss_one (ps_ret (pe_lst (pa_cons pe_str (pa_cons (pe_xf TU.xf TU.no hz.zc hf (pv 3)) pa_nil))))))
   (.more (i := 3) rfl rfl ⟨rfl, by decide, Or.inl TB.g⟩ (fun a oe cls d pn hz hf => (pss_one (ps_ret (pe_lst (pa_cons pe_str (pa_cons (pe_xf TB.xf TB.no hz.zc hf (pv 3)) pa_nil))))))
   .none)))
 (pss_one (ps_ret (pe_lst pa_nil)))), ?_⟩
    have un2 := knownB_not.mp un
    refine ⟨fun _ _ => False, ⟨_, rfl, a, dx, _, rfl, oa, ru_no _ (by decide +kernel), _, rfl, _, rfl, rfl, rfl, a, R, z, p, rfl, ru, few, zl, hb, fun np d H' s1 hd => ?_, fun hp _ d H' s1 hd => ?_, fun _ g => absurd g un2.1, fun _ _ g => absurd g un2.2, fun _ i st hst e => absurd (by rw [← e]; exact List.mem_map.mpr ⟨st, List.mem_of_getElem? hst, rfl⟩) un2.2⟩, fun σ G h => h.elim⟩
    · exact ⟨false, ex, (fun z => Bool.noConfusion z), fun _ => ⟨true, TB.te, fun _ y ny => ⟨_, rfl, rfl, rfl, d, _, _, rfl, hd, rfl, (by show 2 ≤ sizeLine; decide), fun r nr => qB np r _ (s1.trans (same_upd nr)) upd_same⟩, fun z => Bool.noConfusion z⟩⟩
    · exact ⟨true, TU.te, fun _ y ny => ⟨_, rfl, rfl, rfl, d, _, _, rfl, hd, rfl, (by show 2 ≤ sizeLine; decide), fun r nr => qU hp r _ (s1.trans (same_upd nr)) upd_same⟩, fun z => Bool.noConfusion z⟩
-- part r85f
/-! the four numbers that are asked for -/
def nm4 : List Str := ["mysum", "myprod", "myshare", "myother"]
def rl4 : List Str := ["sum", "product", "quotient", "opposite"]
def rest4 (n0 n1 : Str) (j : Nat) : List Str := if j < 3 then [n0, n1] else [n0]
theorem stp9_at {n0 n1 : Str} {j : Nat} {nm rl : Str} (h1 : nm4[j]? = some nm) (h2 : rl4[j]? = some rl) : (stp9 n0 n1)[5 + j]? = some (nm, rl, rest4 n0 n1 j) := by
  match j, h1, h2 with
  | 0, h1, h2 => cases h1; cases h2; rfl
  | 1, h1, h2 => cases h1; cases h2; rfl
  | 2, h1, h2 => cases h1; cases h2; rfl
  | 3, h1, h2 => cases h1; cases h2; rfl
  | j + 4, h1, _ => cases h1
def nm9 : List Str := ["two", "three", "half", "minus", "third", "mysum", "myprod", "myshare", "myother"]
theorem names9 (n0 n1 : Str) : namesS (stp9 n0 n1) = nm9 := rfl
theorem known7 {n0 n1 z : Str} (h : z ∈ W7) : knownB (namesS (stp9 n0 n1)) z = true := by
  rw [names9]
  exact w7_cases (P := fun z => knownB nm9 z = true) h (by decide +kernel) (by decide +kernel) (by decide +kernel) (by decide +kernel) (by decide +kernel) (by decide +kernel) (by decide +kernel)
theorem len7 {z : Str} (h : z ∈ W7) : z.length ≤ 10 := w7_cases (P := fun z => z.length ≤ 10) h (by decide +kernel) (by decide +kernel) (by decide +kernel) (by decide +kernel) (by decide +kernel) (by decide +kernel) (by decide +kernel)
theorem valO_pr {p : Int} {R : List Stp} (wf : WFR R) (hp : Pr p) (hb : p < 2 ^ 62) {z : Str} {x y : Int} (h : valF p R z = some (x, y)) : valO (valF p R z) = .int x ∧ x.natAbs < 2 ^ 62 := by
  obtain ⟨_, h2, h3⟩ := valF_pr wf hp h
  rw [h]
  exact ⟨rfl, by omega⟩
theorem due85 {p : Int} {R : List Stp} {n0 n1 : Str} {i j : Nat} {nm rl : Str} {v y : Int} (wf : WFR R) (hp : Pr p) (hb : p < 2 ^ 62) (hst : R[i]? = some (nm, rl, rest4 n0 n1 j)) (hrl : rl4[j]? = some rl) (h : valF p R nm = some (v, y)) :
    ∃ a, valO (valF p R n0) = .int a ∧ a.natAbs < 2 ^ 62 ∧ DueC p rl (valO (valF p R n1)) a ((rest4 n0 n1 j).map fun r => valI (valF p R r)) := by
  have e := valF_step (p := p) wf hst
  have e' : valF p R nm = bltF rl ((rest4 n0 n1 j).map (valF p R)) p := e
  rw [h] at e'
  have nn := bltF_args e'.symm
  have args : ∀ z ∈ rest4 n0 n1 j, ∃ x, valF p R z = some (x, 1) := fun z hz => by
    match hq : valF p R z with
    | none => exact absurd (List.mem_map.mpr ⟨z, hz, hq⟩) nn
    | some (x1, y1) =>
      rw [(valF_pr wf hp hq).1]
      exact ⟨x1, rfl⟩
  by_cases c : j < 3
  · have er : rest4 n0 n1 j = [n0, n1] := if_pos c
    rw [er] at args e' ⊢
    obtain ⟨a, ha⟩ := args n0 List.mem_cons_self
    obtain ⟨b, hb'⟩ := args n1 (List.mem_cons_of_mem _ List.mem_cons_self)
    obtain ⟨a1, a2⟩ := valO_pr wf hp hb ha
    obtain ⟨b1, b2⟩ := valO_pr wf hp hb hb'
    refine ⟨a, a1, a2, .inr ⟨b, b1, b2, ?_, ?_⟩⟩
    · rw [List.map_cons, List.map_cons, List.map_nil, ha, hb'] <;> rfl
    · match j, hrl, c with
      | 0, hrl, _ => exact .inl (Option.some.inj hrl).symm
      | 1, hrl, _ => exact .inr (.inl (Option.some.inj hrl).symm)
      | 2, hrl, _ =>
        have el : rl = "quotient" := (Option.some.inj hrl).symm
        refine .inr (.inr ⟨el, ?_⟩)
        have e2 : some (v, y) = bltF rl [valF p R n0, valF p R n1] p := e'
        rw [ha, hb', el] at e2
        have e3 : some (v, y) = fr p (a * 1) (1 * b) := e2
        have := (fr_val hp e3.symm).1
        rwa [Int.one_mul] at this
  · have er : rest4 n0 n1 j = [n0] := if_neg c
    rw [er] at args ⊢
    obtain ⟨a, ha⟩ := args n0 List.mem_cons_self
    obtain ⟨a1, a2⟩ := valO_pr wf hp hb ha
    refine ⟨a, a1, a2, .inl ⟨?_, by rw [List.map_cons, List.map_nil, ha] <;> rfl⟩⟩
    match j, hrl, c with
    | 3, hrl, _ => exact (Option.some.inj hrl).symm
    | j + 4, hrl, _ => cases hrl
    | 0, _, c => exact absurd (by decide) c
    | 1, _, c => exact absurd (by decide) c
    | 2, _, c => exact absurd (by decide) c
theorem last85 {p : Int} {R : List Stp} {i : Nat} {st : Stp} {v y : Int} (wf : WFR R) (hp : Pr p) (hst : R[i]? = some st) (h : valF p R st.1 = some (v, y)) :
    (∃ pre w A B, drw p st.2.1 (st.2.2.map fun r => valI (valF p R r)) = pre ++ [(w, N3 p (lastP st.2.1 (st.2.2.map fun r => valI (valF p R r))), A, B)]) ∧ N3 p (lastP st.2.1 (st.2.2.map fun r => valI (valF p R r))) = N3 p (v, 0, 1) ∧ NZ p (v, 0, 1) := by
  have e := valF_step (p := p) wf hst
  rw [h] at e
  have em : (st.2.2.map (valF p R)).map valI = st.2.2.map fun r => valI (valF p R r) := by rw [List.map_map] <;> rfl
  have z := last_ok (word := st.2.1) (fs := st.2.2.map (valF p R)) hp (fun o ho x z e => by
    obtain ⟨y', _, e2⟩ := List.mem_map.mp ho
    rw [← e2] at e
    exact (valF_pr wf hp e).1) (by rw [List.length_map]; exact (wf i st hst).k) e.symm
  rw [em] at z
  exact z
-- part law_k85
theorem chars_pr {p : Int} (hp : Pr p) (hb : p ≤ 1993) : ∀ c ∈ [2, 3, 5, 7, p, 2], Pr c ∧ c ≤ 1993 := by
  have p2 : Pr 2 := pr_of_trial (n := 2) 2 (by decide +kernel)
  have p3 : Pr 3 := pr_of_trial (n := 3) 2 (by decide +kernel)
  have p5 : Pr 5 := pr_of_trial (n := 5) 3 (by decide +kernel)
  have p7 : Pr 7 := pr_of_trial (n := 7) 3 (by decide +kernel)
  intro c hc
  simp only [List.mem_cons, List.not_mem_nil, or_false] at hc
  rcases hc with h | h | h | h | h | h <;> rw [h]
  · exact ⟨p2, by decide⟩
  · exact ⟨p3, by decide⟩
  · exact ⟨p5, by decide⟩
  · exact ⟨p7, by decide⟩
  · exact ⟨hp, hb⟩
  · exact ⟨p2, by decide⟩
theorem bad_not : ∀ b ∈ [(0 : Int), 1, 4, -3, 9, 25], ¬ Pr b ∧ b < 2 ^ 62 := by
  intro b hb
  simp only [List.mem_cons, List.not_mem_nil, or_false] at hb
  rcases hb with h | h | h | h | h | h <;> subst h
  · exact ⟨fun p => by have := p.1; omega, by decide⟩
  · exact ⟨fun p => by have := p.1; omega, by decide⟩
  · exact ⟨fun p => p.2 2 (by decide) (by decide) (by decide), by decide⟩
  · exact ⟨fun p => by have := p.1; omega, by decide⟩
  · exact ⟨fun p => p.2 3 (by decide) (by decide) (by decide), by decide⟩
  · exact ⟨fun p => p.2 5 (by decide) (by decide) (by decide), by decide⟩
theorem last_at {H : Hp} {us : List V} {pre : List Row4} {r : Row4} (al : AllS (RowV K H) us (pre ++ [r])) : ∃ u, atI us (-1) = some u ∧ RowV K H u r := by
  obtain ⟨u, h1, h2⟩ := al.2 pre.length r (by rw [List.getElem?_append_right (Nat.le_refl _), Nat.sub_self]; rfl)
  have l := al.1
  rw [List.length_append] at l
  have l1 : [r].length = 1 := rfl
  refine ⟨u, ?_, h2⟩
  have e : us = us.take pre.length ++ [u] := by
    have z := List.take_append_drop pre.length us
    rw [List.drop_eq_getElem_cons (by omega), List.drop_eq_nil_of_le (by omega)] at z
    rw [List.getElem?_eq_getElem (by omega)] at h1
    rw [Option.some.inj h1] at z
    exact z.symm
  rw [e]
  exact atI_last _ _
theorem drw_len (p : Int) (word : Str) : ∀ xs : List Int, (drw p word xs).length ≤ 10
  | [] => by show 0 ≤ 10; decide
  | [_] => by show 6 ≤ 10; decide
  | [a, b] => by
    show (if word = "sum" then sumR p a b else if word = "product" then prdR p a b else quoR p a b).length ≤ 10
    split
    · show 6 ≤ 10
      decide
    · split
      · show 8 ≤ 10
        decide
      · show 8 ≤ 10
        decide
  | _ :: _ :: _ :: _ => by show 0 ≤ 10; decide
theorem dp_si {H : Hp} {l : Addr} {x : Str} {i : Int} (h : H l = some (.lst [.str x, .int i])) : Dp K H (.ref l) (.list [.str x, .int i]) := .lst (SqL.of h) (.cons (.str x) (.cons (.int i) .nil))
theorem dp_ss {H : Hp} {l : Addr} {x y : Str} (h : H l = some (.lst [.str x, .str y])) : Dp K H (.ref l) (.list [.str x, .str y]) := .lst (SqL.of h) (.cons (.str x) (.cons (.str y) .nil))
theorem lay_si {x : Str} (h : PyData.strOk x = true) (i : Int) : (PyData.list [.str x, .int i]).canLay0 = true := by
  rw [PyData.canLay0, PyData.canLayAll0, PyData.canLayAll0, PyData.canLayAll0, PyData.canLay0, PyData.canLay0, h] <;> rfl
theorem lay_ss {x y : Str} (h : PyData.strOk x = true) (k : PyData.strOk y = true) : (PyData.list [.str x, .str y]).canLay0 = true := by
  rw [PyData.canLay0, PyData.canLayAll0, PyData.canLayAll0, PyData.canLayAll0, PyData.canLay0, PyData.canLay0, h, k] <;> rfl
theorem sh_si {x : Str} (h : PyData.strOk x = true) (i : Int) : SeqAt.shaped (.list [.str x, .int i]) = true := by
  unfold SeqAt.shaped
  rw [lay_si h, PyData.depth, PyData.depthAll, PyData.depthAll, PyData.depthAll, PyData.depth, PyData.depth] <;> rfl
theorem sh_ss {x y : Str} (h : PyData.strOk x = true) (k : PyData.strOk y = true) : SeqAt.shaped (.list [.str x, .str y]) = true := by
  unfold SeqAt.shaped
  rw [lay_ss h k, PyData.depth, PyData.depthAll, PyData.depthAll, PyData.depthAll, PyData.depth, PyData.depth] <;> rfl
theorem row_len {r n0 n1 : Str} (hr : r.length ≤ 10) (h0 : n0.length ≤ 10) (h1 : n1.length ≤ 10) : (rowMy r n0 n1).length ≤ 60 := by
  have l3 : (" my" : Str).length = 3 := by decide +kernel
  have l1 : (" " : Str).length = 1 := by decide +kernel
  unfold rowMy
  rw [app_len, app_len, app_len, app_len, app_len, app_len, l3, l1]
  omega
theorem lin9_len {n0 n1 z : Str} (h0 : n0.length ≤ 10) (h1 : n1.length ≤ 10) (h : z ∈ lin9 n0 n1) : z.length ≤ 60 := by
  have lo : ("opposite myother " : Str).length = 17 := by decide +kernel
  have a5 : ∀ z ∈ lin5, z.length ≤ 60 := by decide +kernel
  unfold lin9 at h
  rcases List.mem_append.mp h with h | h
  · rcases List.mem_append.mp h with h | h
    · exact a5 z h
    · simp only [List.mem_cons, List.not_mem_nil, or_false] at h
      rcases h with e | e | e <;> rw [e]
      · exact row_len (by decide +kernel) h0 h1
      · exact row_len (by decide +kernel) h0 h1
      · exact row_len (by decide +kernel) h0 h1
  · rw [List.mem_singleton.mp h, app_len, lo]
    omega
theorem repl_fits {z : Str} (h : z.length ≤ 60) : z.length + (z.length + 1) * ("myshare" : Str).length ≤ 16777216 ∧ (Txt.replace z "myquotient" "myshare").length + ((Txt.replace z "myquotient" "myshare").length + 1) * ("myprod" : Str).length ≤ 16777216 ∧ (repl2 z).length ≤ 10000 := by
  have a : ("myshare" : Str).length = 7 := by decide +kernel
  have b : ("myprod" : Str).length = 6 := by decide +kernel
  have c := TK.replace_len z "myquotient" "myshare"
  have d := TK.replace_len (Txt.replace z "myquotient" "myshare") "myproduct" "myprod"
  unfold repl2
  rw [a] at c ⊢
  rw [b] at d ⊢
  omega
abbrev s_law : Stmt := top 56
theorem sc_law : FnScope ["_law_script", "_law_head", "_law_words", "_law_lines", "_law_names", "_law_rule", "_law_ruler", "_law_line", "_law_char", "_law_values", "_law_name", "_law_told", "_law_bad"] ["_law_script"] (defScope s_law) := ⟨rfl, rfl, rfl, by decide +kernel, rfl, by decide +kernel, by decide +kernel⟩
theorem ok_law {f C CB CU : Addr} {fd : FuncData} (TT : Txt mg) (T : RulT K mg C) {CS : Addr} (F : Fun K "law" "law" s_law f fd) (c_cell : Cl P w K mg base CX0 1 "_law_cell" (spCellL K)) (c_draws : Cl P w K mg base CX0 1 "_law_draws" (spDraws K)) (c_lpf : Cl P w K mg base CX0 2 "_law_prime_from" spLpf) (c_nrm : Cl P w K mg base CX0 1 "_law_normal" (spLnrm K)) (c_due : Cl P w K mg base CX0 4 "_law_due" (spLdue K)) (c_ref : Cl P w K mg base CX0 10 "_law_refused" (spLref85 C))
    (c_ru : Ma P w K mg base 3 C (spRulI C CS)) (m_val : MeKw P w K mg base (L2N.CX P w) 6 C "value" 1 ["p"] (spRuVal C CB CU)) (m_show : MeKw P w K mg base (L2N.CX P w) 9 C "shown" 1 ["p"] (spShow C CB CU K)) : FnOk P w K mg base CX0 12 f fd ["_law_script"] (spLaw K) := by
  refine F.ok sc_law (fun vs H Q E h => ?_) (fun cdv A outer s H vs Q E hr h => ?_)
  · obtain ⟨a, ns, rfl, _⟩ := h
    rfl
  · obtain ⟨l0, ns, rfl, hS, few, q⟩ := h
    refine ⟨_, (pss_cons (ps_set (i := 1) sc_law.nd rfl (Or.inl rfl) (pe_cl c_draws hr (pa_cons (pe_cl c_cell hr (pa_cons (pv 0) (pa_cons pe_int pa_nil))) (pa_cons (pe_lst (pa_cons pe_int (pa_cons pe_int (pa_cons pe_int (pa_cons pe_int (pa_cons pe_int pa_nil)))))) pa_nil))))
 (pss_cons (ps_set (i := 2) sc_law.nd rfl (Or.inl rfl) (pe_lst (pa_cons pe_str (pa_cons pe_str (pa_cons pe_str (pa_cons pe_str (pa_cons pe_str (pa_cons pe_str (pa_cons pe_str pa_nil)))))))))
 (pss_cons (ps_set (i := 3) sc_law.nd rfl (Or.inl rfl) (pe_lst (pa_cons pe_str (pa_cons pe_str (pa_cons pe_str (pa_cons pe_str pa_nil))))))
 (pss_cons (ps_expr (pe_bm PySem.F.plainAttrs_list PySem.F.slot_list_append PySem.F.type_list_append mt_append (pv 3) (pa_cons pe_str pa_nil)))
 (pss_cons (ps_set (i := 4) sc_law.nd rfl (Or.inl rfl) (pe_lst (pa_cons (pe_ix ix_list (pv 2) (pe_ix ix_list (pv 1) pe_int (fun _ _ => rfl)) (fun _ _ => rfl)) (pa_cons (pe_ix ix_list (pv 2) (pe_ix ix_list (pv 1) pe_int (fun _ _ => rfl)) (fun _ _ => rfl)) pa_nil))))
 (pss_cons (ps_for PassesOwn.never rfl (pi_list (pe_lst (pa_cons pe_str (pa_cons pe_str (pa_cons pe_str pa_nil))))) (pg_name (i := 5) sc_law.nd rfl (Or.inl rfl)) (pss_one (ps_expr (pe_bm PySem.F.plainAttrs_list PySem.F.slot_list_append PySem.F.type_list_append mt_append (pv 3) (pa_cons (pe_op op_add_str (pe_op op_add_str (pe_op op_add_str (pe_op op_add_str (pe_op op_add_str (pe_op op_add_str (pv 5) pe_str) (pv 5)) pe_str) (pe_ix ix_list (pv 4) pe_int (fun _ _ => rfl))) pe_str) (pe_ix ix_list (pv 4) pe_int (fun _ _ => rfl))) pa_nil)))))
 (pss_cons (ps_set (i := 3) sc_law.nd rfl (Or.inl rfl) (pe_op op_cat (pv 3) (pe_lst (pa_cons (pe_op op_add_str pe_str (pe_ix ix_list (pv 4) pe_int (fun _ _ => rfl))) pa_nil))))
 (pss_cons (ps_set (i := 6) sc_law.nd rfl (Or.inr rfl) (pe_ma c_ru hr T.g (pa_cons (pe_joinT (pet_lc (own := [("_law_line", 7)]) (g := (gName 7)) (tt := tYes) rfl sc_law.nd (pi_list (pv 3)) (blkOk_by (N := ["_law_script", "_law_head", "_law_words", "_law_lines", "_law_names", "_law_rule", "_law_ruler", "_law_line", "_law_char", "_law_values", "_law_name", "_law_told", "_law_bad"]) (sc := defScope s_law) (by decide +kernel)) (fun _ _ _ _ _ => (pg_name (i := 7) sc_law.nd rfl (Or.inl rfl))) (fun _ _ _ _ _ => pts_nil) (fun _ _ _ _ _ => (CwR.pet_replT (CwR.pet_replC (pv 7)))))) pa_nil)))
 (pss_cons (ps_for PassesOwn.never rfl (pi_list (pe_lst (pa_cons pe_int (pa_cons pe_int (pa_cons pe_int (pa_cons pe_int (pa_cons (pe_cl c_lpf hr (pa_cons (pe_ix ix_list (pv 1) pe_int (fun _ _ => rfl)) pa_nil)) (pa_cons pe_int pa_nil)))))))) (pg_name (i := 8) sc_law.nd rfl (Or.inr rfl)) (pss_cons (ps_setLc (i := 9) (own := [("_law_name", 10)]) (g := (gName 10)) (tt := tYes) rfl sc_law.nd rfl rfl (sw_true rfl rfl rfl (by decide +kernel)) (pi_list (pv 4)) (blkOk_by (N := ["_law_script", "_law_head", "_law_words", "_law_lines", "_law_names", "_law_rule", "_law_ruler", "_law_line", "_law_char", "_law_values", "_law_name", "_law_told", "_law_bad"]) (sc := defScope s_law) (by decide +kernel)) (fun _ _ _ _ _ => (pg_name (i := 10) sc_law.nd rfl (Or.inl rfl))) (fun _ _ _ _ _ => pts_nil) (fun _ _ _ _ _ => (pe_meKw m_val T.cl (by exact hr) (fun σ => passEN σ) (pv 6) (pa_cons (pv 10) pa_nil) (pk_cons (pv 8) pk_nil))))
 (pss_cons (ps_for PassesOwn.never rfl (pi_list (pe_lst (pa_cons (pe_tup (pa_cons pe_str (pa_cons pe_str pa_nil))) (pa_cons (pe_tup (pa_cons pe_str (pa_cons pe_str pa_nil))) (pa_cons (pe_tup (pa_cons pe_str (pa_cons pe_str pa_nil))) (pa_cons (pe_tup (pa_cons pe_str (pa_cons pe_str pa_nil))) pa_nil)))))) (pg_tup rfl (pgs_cons (pg_name (i := 5) sc_law.nd rfl (Or.inl rfl)) (pgs_cons (pg_name (i := 10) sc_law.nd rfl (Or.inl rfl)) pgs_nil))) (pss_cons (ps_set (i := 11) sc_law.nd rfl (Or.inl rfl) (pe_meKw m_show T.cl hr (fun σ => passEN σ) (pv 6) (pa_cons (pv 10) pa_nil) (pk_cons (pv 8) pk_nil)))
 (pss_one (ps_if (pt_cmpR op_isN (pe_meKw m_val T.cl (by exact hr) (fun σ => passEN σ) (pv 6) (pa_cons (pv 10) pa_nil) (pk_cons (pv 8) pk_nil)) pe_non (nomark _)) (pss_one (ps_if (pt_cmpR op_notN (pv 11) pe_non (nomark _)) (pss_one (ps_ret pe_bl)) pss_nil)) (pss_cons (ps_if (pw_or (pt_not (pt_val (pe_callB call_isi (by rfl) TT.isinstance boot_isinstance (pa_cons (pv 11) (pa_cons (pe_bltn (v := .ty "list") (by rfl) TT.list boot_list rfl) pa_nil))))) (pw_or1 (pt_cmpR (op_neD (hu64 hr)) (pv 11) (pe_cl c_due hr (pa_cons (pv 5) (pa_cons (pe_ix ix_list (pv 9) pe_int (fun _ _ => rfl)) (pa_cons (pe_ix ix_list (pv 9) pe_int (fun _ _ => rfl)) (pa_cons (pv 8) pa_nil))))) (nomark _)))).pt (pss_one (ps_ret pe_bl)) pss_nil)
 (pss_cons (ps_if (pt_cmpR (op_neD (hu64 hr)) (pe_ix ix_tup (pe_ix ix_list (pv 11) (pe_un un_neg pe_int) (fun _ _ => rfl)) pe_int (fun _ _ => rfl)) (pe_cl c_nrm hr (pa_cons (pe_tup (pa_cons (pe_meKw m_val T.cl (by exact hr) (fun σ => passEN σ) (pv 6) (pa_cons (pv 10) pa_nil) (pk_cons (pv 8) pk_nil)) (pa_cons pe_int (pa_cons pe_int pa_nil)))) (pa_cons (pv 8) pa_nil))) (nomark _)) (pss_one (ps_ret pe_bl)) pss_nil)
 (pss_one (ps_expr (pe_bm PySem.F.plainAttrs_list PySem.F.slot_list_append PySem.F.type_list_append mt_append (pv 11) (pa_cons pe_int pa_nil))))))))))
 (pss_one (ps_if (pw_or (pt_cmpR (op_neD (hu64 hr)) (pe_meKw m_show T.cl hr (fun σ => passEN σ) (pv 6) (pa_cons pe_str pa_nil) (pk_cons (pv 8) pk_nil)) (pe_lst pa_nil) (nomark _)) (pw_or1 (pt_cmpR (op_neD (hu64 hr)) (pe_meKw m_show T.cl hr (fun σ => passEN σ) (pv 6) (pa_cons pe_str pa_nil) (pk_cons (pv 8) pk_nil)) (pe_lst pa_nil) (nomark _)))).pt (pss_one (ps_ret pe_bl)) pss_nil)))))
 (pss_cons (ps_set (i := 12) sc_law.nd rfl (Or.inl rfl) (pe_ix ix_list (pe_lst (pa_cons pe_int (pa_cons pe_int (pa_cons pe_int (pa_cons (pe_un un_neg pe_int) (pa_cons pe_int (pa_cons pe_int pa_nil))))))) (pe_ix ix_list (pv 1) pe_int (fun _ _ => rfl)) (fun _ _ => rfl)))
 (pss_one (ps_ret (pe_and (pe_cmpR (op_eqD (hu64 hr)) (pe_cl c_ref hr (pa_cons (pv 6) (pa_cons pe_str (pa_cons (pv 12) pa_nil)))) (pe_lst (pa_cons pe_str (pa_cons (pv 12) pa_nil))) (nomark _)) (pe_one (pe_cmpR (op_eqD (hu64 hr)) (pe_cl c_ref hr (pa_cons (pv 6) (pa_cons pe_str (pa_cons pe_int pa_nil)))) (pe_lst (pa_cons pe_str (pa_cons pe_str pa_nil))) (nomark _)))))))))))))))), ?_⟩
    refine ⟨_, rfl, l0, ns, 0, rfl, hS, fun z => ⟨(by show 5 ≤ sizeLine; decide), fun sl nsl => ?_⟩⟩
    have g1 := same_upd (o := .lst ([7, 7, 1000, 6, 2].map V.int)) nsl
    refine ⟨z, sl, [7, 7, 1000, 6, 2], rfl, SqL.of upd_same, by decide, by decide, fun dl ds G1 ndl dr s1 hdl => ?_⟩
    obtain ⟨l5, bd⟩ := dr
    match ds, l5 with
    | [d0, d1, d2, d3, d4'], _ =>
    have e0 : 0 ≤ d0 ∧ d0 < 7 := bd 0 d0 7 rfl rfl
    have e1 : 0 ≤ d1 ∧ d1 < 7 := bd 1 d1 7 rfl rfl
    have e2 : 0 ≤ d2 ∧ d2 < 1000 := bd 2 d2 1000 rfl rfl
    have e3 : 0 ≤ d3 ∧ d3 < 6 := bd 3 d3 6 rfl rfl
    have k1 := g1.trans s1
    refine ⟨(by show 7 ≤ sizeLine; decide), fun lw nlw => ?_⟩
    have gw := same_upd (o := .lst (W7.map V.str)) nlw
    refine ⟨(by show 4 ≤ sizeLine; decide), fun ll nll => ?_⟩
    have gl := same_upd (o := .lst ([("sum two one one" : Str), "sum three two one", "quotient half one two", "opposite minus three"].map V.str)) nll
    have k2 := k1.trans (gw.trans gl)
    have hdl2 := gl _ _ (gw _ _ hdl)
    have hlw2 : upd (upd G1 lw (.lst (W7.map V.str))) ll (.lst ([("sum two one one" : Str), "sum three two one", "quotient half one two", "opposite minus three"].map V.str)) lw = some (.lst (W7.map V.str)) := gl _ _ upd_same
    have ndll : dl ≠ ll := ne_of_none (gw _ _ hdl) nll
    have nwll : lw ≠ ll := ne_of_none (upd_same (o := .lst (W7.map V.str))) nll
    refine ⟨_, rfl, .inl ⟨rfl, _, SqL.of upd_same⟩, ll, _, _, rfl, rfl, upd_same, (by show 4 < sizeLine; decide), ?_⟩
    rw [upd_upd]
    obtain ⟨x0, hx0, m0⟩ := at_some (xs := W7.map V.str) (v := d0) e0.1 e0.2
    obtain ⟨x1, hx1, m1⟩ := at_some (xs := W7.map V.str) (v := d1) e1.1 e1.2
    obtain ⟨n0, h0, rfl⟩ := List.mem_map.mp m0
    obtain ⟨n1, h1, rfl⟩ := List.mem_map.mp m1
    have gl5 := same_upd (o := .lst (lin5.map V.str)) nll
    have hdl3 : upd (upd G1 lw (.lst (W7.map V.str))) ll (.lst (lin5.map V.str)) dl = some (.lst ([d0, d1, d2, d3, d4'].map V.int)) := gl5 _ _ (gw _ _ hdl)
    have hlw3 : upd (upd G1 lw (.lst (W7.map V.str))) ll (.lst (lin5.map V.str)) lw = some (.lst (W7.map V.str)) := gl5 _ _ upd_same
    have hll3 : upd (upd G1 lw (.lst (W7.map V.str))) ll (.lst (lin5.map V.str)) ll = some (.lst (lin5.map V.str)) := upd_same
    have k3 : Same H (upd (upd G1 lw (.lst (W7.map V.str))) ll (.lst (lin5.map V.str))) := k1.trans (gw.trans gl5)
    refine ⟨_, rfl, _, rfl, dl, _, _, _, rfl, rfl, SqL.of hdl3, rfl, lw, _, _, _, rfl, rfl, SqL.of hlw3, hx0, _, rfl, _, rfl, dl, _, _, _, rfl, rfl, SqL.of hdl3, rfl, lw, _, _, _, rfl, rfl, SqL.of hlw3, hx1, (by show 2 ≤ sizeLine; decide), fun ln nln => ?_⟩
    have gn := same_upd (o := .lst [.str n0, .str n1]) nln
    have hdl4 := gn _ _ hdl3
    have hll4 := gn _ _ hll3
    have nlnll : ln ≠ ll := (ne_of_none hll3 nln).symm
    have nlndl : ln ≠ dl := (ne_of_none hdl3 nln).symm
    have k4 := k3.trans gn
    have nl0 : ∀ b o, H b = some o → b ≠ ll := fun b o hb => ne_of_none (gw _ _ (k1 _ _ hb)) nll
    have hln4 : upd (upd (upd G1 lw (.lst (W7.map V.str))) ll (.lst (lin5.map V.str))) ln (.lst [.str n0, .str n1]) ln = some (.lst [.str n0, .str n1]) := upd_same
    refine ⟨(by show 3 ≤ sizeLine; decide), fun lr nlr => ?_⟩
    have nlrll : lr ≠ ll := (ne_of_none hll4 nlr).symm
    refine ⟨lr, rfl, ⟨_, SqL.of upd_same⟩, for_it walk_list (fun i σ G => (∀ b o, H b = some o → G b = some o) ∧ G lr = some (.lst ([("sum" : Str), "product", "quotient"].map V.str)) ∧ G dl = some (.lst ([d0, d1, d2, d3, d4'].map V.int)) ∧ G ln = some (.lst [.str n0, .str n1]) ∧
        G ll = some (.lst ((lin5 ++ ([("sum" : Str), "product", "quotient"].take i).map fun r => rowMy r n0 n1).map V.str)) ∧ ∃ y5, σ = [some (.ref l0), some (.ref dl), some (.ref lw), some (.ref ll), some (.ref ln), y5, none, none, none, none, none, none, none]) ⟨?_, upd_same, ?_, ?_, ?_, none, rfl⟩ (fun i σ G _ h => SqL.of h.2.1) ?_ ?_⟩
    · exact k4.trans (same_upd nlr)
    · exact same_upd nlr _ _ hdl4
    · exact same_upd nlr _ _ hln4
    · exact same_upd nlr _ _ hll4
    · rintro i v σ G _ hi ⟨kk, hlr, hdl, hln, hll, y5, rfl⟩ ⟨rfl, hv⟩
      obtain ⟨r, rfl, hr'⟩ := strAt (l := [("sum" : Str), "product", "quotient"]) hv
      have l3 : (" my" : Str).length = 3 := by decide +kernel
      have l1 : (" " : Str).length = 1 := by decide +kernel
      have rl : r.length ≤ 10 := by
        have m := List.mem_of_getElem? hr'
        simp only [List.mem_cons, List.not_mem_nil, or_false] at m
        rcases m with e | e | e <;> rw [e] <;> decide +kernel
      have b0 := len7 h0
      have b1 := len7 h1
      refine ⟨_, rfl, .inl ⟨rfl, _, SqL.of hll⟩, _, rfl, _, _, rfl, rfl, (by rw [l3, sizeLine_eq]; omega), _, rfl, _, _, rfl, rfl, (by rw [app_len, l3, sizeLine_eq]; omega), _, _, rfl, rfl, (by rw [app_len, app_len, l3, l1, sizeLine_eq]; omega), _, rfl, ln, _, _, _, rfl, rfl, SqL.of hln, atI_nat (j := 0) rfl, _, _, rfl, rfl, (by rw [app_len, app_len, app_len, l3, l1, sizeLine_eq]; omega),
        _, _, rfl, rfl, (by rw [app_len, app_len, app_len, app_len, l3, l1, sizeLine_eq]; omega), _, rfl, ln, _, _, _, rfl, rfl, SqL.of hln, atI_nat (j := 1) rfl, _, _, rfl, rfl, (by rw [app_len, app_len, app_len, app_len, app_len, l3, l1, sizeLine_eq]; omega), ll, _, _, rfl, rfl, hll, ?_, ?_⟩
      · rw [List.length_map, List.length_append, List.length_map, List.length_take, sizeLine_eq]
        show 5 + min i 3 < _
        omega
      refine ⟨fun b o hb => ?_, ?_, ?_, ?_, ?_, _, rfl⟩
      · rw [upd_ne (nl0 b o hb)]
        exact kk b o hb
      · rw [upd_ne (fun e => ?_)]
        · exact hlr
        · exact nlrll e
      · rw [upd_ne ndll]
        exact hdl
      · rw [upd_ne nlnll]
        exact hln
      · have ht : ([("sum" : Str), "product", "quotient"].take (i + 1)) = [("sum" : Str), "product", "quotient"].take i ++ [r] := by rw [List.take_add_one, hr'] <;> rfl
        rw [upd_same, ht]
        simp only [List.map_append, List.append_assoc, List.map_cons, List.map_nil]
        rfl
    · rintro σ G ⟨kk, hlr, hdl, hln, hll, y5, rfl⟩
      have lo : ("opposite myother " : Str).length = 17 := by decide +kernel
      have b0 := len7 h0
      refine ⟨_, rfl, _, rfl, ln, _, _, _, rfl, rfl, SqL.of hln, atI_nat (j := 0) rfl, _, _, rfl, rfl, (by rw [lo, sizeLine_eq]; omega), (by show 1 ≤ sizeLine; decide), fun l1 nl1 => ?_⟩
      have gl1 := same_upd (o := .lst [.str ("opposite myother " ++ n0)]) nl1
      have hll1 := gl1 _ _ hll
      refine ⟨ll, l1, _, _, rfl, rfl, hll1, upd_same, ?_, fun lm nlm => ?_⟩
      · rw [sizeLine_eq]
        show 8 + 1 ≤ _
        omega
      have gm := same_upd (o := .lst ((lin9 n0 n1).map V.str)) nlm
      have hlm : (upd (upd G l1 (.lst [.str ("opposite myother " ++ n0)])) lm (.lst ((lin9 n0 n1).map V.str))) lm = some (.lst ((lin9 n0 n1).map V.str)) := upd_same
      have gA := gl1.trans gm
      refine ⟨_, rfl, lm, rfl, ⟨_, SqL.of hlm⟩, fun D nD => lcMap (walk_list (xs := (lin9 n0 n1).map V.str)) (((lin9 n0 n1).map repl2).map V.str) (by rw [List.length_map, List.length_map, List.length_map]) nD (fun H s => SqL.of (s _ _ hlm)) ?_ ?_⟩
      · rintro i x _ G2 hi s2 hD ⟨rfl, hx⟩
        obtain ⟨y, rfl, hy⟩ := strAt hx
        obtain ⟨f1, f2, _⟩ := repl_fits (lin9_len b0 (len7 h1) (List.mem_of_getElem? hy))
        exact ⟨rfl, _, rfl, y, rfl, f1, _, rfl, f2, mapEnd nD (by rw [List.length_map, List.length_map]; show 9 < 1000; decide) s2 hD (map_at (f := V.str) (by rw [List.getElem?_map, hy] <;> rfl))⟩
      · intro G2 s2 hD
        refine ⟨D, (lin9 n0 n1).map repl2, rfl, .inl (SqL.of hD), ?_, ?_⟩
        · have z1 := sum_le (k := 10000) (ys := (lin9 n0 n1).map repl2) fun y hy => by
            obtain ⟨z, hz, rfl⟩ := List.mem_map.mp hy
            exact (repl_fits (lin9_len b0 (len7 h1) hz)).2.2
          have z2 : ((lin9 n0 n1).map repl2).length = 9 := by rw [List.length_map]; rfl
          have z3 : ("\n" : Str).length = 1 := by decide +kernel
          rw [z2] at z1 ⊢
          rw [z3]
          omega
        obtain ⟨rdok, fit⟩ := text_ok h0 h1
        refine fun xr dxr nxr ndxr _ => ⟨xr, dxr, text85 n0 n1, rfl, upd_same, fit, fun R hR G3 ru keep => ⟨rfl, ?_⟩, fun i ws Ri o1 o2 o3 => ?_⟩
        · have eR : R = stp9 n0 n1 := Option.some.inj (hR.symm.trans rdok)
          subst eR
          have sm : Same G2 G3 := fun b o eb => keep b o (by rw [upd_ne (ne_of_none eb nxr), upd_ne (ne_of_none eb ndxr)]; exact eb) (ne_of_none eb nxr)
          have kG : Same G G3 := (gA.trans s2).trans sm
          have kH : Same H G3 := fun b o hb => kG b o (kk b o hb)
          have hdl8 := kG _ _ hdl
          have hln8 := kG _ _ hln
          obtain ⟨dru, dd, kvs, oru, od, sa⟩ := ru.ob
          have wf := ru.ok
          clear hlr hll hll1 hlm gl1 gm gA s2 hD sm nlm nl1
          refine ⟨_, rfl, dl, _, _, _, rfl, rfl, SqL.of hdl8, rfl, d2, rfl, by omega, fun pp hpp bpp => ⟨(by show 6 ≤ sizeLine; decide), fun lc nlc => ?_⟩⟩
          have gc := same_upd (o := .lst ([2, 3, 5, 7, pp, 2].map V.int)) nlc
          refine ⟨lc, rfl, ⟨_, SqL.of upd_same⟩, for_it (walk_list (xs := [2, 3, 5, 7, pp, 2].map V.int)) (fun i σ G => Same G3 G ∧ G lc = some (.lst ([2, 3, 5, 7, pp, 2].map V.int)) ∧ ∃ y5 y7 y8 y9 y10 y11 y12, σ = [some (.ref l0), some (.ref dl), some (.ref lw), some (.ref lm), some (.ref ln), y5, some (.ref xr), y7, y8, y9, y10, y11, y12]) ⟨gc, upd_same, _, _, _, _, _, _, _, rfl⟩ (fun i σ G _ h => SqL.of h.2.1) ?_ ?_⟩
          · rintro i v σ G4 _ hi ⟨s4, hlc, y5, y7, y8, y9, y10, y11, y12, rfl⟩ ⟨rfl, hv⟩
            obtain ⟨p, rfl, hpi⟩ := item_int hv
            obtain ⟨hp, hb⟩ := chars_pr hpp bpp p (List.mem_of_getElem? hpi)
            have b62 : p < 2 ^ 62 := by omega
            have ru4 := ru.same s4
            have oru4 := s4 _ _ oru
            have hln4 := s4 _ _ hln8
            refine ⟨_, rfl, ln, rfl, ⟨_, SqL.of hln4⟩, fun D nD => lcMap (walk_list (xs := [n0, n1].map V.str)) ([n0, n1].map fun z => valO (valF p (stp9 n0 n1) z)) rfl nD (fun H s => SqL.of (s _ _ hln4)) ?_ ?_⟩
            · rintro i x _ G5 hi s5 hD ⟨rfl, hx⟩
              obtain ⟨z, rfl, hz⟩ := strAt (l := [n0, n1]) hx
              have m7 : z ∈ W7 := by
                have m := List.mem_of_getElem? hz
                simp only [List.mem_cons, List.not_mem_nil, or_false] at m
                rcases m with e | e <;> rw [e] <;> assumption
              refine ⟨rfl, _, rfl, xr, dru, _, rfl, s5 _ _ oru4, ru_no _ (by decide +kernel), _, rfl, _, rfl, rfl, rfl, xr, stp9 n0 n1, z, p, rfl, ru4.same s5, (by show 9 ≤ 900; decide), (by have := len7 m7; omega), b62, fun n => absurd hp n, fun _ u => absurd (known7 m7) (by rw [u]; decide), fun _ _ G6 s6 => ?_⟩
              exact mapEnd nD (by show 2 < 1000; decide) (s5.trans s6) (s6 _ _ hD) (map_at (f := fun z => valO (valF p (stp9 n0 n1) z)) hz)
            · intro G5 s5 hD
              refine ⟨(by show 2 ≤ sizeLine; decide), fun t1 nt1 => ⟨(by show 2 ≤ sizeLine; decide), fun t2 nt2 => ⟨(by show 2 ≤ sizeLine; decide), fun t3 nt3 => ⟨(by show 2 ≤ sizeLine; decide), fun t4 nt4 => ⟨(by show 4 ≤ sizeLine; decide), fun lp nlp => ?_⟩⟩⟩⟩⟩
              have u1 := same_upd (o := .tup [.str "sum", .str "mysum"]) nt1
              have u2 := same_upd (o := .tup [.str "product", .str "myprod"]) nt2
              have u3 := same_upd (o := .tup [.str "quotient", .str "myshare"]) nt3
              have u4 := same_upd (o := .tup [.str "opposite", .str "myother"]) nt4
              have u5 := same_upd (o := .lst [.ref t1, .ref t2, .ref t3, .ref t4]) nlp
              have hp1 := u5 _ _ (u4 _ _ (u3 _ _ (u2 _ _ (upd_same (H := G5) (a := t1) (o := .tup [.str "sum", .str "mysum"])))))
              have hp2 := u5 _ _ (u4 _ _ (u3 _ _ (upd_same (H := upd G5 t1 (.tup [.str "sum", .str "mysum"])) (a := t2) (o := .tup [.str "product", .str "myprod"]))))
              have hp3 := u5 _ _ (u4 _ _ (upd_same (H := upd (upd G5 t1 (.tup [.str "sum", .str "mysum"])) t2 (.tup [.str "product", .str "myprod"])) (a := t3) (o := .tup [.str "quotient", .str "myshare"])))
              have hp4 := u5 _ _ (upd_same (H := upd (upd (upd G5 t1 (.tup [.str "sum", .str "mysum"])) t2 (.tup [.str "product", .str "myprod"])) t3 (.tup [.str "quotient", .str "myshare"])) (a := t4) (o := .tup [.str "opposite", .str "myother"]))
              have s6 := s5.trans (u1.trans (u2.trans (u3.trans (u4.trans u5))))
              have hD6 := u5 _ _ (u4 _ _ (u3 _ _ (u2 _ _ (u1 _ _ hD))))
              have prs : ∀ (j : Nat) (v : V), ([V.ref t1, .ref t2, .ref t3, .ref t4])[j]? = some v → ∃ t rl nm, v = .ref t ∧ rl4[j]? = some rl ∧ nm4[j]? = some nm ∧ upd (upd (upd (upd (upd G5 t1 (.tup [.str "sum", .str "mysum"])) t2 (.tup [.str "product", .str "myprod"])) t3 (.tup [.str "quotient", .str "myshare"])) t4 (.tup [.str "opposite", .str "myother"])) lp (.lst [.ref t1, .ref t2, .ref t3, .ref t4]) t = some (.tup [.str rl, .str nm]) := fun j v hv => by
                match j, hv with
                | 0, hv => exact ⟨t1, _, _, (Option.some.inj hv).symm, rfl, rfl, hp1⟩
                | 1, hv => exact ⟨t2, _, _, (Option.some.inj hv).symm, rfl, rfl, hp2⟩
                | 2, hv => exact ⟨t3, _, _, (Option.some.inj hv).symm, rfl, rfl, hp3⟩
                | 3, hv => exact ⟨t4, _, _, (Option.some.inj hv).symm, rfl, rfl, hp4⟩
                | j + 4, hv => cases hv
              have hlp : upd (upd (upd (upd (upd G5 t1 (.tup [.str "sum", .str "mysum"])) t2 (.tup [.str "product", .str "myprod"])) t3 (.tup [.str "quotient", .str "myshare"])) t4 (.tup [.str "opposite", .str "myother"])) lp (.lst [.ref t1, .ref t2, .ref t3, .ref t4]) lp = some (.lst [.ref t1, .ref t2, .ref t3, .ref t4]) := upd_same
              refine ⟨lp, rfl, ⟨_, SqL.of upd_same⟩, ?_⟩
              generalize upd (upd (upd (upd (upd G5 t1 (.tup [.str "sum", .str "mysum"])) t2 (.tup [.str "product", .str "myprod"])) t3 (.tup [.str "quotient", .str "myshare"])) t4 (.tup [.str "opposite", .str "myother"])) lp (.lst [.ref t1, .ref t2, .ref t3, .ref t4]) = G6 at *
              refine for_it walk_list (fun j σ G => Same G6 G ∧ ∃ y5 y10 y11, σ = [some (.ref l0), some (.ref dl), some (.ref lw), some (.ref lm), some (.ref ln), y5, some (.ref xr), y7, some (.int p), some (.ref D), y10, y11, y12]) ⟨Same.refl _, _, _, _, rfl⟩ (fun i σ G _ h => SqL.of (h.1 _ _ hlp)) ?_ ?_
              · rintro j v σ G7 _ hj ⟨s7, y5, y10, y11, rfl⟩ ⟨rfl, hv⟩
                obtain ⟨t, rl, nm, rfl, hrl, hnm, ht⟩ := prs j v hv
                have hst := stp9_at (n0 := n0) (n1 := n1) hnm hrl
                have ru7 := (ru4.same s6).same s7
                have oru7 := s7 _ _ (s6 _ _ oru4)
                refine ⟨t, _, rfl, SqT.of (s7 _ _ ht), rfl, _, _, rfl, _, _, rfl, rfl, ?_⟩
                have mn : nm ∈ nm9 := by
                  have m := List.mem_of_getElem? hnm
                  revert m
                  exact fun m => (show ∀ z ∈ nm4, z ∈ nm9 by decide +kernel) nm m
                have mn2 : nm ∈ namesS (stp9 n0 n1) := by rw [names9]; exact mn
                have kn : knownB (namesS (stp9 n0 n1)) nm = true := knownB_iff.mpr (.inr mn2)
                have ng : nm ∉ gvnS := fun g => (show ∀ z ∈ nm9, z ∉ gvnS by decide +kernel) nm mn g
                have ln : nm.length ≤ 1000 := (show ∀ z ∈ nm9, z.length ≤ 1000 by decide +kernel) nm mn
                refine ⟨_, rfl, xr, dru, _, rfl, oru7, ru_no _ (by decide +kernel), _, rfl, _, rfl, rfl, rfl, xr, stp9 n0 n1, nm, p, rfl, ru7, (by show 9 ≤ 900; decide), ln, b62, fun n => absurd hp n, fun _ u => absurd kn (by rw [u]; decide), fun _ g => absurd g ng, fun _ _ _ hv0 G8 s8 => ?_, fun _ i st hst' est hv1 l G8 s8 nl rws => ?_⟩
                · -- no such number
                  have ru8 := ru7.same s8
                  have oru8 := s8 _ _ oru7
                  refine ⟨_, rfl, xr, dru, _, rfl, oru8, ru_no _ (by decide +kernel), _, rfl, _, rfl, rfl, rfl, xr, stp9 n0 n1, nm, p, rfl, ru8, (by show 9 ≤ 900; decide), ln, b62, fun n => absurd hp n, fun _ u => absurd kn (by rw [u]; decide), fun _ _ G9 s9 => ?_⟩
                  rw [hv0]
                  refine ⟨rfl, _, rfl, if_pos_of (decide_eq_true rfl) ?_⟩
                  exact ⟨_, rfl, rfl, _, rfl, if_neg_of (by rw [decide_eq_true rfl]; rfl) ⟨s7.trans (s8.trans s9), _, _, _, rfl⟩⟩
                · obtain ⟨⟨v, y⟩, hv1⟩ := hv1
                  have ei : st = (nm, rl, rest4 n0 n1 j) := by
                    have e5 := wfr_fresh wf hst' hst est
                    rw [e5] at hst'
                    exact Option.some.inj (hst'.symm.trans hst)
                  subst ei
                  have ru8 := ru7.same s8
                  have oru8 := s8 _ _ oru7
                  obtain ⟨a, ea, ba, due⟩ := due85 wf hp b62 hst hrl hv1
                  obtain ⟨⟨pre, w0, A0, B0, elast⟩, eN, nzv⟩ := last85 wf hp hst hv1
                  have jm := jm_drw p rl ((rest4 n0 n1 j).map fun r => valI (valF p (stp9 n0 n1) r))
                  obtain ⟨vO, vB⟩ := valO_pr wf hp b62 hv1
                  refine ⟨_, rfl, xr, dru, _, rfl, oru8, ru_no _ (by decide +kernel), _, rfl, _, rfl, rfl, rfl, xr, stp9 n0 n1, nm, p, rfl, ru8, (by show 9 ≤ 900; decide), ln, b62, fun n => absurd hp n, fun _ u => absurd kn (by rw [u]; decide), fun _ _ G9 s9 => ?_⟩
                  rw [vO]
                  refine ⟨rfl, _, rfl, if_neg_of (decide_eq_false fun e => nomatch e) ?_⟩
                  have rws9 := rws.same s9
                  obtain ⟨us, hus, al⟩ := rws9
                  refine ⟨_, rfl, _, _, _, _, true, rfl, .ty _, .base (.lst hus), kit_ty (by decide +kernel), _, rfl, iteF ?_⟩
                  have hD9 := s9 _ _ (s8 _ _ (s7 _ _ hD6))
                  refine ⟨_, rfl, _, rfl, _, rfl, D, _, _, .int a, rfl, rfl, SqL.of hD9, (by rw [← ea]; exact atI_nat (j := 0) rfl), _, rfl, D, _, _, _, rfl, rfl, SqL.of hD9, atI_nat (j := 1) rfl, _, rfl, rl, a, p, _, _, rfl, hp, by omega, ba, due, fun l2 G10 s10 nl2 rws2 => ?_⟩
                  refine ⟨_, _, dp_rows ((rws.same s9).same s10), dp_rows rws2, shaped_rows jm, shaped_rows jm, _, rfl, ?_⟩
                  rw [eqv_rows jm]
                  refine iteF ?_
                  have al10 := ((rws.same s9).same s10)
                  obtain ⟨us1, hus1, al1⟩ := al10
                  rw [elast] at al1
                  obtain ⟨lu, hlu, lt, tf, ta, tb, rfl, hlt, htf, _, _⟩ := last_at al1
                  have oru10 := s10 _ _ (s9 _ _ oru8)
                  have ru10 := (ru8.same s9).same s10
                  refine ⟨_, rfl, _, rfl, l, _, _, _, rfl, rfl, SqL.of hus1, hlu, lt, _, _, _, rfl, rfl, SqT.of hlt, atI_nat (j := 1) rfl, ?_⟩
                  refine ⟨_, rfl, xr, dru, _, rfl, oru10, ru_no _ (by decide +kernel), _, rfl, _, rfl, rfl, rfl, xr, stp9 n0 n1, nm, p, rfl, ru10, (by show 9 ≤ 900; decide), ln, b62, fun n => absurd hp n, fun _ u => absurd kn (by rw [u]; decide), fun _ _ G11 s11 => ?_⟩
                  rw [vO]
                  refine ⟨(by show 3 ≤ sizeLine; decide), fun tv ntv => ?_⟩
                  have gv := same_upd (o := .tup (i3 (v, 0, 1))) ntv
                  refine ⟨_, rfl, tv, (v, 0, 1), p, rfl, .inr (SqT.of upd_same), hp, by omega, fun nv G12 s12 trv => ?_⟩
                  rw [N3_ne hp nzv, ← eN] at trv
                  obtain ⟨tn, rfl, htn⟩ := trv
                  have s1012 := s11.trans (gv.trans s12)
                  refine ⟨_, _, dp_t3 (sqT_same s1012 htf), dp_t3 htn, shaped_t3 _, shaped_t3 _, _, rfl, ?_⟩
                  show if (!PyData.eqv (dt3 (N3 p (lastP rl ((rest4 n0 n1 j).map fun r => valI (valF p (stp9 n0 n1) r))))) (dt3 (N3 p (lastP rl ((rest4 n0 n1 j).map fun r => valI (valF p (stp9 n0 n1) r)))))) = true then _ else _
                  rw [eqv_t3]
                  refine iteF ?_
                  have hus12 := s1012 _ _ hus1
                  have lal := al1.1
                  refine ⟨_, rfl, .inl ⟨rfl, _, SqL.of hus12⟩, l, us1, _, rfl, rfl, hus12, ?_, ?_⟩
                  · have z := drw_len p rl ((rest4 n0 n1 j).map fun r => valI (valF p (stp9 n0 n1) r))
                    have e2 : us1.length = (drw p rl ((rest4 n0 n1 j).map fun r => valI (valF p (stp9 n0 n1) r))).length := by
                      rw [lal]
                      exact (congrArg List.length elast).symm
                    rw [sizeLine_eq]
                    omega
                  · refine ⟨fun b o hb => ?_, _, _, _, rfl⟩
                    rw [upd_ne (fun e => by rw [e] at hb; rw [s7 _ _ hb] at nl; cases nl)]
                    exact s1012 _ _ (s10 _ _ (s9 _ _ (s8 _ _ (s7 _ _ hb))))
              · rintro σ G7 ⟨s7, y5, y10, y11, rfl⟩
                have ru7 := (ru4.same s6).same s7
                have oru7 := s7 _ _ (s6 _ _ oru4)
                have one1 : ("one" : Str) ∈ gvnS := by decide
                have zero1 : ("zero" : Str) ∈ gvnS := by decide
                refine ⟨_, rfl, xr, dru, _, rfl, oru7, ru_no _ (by decide +kernel), _, rfl, rfl, rfl, xr, stp9 n0 n1, "one", p, rfl, ru7, (by show 9 ≤ 900; decide), (by decide +kernel), b62, fun n => absurd hp n, fun _ u => absurd (knownB_not.mp u).1 (fun n => n one1), fun _ _ l G8 s8 hl8 => ?_, fun _ n => absurd one1 n, fun _ i st hst est => absurd one1 (by rw [← est]; exact (knownB_not.mp (wf i st hst).fresh).1)⟩
                refine ⟨(by show 0 ≤ sizeLine; decide), fun l2 nl2 => ?_⟩
                have g8 := same_upd (o := .lst []) nl2
                refine ⟨.list [], .list [], .lst (SqL.of (g8 _ _ hl8)) .nil, .lst (SqL.of upd_same) .nil, shaped_rows (rows := []) jm_nil, shaped_rows (rows := []) jm_nil, _, rfl, ?_⟩
                rw [show PyData.eqv (.list []) (.list []) = true from eqv_rows (rows := []) jm_nil]
                refine iteF ?_
                have s78 := s8.trans g8
                refine ⟨_, rfl, xr, dru, _, rfl, s78 _ _ oru7, ru_no _ (by decide +kernel), _, rfl, rfl, rfl, xr, stp9 n0 n1, "zero", p, rfl, ru7.same s78, (by show 9 ≤ 900; decide), (by decide +kernel), b62, fun n => absurd hp n, fun _ u => absurd (knownB_not.mp u).1 (fun n => n zero1), fun _ _ l3 G9 s9 hl9 => ?_, fun _ n => absurd zero1 n, fun _ i st hst est => absurd zero1 (by rw [← est]; exact (knownB_not.mp (wf i st hst).fresh).1)⟩
                refine ⟨(by show 0 ≤ sizeLine; decide), fun l4 nl4 => ?_⟩
                have g9 := same_upd (o := .lst []) nl4
                refine ⟨.list [], .list [], .lst (SqL.of (g9 _ _ hl9)) .nil, .lst (SqL.of upd_same) .nil, shaped_rows (rows := []) jm_nil, shaped_rows (rows := []) jm_nil, _, rfl, ?_⟩
                rw [show PyData.eqv (.list []) (.list []) = true from eqv_rows (rows := []) jm_nil]
                refine iteF ?_
                have sall := s4.trans (s6.trans (s7.trans (s78.trans (s9.trans g9))))
                have slc := (s6.trans (s7.trans (s78.trans (s9.trans g9)))) _ _ hlc
                exact ⟨sall, slc, _, _, _, _, _, _, _, rfl⟩
          · rintro σ G4 ⟨s4, hlc, y5, y7, y8, y9, y10, y11, y12, rfl⟩
            have ru4 := ru.same s4
            have hdl4 := s4 _ _ hdl8
            refine ⟨_, rfl, (by show 6 ≤ sizeLine; decide), fun lb nlb => ?_⟩
            have gb := same_upd (o := .lst ([0, 1, 4, -3, 9, 25].map V.int)) nlb
            obtain ⟨xb, hxb, mb⟩ := at_some (xs := [0, 1, 4, -3, 9, 25].map V.int) (v := d3) e3.1 e3.2
            obtain ⟨bad, hbad, rfl⟩ := List.mem_map.mp mb
            obtain ⟨nb, lbad⟩ := bad_not bad hbad
            refine ⟨_, rfl, dl, _, _, _, rfl, rfl, SqL.of (gb _ _ hdl4), rfl, lb, _, _, _, rfl, rfl, SqL.of upd_same, hxb, ?_⟩
            have zz : knownB (namesS (stp9 n0 n1)) "zz" = false := by rw [names9]; decide +kernel
            have okb : PyData.strOk "bad" = true := by decide +kernel
            have okn : PyData.strOk "name" = true := by decide +kernel
            have okz : PyData.strOk "zz" = true := by decide +kernel
            have pr2 : Pr 2 := pr_of_trial (n := 2) 2 (by decide +kernel)
            have rub := ru4.same gb
            refine ⟨_, rfl, _, rfl, xr, stp9 n0 n1, "zz", bad, rfl, rub, (by show 9 ≤ 900; decide), (by decide +kernel), lbad, zz, fun _ r G5 s5 hr5 => ?_, fun hp => absurd hp nb⟩
            refine ⟨_, rfl, (by show 2 ≤ sizeLine; decide), fun l5 nl5 => ?_⟩
            have g5 := same_upd (o := .lst [.str "bad", .int bad]) nl5
            refine ⟨_, _, dp_si (g5 _ _ hr5), dp_si upd_same, sh_si okb bad, sh_si okb bad, _, rfl, ?_⟩
            rw [SeqAt.eqv_refl _ (lay_si okb bad)]
            refine iteT ?_
            refine ⟨_, rfl, xr, stp9 n0 n1, "zz", 2, rfl, (rub.same s5).same g5, (by show 9 ≤ 900; decide), (by decide +kernel), (by decide), zz, fun n => absurd pr2 n, fun _ r6 G6 s6 hr6 => ?_⟩
            refine ⟨(by show 2 ≤ sizeLine; decide), fun l7 nl7 => ?_⟩
            have g7 := same_upd (o := .lst [.str "name", .str "zz"]) nl7
            refine ⟨_, _, dp_ss (g7 _ _ hr6), dp_ss upd_same, sh_ss okn okz, sh_ss okn okz, ?_⟩
            rw [SeqAt.eqv_refl _ (lay_ss okn okz)]
            exact q _
        · exfalso
          obtain ⟨R', hR'⟩ := rdAll_take rdok (i + 1)
          rw [List.take_add_one, o1] at hR'
          have z := rdAll_snoc ((rowsW (text85 n0 n1)).take i) ws
          rw [o2] at z
          have z2 : rdAll ((rowsW (text85 n0 n1)).take i ++ [ws]) = rdRow Ri ws := z
          rw [o3] at z2
          have hR2 : rdAll ((rowsW (text85 n0 n1)).take i ++ [ws]) = some R' := hR'
          rw [z2] at hR2
          cases hR2
end
theorem all_mk {P : Program} {w : World} {K : PySem.W.Frag} {h : Heap} {mg : Str → Option Value} {fa : Addr} (X : K.In h) (G : h.Ns mainGlobals mg) (hfa : mg "law" = some (.ref fa))
    {f_common : Addr} {od_common an_common : Option Addr} {sl_common : Array (Option Value)} {oc_common kV_common dc_common pm_common cd_common ct_common : Value}
    {f_comb : Addr} {od_comb an_comb : Option Addr} {sl_comb : Array (Option Value)} {oc_comb kV_comb dc_comb pm_comb cd_comb ct_comb : Value}
    {f_least : Addr} {od_least an_least : Option Addr} {sl_least : Array (Option Value)} {oc_least kV_least dc_least pm_least cd_least ct_least : Value}
    {f_prime : Addr} {od_prime an_prime : Option Addr} {sl_prime : Array (Option Value)} {oc_prime kV_prime dc_prime pm_prime cd_prime ct_prime : Value}
    {f_chkp : Addr} {od_chkp an_chkp : Option Addr} {sl_chkp : Array (Option Value)} {oc_chkp kV_chkp dc_chkp pm_chkp cd_chkp ct_chkp : Value}
    {f_rem0 : Addr} {od_rem0 an_rem0 : Option Addr} {sl_rem0 : Array (Option Value)} {oc_rem0 kV_rem0 dc_rem0 pm_rem0 cd_rem0 ct_rem0 : Value}
    {f_recipG : Addr} {od_recipG an_recipG : Option Addr} {sl_recipG : Array (Option Value)} {oc_recipG kV_recipG dc_recipG pm_recipG cd_recipG ct_recipG : Value}
    {f_isname : Addr} {od_isname an_isname : Option Addr} {sl_isname : Array (Option Value)} {oc_isname kV_isname dc_isname pm_isname cd_isname ct_isname : Value}
    {f_isstep : Addr} {od_isstep an_isstep : Option Addr} {sl_isstep : Array (Option Value)} {oc_isstep kV_isstep dc_isstep pm_isstep cd_isstep ct_isstep : Value}
    {f_frac : Addr} {od_frac an_frac : Option Addr} {sl_frac : Array (Option Value)} {oc_frac kV_frac dc_frac pm_frac cd_frac ct_frac : Value}
    {f_blt : Addr} {od_blt an_blt : Option Addr} {sl_blt : Array (Option Value)} {oc_blt kV_blt dc_blt pm_blt cd_blt ct_blt : Value}
    {f_comof : Addr} {od_comof an_comof : Option Addr} {sl_comof : Array (Option Value)} {oc_comof kV_comof dc_comof pm_comof cd_comof ct_comof : Value}
    {f_cross : Addr} {od_cross an_cross : Option Addr} {sl_cross : Array (Option Value)} {oc_cross kV_cross dc_cross pm_cross cd_cross ct_cross : Value}
    {f_fstu : Addr} {od_fstu an_fstu : Option Addr} {sl_fstu : Array (Option Value)} {oc_fstu kV_fstu dc_fstu pm_fstu cd_fstu ct_fstu : Value}
    {f_nrmin : Addr} {od_nrmin an_nrmin : Option Addr} {sl_nrmin : Array (Option Value)} {oc_nrmin kV_nrmin dc_nrmin pm_nrmin cd_nrmin ct_nrmin : Value}
    {f_drsum : Addr} {od_drsum an_drsum : Option Addr} {sl_drsum : Array (Option Value)} {oc_drsum kV_drsum dc_drsum pm_drsum cd_drsum ct_drsum : Value}
    {f_dropp : Addr} {od_dropp an_dropp : Option Addr} {sl_dropp : Array (Option Value)} {oc_dropp kV_dropp dc_dropp pm_dropp cd_dropp ct_dropp : Value}
    {f_drup : Addr} {od_drup an_drup : Option Addr} {sl_drup : Array (Option Value)} {oc_drup kV_drup dc_drup pm_drup cd_drup ct_drup : Value}
    {f_drprd : Addr} {od_drprd an_drprd : Option Addr} {sl_drprd : Array (Option Value)} {oc_drprd kV_drprd dc_drprd pm_drprd cd_drprd ct_drprd : Value}
    {f_drquo : Addr} {od_drquo an_drquo : Option Addr} {sl_drquo : Array (Option Value)} {oc_drquo kV_drquo dc_drquo pm_drquo cd_drquo ct_drquo : Value}
    {f_cell : Addr} {od_cell an_cell : Option Addr} {sl_cell : Array (Option Value)} {oc_cell kV_cell dc_cell pm_cell cd_cell ct_cell : Value}
    {f_draws : Addr} {od_draws an_draws : Option Addr} {sl_draws : Array (Option Value)} {oc_draws kV_draws dc_draws pm_draws cd_draws ct_draws : Value}
    {f_lprime : Addr} {od_lprime an_lprime : Option Addr} {sl_lprime : Array (Option Value)} {oc_lprime kV_lprime dc_lprime pm_lprime cd_lprime ct_lprime : Value}
    {f_lpf : Addr} {od_lpf an_lpf : Option Addr} {sl_lpf : Array (Option Value)} {oc_lpf kV_lpf dc_lpf pm_lpf cd_lpf ct_lpf : Value}
    {f_lnrm : Addr} {od_lnrm an_lnrm : Option Addr} {sl_lnrm : Array (Option Value)} {oc_lnrm kV_lnrm dc_lnrm pm_lnrm cd_lnrm ct_lnrm : Value}
    {f_lboth : Addr} {od_lboth an_lboth : Option Addr} {sl_lboth : Array (Option Value)} {oc_lboth kV_lboth dc_lboth pm_lboth cd_lboth ct_lboth : Value}
    {f_lbes : Addr} {od_lbes an_lbes : Option Addr} {sl_lbes : Array (Option Value)} {oc_lbes kV_lbes dc_lbes pm_lbes cd_lbes ct_lbes : Value}
    {f_ldue : Addr} {od_ldue an_ldue : Option Addr} {sl_ldue : Array (Option Value)} {oc_ldue kV_ldue dc_ldue pm_ldue cd_ldue ct_ldue : Value}
    {f_lref85 : Addr} {od_lref85 an_lref85 : Option Addr} {sl_lref85 : Array (Option Value)} {oc_lref85 kV_lref85 dc_lref85 pm_lref85 cd_lref85 ct_lref85 : Value}
    {f_law : Addr} {od_law an_law : Option Addr} {sl_law : Array (Option Value)} {oc_law kV_law dc_law pm_law cd_law ct_law : Value}
    {CF : Addr}
    {C_ibc f_ibc : Addr} {nm_ibc q_ibc : Str} {N_ibc : Addr} {bs_ibc sb_ibc : List Value} {sn_ibc : List Str} {ab_ibc : Bool} {co_ibc : Option Bool} {dd_ibc : Option Addr} {x0_ibc x1_ibc x2_ibc x3_ibc x5_ibc : Option Value} {od_ibc an_ibc : Option Addr} {sl_ibc : Array (Option Value)} {oc_ibc kV_ibc dc_ibc pm_ibc cd_ibc ct_ibc : Value}
    {C_ibs f_ibs : Addr} {nm_ibs q_ibs : Str} {N_ibs : Addr} {bs_ibs sb_ibs : List Value} {sn_ibs : List Str} {ab_ibs : Bool} {co_ibs : Option Bool} {dd_ibs : Option Addr} {x0_ibs x1_ibs x2_ibs x3_ibs x5_ibs : Option Value} {od_ibs an_ibs : Option Addr} {sl_ibs : Array (Option Value)} {oc_ibs kV_ibs dc_ibs pm_ibs cd_ibs ct_ibs : Value}
    {C_iun f_iun : Addr} {nm_iun q_iun : Str} {N_iun : Addr} {bs_iun sb_iun : List Value} {sn_iun : List Str} {ab_iun : Bool} {co_iun : Option Bool} {dd_iun : Option Addr} {x0_iun x1_iun x2_iun x3_iun x5_iun : Option Value} {od_iun an_iun : Option Addr} {sl_iun : Array (Option Value)} {oc_iun kV_iun dc_iun pm_iun cd_iun ct_iun : Value}
    {C_ru : Addr}
    {f_ruinit : Addr} {od_ruinit an_ruinit : Option Addr} {sl_ruinit : Array (Option Value)} {oc_ruinit kV_ruinit dc_ruinit pm_ruinit cd_ruinit ct_ruinit : Value}
    {f_ruchk : Addr} {od_ruchk an_ruchk : Option Addr} {sl_ruchk : Array (Option Value)} {oc_ruchk kV_ruchk dc_ruchk pm_ruchk cd_ruchk ct_ruchk : Value}
    {f_ruway : Addr} {od_ruway an_ruway : Option Addr} {sl_ruway : Array (Option Value)} {oc_ruway kV_ruway dc_ruway pm_ruway cd_ruway ct_ruway : Value}
    {f_rufrs : Addr} {od_rufrs an_rufrs : Option Addr} {sl_rufrs : Array (Option Value)} {oc_rufrs kV_rufrs dc_rufrs pm_rufrs cd_rufrs ct_rufrs : Value}
    {f_ruval : Addr} {od_ruval an_ruval : Option Addr} {sl_ruval : Array (Option Value)} {oc_ruval kV_ruval dc_ruval pm_ruval cd_ruval ct_ruval : Value}
    {f_rushow : Addr} {od_rushow an_rushow : Option Addr} {sl_rushow : Array (Option Value)} {oc_rushow kV_rushow dc_rushow pm_rushow cd_rushow ct_rushow : Value}
    {C_sh : Addr}
    {f_shinit : Addr} {od_shinit an_shinit : Option Addr} {sl_shinit : Array (Option Value)} {oc_shinit kV_shinit dc_shinit pm_shinit cd_shinit ct_shinit : Value}
    {f_shfound : Addr} {od_shfound an_shfound : Option Addr} {sl_shfound : Array (Option Value)} {oc_shfound kV_shfound dc_shfound pm_shfound cd_shfound ct_shfound : Value}
    {f_shjoin : Addr} {od_shjoin an_shjoin : Option Addr} {sl_shjoin : Array (Option Value)} {oc_shjoin kV_shjoin dc_shjoin pm_shjoin cd_shjoin ct_shjoin : Value}
    {f_shmet : Addr} {od_shmet an_shmet : Option Addr} {sl_shmet : Array (Option Value)} {oc_shmet kV_shmet dc_shmet pm_shmet cd_shmet ct_shmet : Value}
    {f_shalong : Addr} {od_shalong an_shalong : Option Addr} {sl_shalong : Array (Option Value)} {oc_shalong kV_shalong dc_shalong pm_shalong cd_shalong ct_shalong : Value}
    {tk0 tk1 tk2 tk3 : Tok}
    {DT : Addr} {esWT : Array DictEntry} {nWT : Nat}
    {ZA OA : Addr}
    {DG : Addr} {esWG : Array DictEntry} {nWG : Nat}
    {tTZ0 tTZ1 : Tok} {nTZ : Nat} {slTZ : Array (Option Value)} {odTZ : Option Addr}
    {tTO0 tTO1 : Tok} {nTO : Nat} {slTO : Array (Option Value)} {odTO : Option Addr}
    {GZ : Addr} {tLZ0 tLZ1 tLZ2 : Tok} {nLZ : Nat} {slLZ : Array (Option Value)} {odLZ : Option Addr}
    {GO : Addr} {tLO0 tLO1 tLO2 : Tok} {nLO : Nat} {slLO : Array (Option Value)} {odLO : Option Addr}
    {GT : Addr} {tLT0 tLT1 tLT2 : Tok} {nLT : Nat} {slLT : Array (Option Value)} {odLT : Option Addr}
    {GA : Addr} {tLA0 tLA1 tLA2 : Tok} {nLA : Nat} {slLA : Array (Option Value)} {odLA : Option Addr}
    {GX : Addr} {tLX0 tLX1 tLX2 : Tok} {nLX : Nat} {slLX : Array (Option Value)} {odLX : Option Addr}
    {GU : Addr} {tLU0 tLU1 tLU2 : Tok} {nLU : Nat} {slLU : Array (Option Value)} {odLU : Option Addr}
    {GL : Addr} {tLL0 tLL1 tLL2 : Tok} {nLL : Nat} {slLL : Array (Option Value)} {odLL : Option Addr}
    {GF : Addr} {tLF0 tLF1 tLF2 : Tok} {nLF : Nat} {slLF : Array (Option Value)} {odLF : Option Addr}
    {DD : Addr} {esWD : Array DictEntry} {nWD : Nat}
    {tML : Tok}
    (a_common : PySem.W.nsIn K mainGlobals "common" = some (some (.ref f_common))) (l_common : K.lookup f_common = some ⟨oc_common, od_common, .func (PySem.W.fnOf "common" "common" (defArgs s_common) (defBody s_common) (defScope s_common) .none kV_common dc_common pm_common an_common cd_common ct_common), sl_common⟩) (c_common : PySem.W.codeIn K cd_common "common" = true) (k_common : PySem.W.keepIn K (.ref f_common) = true)
    (a_comb : PySem.W.nsIn K mainGlobals "combination" = some (some (.ref f_comb))) (l_comb : K.lookup f_comb = some ⟨oc_comb, od_comb, .func (PySem.W.fnOf "combination" "combination" (defArgs s_comb) (defBody s_comb) (defScope s_comb) .none kV_comb dc_comb pm_comb an_comb cd_comb ct_comb), sl_comb⟩) (c_comb : PySem.W.codeIn K cd_comb "combination" = true) (k_comb : PySem.W.keepIn K (.ref f_comb) = true)
    (a_least : PySem.W.nsIn K mainGlobals "_least_divisor" = some (some (.ref f_least))) (l_least : K.lookup f_least = some ⟨oc_least, od_least, .func (PySem.W.fnOf "_least_divisor" "_least_divisor" (defArgs s_least) (defBody s_least) (defScope s_least) .none kV_least dc_least pm_least an_least cd_least ct_least), sl_least⟩) (c_least : PySem.W.codeIn K cd_least "_least_divisor" = true) (k_least : PySem.W.keepIn K (.ref f_least) = true)
    (a_prime : PySem.W.nsIn K mainGlobals "is_prime" = some (some (.ref f_prime))) (l_prime : K.lookup f_prime = some ⟨oc_prime, od_prime, .func (PySem.W.fnOf "is_prime" "is_prime" (defArgs s_prime) (defBody s_prime) (defScope s_prime) .none kV_prime dc_prime pm_prime an_prime cd_prime ct_prime), sl_prime⟩) (c_prime : PySem.W.codeIn K cd_prime "is_prime" = true) (k_prime : PySem.W.keepIn K (.ref f_prime) = true)
    (a_chkp : PySem.W.nsIn K mainGlobals "checked_prime" = some (some (.ref f_chkp))) (l_chkp : K.lookup f_chkp = some ⟨oc_chkp, od_chkp, .func (PySem.W.fnOf "checked_prime" "checked_prime" (defArgs s_chkp) (defBody s_chkp) (defScope s_chkp) .none kV_chkp dc_chkp pm_chkp an_chkp cd_chkp ct_chkp), sl_chkp⟩) (c_chkp : PySem.W.codeIn K cd_chkp "checked_prime" = true) (k_chkp : PySem.W.keepIn K (.ref f_chkp) = true)
    (a_rem0 : PySem.W.nsIn K mainGlobals "remainder" = some (some (.ref f_rem0))) (l_rem0 : K.lookup f_rem0 = some ⟨oc_rem0, od_rem0, .func (PySem.W.fnOf "remainder" "remainder" (defArgs s_rem0) (defBody s_rem0) (defScope s_rem0) .none kV_rem0 dc_rem0 pm_rem0 an_rem0 cd_rem0 ct_rem0), sl_rem0⟩) (c_rem0 : PySem.W.codeIn K cd_rem0 "remainder" = true) (k_rem0 : PySem.W.keepIn K (.ref f_rem0) = true)
    (a_recipG : PySem.W.nsIn K mainGlobals "reciprocal" = some (some (.ref f_recipG))) (l_recipG : K.lookup f_recipG = some ⟨oc_recipG, od_recipG, .func (PySem.W.fnOf "reciprocal" "reciprocal" (defArgs s_recipG) (defBody s_recipG) (defScope s_recipG) .none kV_recipG dc_recipG pm_recipG an_recipG cd_recipG ct_recipG), sl_recipG⟩) (c_recipG : PySem.W.codeIn K cd_recipG "reciprocal" = true) (k_recipG : PySem.W.keepIn K (.ref f_recipG) = true)
    (a_isname : PySem.W.nsIn K mainGlobals "is_name" = some (some (.ref f_isname))) (l_isname : K.lookup f_isname = some ⟨oc_isname, od_isname, .func (PySem.W.fnOf "is_name" "is_name" (defArgs s_isname) (defBody s_isname) (defScope s_isname) .none kV_isname dc_isname pm_isname an_isname cd_isname ct_isname), sl_isname⟩) (c_isname : PySem.W.codeIn K cd_isname "is_name" = true) (k_isname : PySem.W.keepIn K (.ref f_isname) = true)
    (a_isstep : PySem.W.nsIn K mainGlobals "_is_step" = some (some (.ref f_isstep))) (l_isstep : K.lookup f_isstep = some ⟨oc_isstep, od_isstep, .func (PySem.W.fnOf "_is_step" "_is_step" (defArgs s_isstep) (defBody s_isstep) (defScope s_isstep) .none kV_isstep dc_isstep pm_isstep an_isstep cd_isstep ct_isstep), sl_isstep⟩) (c_isstep : PySem.W.codeIn K cd_isstep "_is_step" = true) (k_isstep : PySem.W.keepIn K (.ref f_isstep) = true)
    (a_frac : PySem.W.nsIn K mainGlobals "_fraction" = some (some (.ref f_frac))) (l_frac : K.lookup f_frac = some ⟨oc_frac, od_frac, .func (PySem.W.fnOf "_fraction" "_fraction" (defArgs s_frac) (defBody s_frac) (defScope s_frac) .none kV_frac dc_frac pm_frac an_frac cd_frac ct_frac), sl_frac⟩) (c_frac : PySem.W.codeIn K cd_frac "_fraction" = true) (k_frac : PySem.W.keepIn K (.ref f_frac) = true)
    (a_blt : PySem.W.nsIn K mainGlobals "_built_of" = some (some (.ref f_blt))) (l_blt : K.lookup f_blt = some ⟨oc_blt, od_blt, .func (PySem.W.fnOf "_built_of" "_built_of" (defArgs s_blt) (defBody s_blt) (defScope s_blt) .none kV_blt dc_blt pm_blt an_blt cd_blt ct_blt), sl_blt⟩) (c_blt : PySem.W.codeIn K cd_blt "_built_of" = true) (k_blt : PySem.W.keepIn K (.ref f_blt) = true)
    (a_comof : PySem.W.nsIn K mainGlobals "common_of" = some (some (.ref f_comof))) (l_comof : K.lookup f_comof = some ⟨oc_comof, od_comof, .func (PySem.W.fnOf "common_of" "common_of" (defArgs s_comof) (defBody s_comof) (defScope s_comof) .none kV_comof dc_comof pm_comof an_comof cd_comof ct_comof), sl_comof⟩) (c_comof : PySem.W.codeIn K cd_comof "common_of" = true) (k_comof : PySem.W.keepIn K (.ref f_comof) = true)
    (a_cross : PySem.W.nsIn K mainGlobals "cross" = some (some (.ref f_cross))) (l_cross : K.lookup f_cross = some ⟨oc_cross, od_cross, .func (PySem.W.fnOf "cross" "cross" (defArgs s_cross) (defBody s_cross) (defScope s_cross) .none kV_cross dc_cross pm_cross an_cross cd_cross ct_cross), sl_cross⟩) (c_cross : PySem.W.codeIn K cd_cross "cross" = true) (k_cross : PySem.W.keepIn K (.ref f_cross) = true)
    (a_fstu : PySem.W.nsIn K mainGlobals "_first_unit" = some (some (.ref f_fstu))) (l_fstu : K.lookup f_fstu = some ⟨oc_fstu, od_fstu, .func (PySem.W.fnOf "_first_unit" "_first_unit" (defArgs s_fstu) (defBody s_fstu) (defScope s_fstu) .none kV_fstu dc_fstu pm_fstu an_fstu cd_fstu ct_fstu), sl_fstu⟩) (c_fstu : PySem.W.codeIn K cd_fstu "_first_unit" = true) (k_fstu : PySem.W.keepIn K (.ref f_fstu) = true)
    (a_nrmin : PySem.W.nsIn K mainGlobals "normal_in" = some (some (.ref f_nrmin))) (l_nrmin : K.lookup f_nrmin = some ⟨oc_nrmin, od_nrmin, .func (PySem.W.fnOf "normal_in" "normal_in" (defArgs s_nrmin) (defBody s_nrmin) (defScope s_nrmin) .none kV_nrmin dc_nrmin pm_nrmin an_nrmin cd_nrmin ct_nrmin), sl_nrmin⟩) (c_nrmin : PySem.W.codeIn K cd_nrmin "normal_in" = true) (k_nrmin : PySem.W.keepIn K (.ref f_nrmin) = true)
    (a_drsum : PySem.W.nsIn K mainGlobals "_draw_sum" = some (some (.ref f_drsum))) (l_drsum : K.lookup f_drsum = some ⟨oc_drsum, od_drsum, .func (PySem.W.fnOf "_draw_sum" "_draw_sum" (defArgs s_drsum) (defBody s_drsum) (defScope s_drsum) .none kV_drsum dc_drsum pm_drsum an_drsum cd_drsum ct_drsum), sl_drsum⟩) (c_drsum : PySem.W.codeIn K cd_drsum "_draw_sum" = true) (k_drsum : PySem.W.keepIn K (.ref f_drsum) = true)
    (a_dropp : PySem.W.nsIn K mainGlobals "_draw_opposite" = some (some (.ref f_dropp))) (l_dropp : K.lookup f_dropp = some ⟨oc_dropp, od_dropp, .func (PySem.W.fnOf "_draw_opposite" "_draw_opposite" (defArgs s_dropp) (defBody s_dropp) (defScope s_dropp) .none kV_dropp dc_dropp pm_dropp an_dropp cd_dropp ct_dropp), sl_dropp⟩) (c_dropp : PySem.W.codeIn K cd_dropp "_draw_opposite" = true) (k_dropp : PySem.W.keepIn K (.ref f_dropp) = true)
    (a_drup : PySem.W.nsIn K mainGlobals "_upright_point" = some (some (.ref f_drup))) (l_drup : K.lookup f_drup = some ⟨oc_drup, od_drup, .func (PySem.W.fnOf "_upright_point" "_upright_point" (defArgs s_drup) (defBody s_drup) (defScope s_drup) .none kV_drup dc_drup pm_drup an_drup cd_drup ct_drup), sl_drup⟩) (c_drup : PySem.W.codeIn K cd_drup "_upright_point" = true) (k_drup : PySem.W.keepIn K (.ref f_drup) = true)
    (a_drprd : PySem.W.nsIn K mainGlobals "_draw_product" = some (some (.ref f_drprd))) (l_drprd : K.lookup f_drprd = some ⟨oc_drprd, od_drprd, .func (PySem.W.fnOf "_draw_product" "_draw_product" (defArgs s_drprd) (defBody s_drprd) (defScope s_drprd) .none kV_drprd dc_drprd pm_drprd an_drprd cd_drprd ct_drprd), sl_drprd⟩) (c_drprd : PySem.W.codeIn K cd_drprd "_draw_product" = true) (k_drprd : PySem.W.keepIn K (.ref f_drprd) = true)
    (a_drquo : PySem.W.nsIn K mainGlobals "_draw_quotient" = some (some (.ref f_drquo))) (l_drquo : K.lookup f_drquo = some ⟨oc_drquo, od_drquo, .func (PySem.W.fnOf "_draw_quotient" "_draw_quotient" (defArgs s_drquo) (defBody s_drquo) (defScope s_drquo) .none kV_drquo dc_drquo pm_drquo an_drquo cd_drquo ct_drquo), sl_drquo⟩) (c_drquo : PySem.W.codeIn K cd_drquo "_draw_quotient" = true) (k_drquo : PySem.W.keepIn K (.ref f_drquo) = true)
    (a_cell : PySem.W.nsIn K mainGlobals "_law_cell" = some (some (.ref f_cell))) (l_cell : K.lookup f_cell = some ⟨oc_cell, od_cell, .func (PySem.W.fnOf "_law_cell" "_law_cell" (defArgs s_cell) (defBody s_cell) (defScope s_cell) .none kV_cell dc_cell pm_cell an_cell cd_cell ct_cell), sl_cell⟩) (c_cell : PySem.W.codeIn K cd_cell "_law_cell" = true) (k_cell : PySem.W.keepIn K (.ref f_cell) = true)
    (a_draws : PySem.W.nsIn K mainGlobals "_law_draws" = some (some (.ref f_draws))) (l_draws : K.lookup f_draws = some ⟨oc_draws, od_draws, .func (PySem.W.fnOf "_law_draws" "_law_draws" (defArgs s_draws) (defBody s_draws) (defScope s_draws) .none kV_draws dc_draws pm_draws an_draws cd_draws ct_draws), sl_draws⟩) (c_draws : PySem.W.codeIn K cd_draws "_law_draws" = true) (k_draws : PySem.W.keepIn K (.ref f_draws) = true)
    (a_lprime : PySem.W.nsIn K mainGlobals "_law_is_prime" = some (some (.ref f_lprime))) (l_lprime : K.lookup f_lprime = some ⟨oc_lprime, od_lprime, .func (PySem.W.fnOf "_law_is_prime" "_law_is_prime" (defArgs s_lprime) (defBody s_lprime) (defScope s_lprime) .none kV_lprime dc_lprime pm_lprime an_lprime cd_lprime ct_lprime), sl_lprime⟩) (c_lprime : PySem.W.codeIn K cd_lprime "_law_is_prime" = true) (k_lprime : PySem.W.keepIn K (.ref f_lprime) = true)
    (a_lpf : PySem.W.nsIn K mainGlobals "_law_prime_from" = some (some (.ref f_lpf))) (l_lpf : K.lookup f_lpf = some ⟨oc_lpf, od_lpf, .func (PySem.W.fnOf "_law_prime_from" "_law_prime_from" (defArgs s_lpf) (defBody s_lpf) (defScope s_lpf) .none kV_lpf dc_lpf pm_lpf an_lpf cd_lpf ct_lpf), sl_lpf⟩) (c_lpf : PySem.W.codeIn K cd_lpf "_law_prime_from" = true) (k_lpf : PySem.W.keepIn K (.ref f_lpf) = true)
    (a_lnrm : PySem.W.nsIn K mainGlobals "_law_normal" = some (some (.ref f_lnrm))) (l_lnrm : K.lookup f_lnrm = some ⟨oc_lnrm, od_lnrm, .func (PySem.W.fnOf "_law_normal" "_law_normal" (defArgs s_lnrm) (defBody s_lnrm) (defScope s_lnrm) .none kV_lnrm dc_lnrm pm_lnrm an_lnrm cd_lnrm ct_lnrm), sl_lnrm⟩) (c_lnrm : PySem.W.codeIn K cd_lnrm "_law_normal" = true) (k_lnrm : PySem.W.keepIn K (.ref f_lnrm) = true)
    (a_lboth : PySem.W.nsIn K mainGlobals "_law_both" = some (some (.ref f_lboth))) (l_lboth : K.lookup f_lboth = some ⟨oc_lboth, od_lboth, .func (PySem.W.fnOf "_law_both" "_law_both" (defArgs s_lboth) (defBody s_lboth) (defScope s_lboth) .none kV_lboth dc_lboth pm_lboth an_lboth cd_lboth ct_lboth), sl_lboth⟩) (c_lboth : PySem.W.codeIn K cd_lboth "_law_both" = true) (k_lboth : PySem.W.keepIn K (.ref f_lboth) = true)
    (a_lbes : PySem.W.nsIn K mainGlobals "_law_beside" = some (some (.ref f_lbes))) (l_lbes : K.lookup f_lbes = some ⟨oc_lbes, od_lbes, .func (PySem.W.fnOf "_law_beside" "_law_beside" (defArgs s_lbes) (defBody s_lbes) (defScope s_lbes) .none kV_lbes dc_lbes pm_lbes an_lbes cd_lbes ct_lbes), sl_lbes⟩) (c_lbes : PySem.W.codeIn K cd_lbes "_law_beside" = true) (k_lbes : PySem.W.keepIn K (.ref f_lbes) = true)
    (a_ldue : PySem.W.nsIn K mainGlobals "_law_due" = some (some (.ref f_ldue))) (l_ldue : K.lookup f_ldue = some ⟨oc_ldue, od_ldue, .func (PySem.W.fnOf "_law_due" "_law_due" (defArgs s_ldue) (defBody s_ldue) (defScope s_ldue) .none kV_ldue dc_ldue pm_ldue an_ldue cd_ldue ct_ldue), sl_ldue⟩) (c_ldue : PySem.W.codeIn K cd_ldue "_law_due" = true) (k_ldue : PySem.W.keepIn K (.ref f_ldue) = true)
    (a_lref85 : PySem.W.nsIn K mainGlobals "_law_refused" = some (some (.ref f_lref85))) (l_lref85 : K.lookup f_lref85 = some ⟨oc_lref85, od_lref85, .func (PySem.W.fnOf "_law_refused" "_law_refused" (defArgs s_lref85) (defBody s_lref85) (defScope s_lref85) .none kV_lref85 dc_lref85 pm_lref85 an_lref85 cd_lref85 ct_lref85), sl_lref85⟩) (c_lref85 : PySem.W.codeIn K cd_lref85 "_law_refused" = true) (k_lref85 : PySem.W.keepIn K (.ref f_lref85) = true)
    (a_law : PySem.W.nsIn K mainGlobals "law" = some (some (.ref f_law))) (l_law : K.lookup f_law = some ⟨oc_law, od_law, .func (PySem.W.fnOf "law" "law" (defArgs s_law) (defBody s_law) (defScope s_law) .none kV_law dc_law pm_law an_law cd_law ct_law), sl_law⟩) (c_law : PySem.W.codeIn K cd_law "law" = true) (k_law : PySem.W.keepIn K (.ref f_law) = true)
    (aF : PySem.W.nsIn K mainGlobals "FieldError" = some (some (.ref CF))) (rF : PySem.W.readsIn K CF (.type "type") = true) (gF : PySem.W.specialIn K (.ref CF) "__getattribute__" = some (some (.builtin "type.__getattribute__"))) (iF : PySem.W.findCls K (.ref CF) (.type "type") "__init__" = some (.val (.builtin "ValueError.__init__")))
    (aC_ibc : PySem.W.nsIn K mainGlobals "BadCharacteristic" = some (some (.ref C_ibc))) (xC_ibc : K.lookup C_ibc = some (excClassObj nm_ibc q_ibc C_ibc N_ibc bs_ibc [.ref CF, .type "ValueError", .type "Exception", .type "BaseException", .type "object"] true sn_ibc sb_ibc ab_ibc co_ibc dd_ibc x0_ibc x1_ibc x2_ibc x3_ibc x5_ibc "ValueError.__new__")) (sa_ibc : PySem.W.findIn K (.ref C_ibc) "__setattr__" = some (some (.builtin "object.__setattr__"))) (ga_ibc : PySem.W.findIn K (.ref C_ibc) "__getattribute__" = some (some (.builtin "BaseException.__getattribute__"))) (gg_ibc : PySem.W.findIn K (.ref C_ibc) "__getattr__" = some none) (no_ibc : PySem.W.findIn K (.ref C_ibc) "p" = some none) (ic_ibc : PySem.W.findIn K (.ref C_ibc) "__init__" = some (some (.ref f_ibc))) (ti_ibc : PySem.W.typeIn K (.ref f_ibc) = some (.type "function")) (kc_ibc : PySem.W.keepIn K (.ref C_ibc) = true) (ec_ibc : PySem.W.subIn K (.ref C_ibc) (.type "BaseException") = some true) (tc_ibc : PySem.W.typeIn K (.ref C_ibc) = some (.type "type")) (hd_ibc : PySem.W.hasDictIn K C_ibc = true) (is_ibc : PySem.W.isClsIn K C_ibc = true) (sc_ibc : PySem.W.subIn K (.ref C_ibc) (.ref C_ibc) = some true) (l_ibc : K.lookup f_ibc = some ⟨oc_ibc, od_ibc, .func (PySem.W.fnOf "__init__" "BadCharacteristic.__init__" (defArgs s_ibc) (defBody s_ibc) (defScope s_ibc) .none kV_ibc dc_ibc pm_ibc an_ibc cd_ibc ct_ibc), sl_ibc⟩) (c_ibc : PySem.W.codeIn K cd_ibc "BadCharacteristic.__init__" = true) (k_ibc : PySem.W.keepIn K (.ref f_ibc) = true)
    (aC_ibs : PySem.W.nsIn K mainGlobals "BadStep" = some (some (.ref C_ibs))) (xC_ibs : K.lookup C_ibs = some (excClassObj nm_ibs q_ibs C_ibs N_ibs bs_ibs [.ref CF, .type "ValueError", .type "Exception", .type "BaseException", .type "object"] true sn_ibs sb_ibs ab_ibs co_ibs dd_ibs x0_ibs x1_ibs x2_ibs x3_ibs x5_ibs "ValueError.__new__")) (sa_ibs : PySem.W.findIn K (.ref C_ibs) "__setattr__" = some (some (.builtin "object.__setattr__"))) (ga_ibs : PySem.W.findIn K (.ref C_ibs) "__getattribute__" = some (some (.builtin "BaseException.__getattribute__"))) (gg_ibs : PySem.W.findIn K (.ref C_ibs) "__getattr__" = some none) (no_ibs : PySem.W.findIn K (.ref C_ibs) "at" = some none) (ic_ibs : PySem.W.findIn K (.ref C_ibs) "__init__" = some (some (.ref f_ibs))) (ti_ibs : PySem.W.typeIn K (.ref f_ibs) = some (.type "function")) (kc_ibs : PySem.W.keepIn K (.ref C_ibs) = true) (ec_ibs : PySem.W.subIn K (.ref C_ibs) (.type "BaseException") = some true) (tc_ibs : PySem.W.typeIn K (.ref C_ibs) = some (.type "type")) (hd_ibs : PySem.W.hasDictIn K C_ibs = true) (is_ibs : PySem.W.isClsIn K C_ibs = true) (sc_ibs : PySem.W.subIn K (.ref C_ibs) (.ref C_ibs) = some true) (l_ibs : K.lookup f_ibs = some ⟨oc_ibs, od_ibs, .func (PySem.W.fnOf "__init__" "BadStep.__init__" (defArgs s_ibs) (defBody s_ibs) (defScope s_ibs) .none kV_ibs dc_ibs pm_ibs an_ibs cd_ibs ct_ibs), sl_ibs⟩) (c_ibs : PySem.W.codeIn K cd_ibs "BadStep.__init__" = true) (k_ibs : PySem.W.keepIn K (.ref f_ibs) = true)
    (aC_iun : PySem.W.nsIn K mainGlobals "UnknownName" = some (some (.ref C_iun))) (xC_iun : K.lookup C_iun = some (excClassObj nm_iun q_iun C_iun N_iun bs_iun [.ref CF, .type "ValueError", .type "Exception", .type "BaseException", .type "object"] true sn_iun sb_iun ab_iun co_iun dd_iun x0_iun x1_iun x2_iun x3_iun x5_iun "ValueError.__new__")) (sa_iun : PySem.W.findIn K (.ref C_iun) "__setattr__" = some (some (.builtin "object.__setattr__"))) (ga_iun : PySem.W.findIn K (.ref C_iun) "__getattribute__" = some (some (.builtin "BaseException.__getattribute__"))) (gg_iun : PySem.W.findIn K (.ref C_iun) "__getattr__" = some none) (no_iun : PySem.W.findIn K (.ref C_iun) "name" = some none) (ic_iun : PySem.W.findIn K (.ref C_iun) "__init__" = some (some (.ref f_iun))) (ti_iun : PySem.W.typeIn K (.ref f_iun) = some (.type "function")) (kc_iun : PySem.W.keepIn K (.ref C_iun) = true) (ec_iun : PySem.W.subIn K (.ref C_iun) (.type "BaseException") = some true) (tc_iun : PySem.W.typeIn K (.ref C_iun) = some (.type "type")) (hd_iun : PySem.W.hasDictIn K C_iun = true) (is_iun : PySem.W.isClsIn K C_iun = true) (sc_iun : PySem.W.subIn K (.ref C_iun) (.ref C_iun) = some true) (l_iun : K.lookup f_iun = some ⟨oc_iun, od_iun, .func (PySem.W.fnOf "__init__" "UnknownName.__init__" (defArgs s_iun) (defBody s_iun) (defScope s_iun) .none kV_iun dc_iun pm_iun an_iun cd_iun ct_iun), sl_iun⟩) (c_iun : PySem.W.codeIn K cd_iun "UnknownName.__init__" = true) (k_iun : PySem.W.keepIn K (.ref f_iun) = true)
    (R_aK : PySem.W.nsIn K mainGlobals "Ruler" = some (some (.ref C_ru)))
    (R_pg : PySem.W.plainGet K C_ru Str.empty = true)
    (R_hd : PySem.W.hasDictIn K C_ru = true)
    (R_po : PySem.W.plainOver K C_ru = true)
    (R_sa : PySem.W.findIn K (.ref C_ru) "__setattr__" = some (some (.builtin "object.__setattr__")))
    (R_sf : PySem.W.selfFirst K C_ru = true)
    (R_ha : PySem.W.findIn K (.ref C_ru) "__class__" = some (some (.builtin "object.__class__")))
    (R_hn : PySem.W.specialIn K (.builtin "object.__class__") "__get__" = some (some (.builtin "getset_descriptor.__get__")))
    (R_htk : PySem.W.takesIn K (.builtin "object.__class__") = some true)
    (R_hm : PySem.W.mroIn K C_ru (.type "object") = some true)
    (R_mk : PySem.W.makesIn K C_ru = true)
    (R_kp : PySem.W.keepIn K (.ref C_ru) = true)
    (R_no__steps : PySem.W.findIn K (.ref C_ru) "_steps" = some none)
    (R_at_ruinit : PySem.W.findIn K (.ref C_ru) "__init__" = some (some (.ref f_ruinit)))
    (R_fn_ruinit : PySem.W.isFn K (.ref f_ruinit) = true)
    (R_l_ruinit : K.lookup f_ruinit = some ⟨oc_ruinit, od_ruinit, .func (PySem.W.fnOf "__init__" "Ruler.__init__" (defArgs s_ruinit) (defBody s_ruinit) (defScope s_ruinit) .none kV_ruinit dc_ruinit pm_ruinit an_ruinit cd_ruinit ct_ruinit), sl_ruinit⟩)
    (R_c_ruinit : PySem.W.codeIn K cd_ruinit "Ruler.__init__" = true)
    (R_k_ruinit : PySem.W.keepIn K (.ref f_ruinit) = true)
    (R_at_ruchk : PySem.W.findIn K (.ref C_ru) "_check_names" = some (some (.ref f_ruchk)))
    (R_fn_ruchk : PySem.W.isFn K (.ref f_ruchk) = true)
    (R_l_ruchk : K.lookup f_ruchk = some ⟨oc_ruchk, od_ruchk, .func (PySem.W.fnOf "_check_names" "Ruler._check_names" (defArgs s_ruchk) (defBody s_ruchk) (defScope s_ruchk) .none kV_ruchk dc_ruchk pm_ruchk an_ruchk cd_ruchk ct_ruchk), sl_ruchk⟩)
    (R_c_ruchk : PySem.W.codeIn K cd_ruchk "Ruler._check_names" = true)
    (R_k_ruchk : PySem.W.keepIn K (.ref f_ruchk) = true)
    (R_at_ruway : PySem.W.findIn K (.ref C_ru) "_way_to" = some (some (.ref f_ruway)))
    (R_fn_ruway : PySem.W.isFn K (.ref f_ruway) = true)
    (R_l_ruway : K.lookup f_ruway = some ⟨oc_ruway, od_ruway, .func (PySem.W.fnOf "_way_to" "Ruler._way_to" (defArgs s_ruway) (defBody s_ruway) (defScope s_ruway) .none kV_ruway dc_ruway pm_ruway an_ruway cd_ruway ct_ruway), sl_ruway⟩)
    (R_c_ruway : PySem.W.codeIn K cd_ruway "Ruler._way_to" = true)
    (R_k_ruway : PySem.W.keepIn K (.ref f_ruway) = true)
    (R_at_rufrs : PySem.W.findIn K (.ref C_ru) "_fractions" = some (some (.ref f_rufrs)))
    (R_fn_rufrs : PySem.W.isFn K (.ref f_rufrs) = true)
    (R_l_rufrs : K.lookup f_rufrs = some ⟨oc_rufrs, od_rufrs, .func (PySem.W.fnOf "_fractions" "Ruler._fractions" (defArgs s_rufrs) (defBody s_rufrs) (defScope s_rufrs) .none kV_rufrs dc_rufrs pm_rufrs an_rufrs cd_rufrs ct_rufrs), sl_rufrs⟩)
    (R_c_rufrs : PySem.W.codeIn K cd_rufrs "Ruler._fractions" = true)
    (R_k_rufrs : PySem.W.keepIn K (.ref f_rufrs) = true)
    (R_at_ruval : PySem.W.findIn K (.ref C_ru) "value" = some (some (.ref f_ruval)))
    (R_fn_ruval : PySem.W.isFn K (.ref f_ruval) = true)
    (R_l_ruval : K.lookup f_ruval = some ⟨oc_ruval, od_ruval, .func (PySem.W.fnOf "value" "Ruler.value" (defArgs s_ruval) (defBody s_ruval) (defScope s_ruval) .none kV_ruval dc_ruval pm_ruval an_ruval cd_ruval ct_ruval), sl_ruval⟩)
    (R_c_ruval : PySem.W.codeIn K cd_ruval "Ruler.value" = true)
    (R_k_ruval : PySem.W.keepIn K (.ref f_ruval) = true)
    (R_at_rushow : PySem.W.findIn K (.ref C_ru) "shown" = some (some (.ref f_rushow)))
    (R_fn_rushow : PySem.W.isFn K (.ref f_rushow) = true)
    (R_l_rushow : K.lookup f_rushow = some ⟨oc_rushow, od_rushow, .func (PySem.W.fnOf "shown" "Ruler.shown" (defArgs s_rushow) (defBody s_rushow) (defScope s_rushow) .none kV_rushow dc_rushow pm_rushow an_rushow cd_rushow ct_rushow), sl_rushow⟩)
    (R_c_rushow : PySem.W.codeIn K cd_rushow "Ruler.shown" = true)
    (R_k_rushow : PySem.W.keepIn K (.ref f_rushow) = true)
    (S_aK : PySem.W.nsIn K mainGlobals "Sheet" = some (some (.ref C_sh)))
    (S_pg : PySem.W.plainGet K C_sh Str.empty = true)
    (S_hd : PySem.W.hasDictIn K C_sh = true)
    (S_po : PySem.W.plainOver K C_sh = true)
    (S_sa : PySem.W.findIn K (.ref C_sh) "__setattr__" = some (some (.builtin "object.__setattr__")))
    (S_sf : PySem.W.selfFirst K C_sh = true)
    (S_ha : PySem.W.findIn K (.ref C_sh) "__class__" = some (some (.builtin "object.__class__")))
    (S_hn : PySem.W.specialIn K (.builtin "object.__class__") "__get__" = some (some (.builtin "getset_descriptor.__get__")))
    (S_htk : PySem.W.takesIn K (.builtin "object.__class__") = some true)
    (S_hm : PySem.W.mroIn K C_sh (.type "object") = some true)
    (S_mk : PySem.W.makesIn K C_sh = true)
    (S_kp : PySem.W.keepIn K (.ref C_sh) = true)
    (S_no_p : PySem.W.findIn K (.ref C_sh) "p" = some none)
    (S_no_rows : PySem.W.findIn K (.ref C_sh) "rows" = some none)
    (S_at_shinit : PySem.W.findIn K (.ref C_sh) "__init__" = some (some (.ref f_shinit)))
    (S_fn_shinit : PySem.W.isFn K (.ref f_shinit) = true)
    (S_l_shinit : K.lookup f_shinit = some ⟨oc_shinit, od_shinit, .func (PySem.W.fnOf "__init__" "Sheet.__init__" (defArgs s_shinit) (defBody s_shinit) (defScope s_shinit) .none kV_shinit dc_shinit pm_shinit an_shinit cd_shinit ct_shinit), sl_shinit⟩)
    (S_c_shinit : PySem.W.codeIn K cd_shinit "Sheet.__init__" = true)
    (S_k_shinit : PySem.W.keepIn K (.ref f_shinit) = true)
    (S_at_shfound : PySem.W.findIn K (.ref C_sh) "_found" = some (some (.ref f_shfound)))
    (S_fn_shfound : PySem.W.isFn K (.ref f_shfound) = true)
    (S_l_shfound : K.lookup f_shfound = some ⟨oc_shfound, od_shfound, .func (PySem.W.fnOf "_found" "Sheet._found" (defArgs s_shfound) (defBody s_shfound) (defScope s_shfound) .none kV_shfound dc_shfound pm_shfound an_shfound cd_shfound ct_shfound), sl_shfound⟩)
    (S_c_shfound : PySem.W.codeIn K cd_shfound "Sheet._found" = true)
    (S_k_shfound : PySem.W.keepIn K (.ref f_shfound) = true)
    (S_at_shjoin : PySem.W.findIn K (.ref C_sh) "joined" = some (some (.ref f_shjoin)))
    (S_fn_shjoin : PySem.W.isFn K (.ref f_shjoin) = true)
    (S_l_shjoin : K.lookup f_shjoin = some ⟨oc_shjoin, od_shjoin, .func (PySem.W.fnOf "joined" "Sheet.joined" (defArgs s_shjoin) (defBody s_shjoin) (defScope s_shjoin) .none kV_shjoin dc_shjoin pm_shjoin an_shjoin cd_shjoin ct_shjoin), sl_shjoin⟩)
    (S_c_shjoin : PySem.W.codeIn K cd_shjoin "Sheet.joined" = true)
    (S_k_shjoin : PySem.W.keepIn K (.ref f_shjoin) = true)
    (S_at_shmet : PySem.W.findIn K (.ref C_sh) "met" = some (some (.ref f_shmet)))
    (S_fn_shmet : PySem.W.isFn K (.ref f_shmet) = true)
    (S_l_shmet : K.lookup f_shmet = some ⟨oc_shmet, od_shmet, .func (PySem.W.fnOf "met" "Sheet.met" (defArgs s_shmet) (defBody s_shmet) (defScope s_shmet) .none kV_shmet dc_shmet pm_shmet an_shmet cd_shmet ct_shmet), sl_shmet⟩)
    (S_c_shmet : PySem.W.codeIn K cd_shmet "Sheet.met" = true)
    (S_k_shmet : PySem.W.keepIn K (.ref f_shmet) = true)
    (S_at_shalong : PySem.W.findIn K (.ref C_sh) "alongside" = some (some (.ref f_shalong)))
    (S_fn_shalong : PySem.W.isFn K (.ref f_shalong) = true)
    (S_l_shalong : K.lookup f_shalong = some ⟨oc_shalong, od_shalong, .func (PySem.W.fnOf "alongside" "Sheet.alongside" (defArgs s_shalong) (defBody s_shalong) (defScope s_shalong) .none kV_shalong dc_shalong pm_shalong an_shalong cd_shalong ct_shalong), sl_shalong⟩)
    (S_c_shalong : PySem.W.codeIn K cd_shalong "Sheet.alongside" = true)
    (S_k_shalong : PySem.W.keepIn K (.ref f_shalong) = true)
    (gWT : PySem.W.nsIn K mainGlobals "_TAKES" = some (some (.ref DT)))
    (lkWT : K.lookup DT = some ⟨.type "dict", none, .dict esWT nWT, #[]⟩)
    (dkWT : esWT.toList.map He.keyOf = He.keysIn w.params ["sum", "product", "quotient", "opposite"])
    (loWT : (DT == sysModules) = false)
    (vWT0 : PySem.W.nsIn K DT "sum" = some (some (.int 2 tk0)))
    (vWT1 : PySem.W.nsIn K DT "product" = some (some (.int 2 tk1)))
    (vWT2 : PySem.W.nsIn K DT "quotient" = some (some (.int 2 tk2)))
    (vWT3 : PySem.W.nsIn K DT "opposite" = some (some (.int 1 tk3)))
    (gWG : PySem.W.nsIn K mainGlobals "_GIVEN" = some (some (.ref DG)))
    (lkWG : K.lookup DG = some ⟨.type "dict", none, .dict esWG nWG, #[]⟩)
    (dkWG : esWG.toList.map He.keyOf = He.keysIn w.params ["zero", "one"])
    (loWG : (DG == sysModules) = false)
    (vWG0 : PySem.W.nsIn K DG "zero" = some (some (.ref ZA)))
    (vWG1 : PySem.W.nsIn K DG "one" = some (some (.ref OA)))
    (lkTZ : K.lookup ZA = some ⟨.type "tuple", odTZ, .seq #[.int 0 tTZ0, .int 1 tTZ1] nTZ, slTZ⟩)
    (lkTO : K.lookup OA = some ⟨.type "tuple", odTO, .seq #[.int 1 tTO0, .int 1 tTO1] nTO, slTO⟩)
    (gLZ : PySem.W.nsIn K mainGlobals "_ZERO" = some (some (.ref GZ)))
    (lkLZ : K.lookup GZ = some ⟨.type "tuple", odLZ, .seq #[.int 0 tLZ0, .int 0 tLZ1, .int 1 tLZ2] nLZ, slLZ⟩)
    (gLO : PySem.W.nsIn K mainGlobals "_ONE" = some (some (.ref GO)))
    (lkLO : K.lookup GO = some ⟨.type "tuple", odLO, .seq #[.int 1 tLO0, .int 0 tLO1, .int 1 tLO2] nLO, slLO⟩)
    (gLT : PySem.W.nsIn K mainGlobals "_TOP" = some (some (.ref GT)))
    (lkLT : K.lookup GT = some ⟨.type "tuple", odLT, .seq #[.int 0 tLT0, .int 1 tLT1, .int 1 tLT2] nLT, slLT⟩)
    (gLA : PySem.W.nsIn K mainGlobals "_ABOVE" = some (some (.ref GA)))
    (lkLA : K.lookup GA = some ⟨.type "tuple", odLA, .seq #[.int 0 tLA0, .int 1 tLA1, .int 0 tLA2] nLA, slLA⟩)
    (gLX : PySem.W.nsIn K mainGlobals "_AXIS" = some (some (.ref GX)))
    (lkLX : K.lookup GX = some ⟨.type "tuple", odLX, .seq #[.int 0 tLX0, .int 1 tLX1, .int 0 tLX2] nLX, slLX⟩)
    (gLU : PySem.W.nsIn K mainGlobals "_UPRIGHT" = some (some (.ref GU)))
    (lkLU : K.lookup GU = some ⟨.type "tuple", odLU, .seq #[.int 1 tLU0, .int 0 tLU1, .int 0 tLU2] nLU, slLU⟩)
    (gLL : PySem.W.nsIn K mainGlobals "_LEVEL" = some (some (.ref GL)))
    (lkLL : K.lookup GL = some ⟨.type "tuple", odLL, .seq #[.int 0 tLL0, .int 1 tLL1, .int (-1) tLL2] nLL, slLL⟩)
    (gLF : PySem.W.nsIn K mainGlobals "_FAR" = some (some (.ref GF)))
    (lkLF : K.lookup GF = some ⟨.type "tuple", odLF, .seq #[.int 0 tLF0, .int 0 tLF1, .int 1 tLF2] nLF, slLF⟩)
    (gWD : PySem.W.nsIn K mainGlobals "_DRAWS" = some (some (.ref DD)))
    (lkWD : K.lookup DD = some ⟨.type "dict", none, .dict esWD nWD, #[]⟩)
    (dkWD : esWD.toList.map He.keyOf = He.keysIn w.params ["sum", "product", "quotient", "opposite"])
    (loWD : (DD == sysModules) = false)
    (vWD0 : PySem.W.nsIn K DD "sum" = some (some (.ref f_drsum)))
    (vWD1 : PySem.W.nsIn K DD "product" = some (some (.ref f_drprd)))
    (vWD2 : PySem.W.nsIn K DD "quotient" = some (some (.ref f_drquo)))
    (vWD3 : PySem.W.nsIn K DD "opposite" = some (some (.ref f_dropp)))
    (s_bc_un : PySem.W.subIn K (.ref C_ibc) (.ref C_iun) = some false)
    (z_int : PySem.W.nsIn K mainGlobals "int" = some none)
    (z_len : PySem.W.nsIn K mainGlobals "len" = some none)
    (z_abs : PySem.W.nsIn K mainGlobals "abs" = some none)
    (z_isinstance : PySem.W.nsIn K mainGlobals "isinstance" = some none)
    (z_bool : PySem.W.nsIn K mainGlobals "bool" = some none)
    (z_tuple : PySem.W.nsIn K mainGlobals "tuple" = some none)
    (z_list : PySem.W.nsIn K mainGlobals "list" = some none)
    (z_str : PySem.W.nsIn K mainGlobals "str" = some none)
    (z_range : PySem.W.nsIn K mainGlobals "range" = some none)
    (z_max : PySem.W.nsIn K mainGlobals "max" = some none)
    (z_min : PySem.W.nsIn K mainGlobals "min" = some none)
    (z_sorted : PySem.W.nsIn K mainGlobals "sorted" = some none)
    (z_set : PySem.W.nsIn K mainGlobals "set" = some none)
    (z_enumerate : PySem.W.nsIn K mainGlobals "enumerate" = some none)
    (z_reversed : PySem.W.nsIn K mainGlobals "reversed" = some none)
    (z_all : PySem.W.nsIn K mainGlobals "all" = some none)
    (z_dict : PySem.W.nsIn K mainGlobals "dict" = some none)
    (g_isqrt : PySem.W.nsIn K mainGlobals "isqrt" = some (some (.builtin "math.isqrt")))
    (g_gcd : PySem.W.nsIn K mainGlobals "gcd" = some (some (.builtin "math.gcd")))
    (g_MOST_LETTERS : PySem.W.nsIn K mainGlobals "MOST_LETTERS" = some (some (.int 8 tML))) :
    ∃ fd : FuncData, (∀ (s : Shared) (v : Value), BindsTo s fd ⟨[v], []⟩ [("_law_script", v)]) ∧ ∀ base : Heap, K.In base → base.Ns mainGlobals mg → FnOk P w K mg base CX0 12 fa fd ["_law_script"] (spLaw K) := by
  have e := hfa.symm.trans (PySem.W.mg_of X G a_law)
  cases e
  have T : Txt mg := ⟨PySem.W.mg_none_of X G z_int, PySem.W.mg_none_of X G z_len, PySem.W.mg_none_of X G z_abs, PySem.W.mg_none_of X G z_isinstance, PySem.W.mg_none_of X G z_bool, PySem.W.mg_none_of X G z_tuple, PySem.W.mg_none_of X G z_list, PySem.W.mg_none_of X G z_str, PySem.W.mg_none_of X G z_range, PySem.W.mg_none_of X G z_max, PySem.W.mg_none_of X G z_min, PySem.W.mg_none_of X G z_sorted, PySem.W.mg_none_of X G z_set⟩
  have n_enumerate := PySem.W.mg_none_of X G z_enumerate
  have n_reversed := PySem.W.mg_none_of X G z_reversed
  have n_all := PySem.W.mg_none_of X G z_all
  have n_dict := PySem.W.mg_none_of X G z_dict
  have TF : FErr K mg CF := ⟨PySem.W.mg_of X G aF, rF, gF, iF⟩
  have F_ibc := fun_mk (st := s_ibc) l_ibc c_ibc k_ibc
  have b_ibc := F_ibc.binds (ps := ["self", "p"]) fun _ _ _ _ _ _ us hl => match us, hl with | [_, _], _ => rfl
  have E_ibc : ErrC K mg "BadCharacteristic" "p" C_ibc f_ibc := ⟨PySem.W.mg_of X G aC_ibc, ⟨⟨_, _, _, _, _, _, _, _, _, _, _, _, _, _, _, xC_ibc, rfl⟩, sa_ibc, ec_ibc, tc_ibc, kc_ibc⟩, no_ibc, ic_ibc, ti_ibc, ⟨ga_ibc, gg_ibc, ec_ibc, hd_ibc⟩, exm_me ec_ibc is_ibc tc_ibc sc_ibc⟩
  have F_ibs := fun_mk (st := s_ibs) l_ibs c_ibs k_ibs
  have b_ibs := F_ibs.binds (ps := ["self", "at"]) fun _ _ _ _ _ _ us hl => match us, hl with | [_, _], _ => rfl
  have E_ibs : ErrC K mg "BadStep" "at" C_ibs f_ibs := ⟨PySem.W.mg_of X G aC_ibs, ⟨⟨_, _, _, _, _, _, _, _, _, _, _, _, _, _, _, xC_ibs, rfl⟩, sa_ibs, ec_ibs, tc_ibs, kc_ibs⟩, no_ibs, ic_ibs, ti_ibs, ⟨ga_ibs, gg_ibs, ec_ibs, hd_ibs⟩, exm_me ec_ibs is_ibs tc_ibs sc_ibs⟩
  have F_iun := fun_mk (st := s_iun) l_iun c_iun k_iun
  have b_iun := F_iun.binds (ps := ["self", "name"]) fun _ _ _ _ _ _ us hl => match us, hl with | [_, _], _ => rfl
  have E_iun : ErrC K mg "UnknownName" "name" C_iun f_iun := ⟨PySem.W.mg_of X G aC_iun, ⟨⟨_, _, _, _, _, _, _, _, _, _, _, _, _, _, _, xC_iun, rfl⟩, sa_iun, ec_iun, tc_iun, kc_iun⟩, no_iun, ic_iun, ti_iun, ⟨ga_iun, gg_iun, ec_iun, hd_iun⟩, exm_me ec_iun is_iun tc_iun sc_iun⟩
  have TR : RulT K mg C_ru := ⟨PySem.W.mg_of X G R_aK, ⟨R_pg, R_hd, R_po, R_sa⟩, R_no__steps, R_sf, ⟨⟨R_pg, R_hd, R_po, R_sa⟩, R_ha, R_hn, R_htk, R_hm, if_pos (beq_self_eq_true _)⟩⟩
  have F_ruinit := fun_mk (st := s_ruinit) R_l_ruinit R_c_ruinit R_k_ruinit
  have b_ruinit := F_ruinit.binds (ps := ["self", "text"]) fun _ _ _ _ _ _ us hl => match us, hl with | [_, _], _ => rfl
  have F_ruchk := fun_mk (st := s_ruchk) R_l_ruchk R_c_ruchk R_k_ruchk
  have b_ruchk := F_ruchk.binds (ps := ["self", "names"]) fun _ _ _ _ _ _ us hl => match us, hl with | [_, _], _ => rfl
  have M_ruchk : Meth K C_ru "_check_names" f_ruchk := ⟨R_at_ruchk, R_fn_ruchk, R_k_ruchk⟩
  have F_ruway := fun_mk (st := s_ruway) R_l_ruway R_c_ruway R_k_ruway
  have b_ruway := F_ruway.binds (ps := ["self", "names"]) fun _ _ _ _ _ _ us hl => match us, hl with | [_, _], _ => rfl
  have M_ruway : Meth K C_ru "_way_to" f_ruway := ⟨R_at_ruway, R_fn_ruway, R_k_ruway⟩
  have F_rufrs := fun_mk (st := s_rufrs) R_l_rufrs R_c_rufrs R_k_rufrs
  have b_rufrs := F_rufrs.binds (ps := ["self", "names", "p"]) fun _ _ _ _ _ _ us hl => match us, hl with | [_, _, _], _ => rfl
  have M_rufrs : Meth K C_ru "_fractions" f_rufrs := ⟨R_at_rufrs, R_fn_rufrs, R_k_rufrs⟩
  have F_ruval := fun_mk (st := s_ruval) R_l_ruval R_c_ruval R_k_ruval
  have M_ruval : Meth K C_ru "value" f_ruval := ⟨R_at_ruval, R_fn_ruval, R_k_ruval⟩
  have F_rushow := fun_mk (st := s_rushow) R_l_rushow R_c_rushow R_k_rushow
  have M_rushow : Meth K C_ru "shown" f_rushow := ⟨R_at_rushow, R_fn_rushow, R_k_rushow⟩
  have TS : ShT K mg C_sh := ⟨PySem.W.mg_of X G S_aK, ⟨S_pg, S_hd, S_po, S_sa⟩, S_no_p, S_no_rows, S_sf, ⟨⟨S_pg, S_hd, S_po, S_sa⟩, S_ha, S_hn, S_htk, S_hm, if_pos (beq_self_eq_true _)⟩⟩
  have F_shinit := fun_mk (st := s_shinit) S_l_shinit S_c_shinit S_k_shinit
  have b_shinit := F_shinit.binds (ps := ["self", "p"]) fun _ _ _ _ _ _ us hl => match us, hl with | [_, _], _ => rfl
  have F_shfound := fun_mk (st := s_shfound) S_l_shfound S_c_shfound S_k_shfound
  have b_shfound := F_shfound.binds (ps := ["self", "word", "first", "second"]) fun _ _ _ _ _ _ us hl => match us, hl with | [_, _, _, _], _ => rfl
  have M_shfound : Meth K C_sh "_found" f_shfound := ⟨S_at_shfound, S_fn_shfound, S_k_shfound⟩
  have F_shjoin := fun_mk (st := s_shjoin) S_l_shjoin S_c_shjoin S_k_shjoin
  have b_shjoin := F_shjoin.binds (ps := ["self", "first", "second"]) fun _ _ _ _ _ _ us hl => match us, hl with | [_, _, _], _ => rfl
  have M_shjoin : Meth K C_sh "joined" f_shjoin := ⟨S_at_shjoin, S_fn_shjoin, S_k_shjoin⟩
  have F_shmet := fun_mk (st := s_shmet) S_l_shmet S_c_shmet S_k_shmet
  have b_shmet := F_shmet.binds (ps := ["self", "first", "second"]) fun _ _ _ _ _ _ us hl => match us, hl with | [_, _, _], _ => rfl
  have M_shmet : Meth K C_sh "met" f_shmet := ⟨S_at_shmet, S_fn_shmet, S_k_shmet⟩
  have F_shalong := fun_mk (st := s_shalong) S_l_shalong S_c_shalong S_k_shalong
  have b_shalong := F_shalong.binds (ps := ["self", "line", "point"]) fun _ _ _ _ _ _ us hl => match us, hl with | [_, _, _], _ => rfl
  have M_shalong : Meth K C_sh "alongside" f_shalong := ⟨S_at_shalong, S_fn_shalong, S_k_shalong⟩
  have F_common := fun_mk (st := s_common) l_common c_common k_common
  have b_common := F_common.binds (ps := ["a", "b"]) fun _ _ _ _ _ _ us hl => match us, hl with | [_, _], _ => rfl
  have F_comb := fun_mk (st := s_comb) l_comb c_comb k_comb
  have b_comb := F_comb.binds (ps := ["a", "b"]) fun _ _ _ _ _ _ us hl => match us, hl with | [_, _], _ => rfl
  have F_least := fun_mk (st := s_least) l_least c_least k_least
  have b_least := F_least.binds (ps := ["n"]) fun _ _ _ _ _ _ us hl => match us, hl with | [_], _ => rfl
  have F_prime := fun_mk (st := s_prime) l_prime c_prime k_prime
  have b_prime := F_prime.binds (ps := ["n"]) fun _ _ _ _ _ _ us hl => match us, hl with | [_], _ => rfl
  have F_chkp := fun_mk (st := s_chkp) l_chkp c_chkp k_chkp
  have b_chkp := F_chkp.binds (ps := ["p"]) fun _ _ _ _ _ _ us hl => match us, hl with | [_], _ => rfl
  have F_rem0 := fun_mk (st := s_rem0) l_rem0 c_rem0 k_rem0
  have b_rem0 := F_rem0.binds (ps := ["n", "p"]) fun _ _ _ _ _ _ us hl => match us, hl with | [_, _], _ => rfl
  have F_recipG := fun_mk (st := s_recipG) l_recipG c_recipG k_recipG
  have b_recipG := F_recipG.binds (ps := ["n", "p"]) fun _ _ _ _ _ _ us hl => match us, hl with | [_, _], _ => rfl
  have F_isname := fun_mk (st := s_isname) l_isname c_isname k_isname
  have b_isname := F_isname.binds (ps := ["word"]) fun _ _ _ _ _ _ us hl => match us, hl with | [_], _ => rfl
  have F_isstep := fun_mk (st := s_isstep) l_isstep c_isstep k_isstep
  have b_isstep := F_isstep.binds (ps := ["words", "steps"]) fun _ _ _ _ _ _ us hl => match us, hl with | [_, _], _ => rfl
  have F_frac := fun_mk (st := s_frac) l_frac c_frac k_frac
  have b_frac := F_frac.binds (ps := ["upper", "lower", "p"]) fun _ _ _ _ _ _ us hl => match us, hl with | [_, _, _], _ => rfl
  have F_blt := fun_mk (st := s_blt) l_blt c_blt k_blt
  have b_blt := F_blt.binds (ps := ["word", "fractions", "p"]) fun _ _ _ _ _ _ us hl => match us, hl with | [_, _, _], _ => rfl
  have F_comof := fun_mk (st := s_comof) l_comof c_comof k_comof
  have b_comof := F_comof.binds (ps := ["numbers"]) fun _ _ _ _ _ _ us hl => match us, hl with | [_], _ => rfl
  have F_cross := fun_mk (st := s_cross) l_cross c_cross k_cross
  have b_cross := F_cross.binds (ps := ["first", "second"]) fun _ _ _ _ _ _ us hl => match us, hl with | [_, _], _ => rfl
  have F_fstu := fun_mk (st := s_fstu) l_fstu c_fstu k_fstu
  have b_fstu := F_fstu.binds (ps := ["numbers"]) fun _ _ _ _ _ _ us hl => match us, hl with | [_], _ => rfl
  have F_nrmin := fun_mk (st := s_nrmin) l_nrmin c_nrmin k_nrmin
  have b_nrmin := F_nrmin.binds (ps := ["triple", "p"]) fun _ _ _ _ _ _ us hl => match us, hl with | [_, _], _ => rfl
  have F_drsum := fun_mk (st := s_drsum) l_drsum c_drsum k_drsum
  have b_drsum := F_drsum.binds (ps := ["sheet", "a", "b"]) fun _ _ _ _ _ _ us hl => match us, hl with | [_, _, _], _ => rfl
  have F_dropp := fun_mk (st := s_dropp) l_dropp c_dropp k_dropp
  have b_dropp := F_dropp.binds (ps := ["sheet", "a"]) fun _ _ _ _ _ _ us hl => match us, hl with | [_, _], _ => rfl
  have F_drup := fun_mk (st := s_drup) l_drup c_drup k_drup
  have b_drup := F_drup.binds (ps := ["sheet", "b"]) fun _ _ _ _ _ _ us hl => match us, hl with | [_, _], _ => rfl
  have F_drprd := fun_mk (st := s_drprd) l_drprd c_drprd k_drprd
  have b_drprd := F_drprd.binds (ps := ["sheet", "a", "b"]) fun _ _ _ _ _ _ us hl => match us, hl with | [_, _, _], _ => rfl
  have F_drquo := fun_mk (st := s_drquo) l_drquo c_drquo k_drquo
  have b_drquo := F_drquo.binds (ps := ["sheet", "a", "b"]) fun _ _ _ _ _ _ us hl => match us, hl with | [_, _, _], _ => rfl
  have F_cell := fun_mk (st := s_cell) l_cell c_cell k_cell
  have b_cell := F_cell.binds (ps := ["_law_script", "_law_k"]) fun _ _ _ _ _ _ us hl => match us, hl with | [_, _], _ => rfl
  have F_draws := fun_mk (st := s_draws) l_draws c_draws k_draws
  have b_draws := F_draws.binds (ps := ["_law_cell_here", "_law_sizes"]) fun _ _ _ _ _ _ us hl => match us, hl with | [_, _], _ => rfl
  have F_lprime := fun_mk (st := s_lprime) l_lprime c_lprime k_lprime
  have b_lprime := F_lprime.binds (ps := ["_law_n"]) fun _ _ _ _ _ _ us hl => match us, hl with | [_], _ => rfl
  have F_lpf := fun_mk (st := s_lpf) l_lpf c_lpf k_lpf
  have b_lpf := F_lpf.binds (ps := ["_law_n"]) fun _ _ _ _ _ _ us hl => match us, hl with | [_], _ => rfl
  have F_lnrm := fun_mk (st := s_lnrm) l_lnrm c_lnrm k_lnrm
  have b_lnrm := F_lnrm.binds (ps := ["_law_row", "_law_char"]) fun _ _ _ _ _ _ us hl => match us, hl with | [_, _], _ => rfl
  have F_lboth := fun_mk (st := s_lboth) l_lboth c_lboth k_lboth
  have b_lboth := F_lboth.binds (ps := ["_law_rows", "_law_word", "_law_first", "_law_second", "_law_char"]) fun _ _ _ _ _ _ us hl => match us, hl with | [_, _, _, _, _], _ => rfl
  have F_lbes := fun_mk (st := s_lbes) l_lbes c_lbes k_lbes
  have b_lbes := F_lbes.binds (ps := ["_law_rows", "_law_line", "_law_point", "_law_char"]) fun _ _ _ _ _ _ us hl => match us, hl with | [_, _, _, _], _ => rfl
  have F_ldue := fun_mk (st := s_ldue) l_ldue c_ldue k_ldue
  have b_ldue := F_ldue.binds (ps := ["_law_rule", "_law_a", "_law_b", "_law_char"]) fun _ _ _ _ _ _ us hl => match us, hl with | [_, _, _, _], _ => rfl
  have F_lref85 := fun_mk (st := s_lref85) l_lref85 c_lref85 k_lref85
  have b_lref85 := F_lref85.binds (ps := ["_law_ruler", "_law_name", "_law_char"]) fun _ _ _ _ _ _ us hl => match us, hl with | [_, _, _], _ => rfl
  have F_law := fun_mk (st := s_law) l_law c_law k_law
  have m_isqrt := PySem.W.mg_of X G g_isqrt
  have m_gcd := PySem.W.mg_of X G g_gcd
  have m_MOST_LETTERS := PySem.W.mg_of X G g_MOST_LETTERS
  refine ⟨PySem.W.fnOf "law" "law" (defArgs s_law) (defBody s_law) (defScope s_law) .none kV_law dc_law pm_law an_law cd_law ct_law, fun s v => .of_eq rfl, fun base _ _ => ?_⟩
  have x_ibc : Er P w K mg base "BadCharacteristic" "p" C_ibc := ⟨_, _, _, E_ibc, ok_ibc TF E_ibc.oex E_ibc.no F_ibc, b_ibc⟩
  have x_ibs : ErP P w K mg base "BadStep" "at" C_ibs okNat := ⟨_, _, _, E_ibs, ok_ibs TF E_ibs.oex E_ibs.no F_ibs, b_ibs⟩
  have x_iun : ErP P w K mg base "UnknownName" "name" C_iun okS := ⟨_, _, _, E_iun, ok_iun TF E_iun.oex E_iun.no F_iun, b_iun⟩
  have d_common : Cl P w K mg base CX0 1 "common" spCommon := ⟨_, _, _, ok_common m_gcd F_common, PySem.W.mg_of X G a_common, k_common, b_common⟩
  have d_comb : Cl P w K mg base CX0 1 "combination" spComb := ⟨_, _, _, ok_comb F_comb, PySem.W.mg_of X G a_comb, k_comb, b_comb⟩
  have d_least : Cl P w K mg base CX0 1 "_least_divisor" spLeast := ⟨_, _, _, ok_least T m_isqrt F_least, PySem.W.mg_of X G a_least, k_least, b_least⟩
  have d_prime : Cl P w K mg base CX0 2 "is_prime" spPrime := ⟨_, _, _, ok_prime F_prime d_least, PySem.W.mg_of X G a_prime, k_prime, b_prime⟩
  have d_chkp : Cl P w K mg base (L2N.CX P w) 3 "checked_prime" (spChkp C_ibc) := ⟨_, _, _, ok_chkp F_chkp d_prime x_ibc, PySem.W.mg_of X G a_chkp, k_chkp, b_chkp⟩
  have d_rem0 : Cl P w K mg base CX0 1 "remainder" spRemI := ⟨_, _, _, ok_remI F_rem0, PySem.W.mg_of X G a_rem0, k_rem0, b_rem0⟩
  have d_recipG : Cl P w K mg base CX0 2 "reciprocal" spRecipG := ⟨_, _, _, ok_recipG F_recipG d_comb, PySem.W.mg_of X G a_recipG, k_recipG, b_recipG⟩
  have d_isname : Cl P w K mg base CX0 1 "is_name" spIsName := ⟨_, _, _, ok_isname T m_MOST_LETTERS F_isname, PySem.W.mg_of X G a_isname, k_isname, b_isname⟩
  have d_frac : Cl P w K mg base CX0 3 "_fraction" (spFrac K) := ⟨_, _, _, ok_frac F_frac d_rem0 d_recipG d_common, PySem.W.mg_of X G a_frac, k_frac, b_frac⟩
  have d_blt : Cl P w K mg base CX0 4 "_built_of" (spBlt K) := ⟨_, _, _, ok_blt F_blt d_frac, PySem.W.mg_of X G a_blt, k_blt, b_blt⟩
  have d_cell : Cl P w K mg base CX0 1 "_law_cell" (spCellL K) := ⟨_, _, _, ok_cell T F_cell, PySem.W.mg_of X G a_cell, k_cell, b_cell⟩
  have d_draws : Cl P w K mg base CX0 1 "_law_draws" (spDraws K) := ⟨_, _, _, ok_draws T F_draws, PySem.W.mg_of X G a_draws, k_draws, b_draws⟩
  have d_lprime : Cl P w K mg base CX0 1 "_law_is_prime" spOddPr := ⟨_, _, _, ok_lprime F_lprime, PySem.W.mg_of X G a_lprime, k_lprime, b_lprime⟩
  have d_lpf : Cl P w K mg base CX0 2 "_law_prime_from" spLpf := ⟨_, _, _, ok_lpf T F_lpf d_lprime, PySem.W.mg_of X G a_lpf, k_lpf, b_lpf⟩
  have d_lnrm : Cl P w K mg base CX0 1 "_law_normal" (spLnrm K) := ⟨_, _, _, ok_lnrm T F_lnrm, PySem.W.mg_of X G a_lnrm, k_lnrm, b_lnrm⟩
  have d_lboth : Cl P w K mg base CX0 2 "_law_both" (spLboth K) := ⟨_, _, _, ok_lboth F_lboth d_lnrm, PySem.W.mg_of X G a_lboth, k_lboth, b_lboth⟩
  have d_lbes : Cl P w K mg base CX0 3 "_law_beside" (spLbes K) := ⟨_, _, _, ok_lbes F_lbes d_lboth, PySem.W.mg_of X G a_lbes, k_lbes, b_lbes⟩
  have d_ldue : Cl P w K mg base CX0 4 "_law_due" (spLdue K) := ⟨_, _, _, ok_ldue F_ldue d_lboth d_lbes, PySem.W.mg_of X G a_ldue, k_ldue, b_ldue⟩
  have exq : PySem.W.exmOne K (.ref C_ibc) (.ref C_iun) = some false := PySem.W.exm_ref ec_iun hd_iun tc_iun s_bc_un
  have mWT := PySem.W.mg_of X G gWT
  have WWT : WDict K w DT tksV := wd_mk lkWT loWT dkWT (wd_cons ⟨_, vWT0, ⟨_, rfl⟩⟩ (wd_cons ⟨_, vWT1, ⟨_, rfl⟩⟩ (wd_cons ⟨_, vWT2, ⟨_, rfl⟩⟩ (wd_cons ⟨_, vWT3, ⟨_, rfl⟩⟩ wd_nil)))) (show ([("sum" : Str), ("product" : Str), ("quotient" : Str), ("opposite" : Str)] : List Str).Nodup by decide)
  have mWG := PySem.W.mg_of X G gWG
  have WWG : WDict K w DG (gvnV ZA OA) := wd_mk lkWG loWG dkWG (wd_cons ⟨_, vWG0, rfl⟩ (wd_cons ⟨_, vWG1, rfl⟩ wd_nil)) (show ([("zero" : Str), ("one" : Str)] : List Str).Nodup by decide)
  have kTZ : ∀ H, SqT K H ZA [.int 0, .int 1] := sqT_k2 lkTZ
  have kTO : ∀ H, SqT K H OA [.int 1, .int 1] := sqT_k2 lkTO
  have kLZ : ∀ H, SqT K H GZ [.int 0, .int 0, .int 1] := sqT_k3 lkLZ
  have mLZ := PySem.W.mg_of X G gLZ
  have kLO : ∀ H, SqT K H GO [.int 1, .int 0, .int 1] := sqT_k3 lkLO
  have mLO := PySem.W.mg_of X G gLO
  have kLT : ∀ H, SqT K H GT [.int 0, .int 1, .int 1] := sqT_k3 lkLT
  have mLT := PySem.W.mg_of X G gLT
  have kLA : ∀ H, SqT K H GA [.int 0, .int 1, .int 0] := sqT_k3 lkLA
  have mLA := PySem.W.mg_of X G gLA
  have kLX : ∀ H, SqT K H GX [.int 0, .int 1, .int 0] := sqT_k3 lkLX
  have mLX := PySem.W.mg_of X G gLX
  have kLU : ∀ H, SqT K H GU [.int 1, .int 0, .int 0] := sqT_k3 lkLU
  have mLU := PySem.W.mg_of X G gLU
  have kLL : ∀ H, SqT K H GL [.int 0, .int 1, .int (-1)] := sqT_k3 lkLL
  have mLL := PySem.W.mg_of X G gLL
  have kLF : ∀ H, SqT K H GF [.int 0, .int 0, .int 1] := sqT_k3 lkLF
  have mLF := PySem.W.mg_of X G gLF
  have mWD := PySem.W.mg_of X G gWD
  have WWD : WDict K w DD (drwV f_drsum f_drprd f_drquo f_dropp) := wd_mk lkWD loWD dkWD (wd_cons ⟨_, vWD0, rfl⟩ (wd_cons ⟨_, vWD1, rfl⟩ (wd_cons ⟨_, vWD2, rfl⟩ (wd_cons ⟨_, vWD3, rfl⟩ wd_nil)))) (show ([("sum" : Str), ("product" : Str), ("quotient" : Str), ("opposite" : Str)] : List Str).Nodup by decide)
  have d_isstep : Cl P w K mg base CX0 2 "_is_step" (spIsStep K) := ⟨_, _, _, ok_isstep T n_all WWT mWT WWG mWG F_isstep d_isname, PySem.W.mg_of X G a_isstep, k_isstep, b_isstep⟩
  have c_ru : Ma P w K mg base 3 C_ru (spRulI C_ru C_ibs) := ⟨_, _, _, ⟨R_mk, R_at_ruinit, R_fn_ruinit, R_kp⟩, ok_ruinit T n_enumerate TR F_ruinit d_isstep x_ibs, b_ruinit⟩
  have m_ruchk : MeN P w K mg base 3 C_ru "_check_names" (spRuChk C_ru C_iun K) := ⟨_, _, _, M_ruchk, ok_ruchk TR WWG mWG F_ruchk x_iun, b_ruchk⟩
  have m_ruway : Me P w K mg base 1 C_ru "_way_to" (spWay C_ru K) := ⟨_, _, _, M_ruway, ok_ruway T n_reversed TR F_ruway, b_ruway⟩
  have m_rufrs : Me P w K mg base 5 C_ru "_fractions" (spFrs C_ru K) := ⟨_, _, _, M_rufrs, ok_rufrs T n_dict TR WWG mWG kTZ kTO F_rufrs m_ruway d_blt, b_rufrs⟩
  have m_ruval : MeKw P w K mg base (L2N.CX P w) 6 C_ru "value" 1 ["p"] (spRuVal C_ru C_ibc C_iun) := ⟨_, _, _, M_ruval, ok_ruval TR F_ruval d_chkp m_ruchk m_rufrs, kbn_of fun s us ws l1 l2 => match us, ws, l1, l2 with | [_, _], [_], _, _ => .of_eq rfl⟩
  have PG : PlG K mg GZ GO GT GA GX GU GL := ⟨mLZ, mLO, mLT, mLA, mLX, mLU, mLL, kLZ, kLO, kLT, kLA, kLX, kLU, kLL⟩
  have d_comof : Cl P w K mg base CX0 2 "common_of" (fun _ _ _ _ => False) := ⟨_, _, _, ok_comof F_comof d_common, PySem.W.mg_of X G a_comof, k_comof, b_comof⟩
  have d_cross : Cl P w K mg base CX0 1 "cross" (spCrsI K) := ⟨_, _, _, ok_crsI F_cross, PySem.W.mg_of X G a_cross, k_cross, b_cross⟩
  have d_fstu : Cl P w K mg base CX0 1 "_first_unit" (spFstu K) := ⟨_, _, _, ok_fstu F_fstu, PySem.W.mg_of X G a_fstu, k_fstu, b_fstu⟩
  have d_nrmin : Cl P w K mg base CX0 3 "normal_in" (spNrm K) := ⟨_, _, _, ok_nrmin T F_nrmin d_rem0 d_fstu d_recipG d_comof, PySem.W.mg_of X G a_nrmin, k_nrmin, b_nrmin⟩
  have c_sh : Ma P w K mg base 1 C_sh (spShI C_sh K) := ⟨_, _, _, ⟨S_mk, S_at_shinit, S_fn_shinit, S_kp⟩, ok_shinit TS F_shinit, b_shinit⟩
  have m_shfound : Me P w K mg base 4 C_sh "_found" (spFoundS C_sh K) := ⟨_, _, _, M_shfound, ok_shfound TS F_shfound d_nrmin d_cross, b_shfound⟩
  have m_shjoin : Me P w K mg base 5 C_sh "joined" (spSM C_sh "join" K) := ⟨_, _, _, M_shjoin, ok_shjoin TS F_shjoin m_shfound, b_shjoin⟩
  have m_shmet : Me P w K mg base 5 C_sh "met" (spSM C_sh "meet" K) := ⟨_, _, _, M_shmet, ok_shmet TS F_shmet m_shfound, b_shmet⟩
  have m_shalong : Me P w K mg base 6 C_sh "alongside" (spAlong C_sh K) := ⟨_, _, _, M_shalong, ok_shalong TS mLF kLF F_shalong m_shjoin m_shmet, b_shalong⟩
  have d_drup : Cl P w K mg base CX0 7 "_upright_point" (spUp C_sh K) := ⟨_, _, _, ok_drup TS PG F_drup m_shjoin m_shmet m_shalong, PySem.W.mg_of X G a_drup, k_drup, b_drup⟩
  have A4 : ∀ f sp, DrS C_sh K f_drsum f_drprd f_drquo f_dropp f sp → HeldS P w K mg base 8 f sp := fun f sp h => by
    rcases h with ⟨rfl, rfl⟩ | ⟨rfl, rfl⟩ | ⟨rfl, rfl⟩ | ⟨rfl, rfl⟩
    · exact ⟨⟨_, _, 7, by decide, ok_drsum TS PG F_drsum m_shjoin m_shmet m_shalong, k_drsum, b_drsum⟩⟩
    · exact ⟨⟨_, _, 8, by decide, ok_drprd TS PG F_drprd m_shjoin m_shmet m_shalong d_drup, k_drprd, b_drprd⟩⟩
    · exact ⟨⟨_, _, 8, by decide, ok_drquo TS PG F_drquo m_shjoin m_shmet m_shalong d_drup, k_drquo, b_drquo⟩⟩
    · exact ⟨⟨_, _, 7, by decide, ok_dropp TS PG F_dropp m_shjoin m_shmet m_shalong, k_dropp, b_dropp⟩⟩
  have m_rushow : MeKw P w K mg base (L2N.CX P w) 9 C_ru "shown" 1 ["p"] (spShow C_ru C_ibc C_iun K) := ⟨_, _, _, M_rushow, ok_rushow TR TS WWG mWG WWD mWD F_rushow d_chkp m_ruchk m_rufrs c_sh A4, kbn_of fun s us ws l1 l2 => match us, ws, l1, l2 with | [_, _], [_], _, _ => .of_eq rfl⟩
  have d_lref85 : Cl P w K mg base CX0 10 "_law_refused" (spLref85 C_ru) := ⟨_, _, _, ok_lref85 TR E_iun E_ibc exq F_lref85 m_rushow, PySem.W.mg_of X G a_lref85, k_lref85, b_lref85⟩
  exact ok_law T TR F_law d_cell d_draws d_lpf d_lnrm d_ldue d_lref85 c_ru m_ruval m_rushow
theorem walk {l : PySem.W.OpenLaw} {q : Program} {loose : List Str} {XP : (Str → Option Value) → Heap → Prop} {YP : World → Heap → Prop} {d : DefRec} {K : Params → PySem.W.Frag} (hn : l.most = some 63) (hdf : d.params.defaults = [])
    (hY : ∀ (w : World) (h : Heap), YP w h → (K w.params).In h)
    (F : ∀ (w : World) (mg : Str → Option Value) (fa : Addr) (h : Heap), (K w.params).In h → h.Ns mainGlobals mg → mg d.name = some (.ref fa) →
      ∃ fd : FuncData, (∀ (s : Shared) (u : Value), BindsTo s fd ⟨[u], []⟩ [("_law_script", u)]) ∧ ∀ base : Heap, (K w.params).In base → base.Ns mainGlobals mg → FnOk l.prog w (K w.params) mg base CX0 12 fa fd ["_law_script"] (spLaw (K w.params))) :
    PySem.W.WalkO q loose XP YP l.row.toRowW d [] (fun f vs => PySem.call f vs) :=
  L2.walk_of (n := 63) (k := 12) (x := "_law_script") (CX := fun _ => CX0) (sp := fun w => spLaw (K w.params)) hn (by decide) hdf ⟨rfl, by decide, by decide⟩ hY F (fun _ _ a ns hl _ hS => ⟨a, ns, rfl, hS, hl, fun _ => rfl⟩) fun _ _ _ _ _ z => z
end My
open PySem PySem.W PyProof.Rows
set_option maxRecDepth 100000 in
set_option maxHeartbeats 0 in
theorem PySem.Challenge.cw_everyfield_k85_joins_and_meets_shown_holds : PySem.Challenge.rw_everyfield_k85_joins_and_meets_shown.Holds := by
  w_on; o_law; k_head; (case hw => w_witness2)
  k_fill
  refine My.walk (l := PySem.Challenge.rw_everyfield_k85_joins_and_meets_shown) rfl rfl (fun w h Y => PySem.W.kIn_of Y) ?F
  case F =>
    intro w mg fa h KX G hmg
    refine' My.all_mk KX G hmg ?a_common ?l_common ?c_common ?k_common ?a_comb ?l_comb ?c_comb ?k_comb ?a_least ?l_least ?c_least ?k_least ?a_prime ?l_prime ?c_prime ?k_prime ?a_chkp ?l_chkp ?c_chkp ?k_chkp ?a_rem0 ?l_rem0 ?c_rem0 ?k_rem0 ?a_recipG ?l_recipG ?c_recipG ?k_recipG ?a_isname ?l_isname ?c_isname ?k_isname ?a_isstep ?l_isstep ?c_isstep ?k_isstep ?a_frac ?l_frac ?c_frac ?k_frac ?a_blt ?l_blt ?c_blt ?k_blt ?a_comof ?l_comof ?c_comof ?k_comof ?a_cross ?l_cross ?c_cross ?k_cross ?a_fstu ?l_fstu ?c_fstu ?k_fstu ?a_nrmin ?l_nrmin ?c_nrmin ?k_nrmin ?a_drsum ?l_drsum ?c_drsum ?k_drsum ?a_dropp ?l_dropp ?c_dropp ?k_dropp ?a_drup ?l_drup ?c_drup ?k_drup ?a_drprd ?l_drprd ?c_drprd ?k_drprd ?a_drquo ?l_drquo ?c_drquo ?k_drquo ?a_cell ?l_cell ?c_cell ?k_cell ?a_draws ?l_draws ?c_draws ?k_draws ?a_lprime ?l_lprime ?c_lprime ?k_lprime ?a_lpf ?l_lpf ?c_lpf ?k_lpf ?a_lnrm ?l_lnrm ?c_lnrm ?k_lnrm ?a_lboth ?l_lboth ?c_lboth ?k_lboth ?a_lbes ?l_lbes ?c_lbes ?k_lbes ?a_ldue ?l_ldue ?c_ldue ?k_ldue ?a_lref85 ?l_lref85 ?c_lref85 ?k_lref85 ?a_law ?l_law ?c_law ?k_law ?aF ?rF ?gF ?iF ?aC_ibc ?xC_ibc ?sa_ibc ?ga_ibc ?gg_ibc ?no_ibc ?ic_ibc ?ti_ibc ?kc_ibc ?ec_ibc ?tc_ibc ?hd_ibc ?is_ibc ?sc_ibc ?l_ibc ?c_ibc ?k_ibc ?aC_ibs ?xC_ibs ?sa_ibs ?ga_ibs ?gg_ibs ?no_ibs ?ic_ibs ?ti_ibs ?kc_ibs ?ec_ibs ?tc_ibs ?hd_ibs ?is_ibs ?sc_ibs ?l_ibs ?c_ibs ?k_ibs ?aC_iun ?xC_iun ?sa_iun ?ga_iun ?gg_iun ?no_iun ?ic_iun ?ti_iun ?kc_iun ?ec_iun ?tc_iun ?hd_iun ?is_iun ?sc_iun ?l_iun ?c_iun ?k_iun ?R_aK ?R_pg ?R_hd ?R_po ?R_sa ?R_sf ?R_ha ?R_hn ?R_htk ?R_hm ?R_mk ?R_kp ?R_no__steps ?R_at_ruinit ?R_fn_ruinit ?R_l_ruinit ?R_c_ruinit ?R_k_ruinit ?R_at_ruchk ?R_fn_ruchk ?R_l_ruchk ?R_c_ruchk ?R_k_ruchk ?R_at_ruway ?R_fn_ruway ?R_l_ruway ?R_c_ruway ?R_k_ruway ?R_at_rufrs ?R_fn_rufrs ?R_l_rufrs ?R_c_rufrs ?R_k_rufrs ?R_at_ruval ?R_fn_ruval ?R_l_ruval ?R_c_ruval ?R_k_ruval ?R_at_rushow ?R_fn_rushow ?R_l_rushow ?R_c_rushow ?R_k_rushow ?S_aK ?S_pg ?S_hd ?S_po ?S_sa ?S_sf ?S_ha ?S_hn ?S_htk ?S_hm ?S_mk ?S_kp ?S_no_p ?S_no_rows ?S_at_shinit ?S_fn_shinit ?S_l_shinit ?S_c_shinit ?S_k_shinit ?S_at_shfound ?S_fn_shfound ?S_l_shfound ?S_c_shfound ?S_k_shfound ?S_at_shjoin ?S_fn_shjoin ?S_l_shjoin ?S_c_shjoin ?S_k_shjoin ?S_at_shmet ?S_fn_shmet ?S_l_shmet ?S_c_shmet ?S_k_shmet ?S_at_shalong ?S_fn_shalong ?S_l_shalong ?S_c_shalong ?S_k_shalong ?gWT ?lkWT ?dkWT ?loWT ?vWT0 ?vWT1 ?vWT2 ?vWT3 ?gWG ?lkWG ?dkWG ?loWG ?vWG0 ?vWG1 ?lkTZ ?lkTO ?gLZ ?lkLZ ?gLO ?lkLO ?gLT ?lkLT ?gLA ?lkLA ?gLX ?lkLX ?gLU ?lkLU ?gLL ?lkLL ?gLF ?lkLF ?gWD ?lkWD ?dkWD ?loWD ?vWD0 ?vWD1 ?vWD2 ?vWD3 ?s_bc_un ?z_int ?z_len ?z_abs ?z_isinstance ?z_bool ?z_tuple ?z_list ?z_str ?z_range ?z_max ?z_min ?z_sorted ?z_set ?z_enumerate ?z_reversed ?z_all ?z_dict ?g_isqrt ?g_gcd ?g_MOST_LETTERS
    (case a_common => k_is)
    (case l_common => k_is)
    (case c_common => k_is)
    (case k_common => k_is)
    (case a_comb => k_is)
    (case l_comb => k_is)
    (case c_comb => k_is)
    (case k_comb => k_is)
    (case a_least => k_is)
    (case l_least => k_is)
    (case c_least => k_is)
    (case k_least => k_is)
    (case a_prime => k_is)
    (case l_prime => k_is)
    (case c_prime => k_is)
    (case k_prime => k_is)
    (case a_chkp => k_is)
    (case l_chkp => k_is)
    (case c_chkp => k_is)
    (case k_chkp => k_is)
    (case a_rem0 => k_is)
    (case l_rem0 => k_is)
    (case c_rem0 => k_is)
    (case k_rem0 => k_is)
    (case a_recipG => k_is)
    (case l_recipG => k_is)
    (case c_recipG => k_is)
    (case k_recipG => k_is)
    (case a_isname => k_is)
    (case l_isname => k_is)
    (case c_isname => k_is)
    (case k_isname => k_is)
    (case a_isstep => k_is)
    (case l_isstep => k_is)
    (case c_isstep => k_is)
    (case k_isstep => k_is)
    (case a_frac => k_is)
    (case l_frac => k_is)
    (case c_frac => k_is)
    (case k_frac => k_is)
    (case a_blt => k_is)
    (case l_blt => k_is)
    (case c_blt => k_is)
    (case k_blt => k_is)
    (case a_comof => k_is)
    (case l_comof => k_is)
    (case c_comof => k_is)
    (case k_comof => k_is)
    (case a_cross => k_is)
    (case l_cross => k_is)
    (case c_cross => k_is)
    (case k_cross => k_is)
    (case a_fstu => k_is)
    (case l_fstu => k_is)
    (case c_fstu => k_is)
    (case k_fstu => k_is)
    (case a_nrmin => k_is)
    (case l_nrmin => k_is)
    (case c_nrmin => k_is)
    (case k_nrmin => k_is)
    (case a_drsum => k_is)
    (case l_drsum => k_is)
    (case c_drsum => k_is)
    (case k_drsum => k_is)
    (case a_dropp => k_is)
    (case l_dropp => k_is)
    (case c_dropp => k_is)
    (case k_dropp => k_is)
    (case a_drup => k_is)
    (case l_drup => k_is)
    (case c_drup => k_is)
    (case k_drup => k_is)
    (case a_drprd => k_is)
    (case l_drprd => k_is)
    (case c_drprd => k_is)
    (case k_drprd => k_is)
    (case a_drquo => k_is)
    (case l_drquo => k_is)
    (case c_drquo => k_is)
    (case k_drquo => k_is)
    (case a_cell => k_is)
    (case l_cell => k_is)
    (case c_cell => k_is)
    (case k_cell => k_is)
    (case a_draws => k_is)
    (case l_draws => k_is)
    (case c_draws => k_is)
    (case k_draws => k_is)
    (case a_lprime => k_is)
    (case l_lprime => k_is)
    (case c_lprime => k_is)
    (case k_lprime => k_is)
    (case a_lpf => k_is)
    (case l_lpf => k_is)
    (case c_lpf => k_is)
    (case k_lpf => k_is)
    (case a_lnrm => k_is)
    (case l_lnrm => k_is)
    (case c_lnrm => k_is)
    (case k_lnrm => k_is)
    (case a_lboth => k_is)
    (case l_lboth => k_is)
    (case c_lboth => k_is)
    (case k_lboth => k_is)
    (case a_lbes => k_is)
    (case l_lbes => k_is)
    (case c_lbes => k_is)
    (case k_lbes => k_is)
    (case a_ldue => k_is)
    (case l_ldue => k_is)
    (case c_ldue => k_is)
    (case k_ldue => k_is)
    (case a_lref85 => k_is)
    (case l_lref85 => k_is)
    (case c_lref85 => k_is)
    (case k_lref85 => k_is)
    (case a_law => k_is)
    (case l_law => k_is)
    (case c_law => k_is)
    (case k_law => k_is)
    (case aF => k_is)
    (case rF => k_is)
    (case gF => k_is)
    (case iF => k_is)
    (case aC_ibc => k_is)
    (case xC_ibc => k_is)
    (case sa_ibc => k_is)
    (case ga_ibc => k_is)
    (case gg_ibc => k_is)
    (case no_ibc => k_is)
    (case ic_ibc => k_is)
    (case ti_ibc => k_is)
    (case kc_ibc => k_is)
    (case ec_ibc => k_is)
    (case tc_ibc => k_is)
    (case hd_ibc => k_is)
    (case is_ibc => k_is)
    (case sc_ibc => k_is)
    (case l_ibc => k_is)
    (case c_ibc => k_is)
    (case k_ibc => k_is)
    (case aC_ibs => k_is)
    (case xC_ibs => k_is)
    (case sa_ibs => k_is)
    (case ga_ibs => k_is)
    (case gg_ibs => k_is)
    (case no_ibs => k_is)
    (case ic_ibs => k_is)
    (case ti_ibs => k_is)
    (case kc_ibs => k_is)
    (case ec_ibs => k_is)
    (case tc_ibs => k_is)
    (case hd_ibs => k_is)
    (case is_ibs => k_is)
    (case sc_ibs => k_is)
    (case l_ibs => k_is)
    (case c_ibs => k_is)
    (case k_ibs => k_is)
    (case aC_iun => k_is)
    (case xC_iun => k_is)
    (case sa_iun => k_is)
    (case ga_iun => k_is)
    (case gg_iun => k_is)
    (case no_iun => k_is)
    (case ic_iun => k_is)
    (case ti_iun => k_is)
    (case kc_iun => k_is)
    (case ec_iun => k_is)
    (case tc_iun => k_is)
    (case hd_iun => k_is)
    (case is_iun => k_is)
    (case sc_iun => k_is)
    (case l_iun => k_is)
    (case c_iun => k_is)
    (case k_iun => k_is)
    (case R_aK => k_is)
    (case R_pg => k_is)
    (case R_hd => k_is)
    (case R_po => k_is)
    (case R_sa => k_is)
    (case R_sf => k_is)
    (case R_ha => k_is)
    (case R_hn => k_is)
    (case R_htk => k_is)
    (case R_hm => k_is)
    (case R_mk => k_is)
    (case R_kp => k_is)
    (case R_no__steps => k_is)
    (case R_at_ruinit => k_is)
    (case R_fn_ruinit => k_is)
    (case R_l_ruinit => k_is)
    (case R_c_ruinit => k_is)
    (case R_k_ruinit => k_is)
    (case R_at_ruchk => k_is)
    (case R_fn_ruchk => k_is)
    (case R_l_ruchk => k_is)
    (case R_c_ruchk => k_is)
    (case R_k_ruchk => k_is)
    (case R_at_ruway => k_is)
    (case R_fn_ruway => k_is)
    (case R_l_ruway => k_is)
    (case R_c_ruway => k_is)
    (case R_k_ruway => k_is)
    (case R_at_rufrs => k_is)
    (case R_fn_rufrs => k_is)
    (case R_l_rufrs => k_is)
    (case R_c_rufrs => k_is)
    (case R_k_rufrs => k_is)
    (case R_at_ruval => k_is)
    (case R_fn_ruval => k_is)
    (case R_l_ruval => k_is)
    (case R_c_ruval => k_is)
    (case R_k_ruval => k_is)
    (case R_at_rushow => k_is)
    (case R_fn_rushow => k_is)
    (case R_l_rushow => k_is)
    (case R_c_rushow => k_is)
    (case R_k_rushow => k_is)
    (case S_aK => k_is)
    (case S_pg => k_is)
    (case S_hd => k_is)
    (case S_po => k_is)
    (case S_sa => k_is)
    (case S_sf => k_is)
    (case S_ha => k_is)
    (case S_hn => k_is)
    (case S_htk => k_is)
    (case S_hm => k_is)
    (case S_mk => k_is)
    (case S_kp => k_is)
    (case S_no_p => k_is)
    (case S_no_rows => k_is)
    (case S_at_shinit => k_is)
    (case S_fn_shinit => k_is)
    (case S_l_shinit => k_is)
    (case S_c_shinit => k_is)
    (case S_k_shinit => k_is)
    (case S_at_shfound => k_is)
    (case S_fn_shfound => k_is)
    (case S_l_shfound => k_is)
    (case S_c_shfound => k_is)
    (case S_k_shfound => k_is)
    (case S_at_shjoin => k_is)
    (case S_fn_shjoin => k_is)
    (case S_l_shjoin => k_is)
    (case S_c_shjoin => k_is)
    (case S_k_shjoin => k_is)
    (case S_at_shmet => k_is)
    (case S_fn_shmet => k_is)
    (case S_l_shmet => k_is)
    (case S_c_shmet => k_is)
    (case S_k_shmet => k_is)
    (case S_at_shalong => k_is)
    (case S_fn_shalong => k_is)
    (case S_l_shalong => k_is)
    (case S_c_shalong => k_is)
    (case S_k_shalong => k_is)
    (case gWT => k_is)
    (case lkWT => k_is)
    (case dkWT => rfl)
    (case loWT => rfl)
    (case vWT0 => k_is)
    (case vWT1 => k_is)
    (case vWT2 => k_is)
    (case vWT3 => k_is)
    (case gWG => k_is)
    (case lkWG => k_is)
    (case dkWG => rfl)
    (case loWG => rfl)
    (case vWG0 => k_is)
    (case vWG1 => k_is)
    (case lkTZ => k_is)
    (case lkTO => k_is)
    (case gLZ => k_is)
    (case lkLZ => k_is)
    (case gLO => k_is)
    (case lkLO => k_is)
    (case gLT => k_is)
    (case lkLT => k_is)
    (case gLA => k_is)
    (case lkLA => k_is)
    (case gLX => k_is)
    (case lkLX => k_is)
    (case gLU => k_is)
    (case lkLU => k_is)
    (case gLL => k_is)
    (case lkLL => k_is)
    (case gLF => k_is)
    (case lkLF => k_is)
    (case gWD => k_is)
    (case lkWD => k_is)
    (case dkWD => rfl)
    (case loWD => rfl)
    (case vWD0 => k_is)
    (case vWD1 => k_is)
    (case vWD2 => k_is)
    (case vWD3 => k_is)
    (case s_bc_un => k_is)
    (case z_int => k_is)
    (case z_len => k_is)
    (case z_abs => k_is)
    (case z_isinstance => k_is)
    (case z_bool => k_is)
    (case z_tuple => k_is)
    (case z_list => k_is)
    (case z_str => k_is)
    (case z_range => k_is)
    (case z_max => k_is)
    (case z_min => k_is)
    (case z_sorted => k_is)
    (case z_set => k_is)
    (case z_enumerate => k_is)
    (case z_reversed => k_is)
    (case z_all => k_is)
    (case z_dict => k_is)
    (case g_isqrt => k_is)
    (case g_gcd => k_is)
    (case g_MOST_LETTERS => k_is)
