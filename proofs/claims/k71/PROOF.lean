import PyProof.Rows.All
import Wide.All
import OpenK.AllK
import Wide.FinOn
import PyProof.NoPylong
import Flt.Len
import HandS.ForMost
import HandS.ForExc
import HandS.Wide
import HandS.Gcd
import HandS.IsInst
import HandS.Evl
import HandS.Flow
import HandS.Iter
import HandS.ExcInit
import HandS.ExcField
import HandS.ExcCtx
import HandS.HotCalls
import HandS.ExcInitHot
import HandS.TupLe
import HandS.TupAny
import HandS.Conv
import HandS.Strs
import HandS.SetFor
import HandS.Zip
import HandS.Star
import HandS.ClsMeth
import HandS.Codes
import HandS.SlotsOwn
import HandS.Walk
import HandS.StrMore
import HandS.FStr
import HandS.FStrTup
import HandS.Style
import HandS.TryMany
import HandS.ExcIs
import HandS.Rev
import HandS.ListEq
import HandS.Small
import KE.GoesMore
import KE.GoesEnum
import PyProof.Draws
import Flt.RightSqrt
import HandS.NoneIn
import HandS.Defaults
import KE.KDictZip
import HandS.CallSlots
import HandS.DictTup
import HandS.DictComp
import HandS.Dict
import KE.KDictDisplayH
import KE.KEqNest
import KE.KDictList
import HandS.TupAny
import HandS.SetBool
import HandS.SetKeys
import HandS.More
import HandS.TupSets
import KE.DataMinMax
import KE.SortData
import KE.KDictSum
import HandS.WideBits
import HandS.SortKw
import KE.KIntText
import PyProof.StrBlock
import PyProof.PureStr
import PySem.Challenge.RW_everyfield_k71_polynomials_by_terms
set_option Elab.async false
set_option linter.all false
set_option maxRecDepth 100000
set_option maxHeartbeats 4000000
set_option exponentiation.threshold 20000
namespace My
open PySem PySem.Spec PyProof.Rows L2
def top (i : Nat) : Stmt := PySem.Challenge.pw_everyfield_k71_polynomials_by_terms.main.body.getD i (.Pass ⟨0, 0, 0, 0⟩)
-- part prime_math
def Pr (n : Int) : Prop := 2 ≤ n ∧ ∀ m : Int, 2 ≤ m → m < n → ¬ m ∣ n
noncomputable def prB (n : Int) : Bool := @decide (Pr n) (Classical.propDecidable _)
theorem prB_true {n : Int} (h : Pr n) : prB n = true := by unfold prB; exact @decide_eq_true _ (Classical.propDecidable _) h
theorem prB_false {n : Int} (h : ¬ Pr n) : prB n = false := by unfold prB; exact @decide_eq_false _ (Classical.propDecidable _) h
theorem prB_iff {n : Int} : prB n = true ↔ Pr n := by unfold prB; exact @decide_eq_true_iff _ (Classical.propDecidable _)
/-- r is the least divisor of n from 2 on -/
structure Least (n r : Int) : Prop where
  two : 2 ≤ r
  dvd : r ∣ n
  min : ∀ m : Int, 2 ≤ m → m < r → ¬ m ∣ n
theorem Least.le {n r : Int} (h : Least n r) (hn : 2 ≤ n) : r ≤ n := Int.le_of_dvd (by omega) h.dvd
theorem Least.pr {n r : Int} (h : Least n r) : Pr r := ⟨h.two, fun m h1 h2 h3 => h.min m h1 h2 (Int.dvd_trans h3 h.dvd)⟩
theorem Least.uniq {n r r' : Int} (h : Least n r) (h' : Least n r') : r = r' := by
  rcases Int.lt_trichotomy r r' with c | c | c
  · exact absurd h.dvd (h'.min r h.two c)
  · exact c
  · exact absurd h'.dvd (h.min r' h'.two c)
theorem Least.self {n r : Int} (h : Least n r) (hn : 2 ≤ n) : r = n ↔ Pr n := by
  constructor
  · intro e
    rw [e] at h
    exact h.pr
  · intro p
    have := h.le hn
    by_cases c : r = n
    · exact c
    · exact absurd h.dvd (p.2 r h.two (by omega))
/-- a proper divisor: one at most the root -/
theorem small_div {n m s : Int} (hn : 2 ≤ n) (h2 : 2 ≤ m) (hm : m < n) (hd : m ∣ n) (hs0 : 0 ≤ s) (hs : n < (s + 1) * (s + 1)) : ∃ d : Int, 2 ≤ d ∧ d ≤ s ∧ d ≤ m ∧ d ∣ n := by
  obtain ⟨k, e⟩ := hd
  have hk : 2 ≤ k := by
    rcases Int.lt_trichotomy k 1 with c | c | c
    · have : m * k ≤ m * 0 := Int.mul_le_mul_of_nonneg_left (by omega) (by omega)
      omega
    · subst c
      omega
    · omega
  by_cases c : m ≤ s
  · exact ⟨m, h2, c, Int.le_refl _, ⟨k, e⟩⟩
  · refine ⟨k, hk, ?_, ?_, ⟨m, by rw [e, Int.mul_comm]⟩⟩
    · by_cases c2 : k ≤ s
      · exact c2
      · have : (s + 1) * (s + 1) ≤ m * k := Int.mul_le_mul (by omega) (by omega) (by omega) (by omega)
        omega
    · by_cases c2 : k ≤ m
      · exact c2
      · have c3 : k ≤ s := by
          by_cases c4 : k ≤ s
          · exact c4
          · have : (s + 1) * (s + 1) ≤ m * k := Int.mul_le_mul (by omega) (by omega) (by omega) (by omega)
            omega
        omega
/-- the trial over the odd ints: what is left at its end -/
theorem least_of_odd {n s : Int} (hn : 2 ≤ n) (h2 : ¬ (2 : Int) ∣ n) (hs0 : 0 ≤ s) (hs : n < (s + 1) * (s + 1)) (h : ∀ i : Nat, 3 + (i : Int) * 2 ≤ s → ¬ (3 + (i : Int) * 2) ∣ n) : Least n n := by
  refine ⟨hn, Int.dvd_refl n, fun m h1 hm hd => ?_⟩
  obtain ⟨d, d2, ds, _, dn⟩ := small_div hn h1 hm hd hs0 hs
  have odd : d % 2 = 1 := by
    have := Int.emod_two_eq d
    rcases this with e | e
    · exact absurd (Int.dvd_trans (Int.dvd_of_emod_eq_zero e) dn) h2
    · exact e
  have e : d = 3 + ((((d - 3) / 2).toNat : Nat) : Int) * 2 := by omega
  exact h ((d - 3) / 2).toNat (by omega) (e ▸ dn)
theorem least_at {n : Int} {i : Nat} (h2 : ¬ (2 : Int) ∣ n) (hd : (3 + (i : Int) * 2) ∣ n) (h : ∀ j : Nat, j < i → ¬ (3 + (j : Int) * 2) ∣ n) : Least n (3 + (i : Int) * 2) := by
  refine ⟨by omega, hd, fun m h1 hm hdv => ?_⟩
  have odd : m % 2 = 1 := by
    have := Int.emod_two_eq m
    rcases this with e | e
    · exact absurd (Int.dvd_trans (Int.dvd_of_emod_eq_zero e) hdv) h2
    · exact e
  have e : m = 3 + ((((m - 3) / 2).toNat : Nat) : Int) * 2 := by omega
  exact h ((m - 3) / 2).toNat (by omega) (e ▸ hdv)
theorem least_two {n : Int} (h : (2 : Int) ∣ n) : Least n 2 := ⟨by omega, h, fun m h1 h2 => by omega⟩
/-- every int from 2 on has a least divisor -/
theorem least_ex {n : Int} (hn : 2 ≤ n) : ∃ r, Least n r := by
  have key : ∀ (k : Nat) (r : Int), n - r ≤ k → 2 ≤ r → r ≤ n → (∀ m : Int, 2 ≤ m → m < r → ¬ m ∣ n) → ∃ r, Least n r := by
    intro k
    induction k with
    | zero =>
      intro r h1 h2 h3 h4
      have : r = n := by omega
      subst this
      exact ⟨r, h2, Int.dvd_refl r, h4⟩
    | succ k ih =>
      intro r h1 h2 h3 h4
      by_cases c : r ∣ n
      · exact ⟨r, h2, c, h4⟩
      · by_cases e : r = n
        · exact absurd (e ▸ Int.dvd_refl r) c
        · refine ih (r + 1) (by omega) (by omega) (by omega) fun m hm1 hm2 => ?_
          by_cases e2 : m = r
          · rw [e2]
            exact c
          · exact h4 m hm1 (by omega)
  exact key (n - 2).toNat 2 (by omega) (by omega) hn (fun m h1 h2 => by omega)
/-- a check of a prime by trial, for the kernel -/
def trial (n : Nat) : Nat → Nat → Bool
  | 0, _ => false
  | f + 1, k => if n < k * k then true else if n % k = 0 then false else trial n f (k + 1)
theorem trial_ok {n : Nat} (hn : 2 ≤ n) : ∀ (f k : Nat), 2 ≤ k → (∀ m : Nat, 2 ≤ m → m < k → ¬ m ∣ n) → trial n f k = true → Pr (n : Int) := by
  intro f
  induction f with
  | zero => intro k _ _ h; exact absurd h (by simp [trial])
  | succ f ih =>
    intro k hk hm h
    unfold trial at h
    by_cases c : n < k * k
    · refine ⟨by omega, fun m h1 h2 h3 => ?_⟩
      obtain ⟨d, d2, ds, _, dn⟩ := small_div (n := n) (s := (k : Int) - 1) (by omega) h1 h2 h3 (by omega) (by
        rw [Int.sub_add_cancel]
        exact_mod_cast c)
      refine hm d.toNat (by omega) (by omega) ?_
      have : ((d.toNat : Nat) : Int) ∣ (n : Int) := by rw [Int.toNat_of_nonneg (by omega)]; exact dn
      exact Int.natCast_dvd_natCast.mp this
    · rw [if_neg c] at h
      by_cases c2 : n % k = 0
      · rw [if_pos c2] at h
        exact absurd h (by simp)
      · rw [if_neg c2] at h
        refine ih (k + 1) (by omega) (fun m h1 h2 h3 => ?_) h
        by_cases e : m = k
        · subst e
          exact c2 (Nat.mod_eq_zero_of_dvd h3)
        · exact hm m h1 (by omega) h3
theorem pr_of_trial {n : Nat} (f : Nat) (h : (decide (2 ≤ n) && trial n f 2) = true) : Pr (n : Int) := by
  rw [Bool.and_eq_true] at h
  exact trial_ok (of_decide_eq_true h.1) f 2 (by omega) (fun m h1 h2 => by omega) h.2
theorem pr_10007 : Pr 10007 := pr_of_trial (n := 10007) 200 (by decide +kernel)
-- part fact_math
/-- a prime divides a factor -/
theorem pr_mul {q a b : Int} (hq : Pr q) (h : q ∣ a * b) : q ∣ a ∨ q ∣ b := by
  by_cases c : q ∣ a
  · exact .inl c
  · refine .inr ?_
    have hco : Nat.Coprime q.natAbs a.natAbs := by
      have g1 : Nat.gcd q.natAbs a.natAbs ∣ q.natAbs := Nat.gcd_dvd_left _ _
      have g2 : Nat.gcd q.natAbs a.natAbs ∣ a.natAbs := Nat.gcd_dvd_right _ _
      have hq2 := hq.1
      generalize hg : Nat.gcd q.natAbs a.natAbs = g at *
      have gi : (g : Int) ∣ q := Int.natAbs_dvd_natAbs.mp (by rw [Int.natAbs_natCast]; exact g1)
      have ga : (g : Int) ∣ a := Int.natAbs_dvd_natAbs.mp (by rw [Int.natAbs_natCast]; exact g2)
      have gpos : 0 < g := by
        rcases Nat.eq_zero_or_pos g with z | z
        · rw [z] at gi
          have := Int.zero_dvd.mp gi
          omega
        · exact z
      have gle : (g : Int) ≤ q := Int.le_of_dvd (by omega) gi
      by_cases g1' : g = 1
      · unfold Nat.Coprime
        rw [hg, g1']
      · by_cases g2' : (g : Int) = q
        · rw [g2'] at ga
          exact absurd ga c
        · exact absurd gi (hq.2 g (by omega) (by omega))
    have h2 : q.natAbs ∣ a.natAbs * b.natAbs := by
      rw [← Int.natAbs_mul]
      exact Int.natAbs_dvd_natAbs.mpr h
    exact Int.natAbs_dvd_natAbs.mp (Nat.Coprime.dvd_of_dvd_mul_left hco h2)
theorem pr_dvd_pr {p q : Int} (hp : Pr p) (hq : Pr q) (h : q ∣ p) : q = p := by
  have := Int.le_of_dvd (by have := hp.1; omega) h
  by_cases c : q = p
  · exact c
  · exact absurd h (hp.2 q hq.1 (by omega))
/-- l tells the primes that divide n, ascending -/
def PD (n : Int) (l : List Int) : Prop := l.Pairwise (· < ·) ∧ ∀ q, q ∈ l ↔ Pr q ∧ q ∣ n
theorem sorted_uniq : ∀ {l m : List Int}, l.Pairwise (· < ·) → m.Pairwise (· < ·) → (∀ q, q ∈ l ↔ q ∈ m) → l = m
  | [], [], _, _, _ => rfl
  | [], b :: m, _, _, h => absurd ((h b).mpr List.mem_cons_self) (by simp)
  | a :: l, [], _, _, h => absurd ((h a).mp List.mem_cons_self) (by simp)
  | a :: l, b :: m, hl, hm, h => by
    rw [List.pairwise_cons] at hl hm
    have hab : a = b := by
      rcases List.mem_cons.mp ((h a).mp List.mem_cons_self) with e | e
      · exact e
      · rcases List.mem_cons.mp ((h b).mpr List.mem_cons_self) with e2 | e2
        · exact e2.symm
        · have := hm.1 a e
          have := hl.1 b e2
          omega
    subst hab
    rw [sorted_uniq hl.2 hm.2 fun q => ?_]
    constructor
    · intro hq
      have := hl.1 q hq
      rcases List.mem_cons.mp ((h q).mp (List.mem_cons_of_mem _ hq)) with e | e
      · omega
      · exact e
    · intro hq
      have := hm.1 q hq
      rcases List.mem_cons.mp ((h q).mpr (List.mem_cons_of_mem _ hq)) with e | e
      · omega
      · exact e
theorem PD.uniq {n : Int} {l m : List Int} (h : PD n l) (h' : PD n m) : l = m := sorted_uniq h.1 h'.1 fun q => (h.2 q).trans (h'.2 q).symm
/-- what holds between two turns: fs found, r left of n; every prime of r is at least d, those found are less -/
structure Fac (n : Int) (fs : List Int) (r d : Int) : Prop where
  pos : 1 ≤ r
  dv : r ∣ n
  asc : fs.Pairwise (· < ·)
  low : ∀ f ∈ fs, f < d
  mem : ∀ f ∈ fs, Pr f ∧ f ∣ n
  all : ∀ q, Pr q → q ∣ n → q ∣ r ∨ q ∈ fs
  up : ∀ q, Pr q → q ∣ r → d ≤ q
  len : (2 : Int) ^ fs.length * r ≤ n
theorem fac0 {n : Int} (hn : 1 ≤ n) : Fac n [] n 2 := ⟨hn, Int.dvd_refl n, List.Pairwise.nil, (fun _ h => nomatch h), (fun _ h => nomatch h), (fun q _ h => .inl h), (fun q h _ => h.1), by show (2 : Int) ^ 0 * n ≤ n; omega⟩
/-- within the inner loop: r0 at its start, p taken out -/
structure Tak (r0 p r : Int) : Prop where
  pos : 1 ≤ r
  dv : r ∣ r0
  keep : ∀ q, Pr q → q ∣ r0 → q ∣ r ∨ q = p
  half : r = r0 ∨ 2 * r ≤ r0
theorem tak0 {r0 p : Int} (h : 1 ≤ r0) : Tak r0 p r0 := ⟨h, Int.dvd_refl _, fun q _ h => .inl h, .inl rfl⟩
theorem tak_step {r0 p r : Int} (hp : Pr p) (h : Tak r0 p r) (hd : p ∣ r) : Tak r0 p (r / p) ∧ r / p < r := by
  have hp2 := hp.1
  have hpos := h.pos
  obtain ⟨k, e⟩ := hd
  have ek : r / p = k := by rw [e, Int.mul_ediv_cancel_left _ (by omega)]
  rw [ek]
  have k1 : 1 ≤ k := by
    by_cases c : 1 ≤ k
    · exact c
    · have : p * k ≤ p * 0 := Int.mul_le_mul_of_nonneg_left (by omega) (by omega)
      omega
  have k2 : 2 * k ≤ r := by
    have : 2 * k ≤ p * k := Int.mul_le_mul_of_nonneg_right hp2 (by omega)
    omega
  refine ⟨⟨k1, Int.dvd_trans ⟨p, by rw [e, Int.mul_comm]⟩ h.dv, fun q hq hd => ?_, .inr ?_⟩, by omega⟩
  · rcases h.keep q hq hd with c | c
    · rw [e] at c
      rcases pr_mul hq c with c2 | c2
      · exact .inr (pr_dvd_pr hp hq c2)
      · exact .inl c2
    · exact .inr c
  · rcases h.half with c | c <;> omega
/-- behind the inner loop -/
theorem fac_step {n : Int} {fs : List Int} {r0 d p r : Int} (F : Fac n fs r0 d) (hp : Pr p) (hd : p ∣ r0) (T : Tak r0 p r) (hn : ¬ p ∣ r) (hmin : ∀ q, Pr q → q ∣ r0 → p ≤ q) : Fac n (fs ++ [p]) r (p + 1) ∧ r < r0 := by
  have hr : 2 * r ≤ r0 := T.half.resolve_left fun e => hn (e ▸ hd)
  have hdp : d ≤ p := F.up p hp hd
  refine ⟨⟨T.pos, Int.dvd_trans T.dv F.dv, ?_, ?_, ?_, ?_, ?_, ?_⟩, by have := T.pos; omega⟩
  · rw [List.pairwise_append]
    refine ⟨F.asc, List.pairwise_singleton _ _, fun a ha b hb => ?_⟩
    rw [List.mem_singleton.mp hb]
    have := F.low a ha
    omega
  · intro f hf
    rcases List.mem_append.mp hf with h | h
    · have := F.low f h
      omega
    · rw [List.mem_singleton.mp h]
      omega
  · intro f hf
    rcases List.mem_append.mp hf with h | h
    · exact F.mem f h
    · rw [List.mem_singleton.mp h]
      exact ⟨hp, Int.dvd_trans hd F.dv⟩
  · intro q hq h
    rcases F.all q hq h with c | c
    · rcases T.keep q hq c with c2 | c2
      · exact .inl c2
      · exact .inr (List.mem_append_right _ (by rw [c2]; exact List.mem_singleton.mpr rfl))
    · exact .inr (List.mem_append_left _ c)
  · intro q hq h
    have h1 := hmin q hq (Int.dvd_trans h T.dv)
    by_cases c : q = p
    · exact absurd (c ▸ h) hn
    · omega
  · rw [List.length_append]
    show (2 : Int) ^ (fs.length + 1) * r ≤ n
    rw [Int.pow_succ, Int.mul_assoc]
    have h1 : (2 : Int) ^ fs.length * (2 * r) ≤ 2 ^ fs.length * r0 := Int.mul_le_mul_of_nonneg_left hr (Int.pow_nonneg (by decide))
    have := F.len
    omega
theorem fac_end {n : Int} {fs : List Int} {d : Int} (F : Fac n fs 1 d) : PD n fs := by
  refine ⟨F.asc, fun q => ⟨F.mem q, fun ⟨h1, h2⟩ => (F.all q h1 h2).resolve_left fun c => ?_⟩⟩
  have := Int.le_of_dvd (by decide) c
  have := h1.1
  omega
theorem fac_len {n : Int} {fs : List Int} {r d : Int} (F : Fac n fs r d) (hn : n < 2 ^ 62) : fs.length < 62 := by
  by_cases c : fs.length < 62
  · exact c
  · have h1 : (2 : Int) ^ 62 ≤ 2 ^ fs.length := by
      have : (2 : Nat) ^ 62 ≤ 2 ^ fs.length := Nat.pow_le_pow_right (by decide) (by omega)
      have h2 := Int.ofNat_le.mpr this
      rw [Int.natCast_pow, Int.natCast_pow] at h2
      exact h2
    have h2 : (2 : Int) ^ fs.length * 1 ≤ 2 ^ fs.length * r := Int.mul_le_mul_of_nonneg_left F.pos (Int.pow_nonneg (by decide))
    have := F.len
    omega
theorem fac_up {n : Int} {fs : List Int} {r d : Int} (F : Fac n fs r d) (h : ¬ d ∣ r) : Fac n fs r (d + 1) := by
  refine ⟨F.pos, F.dv, F.asc, fun f hf => by have := F.low f hf; omega, F.mem, F.all, fun q h1 h2 => ?_, F.len⟩
  have := F.up q h1 h2
  by_cases c : q = d
  · exact absurd (c ▸ h2) h
  · omega
/-- d divides what is left: it is a prime -/
theorem fac_pr {n : Int} {fs : List Int} {r d : Int} (F : Fac n fs r d) (h2 : 2 ≤ d) (h : d ∣ r) : Pr d := by
  obtain ⟨q, hq⟩ := least_ex h2
  have h1 := F.up q hq.pr (Int.dvd_trans hq.dvd h)
  have := hq.le h2
  have e : q = d := by omega
  exact e ▸ hq.pr
/-- d * d above what is left: that is a prime -/
theorem fac_jump {n : Int} {fs : List Int} {r d : Int} (F : Fac n fs r d) (h2 : 2 ≤ d) (hr : 1 < r) (h : r < d * d) : Pr r ∧ ∀ q, Pr q → q ∣ r → r ≤ q := by
  have hp : Pr r := by
    refine ⟨by omega, fun m h1 h3 h4 => ?_⟩
    obtain ⟨e, e2, es, _, en⟩ := small_div (n := r) (s := d - 1) (by omega) h1 h3 h4 (by omega) (by rw [Int.sub_add_cancel]; exact h)
    obtain ⟨q, hq⟩ := least_ex e2
    have := F.up q hq.pr (Int.dvd_trans hq.dvd en)
    have := hq.le e2
    omega
  exact ⟨hp, fun q hq hd => by have := pr_dvd_pr hp hq hd; omega⟩
-- part trim
/-! rows without zeros at the end -/
def tsz (l : List Int) : Nat → Nat
  | 0 => 0
  | k + 1 => if l.getD k 0 = 0 then tsz l k else k + 1
def trim (l : List Int) : List Int := l.take (tsz l l.length)
/-- the last one is not 0 -/
def Trim (l : List Int) : Prop := ∀ k, l.length = k + 1 → l.getD k 0 ≠ 0
theorem tsz_le (l : List Int) : ∀ k, tsz l k ≤ k
  | 0 => Nat.le_refl _
  | k + 1 => by
    unfold tsz
    split
    · exact Nat.le_succ_of_le (tsz_le l k)
    · exact Nat.le_refl _
theorem tsz_zero (l : List Int) : ∀ k i, tsz l k ≤ i → i < k → l.getD i 0 = 0
  | 0, i, _, h => absurd h (Nat.not_lt_zero i)
  | k + 1, i, h1, h2 => by
    unfold tsz at h1
    split at h1
    · rename_i c
      by_cases e : i = k
      · rw [e]
        exact c
      · exact tsz_zero l k i h1 (by omega)
    · omega
theorem tsz_last (l : List Int) : ∀ k n, tsz l k = n + 1 → l.getD n 0 ≠ 0
  | 0, n, h => by cases h
  | k + 1, n, h => by
    unfold tsz at h
    split at h
    · exact tsz_last l k n h
    · rename_i c
      cases h
      exact c
theorem getD_of {l : List Int} {i : Nat} {z : Int} (h : l[i]? = some z) : l.getD i 0 = z := by
  rw [List.getD_eq_getElem?_getD, h] <;> rfl
theorem getD_ge {l : List Int} {i : Nat} (h : l.length ≤ i) : l.getD i 0 = 0 := by
  rw [List.getD_eq_getElem?_getD, List.getElem?_eq_none h] <;> rfl
theorem getD_at {l : List Int} {i : Nat} (h : i < l.length) : l[i]? = some (l.getD i 0) := by
  rw [List.getD_eq_getElem?_getD, List.getElem?_eq_getElem h] <;> rfl
theorem getD_take (l : List Int) (n i : Nat) : (l.take n).getD i 0 = if i < n then l.getD i 0 else 0 := by
  rw [List.getD_eq_getElem?_getD, List.getElem?_take]
  split
  · rw [List.getD_eq_getElem?_getD]
  · rfl
theorem getD_map {f : Int → Int} (h0 : f 0 = 0) (l : List Int) (i : Nat) : (l.map f).getD i 0 = f (l.getD i 0) := by
  rw [List.getD_eq_getElem?_getD, List.getD_eq_getElem?_getD, List.getElem?_map]
  cases l[i]? with
  | none => exact h0.symm
  | some z => rfl
theorem getD_app0 (l : List Int) (k i : Nat) : (l ++ List.replicate k 0).getD i 0 = l.getD i 0 := by
  rw [List.getD_eq_getElem?_getD, List.getD_eq_getElem?_getD]
  by_cases c : i < l.length
  · rw [List.getElem?_append_left c]
  · rw [List.getElem?_append_right (by omega), List.getElem?_eq_none (show l.length ≤ i by omega), List.getElem?_replicate]
    split <;> rfl
theorem trim_len (l : List Int) : (trim l).length = tsz l l.length := by
  unfold trim
  rw [List.length_take]
  have := tsz_le l l.length
  omega
theorem trim_few (l : List Int) : (trim l).length ≤ l.length := by
  rw [trim_len]
  exact tsz_le l l.length
theorem trim_mem {l : List Int} {z : Int} (h : z ∈ trim l) : z ∈ l := List.mem_of_mem_take h
theorem trim_get (l : List Int) (i : Nat) : (trim l).getD i 0 = l.getD i 0 := by
  unfold trim
  rw [getD_take]
  split
  · rfl
  · rename_i c
    by_cases d : i < l.length
    · exact (tsz_zero l l.length i (by omega) d).symm
    · exact (getD_ge (by omega)).symm
theorem trim_trim (l : List Int) : Trim (trim l) := fun k h => by
  rw [trim_len] at h
  rw [trim_get]
  exact tsz_last l l.length k h
theorem Trim.ext {a b : List Int} (ha : Trim a) (hb : Trim b) (h : ∀ i, a.getD i 0 = b.getD i 0) : a = b := by
  have hl : a.length = b.length := by
    rcases Nat.lt_trichotomy a.length b.length with c | c | c
    · obtain ⟨k, hk⟩ : ∃ k, b.length = k + 1 := ⟨b.length - 1, by omega⟩
      have := hb k hk
      rw [← h k, getD_ge (by omega)] at this
      exact absurd rfl this
    · exact c
    · obtain ⟨k, hk⟩ : ∃ k, a.length = k + 1 := ⟨a.length - 1, by omega⟩
      have := ha k hk
      rw [h k, getD_ge (by omega)] at this
      exact absurd rfl this
  refine List.ext_getElem? fun i => ?_
  by_cases c : i < a.length
  · rw [getD_at c, getD_at (by omega), h i]
  · rw [List.getElem?_eq_none (by omega), List.getElem?_eq_none (by omega)]
theorem trim_ext {a b : List Int} (h : ∀ i, a.getD i 0 = b.getD i 0) : trim a = trim b :=
  (trim_trim a).ext (trim_trim b) fun i => by rw [trim_get, trim_get, h i]
theorem trim_of {l : List Int} (h : Trim l) : trim l = l := (trim_trim l).ext h fun i => trim_get l i
theorem trim_nil : trim [] = [] := rfl
theorem Trim.nil : Trim [] := fun k h => by cases h
theorem Trim.map {l : List Int} {f : Int → Int} (h : Trim l) (h0 : f 0 = 0) (hf : ∀ z, f z = 0 → z = 0) : Trim (l.map f) := fun k hk => by
  rw [List.length_map] at hk
  rw [getD_map h0]
  exact fun e => h k hk (hf _ e)
/-- sums and differences by places -/
theorem getD_zip {f : Int → Int → Int} (a b : List Int) (hl : a.length = b.length) (h0 : f 0 0 = 0) (i : Nat) : (List.zipWith f a b).getD i 0 = f (a.getD i 0) (b.getD i 0) := by
  rw [List.getD_eq_getElem?_getD, List.getElem?_zipWith]
  by_cases c : i < a.length
  · rw [getD_at c, getD_at (show i < b.length by omega)] <;> rfl
  · rw [List.getElem?_eq_none (by omega), List.getElem?_eq_none (show b.length ≤ i by omega), getD_ge (by omega), getD_ge (show b.length ≤ i by omega), h0] <;> rfl
def rngN (n : Nat) (f : Nat → Int) : List Int := (List.range n).map f
theorem rngN_len (n : Nat) (f : Nat → Int) : (rngN n f).length = n := by
  unfold rngN
  rw [List.length_map, List.length_range]
theorem rngN_at {n : Nat} {f : Nat → Int} {i : Nat} (h : i < n) : (rngN n f)[i]? = some (f i) := by
  unfold rngN
  rw [List.getElem?_map, List.getElem?_range h] <;> rfl
theorem rngN_get (n : Nat) (f : Nat → Int) (i : Nat) : (rngN n f).getD i 0 = if i < n then f i else 0 := by
  split
  · rename_i c
    exact getD_of (rngN_at c)
  · rename_i c
    exact getD_ge (by rw [rngN_len]; omega)
/-- the polynomial's rows: sum (sign s), product -/
def pplus (s : Int) (a b : List Int) : List Int := trim (rngN (max a.length b.length) fun i => a.getD i 0 + s * b.getD i 0)
theorem pplus_get (s : Int) (a b : List Int) (i : Nat) : (pplus s a b).getD i 0 = a.getD i 0 + s * b.getD i 0 := by
  unfold pplus
  rw [trim_get, rngN_get]
  split
  · rfl
  · rw [getD_ge (show a.length ≤ i by omega), getD_ge (show b.length ≤ i by omega)]
    simp
/-- the sum of f below n -/
def sumN (f : Nat → Int) : Nat → Int
  | 0 => 0
  | n + 1 => sumN f n + f n
theorem sumN_congr {f g : Nat → Int} : ∀ n, (∀ i, i < n → f i = g i) → sumN f n = sumN g n
  | 0, _ => rfl
  | n + 1, h => by
    unfold sumN
    rw [sumN_congr n fun i hi => h i (by omega), h n (by omega)]
theorem sumN_zero (n : Nat) : sumN (fun _ => 0) n = 0 := by
  induction n with
  | zero => rfl
  | succ n ih => unfold sumN; rw [ih]; rfl
theorem sumN_more {f : Nat → Int} {n : Nat} : ∀ m, (∀ i, n ≤ i → f i = 0) → n ≤ m → sumN f m = sumN f n
  | 0, _, h => by rw [show n = 0 by omega]
  | m + 1, h0, h => by
    by_cases e : n = m + 1
    · rw [e]
    · show sumN f m + f m = sumN f n
      rw [sumN_more m h0 (by omega), h0 m (by omega), Int.add_zero]
/-- the coefficient at k of the product -/
def cnv (a b : List Int) (k : Nat) : Int := sumN (fun i => a.getD i 0 * (if i ≤ k then b.getD (k - i) 0 else 0)) a.length
def pmul (a b : List Int) : List Int := trim (rngN (a.length + b.length) (cnv a b))
theorem cnv_far {a b : List Int} {k : Nat} (h : a.length + b.length ≤ k + 1) : cnv a b k = 0 := by
  unfold cnv
  rw [sumN_congr (g := fun _ => 0) _ fun i hi => ?_, sumN_zero]
  split
  · rw [getD_ge (show b.length ≤ k - i by omega), Int.mul_zero]
  · rw [Int.mul_zero]
theorem pmul_get (a b : List Int) (k : Nat) : (pmul a b).getD k 0 = cnv a b k := by
  unfold pmul
  rw [trim_get, rngN_get]
  split
  · rfl
  · exact (cnv_far (by omega)).symm
/-- the value at x -/
def pev : List Int → Int → Int
  | [], _ => 0
  | c :: l, x => c + x * pev l x
theorem pev_trim (l : List Int) (x : Int) : pev (trim l) x = pev l x := by
  unfold trim
  have key : ∀ (l : List Int) (n : Nat), (∀ i, n ≤ i → l.getD i 0 = 0) → pev (l.take n) x = pev l x := fun l => by
    induction l with
    | nil => intro n _; rw [List.take_nil]
    | cons c l ih =>
      intro n h
      cases n with
      | zero =>
        have hc : c = 0 := h 0 (Nat.le_refl _)
        have hl := ih 0 fun i _ => h (i + 1) (Nat.zero_le _)
        rw [List.take_zero] at hl ⊢
        show 0 = c + x * pev l x
        rw [← hl, hc]
        show (0 : Int) = 0 + x * 0
        rw [Int.mul_zero] <;> rfl
      | succ n =>
        rw [List.take_succ_cons]
        show c + x * pev (l.take n) x = c + x * pev l x
        rw [ih n fun i hi => h (i + 1) (by omega)]
  refine key l _ fun i hi => ?_
  by_cases c : i < l.length
  · exact tsz_zero l _ i hi c
  · exact getD_ge (by omega)
theorem pev_drop {l : List Int} {i : Nat} {c : Int} (h : l[i]? = some c) (x : Int) : pev (l.drop i) x = c + x * pev (l.drop (i + 1)) x := by
  have hi := (List.getElem?_eq_some_iff.mp h).1
  rw [List.drop_eq_getElem_cons hi]
  rw [List.getElem?_eq_getElem hi] at h
  cases h
  rfl
/-- the value, term by term -/
theorem pev_take {l : List Int} {i : Nat} {c : Int} (h : l[i]? = some c) (x : Int) : pev (l.take (i + 1)) x = pev (l.take i) x + c * x ^ i := by
  induction l generalizing i with
  | nil => cases h
  | cons d l ih =>
    cases i with
    | zero =>
      cases h
      rw [List.take_succ_cons, List.take_zero, List.take_zero]
      show c + x * 0 = 0 + c * x ^ 0
      simp
    | succ i =>
      have := ih (i := i) h
      rw [List.take_succ_cons, List.take_succ_cons]
      show d + x * pev (l.take (i + 1)) x = d + x * pev (l.take i) x + c * x ^ (i + 1)
      rw [this, Int.mul_add, Int.pow_succ]
      have e : x * (c * x ^ i) = c * (x ^ i * x) := by rw [Int.mul_left_comm, Int.mul_comm x]
      rw [e]
      omega
-- part manym
/-! polynomials in many unknowns, as lists of terms -/
def leN (a b : Str) : Prop := a.cps.toList ≤ b.cps.toList
instance (a b : Str) : Decidable (leN a b) := inferInstanceAs (Decidable (a.cps.toList ≤ b.cps.toList))
theorem leN_trans {a b c : Str} (h1 : leN a b) (h2 : leN b c) : leN a c := List.le_trans h1 h2
theorem leN_total (a b : Str) : leN a b ∨ leN b a := List.le_total _ _
theorem leN_antisymm {a b : Str} (h1 : leN a b) (h2 : leN b a) : a = b := Str.ext' (Array.toList_inj.mp (List.le_antisymm h1 h2))
def srt (l : List Str) : List Str := l.mergeSort fun a b => decide (leN a b)
theorem srt_perm (l : List Str) : (srt l).Perm l := List.mergeSort_perm _ _
theorem srt_sorted (l : List Str) : (srt l).Pairwise leN := by
  have := List.pairwise_mergeSort (le := fun a b => decide (leN a b)) (fun a b c h1 h2 => decide_eq_true (leN_trans (of_decide_eq_true h1) (of_decide_eq_true h2))) (fun a b => by
    rcases leN_total a b with h | h
    · rw [decide_eq_true h]; rfl
    · rw [decide_eq_true h, Bool.or_true]) l
  exact this.imp fun h => of_decide_eq_true h
theorem srt_uniq {l m : List Str} (p : l.Perm m) (s : l.Pairwise leN) : l = srt m :=
  List.Perm.eq_of_pairwise (fun _ _ _ _ => leN_antisymm) s (srt_sorted m) (p.trans (srt_perm m).symm)
theorem srt_congr {l m : List Str} (p : l.Perm m) : srt l = srt m := srt_uniq ((srt_perm l).trans p) (srt_sorted l)
theorem srt_id {l : List Str} (s : l.Pairwise leN) : srt l = l := (srt_uniq (List.Perm.refl l) s).symm
theorem srt_len (l : List Str) : (srt l).length = l.length := (srt_perm l).length_eq
theorem srt_nil : srt [] = [] := List.length_eq_zero_iff.mp (srt_len [])
abbrev FS := List (List Str × Int)
/-- the coefficient at a row of names -/
def cf : FS → List Str → Int
  | [], _ => 0
  | e :: L, m => (if srt e.1 = m then e.2 else 0) + cf L m
def sumG (g : List Str → Int) : FS → Int
  | [] => 0
  | e :: L => e.2 * g (srt e.1) + sumG g L
theorem cf_append (A B : FS) (m : List Str) : cf (A ++ B) m = cf A m + cf B m := by
  induction A with
  | nil => simp [cf]
  | cons e A ih => simp [cf, ih]; omega
theorem sumG_append (g : List Str → Int) (A B : FS) : sumG g (A ++ B) = sumG g A + sumG g B := by
  induction A with
  | nil => simp [sumG]
  | cons e A ih => simp [sumG, ih]; omega
/-- the terms at m, and the others -/
theorem sumG_split (g : List Str → Int) (m : List Str) (A : FS) : sumG g A = cf A m * g m + sumG g (A.filter fun e => !decide (srt e.1 = m)) := by
  induction A with
  | nil => simp [sumG, cf]
  | cons e A ih =>
    by_cases c : srt e.1 = m
    · simp only [sumG, cf, c, if_true, List.filter_cons, decide_true, Bool.not_true, Bool.false_eq_true, if_false]
      rw [ih, Int.add_mul]
      omega
    · simp only [sumG, cf, c, if_false, List.filter_cons, decide_false, Bool.not_false, if_true]
      rw [ih, Int.zero_add]
      omega
theorem cf_filter (m m' : List Str) (A : FS) : cf (A.filter fun e => !decide (srt e.1 = m)) m' = if m' = m then 0 else cf A m' := by
  induction A with
  | nil => simp [cf]
  | cons e A ih =>
    by_cases c : srt e.1 = m
    · simp only [List.filter_cons, c, decide_true, Bool.not_true, Bool.false_eq_true, if_false, cf]
      rw [ih]
      by_cases d : m' = m
      · simp [d]
      · rw [if_neg d, if_neg d, if_neg (fun z => d z.symm), Int.zero_add]
    · simp only [List.filter_cons, c, decide_false, Bool.not_false, if_true, cf]
      rw [ih]
      by_cases d : m' = m
      · rw [if_pos d, if_pos d, if_neg (fun z => c (z.trans d))]
        rfl
      · rw [if_neg d, if_neg d]
theorem sumG_zero (g : List Str → Int) : ∀ (n : Nat) (A : FS), A.length ≤ n → (∀ m, cf A m = 0) → sumG g A = 0
  | _, [], _, _ => rfl
  | 0, _ :: _, h, _ => absurd h (Nat.not_succ_le_zero _)
  | n + 1, e :: A, h, z => by
    rw [sumG_split g (srt e.1), z, Int.zero_mul, Int.zero_add]
    refine sumG_zero g n _ ?_ fun m => ?_
    · rw [List.filter_cons]
      simp only [decide_true, Bool.not_true, Bool.false_eq_true, if_false]
      exact Nat.le_trans (List.length_filter_le _ _) (Nat.le_of_succ_le_succ h)
    · rw [cf_filter]
      by_cases d : m = srt e.1
      · rw [if_pos d]
      · rw [if_neg d, z]
def negS (A : FS) : FS := A.map fun e => (e.1, -e.2)
theorem cf_neg (A : FS) (m : List Str) : cf (negS A) m = -cf A m := by
  induction A with
  | nil => rfl
  | cons e A ih =>
    show (if srt e.1 = m then -e.2 else 0) + cf (negS A) m = _
    rw [ih]
    simp only [cf]
    by_cases c : srt e.1 = m <;> simp [c] <;> omega
theorem sumG_neg (g : List Str → Int) (A : FS) : sumG g (negS A) = -sumG g A := by
  induction A with
  | nil => rfl
  | cons e A ih =>
    show -e.2 * g (srt e.1) + sumG g (negS A) = _
    rw [ih]
    simp only [sumG]
    rw [Int.neg_mul]
    omega
/-- sums over the terms depend on the coefficients alone -/
theorem sumG_congr (g : List Str → Int) {A B : FS} (h : ∀ m, cf A m = cf B m) : sumG g A = sumG g B := by
  have z := sumG_zero g _ (A ++ negS B) (Nat.le_refl _) fun m => by rw [cf_append, cf_neg, h]; omega
  rw [sumG_append, sumG_neg] at z
  omega
def mulE (e : List Str × Int) (B : FS) : FS := B.map fun f => (srt (e.1 ++ f.1), e.2 * f.2)
def mulS (A B : FS) : FS := A.flatMap fun e => mulE e B
theorem mulS_cons (e : List Str × Int) (A B : FS) : mulS (e :: A) B = mulE e B ++ mulS A B := rfl
theorem mulS_append (A B C : FS) : mulS (A ++ B) C = mulS A C ++ mulS B C := List.flatMap_append
theorem srt_app (a b : List Str) : srt (srt a ++ b) = srt (a ++ b) := srt_congr ((srt_perm a).append_right b)
theorem srt_app2 (a b : List Str) : srt (a ++ srt b) = srt (a ++ b) := srt_congr ((srt_perm b).append_left a)
theorem srt_comm (a b : List Str) : srt (a ++ b) = srt (b ++ a) := srt_congr List.perm_append_comm
theorem srt_srt (a : List Str) : srt (srt a) = srt a := srt_congr (srt_perm a)
/-- a term's product, by the coefficients of the other side -/
theorem cf_mulE (e : List Str × Int) (B : FS) (m : List Str) : cf (mulE e B) m = e.2 * sumG (fun k => if srt (e.1 ++ k) = m then 1 else 0) B := by
  induction B with
  | nil => simp [mulE, cf, sumG]
  | cons f B ih =>
    show (if srt (srt (e.1 ++ f.1)) = m then e.2 * f.2 else 0) + cf (mulE e B) m = _
    rw [ih, srt_srt]
    simp only [sumG]
    rw [srt_app2, Int.mul_add]
    by_cases c : srt (e.1 ++ f.1) = m <;> simp [c]
theorem sumG_mulE (g : List Str → Int) (e : List Str × Int) (B : FS) : sumG g (mulE e B) = e.2 * sumG (fun k => g (srt (e.1 ++ k))) B := by
  induction B with
  | nil => simp [mulE, sumG]
  | cons f B ih =>
    show e.2 * f.2 * g (srt (srt (e.1 ++ f.1))) + sumG g (mulE e B) = _
    rw [ih, srt_srt]
    simp only [sumG]
    rw [srt_app2, Int.mul_add, Int.mul_assoc]
theorem sumG_mulS (g : List Str → Int) (A B : FS) : sumG g (mulS A B) = sumG (fun k => sumG (fun k' => g (srt (k ++ k'))) B) A := by
  induction A with
  | nil => rfl
  | cons e A ih =>
    rw [mulS_cons, sumG_append, ih, sumG_mulE]
    simp only [sumG]
    congr 2
    congr 1
    funext k
    rw [srt_app]
theorem cf_sumG (A : FS) (m : List Str) : cf A m = sumG (fun k => if k = m then 1 else 0) A := by
  induction A with
  | nil => rfl
  | cons e A ih =>
    simp only [cf, sumG]
    rw [ih]
    by_cases c : srt e.1 = m <;> simp [c]
theorem cf_mulS (A B : FS) (m : List Str) : cf (mulS A B) m = sumG (fun k => sumG (fun k' => if srt (k ++ k') = m then 1 else 0) B) A := by
  rw [cf_sumG, sumG_mulS]
theorem mulS_congr {A A' B B' : FS} (ha : ∀ m, cf A m = cf A' m) (hb : ∀ m, cf B m = cf B' m) (m : List Str) : cf (mulS A B) m = cf (mulS A' B') m := by
  rw [cf_mulS, cf_mulS, sumG_congr _ ha]
  congr 1
  funext k
  exact sumG_congr _ hb
theorem sumG_add (f g : List Str → Int) (A : FS) : sumG (fun k => f k + g k) A = sumG f A + sumG g A := by
  induction A with
  | nil => rfl
  | cons e A ih =>
    simp only [sumG]
    rw [ih, Int.mul_add]
    omega
theorem sumG_smul (c : Int) (f : List Str → Int) (A : FS) : sumG (fun k => c * f k) A = c * sumG f A := by
  induction A with
  | nil => simp [sumG]
  | cons e A ih =>
    simp only [sumG]
    rw [ih, Int.mul_add]
    congr 1
    rw [← Int.mul_assoc, ← Int.mul_assoc, Int.mul_comm e.2 c]
theorem sumG_const0 (A : FS) : sumG (fun _ => 0) A = 0 := by
  induction A with
  | nil => rfl
  | cons e A ih => simp [sumG, ih]
theorem sumG_swap (h : List Str → List Str → Int) (A B : FS) : sumG (fun k => sumG (fun k' => h k k') B) A = sumG (fun k' => sumG (fun k => h k k') A) B := by
  induction A with
  | nil => exact (sumG_const0 B).symm
  | cons e A ih =>
    simp only [sumG]
    rw [sumG_add, sumG_smul, ih]
theorem mulS_comm (A B : FS) (m : List Str) : cf (mulS A B) m = cf (mulS B A) m := by
  rw [cf_mulS, cf_mulS, sumG_swap]
  congr 1
  funext k
  congr 1
  funext k'
  rw [srt_comm]
theorem mulS_assoc (A B C : FS) (m : List Str) : cf (mulS (mulS A B) C) m = cf (mulS A (mulS B C)) m := by
  rw [cf_mulS, cf_mulS, sumG_mulS]
  congr 1
  funext k
  rw [sumG_mulS]
  congr 1
  funext k'
  congr 1
  funext k''
  rw [srt_app, srt_app2, List.append_assoc]
theorem mulS_addr (A B C : FS) (m : List Str) : cf (mulS A (B ++ C)) m = cf (mulS A B) m + cf (mulS A C) m := by
  rw [mulS_comm, mulS_append, cf_append, mulS_comm B, mulS_comm C]
theorem sumG_sorted (f g : List Str → Int) (A : FS) (h : ∀ k, k.Pairwise leN → f k = g k) : sumG f A = sumG g A := by
  induction A with
  | nil => rfl
  | cons e A ih =>
    simp only [sumG]
    rw [ih, h _ (srt_sorted _)]
def oneS : FS := [([], 1)]
theorem mulS_one (A : FS) (m : List Str) : cf (mulS A oneS) m = cf A m := by
  rw [mulS_comm]
  show cf (mulE ([], 1) A ++ []) m = _
  rw [List.append_nil, cf_mulE, Int.one_mul, cf_sumG]
  refine sumG_sorted _ _ A fun k s => ?_
  rw [List.nil_append, srt_id s]
/-- the ring of polynomials -/
def FSeq : Setoid FS := ⟨fun A B => ∀ m, cf A m = cf B m, fun _ _ => rfl, fun h m => (h m).symm, fun h k m => (h m).trans (k m)⟩
def Pol : Type := Quotient FSeq
def pol (A : FS) : Pol := Quotient.mk FSeq A
theorem pol_eq {A B : FS} : pol A = pol B ↔ ∀ m, cf A m = cf B m := ⟨fun h => Quotient.exact (s := FSeq) h, fun h => Quotient.sound (s := FSeq) h⟩
theorem Pol.ind {P : Pol → Prop} (h : ∀ A, P (pol A)) (a : Pol) : P a := Quotient.ind h a
theorem Pol.ind2 {P : Pol → Pol → Prop} (h : ∀ A B, P (pol A) (pol B)) (a b : Pol) : P a b := Pol.ind (P := fun a => P a b) (fun A => Pol.ind (P := fun b => P (pol A) b) (fun B => h A B) b) a
namespace Pol
def add : Pol → Pol → Pol := Quotient.lift₂ (fun A B => pol (A ++ B)) fun A B A' B' h k => pol_eq.mpr fun m => by rw [cf_append, cf_append, h m, k m]
def mul : Pol → Pol → Pol := Quotient.lift₂ (fun A B => pol (mulS A B)) fun A B A' B' h k => pol_eq.mpr (mulS_congr h k)
def neg : Pol → Pol := Quotient.lift (fun A => pol (negS A)) fun A A' h => pol_eq.mpr fun m => by rw [cf_neg, cf_neg, h m]
def num (n : Int) : Pol := pol [([], n)]
instance : Add Pol := ⟨add⟩
instance : Mul Pol := ⟨mul⟩
instance : Neg Pol := ⟨neg⟩
instance : Sub Pol := ⟨fun a b => a + -b⟩
instance : IntCast Pol := ⟨num⟩
instance : NatCast Pol := ⟨fun n => num n⟩
instance (n : Nat) : OfNat Pol n := ⟨num n⟩
instance : SMul Nat Pol := ⟨fun n a => num n * a⟩
instance : SMul Int Pol := ⟨fun n a => num n * a⟩
def powN (a : Pol) : Nat → Pol
  | 0 => num 1
  | n + 1 => powN a n * a
instance : HPow Pol Nat Pol := ⟨powN⟩
theorem add_mk (A B : FS) : pol A + pol B = pol (A ++ B) := rfl
theorem mul_mk (A B : FS) : pol A * pol B = pol (mulS A B) := rfl
theorem neg_mk (A : FS) : -pol A = pol (negS A) := rfl
theorem num_add (a b : Int) : num (a + b) = num a + num b := pol_eq.mpr fun m => by
  show cf [([], a + b)] m = cf ([([], a)] ++ [([], b)]) m
  simp only [List.cons_append, List.nil_append, cf]
  by_cases c : srt [] = m <;> simp [c]
theorem num_neg (a : Int) : num (-a) = -num a := rfl
instance : Lean.Grind.CommRing Pol where
  add_zero a := Pol.ind (P := fun a => a + 0 = a) (fun A => pol_eq.mpr fun m => by
    show cf (A ++ [([], 0)]) m = cf A m
    rw [cf_append]
    simp [cf]) a
  add_comm a b := Pol.ind2 (P := fun a b => a + b = b + a) (fun A B => pol_eq.mpr fun m => by rw [cf_append, cf_append]; omega) a b
  add_assoc a b c := by
    revert a b c
    refine fun a => Pol.ind (P := fun a => ∀ b c, a + b + c = a + (b + c)) (fun A => ?_) a
    refine fun b => Pol.ind (P := fun b => ∀ c, pol A + b + c = pol A + (b + c)) (fun B => ?_) b
    exact fun c => Pol.ind (P := fun c => pol A + pol B + c = pol A + (pol B + c)) (fun C => pol_eq.mpr fun m => by simp only [cf_append]; omega) c
  mul_assoc a b c := by
    revert a b c
    refine fun a => Pol.ind (P := fun a => ∀ b c, a * b * c = a * (b * c)) (fun A => ?_) a
    refine fun b => Pol.ind (P := fun b => ∀ c, pol A * b * c = pol A * (b * c)) (fun B => ?_) b
    exact fun c => Pol.ind (P := fun c => pol A * pol B * c = pol A * (pol B * c)) (fun C => pol_eq.mpr fun m => mulS_assoc A B C m) c
  mul_comm a b := Pol.ind2 (P := fun a b => a * b = b * a) (fun A B => pol_eq.mpr fun m => mulS_comm A B m) a b
  mul_one a := Pol.ind (P := fun a => a * 1 = a) (fun A => pol_eq.mpr fun m => mulS_one A m) a
  one_mul a := Pol.ind (P := fun a => 1 * a = a) (fun A => pol_eq.mpr fun m => by
    show cf (mulS oneS A) m = cf A m
    rw [mulS_comm]
    exact mulS_one A m) a
  left_distrib a b c := by
    revert a b c
    refine fun a => Pol.ind (P := fun a => ∀ b c, a * (b + c) = a * b + a * c) (fun A => ?_) a
    refine fun b => Pol.ind (P := fun b => ∀ c, pol A * (b + c) = pol A * b + pol A * c) (fun B => ?_) b
    exact fun c => Pol.ind (P := fun c => pol A * (pol B + c) = pol A * pol B + pol A * c) (fun C => pol_eq.mpr fun m => by rw [cf_append]; exact mulS_addr A B C m) c
  right_distrib a b c := by
    revert a b c
    refine fun a => Pol.ind (P := fun a => ∀ b c, (a + b) * c = a * c + b * c) (fun A => ?_) a
    refine fun b => Pol.ind (P := fun b => ∀ c, (pol A + b) * c = pol A * c + b * c) (fun B => ?_) b
    exact fun c => Pol.ind (P := fun c => (pol A + pol B) * c = pol A * c + pol B * c) (fun C => congrArg pol (mulS_append A B C)) c
  zero_mul a := Pol.ind (P := fun a => 0 * a = 0) (fun A => pol_eq.mpr fun m => by
    show cf (mulE ([], 0) A ++ []) m = cf [([], 0)] m
    rw [List.append_nil, cf_mulE, Int.zero_mul]
    simp [cf]) a
  mul_zero a := Pol.ind (P := fun a => a * 0 = 0) (fun A => pol_eq.mpr fun m => by
    show cf (mulS A [([], 0)]) m = cf [([], 0)] m
    rw [mulS_comm]
    show cf (mulE ([], 0) A ++ []) m = cf [([], 0)] m
    rw [List.append_nil, cf_mulE, Int.zero_mul]
    simp [cf]) a
  pow_zero a := rfl
  pow_succ a n := rfl
  ofNat_succ n := num_add n 1
  neg_add_cancel a := Pol.ind (P := fun a => -a + a = 0) (fun A => pol_eq.mpr fun m => by
    show cf (negS A ++ A) m = cf [([], 0)] m
    rw [cf_append, cf_neg]
    simp [cf]
    omega) a
  sub_eq_add_neg a b := rfl
  neg_zsmul i a := Pol.ind (P := fun a => -i • a = -(i • a)) (fun A => pol_eq.mpr fun m => by
    show cf (mulE ([], -i) A ++ []) m = cf (negS (mulE ([], i) A ++ [])) m
    rw [List.append_nil, List.append_nil, cf_neg, cf_mulE, cf_mulE, Int.neg_mul]) a
end Pol
theorem pol_ring (a b c d : Pol) : (a + b) * (c - d) = a * c - d * a + b * c - d * b := by grind
/-- values -/
def prodV (v : Str → Int) : List Str → Int
  | [] => 1
  | x :: l => v x * prodV v l
theorem prodV_append (v : Str → Int) (a b : List Str) : prodV v (a ++ b) = prodV v a * prodV v b := by
  induction a with
  | nil => simp [prodV]
  | cons x a ih => simp only [List.cons_append, prodV, ih, Int.mul_assoc]
theorem prodV_perm (v : Str → Int) {a b : List Str} (h : a.Perm b) : prodV v a = prodV v b := by
  induction h with
  | nil => rfl
  | cons x _ ih => simp only [prodV, ih]
  | swap x y l => simp only [prodV, ← Int.mul_assoc, Int.mul_comm (v x)]
  | trans _ _ h1 h2 => exact h1.trans h2
theorem prodV_srt (v : Str → Int) (a : List Str) : prodV v (srt a) = prodV v a := prodV_perm v (srt_perm a)
def evS (v : Str → Int) (A : FS) : Int := sumG (prodV v) A
theorem evS_mul (v : Str → Int) (A B : FS) : evS v (mulS A B) = evS v A * evS v B := by
  unfold evS
  rw [sumG_mulS, Int.mul_comm, ← sumG_smul]
  congr 1
  funext k
  rw [Int.mul_comm, ← sumG_smul]
  congr 1
  funext k'
  rw [prodV_srt, prodV_append]
def evP (v : Str → Int) : Pol → Int := Quotient.lift (evS v) fun _ _ h => sumG_congr _ h
theorem evP_add (v : Str → Int) (a b : Pol) : evP v (a + b) = evP v a + evP v b := Pol.ind2 (P := fun a b => evP v (a + b) = evP v a + evP v b) (fun A B => sumG_append _ A B) a b
theorem evP_mul (v : Str → Int) (a b : Pol) : evP v (a * b) = evP v a * evP v b := Pol.ind2 (P := fun a b => evP v (a * b) = evP v a * evP v b) (fun A B => evS_mul v A B) a b
theorem evP_neg (v : Str → Int) (a : Pol) : evP v (-a) = -evP v a := Pol.ind (P := fun a => evP v (-a) = -evP v a) (fun A => sumG_neg _ A) a
theorem evP_sub (v : Str → Int) (a b : Pol) : evP v (a - b) = evP v a - evP v b := by
  show evP v (a + -b) = _
  rw [evP_add, evP_neg]
  rfl
theorem evP_num (v : Str → Int) (n : Int) : evP v (Pol.num n) = n := by
  show n * prodV v (srt []) + 0 = n
  rw [srt_nil]
  simp [prodV]
-- part digs
/-! digits in blocks of 18 -/
theorem digits_block (q : Nat) (hq : 0 < q) : ∀ (k r : Nat), 1 ≤ k → r < 10 ^ k → Nat.toDigits 10 (q * 10 ^ k + r) = Nat.toDigits 10 q ++ (List.replicate (k - (Nat.toDigits 10 r).length) '0' ++ Nat.toDigits 10 r)
  | 0, _, h, _ => absurd h (by decide)
  | 1, r, _, h => by
    have h : r < 10 := h
    have e := Nat.toDigits_append_toDigits (b := 10) (by decide) hq h
    rw [Nat.pow_one, Nat.mul_comm q 10, ← e, Nat.toDigits_of_lt_base h]
    rfl
  | k + 2, r, _, h => by
    have hr : r / 10 < 10 ^ (k + 1) := by
      rw [Nat.pow_succ] at h
      omega
    have hm : r % 10 < 10 := Nat.mod_lt r (by decide)
    have ih := digits_block q hq (k + 1) (r / 10) (by omega) hr
    have e : q * 10 ^ (k + 2) + r = 10 * (q * 10 ^ (k + 1) + r / 10) + r % 10 := by
      rw [Nat.pow_succ, Nat.mul_add, ← Nat.mul_assoc, Nat.mul_comm (q * 10 ^ (k + 1)) 10]
      omega
    have pos : 0 < q * 10 ^ (k + 1) + r / 10 := Nat.lt_of_lt_of_le (Nat.mul_pos hq (Nat.pow_pos (by decide))) (Nat.le_add_right _ _)
    rw [e, ← Nat.toDigits_append_toDigits (b := 10) (by decide) pos hm, ih]
    by_cases z : r / 10 = 0
    · have r10 : r < 10 := by omega
      rw [z, Nat.toDigits_zero, Nat.toDigits_of_lt_base hm, Nat.toDigits_of_lt_base r10, Nat.mod_eq_of_lt r10]
      show _ ++ (List.replicate (k + 1 - 1) '0' ++ ['0']) ++ _ = _ ++ (List.replicate (k + 2 - 1) '0' ++ _)
      have : List.replicate (k + 2 - 1) '0' = List.replicate (k + 1 - 1) '0' ++ ['0'] := List.replicate_succ'
      rw [this, List.append_assoc]
    · have e2 := Nat.toDigits_append_toDigits (b := 10) (by decide) (Nat.pos_of_ne_zero z) hm
      rw [Nat.div_add_mod] at e2
      have l : (Nat.toDigits 10 r).length = (Nat.toDigits 10 (r / 10)).length + 1 := by
        rw [← e2, List.length_append, Nat.toDigits_of_lt_base hm]
        rfl
      have s : k + 2 - ((Nat.toDigits 10 (r / 10)).length + 1) = k + 1 - (Nat.toDigits 10 (r / 10)).length := by omega
      rw [l, s, ← e2, List.append_assoc, List.append_assoc]

structure Cl (P : Program) (w : World) (K : PySem.W.Frag) (mg : Str → Option Value) (base : Heap) (CX : CXT) (k : Nat) (x : Str) (sp : Sp) : Prop where
  ex : ∃ (f : Addr) (fd : FuncData) (ps : List Str), FnOk P w K mg base CX k f fd ps sp ∧ mg x = some (.ref f) ∧ PySem.W.keepIn K (.ref f) = true ∧ Binds K fd ps []
theorem pe_cl {X : Cx} {k j : Nat} {x : Str} {sp : Sp} {p pos : Pos} {e : Expr} {es : List Expr} {t : TA} (c : Cl X.prog X.w X.K X.mg X.base CX0 k x sp) (hr : Room j X.A) (ha : PA X (e :: es) t) (hk : k ≤ j := by decide) (hg : Gl X x := by rfl)
    (hdb : (x == ("__debug__" : Str)) = false := by decide) (he : starEach (e :: es) X.env = (false, eval e X.env) :: starEach es X.env := by rfl) (hpl : (backTo pos (starEach es X.env)).any (·.1) = false := by rfl) :
    PE X (.Call (.Name x p) (e :: es) [] pos) (tCall sp [] E0 t) := by
  obtain ⟨f, fd, ps, F, hm, kp, b⟩ := c.ex
  exact pe_call F (hr.mono hk) hg hm kp b .nil pass0 ha hdb he hpl
structure Txt (mg : Str → Option Value) : Prop where
  int : mg "int" = none
  len : mg "len" = none
  abs : mg "abs" = none
  isinstance : mg "isinstance" = none
  bool : mg "bool" = none
  tuple : mg "tuple" = none
  list : mg "list" = none
  str : mg "str" = none
  range : mg "range" = none
  max : mg "max" = none
  min : mg "min" = none
  sorted : mg "sorted" = none
  set : mg "set" = none
theorem if_pos_of {c : Bool} {A B : Prop} (hc : c = true) (h : A) : if c = true then A else B := by
  rw [if_pos hc]
  exact h
theorem if_neg_of {c : Bool} {A B : Prop} (hc : c = false) (h : B) : if c = true then A else B := by
  rw [hc, if_neg Bool.false_ne_true]
  exact h
theorem same_upd {H : Hp} {p : Addr} {o : HO} (h : H p = none) : Same H (upd H p o) := fun b u e => by
  rw [upd_ne (ne_of_none e h)]
  exact e
/-- a call of a def that may raise, where it doesn't -/
theorem pe_cl0 {X : Cx} {k j : Nat} {x : Str} {sp : Sp} {p pos : Pos} {e : Expr} {es : List Expr} {t : TA} (c : Cl X.prog X.w X.K X.mg X.base (L2.CX X.prog X.w) k x sp) (hr : Room j X.A) (ha : PA X (e :: es) t) (hk : k ≤ j := by decide) (hg : Gl X x := by rfl)
    (hdb : (x == ("__debug__" : Str)) = false := by decide) (he : starEach (e :: es) X.env = (false, eval e X.env) :: starEach es X.env := by rfl) (hpl : (backTo pos (starEach es X.env)).any (·.1) = false := by rfl) :
    PE X (.Call (.Name x p) (e :: es) [] pos) (tCall sp [] E0 t) := by
  obtain ⟨f, fd, ps, F, hm, kp, b⟩ := c.ex
  exact pe_call F (hr.mono hk) hg hm kp b .nil passL ha hdb he hpl
/-- a call of a def that may raise, in a def or try that takes it -/
theorem pe_clX {X : Cx} {W : WX} {k j : Nat} {x : Str} {sp : Sp} {p pos : Pos} {e : Expr} {es : List Expr} {t : TA} (c : Cl X.prog X.w X.K X.mg X.base (L2.CX X.prog X.w) k x sp) (hr : Room j X.A) (tk : Takes X W) (ha : PA X (e :: es) t) (hk : k ≤ j := by decide) (hg : Gl X x := by rfl)
    (hdb : (x == ("__debug__" : Str)) = false := by decide) (he : starEach (e :: es) X.env = (false, eval e X.env) :: starEach es X.env := by rfl) (hpl : (backTo pos (starEach es X.env)).any (·.1) = false := by rfl) :
    PE X (.Call (.Name x p) (e :: es) [] pos) (tCallS sp (WE W) t) := by
  obtain ⟨f, fd, ps, F, hm, kp, b⟩ := c.ex
  exact pe_callS F (hr.mono hk) hg hm kp b (fun σ => passAt tk σ) ha hdb he hpl
/-- FieldError, and what its __init__ is -/
structure FErr (K : PySem.W.Frag) (mg : Str → Option Value) (C : Addr) : Prop where
  g : mg "FieldError" = some (.ref C)
  rd : PySem.W.readsIn K C (.type "type") = true
  ga : PySem.W.specialIn K (.ref C) "__getattribute__" = some (some (.builtin "type.__getattribute__"))
  fi : PySem.W.findCls K (.ref C) (.type "type") "__init__" = some (.val (.builtin "ValueError.__init__"))
theorem pe_feinit {X : Cx} {CF : Addr} {e : Expr} {es : List Expr} {ta : TA} {p1 p2 pos : Pos} {pl : Sem Bool} (F : FErr X.K X.mg CF) (ha : PA X (e :: es) ta) (hg : Gl X "FieldError" := by rfl)
    (hc : eval (.Call (.Attribute (.Name "FieldError" p1) "__init__" p2) (e :: es) [] pos) X.env = (do
      let ov ← eval (.Name "FieldError" p1) X.env
      standAt p2.atName
      let (f, first) ← holding [ov] (getMethod ov "__init__" pl)
      callWith pos f first (backTo pos (starEach (e :: es) X.env)) (backToKw pos (keywordEach [] X.env))) := by rfl)
    (he : starEach (e :: es) X.env = (false, eval e X.env) :: starEach es X.env := by rfl) (hpl : (backTo pos (starEach es X.env)).any (·.1) = false := by rfl) :
    PE X (.Call (.Attribute (.Name "FieldError" p1) "__init__" p2) (e :: es) [] pos) (tVeI X.K ta) := by
  refine ⟨fun pins s σ H Q I h => ?_⟩
  refine PySem.W.methodCall_KW (ld_glob I hg F.g ?_ (by decide)) hc
  refine PySem.W.method_cls I.kIn F.ga (PySem.W.cls_value I.kIn F.rd F.fi (by decide +kernel) ?_)
  show wpAny _ _ (callWith pos (Value.builtin "ValueError.__init__") [] (backTo pos (starEach (e :: es) X.env)) []) _ _ _
  refine PyProof.Rows.callWith_method1 (thn (ha.run pos pins _ σ H _ (I.tok _) h) fun us s1 ⟨vs, H1, I1, r1, a, C, ws, ev, hl, T, ea, q⟩ => ?_) he hpl
  subst ev
  cases r1 with
  | @cons _ u0 _ ur ra rw' =>
    obtain rfl : u0 = Value.ref a := ra
    have hlen : ur.length ≤ sizeLine := by
      rw [← Paired.length rw', sizeLine_eq]
      omega
    exact oinit_ok T I1 ea hlen fun s' J => ⟨.non, H1, J, rfl, q⟩
/-- an own error class with one attribute, and its __init__ by its promise -/
def spInit (C : Addr) (fld : Str) : Sp := fun vs H Q _ => ∃ (a : Addr) (v : V), vs = [.ref a, v] ∧ H a = some (exo a C none) ∧
  ∀ d, H d = none → d ≠ a → Q .non (upd (upd H d (exd d [(fld, v)])) a (exo a C (some d)))
structure ErrC (K : PySem.W.Frag) (mg : Str → Option Value) (nm fld : Str) (C fI : Addr) : Prop where
  g : mg nm = some (.ref C)
  oex : OexC K C
  no : PySem.W.findIn K (.ref C) fld = some none
  iC : PySem.W.findIn K (.ref C) "__init__" = some (some (.ref fI))
  tI : PySem.W.typeIn K (.ref fI) = some (.type "function")
  xf : XfC K C
  te : PySem.W.exmOne K (.ref C) (.ref C) = some true
structure Er (P : Program) (w : World) (K : PySem.W.Frag) (mg : Str → Option Value) (base : Heap) (nm fld : Str) (C : Addr) : Prop where
  ex : ∃ (fI : Addr) (fd : FuncData) (ps : List Str), ErrC K mg nm fld C fI ∧ FnOk P w K mg base CX0 1 fI fd ps (spInit C fld) ∧ Binds K fd ps []
theorem Er.c {P : Program} {w : World} {K : PySem.W.Frag} {mg : Str → Option Value} {base : Heap} {nm fld : Str} {C : Addr} (e : Er P w K mg base nm fld C) : ∃ fI, ErrC K mg nm fld C fI := by
  obtain ⟨fI, _, _, T, _⟩ := e.ex
  exact ⟨fI, T⟩
theorem exm_me {K : PySem.W.Frag} {S : Addr} (h1 : PySem.W.subIn K (.ref S) (.type "BaseException") = some true) (h2 : PySem.W.isClsIn K S = true) (h3 : PySem.W.typeIn K (.ref S) = some (.type "type")) (h4 : PySem.W.subIn K (.ref S) (.ref S) = some true) :
    PySem.W.exmOne K (.ref S) (.ref S) = some true := by
  have e1 : (PySem.W.subIn K (.ref S) (.type "BaseException") == some true) = true := by rw [h1] <;> rfl
  have h2' : (PySem.W.clsIn K S).isSome = true := h2
  have e2 : ((PySem.W.clsIn K S).isSome && PySem.W.typeIn K (.ref S) == some (.type "type")) = true := by rw [h2', h3] <;> rfl
  unfold PySem.W.exmOne
  rw [if_pos e1]
  show (if ((PySem.W.clsIn K S).isSome && PySem.W.typeIn K (.ref S) == some (.type "type")) = true then PySem.W.subIn K (.ref S) (.ref S) else none) = some true
  rw [if_pos e2]
  exact h4
/-- raise C(v): the argument, then what C's own __init__ asks (mk1 answers it) -/
theorem ps_raise1 {X : Cx} {W : WX} {x fld : Str} {C : Addr} {j : Nat} {e : Expr} {ta : TA} {p pos pos' : Pos} (c : Er X.prog X.w X.K X.mg X.base x fld C) (hr : Room j X.A) (tk : Takes X W) (ha : PA X [e] ta) (hj : 2 ≤ j := by decide) (hcalm : X.calm = true := by rfl) (hg : Gl X x := by rfl)
    (hdb : (x == ("__debug__" : Str)) = false := by decide) (he : starEach [e] X.env = (false, eval e X.env) :: starEach [] X.env := by rfl) (hpl : (backTo pos (starEach [] X.env)).any (·.1) = false := by rfl) :
    PS X (.Raise (some (.Call (.Name x p) [e] [] pos)) none pos') (fun _ σ H => tMkO C (spInit C fld) [] ta σ H fun cls d H' => W cls d σ H') := by
  obtain ⟨fI, fd, ps, T, F, b⟩ := c.ex
  exact ps_raise hcalm tk (pmk_oex (X := X) (p := p) (pos := pos) T.oex T.iC T.tI F (hr.mono hj) b .nil (fun _ _ _ _ _ _ _ h => h.elim) hg T.g ha hdb he hpl)
theorem mk1 {C : Addr} {fld : Str} {v : V} {H1 : Hp} {Q : XK} (k : ∀ d H2, Same H1 H2 → H1 d = none → H2 d = some (.xd [(fld, v)]) → Q (.ref C) (some d) H2) :
    ([v] : List V).length ≤ 1000 ∧ ∀ a, H1 a = none → spInit C fld (.ref a :: ([v] ++ [])) (upd H1 a (exo a C none))
      (fun u H2 => u = .non ∧ ∃ (d : Addr) (fs : List (Str × V)), H2 a = some (exo a C (some d)) ∧ H2 d = some (exd d fs) ∧ H1 d = none ∧ Q (.ref C) (some d) (upd (del H2 a) d (.xd fs))) (fun _ _ _ => False) := by
  refine ⟨(by show 1 ≤ 1000; decide), fun a ha => ⟨a, v, rfl, upd_same, fun d hd hda => ⟨rfl, d, [(fld, v)], upd_same, ?_, ?_, ?_⟩⟩⟩
  · rw [upd_ne hda, upd_same]
  · rw [upd_ne hda] at hd
    exact hd
  · rw [upd_ne hda] at hd
    refine k d _ (fun b o e => ?_) hd upd_same
    have hba := ne_of_none e ha
    have hbd := ne_of_none e hd
    rw [upd_ne hbd, del_ne hba, upd_ne hba, upd_ne hbd, upd_ne hba]
    exact e
/-! the same for exceptions whose context is None -/
theorem passN {X : Cx} : Passes (L2N.CX X.prog X.w) X E0 := fun _ _ _ _ _ _ _ ⟨_, _, _, _, _, _, _, _, _, _, _, _, z⟩ => z.elim
theorem takes0N {X : Cx} : L2N.Takes X (fun _ _ _ _ => False) := fun _ _ ⟨_, _, _, _, _, _, _, _, _, _, _, _, _, _, _, _, z⟩ => z.elim
theorem okN {P : Program} {w : World} {K : PySem.W.Frag} {mg : Str → Option Value} {base : Heap} {x qual : Str} {st : Stmt} {f : Addr} {fd : FuncData} {N ps : List Str} {k : Nat} {sp : Sp} (F : Fun K x qual st f fd) (S : FnScope N ps (defScope st)) (len : ∀ vs H Q E, sp vs H Q E → vs.length = ps.length)
    (body : ∀ (cdv : Value) (A : Around) (outer : List Env) (s : Shared) (H : Hp) (vs : List V) (Q : VK) (E : XK), Room k (A.deeper (envOfC qual (defScope st) s.heap.objs.size f cdv)) → sp vs H Q E →
      ∃ t, PSs (cxOf (L2N.CX P w) P w K mg base N qual (defScope st) f cdv A outer s H E) (defBody st) t ∧ t { nx := fun _ H' => Q .non H', rt := Q } (start N vs) H) : FnOk P w K mg base (L2N.CX P w) (k + 1) f fd ps sp := by
  obtain ⟨oc, od, kV, doc, pm, an, cdv, ct, osl, rfl, lk, hcd⟩ := F.ex
  exact fn_of lk hcd S len fun A outer s H vs Q E hr h => body cdv A outer s H vs Q E hr h
/-- a call of such a def, where it doesn't raise -/
theorem pe_clN0 {X : Cx} {k j : Nat} {x : Str} {sp : Sp} {p pos : Pos} {e : Expr} {es : List Expr} {t : TA} (c : Cl X.prog X.w X.K X.mg X.base (L2N.CX X.prog X.w) k x sp) (hr : Room j X.A) (ha : PA X (e :: es) t) (hk : k ≤ j := by decide) (hg : Gl X x := by rfl)
    (hdb : (x == ("__debug__" : Str)) = false := by decide) (he : starEach (e :: es) X.env = (false, eval e X.env) :: starEach es X.env := by rfl) (hpl : (backTo pos (starEach es X.env)).any (·.1) = false := by rfl) :
    PE X (.Call (.Name x p) (e :: es) [] pos) (tCall sp [] E0 t) := by
  obtain ⟨f, fd, ps, F, hm, kp, b⟩ := c.ex
  exact pe_call F (hr.mono hk) hg hm kp b .nil passN ha hdb he hpl
theorem pe_clNX {X : Cx} {W : WX} {k j : Nat} {x : Str} {sp : Sp} {p pos : Pos} {e : Expr} {es : List Expr} {t : TA} (c : Cl X.prog X.w X.K X.mg X.base (L2N.CX X.prog X.w) k x sp) (hr : Room j X.A) (tk : L2N.Takes X W) (ha : PA X (e :: es) t) (hk : k ≤ j := by decide) (hg : Gl X x := by rfl)
    (hdb : (x == ("__debug__" : Str)) = false := by decide) (he : starEach (e :: es) X.env = (false, eval e X.env) :: starEach es X.env := by rfl) (hpl : (backTo pos (starEach es X.env)).any (·.1) = false := by rfl) :
    PE X (.Call (.Name x p) (e :: es) [] pos) (tCallS sp (WE W) t) := by
  obtain ⟨f, fd, ps, F, hm, kp, b⟩ := c.ex
  exact pe_callS F (hr.mono hk) hg hm kp b (fun σ => L2N.passAt tk σ) ha hdb he hpl
theorem pmk_oexN {X : Cx} {e : Expr} {es : List Expr} {ta : TA} {p pos : Pos} {x : Str} {C fI : Addr} {k : Nat} {fd : FuncData} {ps : List Str} {sp : Sp} {ds : List Value} {dvs : List V} (T : OexC X.K C) (iC : PySem.W.findIn X.K (.ref C) "__init__" = some (some (.ref fI))) (tI : PySem.W.typeIn X.K (.ref fI) = some (.type "function"))
    (F1 : FnOk X.prog X.w X.K X.mg X.base CX0 k fI fd ps sp) (hr : Room (k + 1) X.A) (hb : Binds X.K fd ps ds) (hd : Vals dvs ds) (hg : Gl X x) (hm : X.mg x = some (.ref C)) (ha : PA X (e :: es) ta)
    (hdb : (x == ("__debug__" : Str)) = false) (he : starEach (e :: es) X.env = (false, eval e X.env) :: starEach es X.env) (hpl : (backTo pos (starEach es X.env)).any (·.1) = false) :
    L2N.PMk X (.Call (.Name x p) (e :: es) [] pos) (tMkO C sp dvs ta) := by
  intro pins s σ H Q I h
  obtain ⟨nm, q, N, bs, bm, sn, sub, ab, col, dd, k0, k1, k2, k3, k5, hC, hbm⟩ := T.cls
  refine wpAny_Call_Name_kw (ld_glob I hg hm ?_ hdb)
  refine PySem.W.callWith_K (h₀ := X.base) I.ok.mod.kin T.kC (thn (ha.run pos pins s σ H _ I h) fun us st got => ?_) he hpl
  obtain ⟨vs, G1, I1, r1, hz, q1⟩ := got
  refine ⟨I1.kIn, ?_⟩
  show wpAny _ _ (call (.ref C) us) _ _ _
  obtain ⟨hp, g, dr, tk, os⟩ := st
  generalize ex : hp.objs.size + 1 = x1 at *
  have le1 : hp.objs.size ≤ x1 := by omega
  have sp1 := q1 x1 (I1.hok.fresh le1)
  have old : ∀ b o, hp.get? b = some o → ((hp.push (PySem.W.kdv_tup us)).push (PySem.HandSPX.excO C hp.objs.size)).get? b = some o := fun b o z =>
    Heap.get?_push_of_some _ (Heap.get?_push_of_some _ z)
  have new1 : ((hp.push (PySem.W.kdv_tup us)).push (PySem.HandSPX.excO C hp.objs.size)).get? x1 = some (PySem.HandSPX.excO C hp.objs.size) := by
    subst ex
    heap_get
  have I2 := I1.laid (t' := tk) (a := x1) (o := exo x1 C none) old le1 (exo_ok new1)
  have rel : Vals (V.ref x1 :: (vs ++ dvs)) (Value.ref x1 :: (us ++ ds)) := .cons rfl (r1.append hd)
  have few : us.length ≤ sizeLine := by
    have := Paired.length r1
    rw [sizeLine_eq]
    omega
  have many : (Value.ref x1 :: us ++ ds).length = ps.length := by
    have z := rel.length
    rw [F1.len _ _ _ _ sp1] at z
    exact z.symm
  have run := F1.run _ X.stack _ _ ⟨Value.ref x1 :: us, []⟩ (Value.ref x1 :: (us ++ ds)) _ _ (fun _ _ _ => False) (hr.make C us []) (I2.env0.make C us []) (hb _ (Value.ref x1 :: us) I2.kIn many) rel sp1
  refine wpAny_call (PySem.HandSPX.call_own F.excBase_ValueError (fun Y => PySem.HandSPX.refsVE_contains Y bm hbm) (I1.kIn _ _ hC) (PySem.W.looks_findIn I1.kIn iC) (fun self => PySem.W.bind_fn I1.kIn self tI) few ?_)
  subst ex
  refine codeAny_mono run fun r s' back => ?_
  cases r with
  | error er => exact False.elim back
  | ok fl =>
    cases fl with
    | ret u =>
      obtain ⟨v, H2, os2, bare2, un2, hok2, rv, ev, d, fs, ea, ed, hd1, q2⟩ := back
      subst ev
      obtain ⟨h2, g2, d2, t2, os'⟩ := s'
      obtain ⟨t0, G, J, kG, ge, hoe, na⟩ := mk_end0 (d2 := d2) (t2 := t2) I1 le1 old un2 hok2 os2 bare2 ea ed hd1
      exact ⟨rv, _, _, _, ⟨G, g2, d2, t2, os'⟩, _, .ref C, some d, rfl, J, kG, ge, hoe, ⟨rfl, rfl, fun vs z => by cases z; rfl⟩, rfl, rfl, na, rfl, bare2, raises_own T.exC T.tyC, q2⟩
    | next => exact False.elim back
    | brk => exact False.elim back
    | cont => exact False.elim back
theorem ps_raise1N {X : Cx} {W : WX} {x fld : Str} {C : Addr} {j : Nat} {e : Expr} {ta : TA} {p pos pos' : Pos} (c : Er X.prog X.w X.K X.mg X.base x fld C) (hr : Room j X.A) (tk : L2N.Takes X W) (ha : PA X [e] ta) (hj : 2 ≤ j := by decide) (hcalm : X.calm = true := by rfl) (hg : Gl X x := by rfl)
    (hdb : (x == ("__debug__" : Str)) = false := by decide) (he : starEach [e] X.env = (false, eval e X.env) :: starEach [] X.env := by rfl) (hpl : (backTo pos (starEach [] X.env)).any (·.1) = false := by rfl) :
    PS X (.Raise (some (.Call (.Name x p) [e] [] pos)) none pos') (fun _ σ H => tMkO C (spInit C fld) [] ta σ H fun cls d H' => W cls d σ H') := by
  obtain ⟨fI, fd, ps, T, F, b⟩ := c.ex
  exact L2N.ps_raise hcalm tk (pmk_oexN (X := X) (p := p) (pos := pos) T.oex T.iC T.tI F (hr.mono hj) b .nil hg T.g ha hdb he hpl)
section
variable {P : Program} {w : World} {K : PySem.W.Frag} {mg : Str → Option Value} {base : Heap}
-- part gen2
/-- an isinstance of an int -/
theorem isi_int {K : PySem.W.Frag} {i : Int} {T : String} {b : Bool} {H : Hp} {Q : VK} (h : kitB "int" T = some b) (q : Q (.bl b) H) : rIsi K [.int i, .ty T] H Q :=
  ⟨_, _, _, _, b, rfl, .ty T, .base (.int i), kit_ty h, q⟩
theorem isi_tup {K : PySem.W.Frag} {a : Addr} {xs : List V} {T : String} {b : Bool} {H : Hp} {Q : VK} (ha : H a = some (.tup xs)) (h : kitB "tuple" T = some b) (q : Q (.bl b) H) : rIsi K [.ref a, .ty T] H Q :=
  ⟨_, _, _, _, b, rfl, .ty T, .base (.tup ha), kit_ty h, q⟩
theorem isi_bl {K : PySem.W.Frag} {x : Bool} {T : String} {b : Bool} {H : Hp} {Q : VK} (h : kitB "bool" T = some b) (q : Q (.bl b) H) : rIsi K [.bl x, .ty T] H Q :=
  ⟨_, _, _, _, b, rfl, .ty T, .base (.bl x), kit_ty h, q⟩
theorem isi_lst {K : PySem.W.Frag} {a : Addr} {xs : List V} {T : String} {b : Bool} {H : Hp} {Q : VK} (ha : H a = some (.lst xs)) (h : kitB "list" T = some b) (q : Q (.bl b) H) : rIsi K [.ref a, .ty T] H Q :=
  ⟨_, _, _, _, b, rfl, .ty T, .base (.lst ha), kit_ty h, q⟩
/-- the law's own promise -/
def spLaw (K : PySem.W.Frag) : Sp := fun vs H Q _ => ∃ (a : Addr) (ns : List Int), vs = [.ref a] ∧ SqL K H a (ns.map V.int) ∧ ns.length ≤ 63 ∧ ∀ H', Q (.bl true) H'
/-- a test by an own truth -/
theorem pt_own {X : Cx} {a : Expr} {ta : TE} {r : V → Hp → (Bool → Hp → Prop) → Prop} (ha : PE X a ta) (hr : TruR X r) (he : ∀ whole, isTrue a X.env whole = (do let v ← whole; standAt a.pos; holding [v] (truthy v)) := by intro _; rfl) :
    PT X a (fun σ H Q => ta σ H fun x H' => r x H' Q) :=
  ⟨fun pins s σ H Q I h => isTrue_plain (thn (ha.run pins s σ H _ I h) fun v s1 ⟨x, H1, I1, r1, q1⟩ => hr pins s1 σ H1 x v Q I1 r1 q1) (he _)⟩
-- part errgr
/-! own errors whose __init__ keeps any promise; errors without arguments -/
structure ErG (P : Program) (w : World) (K : PySem.W.Frag) (mg : Str → Option Value) (base : Heap) (nm : Str) (C : Addr) (sp : Sp) : Prop where
  ex : ∃ (fI : Addr) (fd : FuncData) (ps : List Str), mg nm = some (.ref C) ∧ OexC K C ∧ PySem.W.findIn K (.ref C) "__init__" = some (some (.ref fI)) ∧ PySem.W.typeIn K (.ref fI) = some (.type "function") ∧ FnOk P w K mg base CX0 1 fI fd ps sp ∧ Binds K fd ps []
theorem ps_raiseG {X : Cx} {W : WX} {x : Str} {C : Addr} {sp : Sp} {j : Nat} {e : Expr} {es : List Expr} {ta : TA} {p pos pos' : Pos} (c : ErG X.prog X.w X.K X.mg X.base x C sp) (hr : Room j X.A) (tk : L2N.Takes X W) (ha : PA X (e :: es) ta) (hj : 2 ≤ j := by decide) (hcalm : X.calm = true := by rfl) (hg : Gl X x := by rfl)
    (hdb : (x == ("__debug__" : Str)) = false := by decide) (he : starEach (e :: es) X.env = (false, eval e X.env) :: starEach es X.env := by rfl) (hpl : (backTo pos (starEach es X.env)).any (·.1) = false := by rfl) :
    PS X (.Raise (some (.Call (.Name x p) (e :: es) [] pos)) none pos') (fun _ σ H => tMkO C sp [] ta σ H fun cls d H' => W cls d σ H') := by
  obtain ⟨fI, fd, ps, g, T, iC, tI, F, b⟩ := c.ex
  exact L2N.ps_raise hcalm tk (pmk_oexN (X := X) (p := p) (pos := pos) T iC tI F (hr.mono hj) b .nil hg g ha hdb he hpl)
-- part errz
/-- the exception is let go; it has no dict -/
theorem let_go {X : Cx} {pins : List (Addr × Obj)} {σ : L2.St} {H1 H2 : Hp} {hp hp2 h2 : Heap} {g1 g2 : Array GenState} {d1 d2 : Drawn} {t1 t2 : Nat} {os1 os2 : OsState} {a C : Addr} (I1 : Inv X pins σ H1 ⟨hp, g1, d1, t1, os1⟩)
    (ha : hp.objs.size ≤ a) (k : ∀ b o, hp.get? b = some o → hp2.get? b = some o) (un : Un (frs X.stack) [] (upd H1 a (exo a C none)) H2 hp2 h2) (hok : HOk X.prog X.w H2 h2) (ho : os2 = os1) (hb : AllBare g2) (ea : H2 a = some (exo a C none)) :
    ∃ (t0 : Addr) (G : Heap), Inv X pins σ (del H2 a) ⟨G, g2, d2, t2, os2⟩ ∧ (∀ b o, G.get? b = some o → h2.get? b = some o) ∧ G.get? a = none ∧
      h2.get? a = some ({ cls := .ref C, dict := none, data := .fields #[.ref t0, .none, .none, .none, .bool false, .none] } : Obj) ∧ del H2 a a = none := by
  obtain ⟨t0, stands⟩ := exo_at hok ea
  have n1 : H1 a = none := I1.hok.fresh ha
  obtain ⟨G, same, gone⟩ := restrict h2 fun b => decide (b ≠ a)
  have at_ : ∀ b, b ≠ a → G.get? b = h2.get? b := fun b q => same b (decide_eq_true q)
  have no : G.get? a = none := gone a (by simp)
  have old : ∀ {b : Addr} {o : Obj}, hp.get? b = some o → b ≠ a := fun {b o} z => Nat.ne_of_lt (Nat.lt_of_lt_of_le (Heap.lt_size z) ha)
  have un1 : ∀ {b : Addr}, b ≠ a → H1 b = none → upd H1 a (exo a C none) b = none := fun {b} q n => by
    rw [upd_ne q]
    exact n
  have U : Un (frs X.stack) [] H1 (del H2 a) hp G := {
    keep := fun b o z n f x => by
      rw [at_ b (old z)]
      exact un.keep b o (k b o z) (un1 (old z) n) f x
    slot := fun b o z n f x => by
      rw [at_ b (old z)]
      exact un.slot b o (k b o z) (un1 (old z) n) f x
    free := fun b o z n x => by
      rw [del_ne (old z)]
      exact un.free b o (k b o z) (un1 (old z) n) x
    there := fun b o z x => by
      rw [at_ b (old z)]
      exact un.there b o (k b o z) x
    tups := fun b xs z => by
      have q := ne_of_none z n1
      rw [del_ne q]
      exact un.tups b xs (by rw [upd_ne q]; exact z)
    frzs := fun b o v z => by
      have q := ne_of_none z n1
      rw [del_ne q]
      exact un.frzs b o v (by rw [upd_ne q]; exact z)
    tbls := fun b ps z => by
      have q := ne_of_none z n1
      rw [del_ne q]
      exact un.tbls b ps (by rw [upd_ne q]; exact z) }
  have good : HOk X.prog X.w (del H2 a) G := fun b o z => by
    have q : b ≠ a := fun e => by
      rw [e, del_same] at z
      cases z
    rw [del_ne q] at z
    have far : ∀ {c : Addr}, H2 c = some (.own b) → c ≠ a := fun {c} y => at_ne ea y exo_own
    exact (hok b o z).stay (fun c v hc y => by
        have q2 : c ≠ a := by
          rcases hc with hc | hc
          · rw [hc]
            exact q
          · exact far hc
        rw [at_ c q2]
        exact y)
      (fun c y => by rw [del_ne (far y)]; exact y) (fun c xs y => by rw [del_ne (at_ne ea y exo_tup)]; exact y)
  refine ⟨t0, G, I1.call' (ch := []) ho U good hb (fun b z => absurd z (by simp)), fun b o z => ?_, no, stands, del_same⟩
  by_cases q : b = a
  · rw [q, no] at z
    cases z
  · exact (at_ b q).symm.trans z
/-- C(), C's own __init__ gives it no field -/
def tMkZ (C : Addr) (sp : Sp) : L2.St → Hp → XK → Prop := fun _ H Q => ∀ a, H a = none → sp [.ref a] (upd H a (exo a C none)) (fun v H2 => v = .non ∧ H2 a = some (exo a C none) ∧ Q (.ref C) none (del H2 a)) (fun _ _ _ => False)
theorem pmk_z {X : Cx} {p pos : Pos} {x : Str} {C : Addr} {sp : Sp} {j : Nat} (c : ErG X.prog X.w X.K X.mg X.base x C sp) (hr : Room j X.A) (hj : 2 ≤ j) (hg : Gl X x) (hdb : (x == ("__debug__" : Str)) = false) : L2N.PMk X (.Call (.Name x p) [] [] pos) (tMkZ C sp) := by
  obtain ⟨fI, fd, ps, hm, T, iC, tI, F1, b⟩ := c.ex
  intro pins s σ H Q I h
  obtain ⟨nm, q, N, bs, bm, sn, sub, ab, col, dd, k0, k1, k2, k3, k5, hC, hbm⟩ := T.cls
  refine wpAny_Call_Name_kw (ld_glob I hg hm ?_ hdb)
  refine PySem.W.callWith_K0 I.kIn T.kC ?_
  obtain ⟨hp, g, dr, tk, os⟩ := s
  generalize ex : hp.objs.size + 1 = x1 at *
  have le1 : hp.objs.size ≤ x1 := by omega
  have sp1 := h x1 (I.hok.fresh le1)
  have old : ∀ b o, hp.get? b = some o → ((hp.push (PySem.W.kdv_tup [])).push (PySem.HandSPX.excO C hp.objs.size)).get? b = some o := fun b o z =>
    Heap.get?_push_of_some _ (Heap.get?_push_of_some _ z)
  have new1 : ((hp.push (PySem.W.kdv_tup [])).push (PySem.HandSPX.excO C hp.objs.size)).get? x1 = some (PySem.HandSPX.excO C hp.objs.size) := by
    subst ex
    heap_get
  have I2 := I.laid (t' := tk) (a := x1) (o := exo x1 C none) old le1 (exo_ok new1)
  have many : ([Value.ref x1] : List Value).length = ps.length := F1.len _ _ _ _ sp1
  have bound := b _ [Value.ref x1] I2.kIn (by rw [List.append_nil]; exact many)
  rw [List.append_nil] at bound
  have run := F1.run _ X.stack _ _ ⟨[Value.ref x1], []⟩ [Value.ref x1] [V.ref x1] _ (fun _ _ _ => False) ((hr.mono hj).make C [] []) (I2.env0.make C [] []) bound (.cons rfl .nil) sp1
  refine wpAny_call (PySem.HandSPX.call_own F.excBase_ValueError (fun Y => PySem.HandSPX.refsVE_contains Y bm hbm) (I.kIn _ _ hC) (PySem.W.looks_findIn I.kIn iC) (fun self => PySem.W.bind_fn I.kIn self tI) (Nat.zero_le _) ?_)
  subst ex
  refine codeAny_mono run fun r s' back => ?_
  cases r with
  | error er => exact False.elim back
  | ok fl =>
    cases fl with
    | ret u =>
      obtain ⟨v, H2, os2, bare2, un2, hok2, rv, ev, ea, q2⟩ := back
      subst ev
      obtain ⟨h2, g2, d2, t2, os'⟩ := s'
      obtain ⟨t0, G, J, kG, ge, hoe, na⟩ := let_go (d2 := d2) (t2 := t2) I le1 old un2 hok2 os2 bare2 ea
      exact ⟨rv, _, _, _, ⟨G, g2, d2, t2, os'⟩, _, .ref C, none, rfl, J, kG, ge, hoe, ⟨rfl, rfl, fun vs z => by cases z; rfl⟩, rfl, rfl, na, rfl, bare2, raises_own T.exC T.tyC, q2⟩
    | next => exact False.elim back
    | brk => exact False.elim back
    | cont => exact False.elim back
theorem ps_raiseZ {X : Cx} {W : WX} {x : Str} {C : Addr} {sp : Sp} {j : Nat} {p pos pos' : Pos} (c : ErG X.prog X.w X.K X.mg X.base x C sp) (hr : Room j X.A) (tk : L2N.Takes X W) (hj : 2 ≤ j := by decide) (hcalm : X.calm = true := by rfl) (hg : Gl X x := by rfl) (hdb : (x == ("__debug__" : Str)) = false := by decide) :
    PS X (.Raise (some (.Call (.Name x p) [] [] pos)) none pos') (fun _ σ H => tMkZ C sp σ H fun cls d H' => W cls d σ H') :=
  L2N.ps_raise hcalm tk (pmk_z c hr hj hg hdb)
/-- no field -/
def spInit0 (C : Addr) : Sp := fun vs H Q _ => ∃ a : Addr, vs = [.ref a] ∧ H a = some (exo a C none) ∧ Q .non H
theorem mk0 {C : Addr} {σ : L2.St} {H1 : Hp} {Q : XK} (k : ∀ H2, Same H1 H2 → Q (.ref C) none H2) : tMkZ C (spInit0 C) σ H1 Q := fun a ha => ⟨a, rfl, upd_same, rfl, upd_same, k _ fun b o e => by
  have hba := ne_of_none e ha
  rw [del_ne hba, upd_ne hba]
  exact e⟩
-- part pool
/-- a pool: three values -/
def PoolAt (H : Hp) (p : Addr) : Prop := ∃ (c n : Int) (b : Bool), H p = some (.lst [.int c, .int n, .bl b])
def spPool : Sp := fun vs H Q _ => ∃ c : Int, vs = [.int c] ∧ ∀ p H', H p = none → Same H H' → PoolAt H' p → Q (.ref p) H'
abbrev s_pool : Stmt := top 12
theorem sc_pool : FnScope ["_law_cell_here"] ["_law_cell_here"] (defScope s_pool) := ⟨rfl, rfl, rfl, by decide +kernel, rfl, by decide +kernel, by decide +kernel⟩
theorem ok_pool {f : Addr} {fd : FuncData} (F : Fun K "_law_pool" "_law_pool" s_pool f fd) : FnOk P w K mg base CX0 1 f fd ["_law_cell_here"] spPool := by
  refine F.ok sc_pool (fun vs H Q E h => ?_) (fun cdv A outer s H vs Q E hr h => ?_)
  · obtain ⟨c, rfl, _⟩ := h
    rfl
  · obtain ⟨c, rfl, k⟩ := h
    refine ⟨_, (pss_one (ps_ret (pe_lst (pa_cons (pv 0) (pa_cons pe_int (pa_cons (pe_cmpR op_ge (pv 0) (pe_op op_pow pe_int pe_int) (nomark _)) pa_nil)))))), ?_⟩
    refine ⟨_, rfl, _, rfl, _, _, rfl, rfl, ⟨by decide, by decide, by decide⟩, _, _, rfl, rfl, (by show 3 ≤ sizeLine; decide), fun p hp => ?_⟩
    exact k p _ hp (same_upd hp) ⟨_, _, _, upd_same⟩

abbrev s_take : Stmt := top 13
theorem sc_take : FnScope ["_law_pool_here", "_law_limit", "_law_drawn", "_law_mixed"] ["_law_pool_here", "_law_limit"] (defScope s_take) := ⟨rfl, rfl, rfl, by decide +kernel, rfl, by decide +kernel, by decide +kernel⟩
def spTake : Sp := fun vs H Q _ => ∃ (p : Addr) (m : Int), vs = [.ref p, .int m] ∧ PoolAt H p ∧ 0 < m ∧ m.natAbs.log2 < 9000 ∧
  ∀ v H', 0 ≤ v → v < m → (∀ q, q ≠ p → H' q = H q) → PoolAt H' p → Q (.int v) H'
theorem mix_small (z : Int) : (z % 2147483647).natAbs < 2 ^ 64 := by
  have h1 := Int.emod_nonneg z (show (2147483647 : Int) ≠ 0 by decide)
  have h2 := Int.emod_lt_of_pos z (show (0 : Int) < 2147483647 by decide)
  have : (2147483647 : Nat) < 2 ^ 64 := by decide
  omega
theorem ok_take {f : Addr} {fd : FuncData} (T : Txt mg) (F : Fun K "_law_take" "_law_take" s_take f fd) : FnOk P w K mg base CX0 1 f fd ["_law_pool_here", "_law_limit"] spTake := by
  refine F.ok sc_take (fun vs H Q E h => ?_) (fun cdv A outer s H vs Q E hr h => ?_)
  · obtain ⟨p, m, rfl, _⟩ := h
    rfl
  · obtain ⟨p, m, rfl, ⟨c, n, b, hp⟩, hm, hb, k⟩ := h
    refine ⟨_, (pss_cons (ps_asg (pe_op op_add (pe_ix ix_list (pv 0) pe_int (fun _ _ => rfl)) pe_int) (pg_sub (pv 0) pe_int set_list))
 (pss_cons (ps_if (pt_val (pe_ix ix_list (pv 0) pe_int (fun _ _ => rfl))) (pss_cons (ps_set (i := 2) sc_take.nd rfl (Or.inl rfl) (pe_op op_mod (pe_callTy call_int1 (by rfl) T.int boot_int (pa_cons (pe_ix ix_list (pv 0) pe_int (fun _ _ => rfl)) pa_nil)) (pv 1)))
 (pss_cons (ps_asg (pe_op op_fdivW (pe_callTy call_int1 (by rfl) T.int boot_int (pa_cons (pe_ix ix_list (pv 0) pe_int (fun _ _ => rfl)) pa_nil)) (pv 1)) (pg_sub (pv 0) pe_int set_list))
 (pss_one (ps_ret (pv 2))))) pss_nil)
 (pss_cons (ps_set (i := 3) sc_take.nd rfl (Or.inl rfl) (pe_op op_mod (pe_callTy call_int1 (by rfl) T.int boot_int (pa_cons (pe_op op_add (pe_op op_add (pe_op op_mul (pe_ix ix_list (pv 0) pe_int (fun _ _ => rfl)) pe_int) (pe_op op_mul (pe_ix ix_list (pv 0) pe_int (fun _ _ => rfl)) pe_int)) pe_int) pa_nil)) pe_int))
 (pss_one (ps_ret (pe_op op_mod (pe_op op_fdivW (pe_callTy call_int1 (by rfl) T.int boot_int (pa_cons (pe_op op_mod (pe_op op_pow (pv 3) pe_int) pe_int) pa_nil)) pe_int) (pv 1))))))), ?_⟩
    refine ⟨_, rfl, p, _, _, _, rfl, rfl, SqL.of hp, rfl, _, _, rfl, rfl, _, rfl, p, _, _, _, rfl, rfl, hp, rfl, ?_⟩
    refine ⟨_, rfl, p, _, _, _, rfl, rfl, SqL.of upd_same, rfl, b, rfl, ?_⟩
    cases b with
    | true =>
      refine iteT ?_
      refine ⟨_, rfl, p, _, _, _, rfl, rfl, SqL.of upd_same, rfl, .inl ⟨_, rfl, _, rfl, _, _, rfl, rfl, hm, ?_⟩⟩
      refine ⟨_, rfl, p, _, _, _, rfl, rfl, SqL.of upd_same, rfl, .inl ⟨_, rfl, _, rfl, _, _, rfl, rfl, ⟨hm, hb⟩, _, rfl, p, _, _, _, rfl, rfl, upd_same, rfl, ?_⟩⟩
      refine ⟨_, rfl, k _ _ (Int.emod_nonneg _ (by omega)) (Int.emod_lt_of_pos _ hm) (fun q hq => ?_) ⟨_, _, _, upd_same⟩⟩
      rw [upd_ne hq, upd_ne hq]
    | false =>
      refine iteF ?_
      refine ⟨_, rfl, p, _, _, _, rfl, rfl, SqL.of upd_same, rfl, _, _, rfl, rfl, (.inr ⟨by decide, by decide⟩), _, rfl, p, _, _, _, rfl, rfl, SqL.of upd_same, rfl, _, _, rfl, rfl, (.inr ⟨by decide, by decide⟩), _, _, rfl, rfl, _, _, rfl, rfl, .inl ⟨_, rfl, _, _, rfl, rfl, (by show (0 : Int) < 2147483647; decide), ?_⟩⟩
      refine ⟨_, rfl, _, _, rfl, rfl, ⟨by decide, by decide, mix_small _⟩, _, _, rfl, rfl, (by show (0 : Int) < 2147483647; decide), .inl ⟨_, rfl, _, _, rfl, rfl, ⟨by decide, by decide⟩, _, rfl, _, _, rfl, rfl, hm, ?_⟩⟩
      refine k _ _ (Int.emod_nonneg _ (by omega)) (Int.emod_lt_of_pos _ hm) (fun q hq => ?_) ⟨_, _, _, upd_same⟩
      rw [upd_ne hq]
-- part cell

abbrev s_cell : Stmt := top 14
theorem sc_cell : FnScope ["_law_script", "_law_k"] ["_law_script", "_law_k"] (defScope s_cell) := ⟨rfl, rfl, rfl, by decide +kernel, rfl, by decide +kernel, by decide +kernel⟩
def spCellL (K : PySem.W.Frag) : Sp := fun vs H Q _ => ∃ (a : Addr) (ns : List Int) (k : Nat), vs = [.ref a, .int (k : Int)] ∧ SqL K H a (ns.map V.int) ∧ ∀ v, Q (.int v) H
theorem ok_cell {f : Addr} {fd : FuncData} (T : Txt mg) (F : Fun K "_law_cell" "_law_cell" s_cell f fd) : FnOk P w K mg base CX0 1 f fd ["_law_script", "_law_k"] (spCellL K) := by
  refine F.ok sc_cell (fun vs H Q E h => ?_) (fun cdv A outer s H vs Q E hr h => ?_)
  · obtain ⟨a, ns, k, rfl, _⟩ := h
    rfl
  · obtain ⟨a, ns, k, rfl, hS, q⟩ := h
    refine ⟨_, (pss_cons (ps_if (pt_cmpR op_lt (pv 1) (pe_callB call_len_seq (by rfl) T.len PySem.boot_len (pa_cons (pv 0) pa_nil)) (nomark _)) (pss_one (ps_ret (pe_ix ix_list (pv 0) (pv 1) (fun _ _ => rfl)))) pss_nil)
 (pss_one (ps_ret pe_int))), ?_⟩
    refine ⟨_, rfl, _, rfl, a, _, rfl, .inl hS, _, _, rfl, rfl, _, rfl, ?_⟩
    rw [List.length_map]
    by_cases c : k < ns.length
    · refine if_pos_of (decide_eq_true (by omega)) ?_
      refine ⟨_, rfl, _, rfl, a, _, _, .int ns[k], rfl, rfl, hS, atI_nat (by rw [List.getElem?_map, List.getElem?_eq_getElem c]; rfl), ?_⟩
      exact q _
    · refine if_neg_of (decide_eq_false (by omega)) ?_
      exact q _
-- part maps
/-! comprehensions and loops whose turns leave what stood before as it was -/
/-- the list that a comprehension makes: f i behind i turns -/
def PvM (H1 : Hp) (D : Addr) (f : Nat → List V) (i : Nat) (H : Hp) : Prop := Same H1 H ∧ H D = some (.lst (f i))
theorem PvM.zero {H1 : Hp} {D : Addr} {f : Nat → List V} (hD : H1 D = none) (h0 : f 0 = []) : PvM H1 D f 0 (upd H1 D (.lst [])) := ⟨same_upd hD, by rw [h0]; exact upd_same⟩
theorem PvM.push {H1 H4 : Hp} {D : Addr} {f : Nat → List V} {i : Nat} {y : V} (hD : H1 D = none) (s : Same H1 H4) (hd : H4 D = some (.lst (f i))) (few : (f i).length < 1000) (hf : f (i + 1) = f i ++ [y]) :
    ∃ acc, H4 D = some (.lst acc) ∧ acc.length < sizeLine ∧ PvM H1 D f (i + 1) (upd H4 D (.lst (acc ++ [y]))) :=
  ⟨f i, hd, small1000 (by omega), fun b o eb => by
    rw [upd_ne (ne_of_none eb hD)]
    exact s b o eb, by rw [hf]; exact upd_same⟩
theorem PvM.skip {H1 H4 : Hp} {D : Addr} {f : Nat → List V} {i : Nat} (s : Same H1 H4) (hd : H4 D = some (.lst (f i))) (hf : f (i + 1) = f i) : PvM H1 D f (i + 1) H4 := ⟨s, by rw [hf]; exact hd⟩
section
variable {J : It} {n : Nat} {G : Hp → Prop} {Y : Nat → Hp → V → Hp → Prop}
theorem lcW (w : Walk J n G Y) {g : TG} {tt : TT} {te : TE} {vs : List Nat} {σ : L2.St} {H1 : Hp} {D : Addr} {Qd : Hp → Prop} (f : Nat → List V) (hD : H1 D = none) (h0 : f 0 = []) (hG : ∀ H, Same H1 H → G H)
    (hs : ∀ i x H H', i < n → Same H1 H → H D = some (.lst (f i)) → Y i H x H' → g x (wipe σ vs) H' fun σ2 H2 => wipe σ2 vs = wipe σ vs ∧ tt σ2 H2 fun b H3 =>
      if b = true then te σ2 H3 fun y H4 => ∃ acc, H4 D = some (.lst acc) ∧ acc.length < sizeLine ∧ PvM H1 D f (i + 1) (upd H4 D (.lst (acc ++ [y]))) else PvM H1 D f (i + 1) H3) (hd : ∀ H, Same H1 H → H D = some (.lst (f n)) → Qd H) :
    ∃ W : Nat → Nat → Hp → Prop, (∃ m, W 0 m (upd H1 D (.lst []))) ∧ ∀ i m H, W i m H →
      (J.stop i H ∧ Qd H) ∨ (J.go i H ∧ ∃ Nx : Hp → Prop, (∀ H', Nx H' → ∃ m', m' < m ∧ W (i + 1) m' H') ∧ ∀ x H', J.yld i H x H' → g x (wipe σ vs) H' fun σ2 H2 => wipe σ2 vs = wipe σ vs ∧ tt σ2 H2 fun b H3 =>
        if b = true then te σ2 H3 fun y H4 => ∃ acc, H4 D = some (.lst acc) ∧ acc.length < sizeLine ∧ Nx (upd H4 D (.lst (acc ++ [y]))) else Nx H3) :=
  lc_it w (PvM H1 D f) (PvM.zero hD h0) (fun _ H _ h => hG H h.1) (fun i x H H' hi h y => hs i x H H' hi h.1 h.2 y) fun H h => hd H h.1 h.2
end
/-- the first i of a row -/
abbrev tkV (l : List V) (i : Nat) : List V := l.take i
theorem tkV_succ {l : List V} {i : Nat} {y : V} (h : l[i]? = some y) : tkV l (i + 1) = tkV l i ++ [y] := by
  show l.take (i + 1) = l.take i ++ [y]
  rw [List.take_add_one, h]
  rfl
theorem tkV_len (l : List V) (i : Nat) : (tkV l i).length ≤ l.length := by
  show (l.take i).length ≤ l.length
  rw [List.length_take]
  omega
theorem tkV_all (l : List V) : tkV l l.length = l := List.take_length
/-- the turn of a map ends -/
theorem mapEnd {H1 H4 : Hp} {D : Addr} {ys : List V} {i : Nat} {y : V} (hD : H1 D = none) (few : ys.length < 1000) (s : Same H1 H4) (hd : H4 D = some (.lst (tkV ys i))) (hy : ys[i]? = some y) :
    ∃ acc, H4 D = some (.lst acc) ∧ acc.length < sizeLine ∧ PvM H1 D (tkV ys) (i + 1) (upd H4 D (.lst (acc ++ [y]))) :=
  PvM.push hD s hd (Nat.lt_of_le_of_lt (tkV_len ys i) few) (tkV_succ hy)
theorem map_at {α : Type} {f : α → V} {l : List α} {i : Nat} {z : α} (h : l[i]? = some z) : (l.map f)[i]? = some (f z) := by
  rw [List.getElem?_map, h]
  rfl
theorem pow_small {z : Int} {n m : Nat} (h : z.natAbs < 2 ^ n) (hnm : n ≤ m) : z.natAbs < 2 ^ m := Nat.lt_of_lt_of_le h (Nat.pow_le_pow_right (by decide) hnm)
theorem flat_rep {α : Type} (x : α) : ∀ m : Nat, (List.replicate m [x]).flatten = List.replicate m x
  | 0 => rfl
  | m + 1 => by rw [List.replicate_succ, List.flatten_cons, flat_rep x m, List.replicate_succ, List.singleton_append]
/-- len of a list or tuple, the frame named -/
def rLenS (K : PySem.W.Frag) : List V → Hp → VK → Prop := fun xs H Q => ∃ p ys, xs = [V.ref p] ∧ (SqL K H p ys ∨ SqT K H p ys) ∧ Q (V.int (ys.length : Int)) H
theorem call_len_seqK {X : Cx} {K : PySem.W.Frag} (hK : X.K = K) : CallR X (.builtin "len") (rLenS K) := by
  subst hK
  exact call_len_seq
/-- o.f, the frame named -/
theorem pe_fldK {X : Cx} {K : PySem.W.Frag} {e : Expr} {f : Str} {pos : Pos} {ta : TE} (hK : X.K = K) (he : PE X e ta) (hb : attributeBase e f X.env (eval e X.env) = eval e X.env) : PE X (.Attribute e f pos) (tFld K ta f) := by
  subst hK
  exact pe_fld he hb
/-- range(n): 0, 1, .. -/
theorem walk_range0 {n : Nat} : Walk (Itr 0 n) n (fun _ => True) (YFn fun i => .int (i : Int)) :=
  walk_range.mono (fun _ _ => trivial) fun i H x H' _ _ y => ⟨y.1, y.2.trans (congrArg V.int (Int.zero_add _))⟩
section
variable {J : It} {n : Nat} {G : Hp → Prop} {Y : Nat → Hp → V → Hp → Prop}
/-- a comprehension that makes the row ys -/
theorem lcMap (w : Walk J n G Y) {g : TG} {tt : TT} {te : TE} {vs : List Nat} {σ : L2.St} {H1 : Hp} {D : Addr} {Qd : Hp → Prop} (ys : List V) (hl : ys.length = n) (hD : H1 D = none) (hG : ∀ H, Same H1 H → G H)
    (hs : ∀ i x H H', i < n → Same H1 H → H D = some (.lst (tkV ys i)) → Y i H x H' → g x (wipe σ vs) H' fun σ2 H2 => wipe σ2 vs = wipe σ vs ∧ tt σ2 H2 fun b H3 =>
      if b = true then te σ2 H3 fun y H4 => ∃ acc, H4 D = some (.lst acc) ∧ acc.length < sizeLine ∧ PvM H1 D (tkV ys) (i + 1) (upd H4 D (.lst (acc ++ [y]))) else PvM H1 D (tkV ys) (i + 1) H3) (hd : ∀ H, Same H1 H → H D = some (.lst ys) → Qd H) :
    ∃ W : Nat → Nat → Hp → Prop, (∃ m, W 0 m (upd H1 D (.lst []))) ∧ ∀ i m H, W i m H →
      (J.stop i H ∧ Qd H) ∨ (J.go i H ∧ ∃ Nx : Hp → Prop, (∀ H', Nx H' → ∃ m', m' < m ∧ W (i + 1) m' H') ∧ ∀ x H', J.yld i H x H' → g x (wipe σ vs) H' fun σ2 H2 => wipe σ2 vs = wipe σ vs ∧ tt σ2 H2 fun b H3 =>
        if b = true then te σ2 H3 fun y H4 => ∃ acc, H4 D = some (.lst acc) ∧ acc.length < sizeLine ∧ Nx (upd H4 D (.lst (acc ++ [y]))) else Nx H3) :=
  lcW w (tkV ys) hD rfl hG hs fun H s h => hd H s (by rw [h, ← hl, tkV_all])
end
-- part menu
theorem allN {R : V → Prop} : ∀ x ∈ ([] : List V), R x := fun _ h => nomatch h
theorem allC {R : V → Prop} {a : V} {l : List V} (h : R a) (t : ∀ x ∈ l, R x) : ∀ x ∈ a :: l, R x := fun x hx => by
  rcases List.mem_cons.mp hx with e | e
  · rw [e]
    exact h
  · exact t x e
/-- an item at an open place in bounds -/
theorem at_some {xs : List V} {v : Int} (h0 : 0 ≤ v) (h1 : v < xs.length) : ∃ x, atI xs v = some x ∧ x ∈ xs := by
  have hv : ((v.toNat : Nat) : Int) = v := Int.toNat_of_nonneg h0
  have hl : v.toNat < xs.length := by omega
  have z : atI xs ((v.toNat : Nat) : Int) = some xs[v.toNat] := atI_nat (List.getElem?_eq_getElem hl)
  rw [hv] at z
  exact ⟨xs[v.toNat], z, List.getElem_mem hl⟩
def SameBut (p : Addr) (H H' : Hp) : Prop := ∀ b o, b ≠ p → H b = some o → H' b = some o
theorem SameBut.of {p : Addr} {H H' : Hp} (e : ∀ q, q ≠ p → H' q = H q) : SameBut p H H' := fun b o hb h => by
  rw [e b hb]
  exact h
theorem SameBut.trans {p : Addr} {H H1 H2 : Hp} (a : SameBut p H H1) (b : SameBut p H1 H2) : SameBut p H H2 := fun c o hc h => b c o hc (a c o hc h)
theorem sbut {p : Addr} {H H' : Hp} (s : Same H H') : SameBut p H H' := fun b o _ h => s b o h
/-- what was tracked ahead of the pool -/
theorem SameBut.same {p : Addr} {H0 H H' : Hp} (s : Same H0 H) (np : H0 p = none) (e : SameBut p H H') : Same H0 H' := fun b o h => e b o (ne_of_none h np) (s b o h)
theorem PoolAt.same {H H' : Hp} {p : Addr} (h : PoolAt H p) (s : Same H H') : PoolAt H' p := by
  obtain ⟨x, y, z, e⟩ := h
  exact ⟨x, y, z, s _ _ e⟩
theorem PoolAt.new {H : Hp} {p a : Addr} (h : PoolAt H p) (n : H a = none) : a ≠ p := fun e => by
  obtain ⟨x, y, z, q⟩ := h
  rw [e, q] at n
  cases n
-- part eqints
theorem eqvAll_ints : ∀ l m : List Int, PyData.eqvAll (l.map PyData.int) (m.map PyData.int) = decide (l = m)
  | [], [] => by rw [List.map_nil, PyData.eqvAll]; rfl
  | [], b :: m => by rw [List.map_nil, List.map_cons, PyData.eqvAll] <;> first | (exact (decide_eq_false (by simp)).symm) | skip
  | a :: l, [] => by rw [List.map_nil, List.map_cons, PyData.eqvAll] <;> first | (exact (decide_eq_false (by simp)).symm) | skip
  | a :: l, b :: m => by
    rw [List.map_cons, List.map_cons, PyData.eqvAll, PyData.eqv, eqvAll_ints l m]
    by_cases c : a = b
    · subst c
      by_cases c2 : l = m
      · subst c2
        simp
      · simp [c2]
    · simp [c]
theorem eqv_ints (l m : List Int) : PyData.eqv (.list (l.map PyData.int)) (.list (m.map PyData.int)) = decide (l = m) := by
  rw [PyData.eqv]
  exact eqvAll_ints l m
theorem eqv_intsT (l m : List Int) : PyData.eqv (.tuple (l.map PyData.int)) (.tuple (m.map PyData.int)) = decide (l = m) := by
  rw [PyData.eqv]
  exact eqvAll_ints l m
theorem canLay_ints : ∀ l : List Int, PyData.canLayAll0 (l.map PyData.int) = true
  | [] => by rw [List.map_nil, PyData.canLayAll0]
  | a :: l => by rw [List.map_cons, PyData.canLayAll0, PyData.canLay0, canLay_ints l]; rfl
theorem depth_ints : ∀ l : List Int, PyData.depthAll (l.map PyData.int) = 0
  | [] => by rw [List.map_nil, PyData.depthAll]
  | a :: l => by rw [List.map_cons, PyData.depthAll, PyData.depth, depth_ints l]; rfl
theorem shaped_ints (l : List Int) : SeqAt.shaped (.list (l.map PyData.int)) = true := by
  unfold SeqAt.shaped
  rw [PyData.canLay0, canLay_ints, PyData.depth, depth_ints]
  rfl
theorem shaped_intsT (l : List Int) : SeqAt.shaped (.tuple (l.map PyData.int)) = true := by
  unfold SeqAt.shaped
  rw [PyData.canLay0, canLay_ints, PyData.depth, depth_ints]
  rfl
theorem dpAll_ints {K : PySem.W.Frag} {H : Hp} : ∀ l : List Int, DpAll K H (l.map V.int) (l.map PyData.int)
  | [] => .nil
  | a :: l => .cons (.int a) (dpAll_ints l)
theorem dp_lst {K : PySem.W.Frag} {H : Hp} {a : Addr} {l : List Int} (h : SqL K H a (l.map V.int)) : Dp K H (.ref a) (.list (l.map PyData.int)) := .lst h (dpAll_ints l)
theorem dp_tup {K : PySem.W.Frag} {H : Hp} {a : Addr} {l : List Int} (h : SqT K H a (l.map V.int)) : Dp K H (.ref a) (.tuple (l.map PyData.int)) := .tup h (dpAll_ints l)
theorem hu64 {k : Nat} {A : Around} (hr : Room k A) : A.units + 64 < cLine := by
  have := hr.un
  omega
theorem item_int {l : List Int} {i : Nat} {y : V} (h : (l.map V.int)[i]? = some y) : ∃ z : Int, y = .int z ∧ l[i]? = some z := by
  rw [List.getElem?_map] at h
  cases e : l[i]? with
  | none =>
    rw [e] at h
    cases h
  | some z =>
    rw [e] at h
    exact ⟨z, (Option.some.inj h).symm, rfl⟩
-- part setints
/-! set(xs) of a list of ints; the walk of the list, as for a tuple -/
/-- the empty set as it is made -/
def set0 (w : World) : Obj := { cls := .type "set", dict := none, data := .set #[] 0 (.fresh 0 0 (!w.params.followText "set-order")) }
open PySem.Calls in
theorem set_of_list {P : Program} {w : World} {A : Around} {E : Value → Shared → Prop} {s : Shared} {l : Addr} {items : Array Value} (ns : List Int) {Q : Value → Shared → Prop} (hh : A.handled = none)
    (hl : s.heap.IsList l items) (hit : IntsAre items.toList ns) (hb : ns.length + 1 < scanBound)
    (h : ∀ (h' : Heap) (tk c : Nat), SetR w h' s.heap.objs.size (fun j => decide (j ∈ ns)) c → c ≤ ns.length → (∀ b o, s.heap.get? b = some o → h'.get? b = some o) →
      Q (.ref s.heap.objs.size) { s with heap := h', toks := tk }) :
    wpAny (model P w) A (call (.type "set") [.ref l]) Q E s := by
  have size_eq : items.size = ns.length := by
    have z := IntsAre.length hit
    rwa [Array.length_toList] at z
  obtain ⟨c, tl, hmro⟩ := F.called_set.mro
  have made_set := F.called_set.made
  have sub_set := F.called_set.sub
  refine wpAny_call (codeAny_of_tree ?_)
  show wpAny _ _ (callAny (.type "set") _) _ _ _
  refine wpAny_pure ⟨Code.quiet_builtin _ (by decide +kernel), codeAny_builtin F.entry_type_call ?_⟩
  rw [Around.under_plain (weight_type_call_type "set" [.ref l] []) rfl]
  have not_type := F.called_set.notType
  have can_create := F.called_set.canCreate
  have type_call := F.typeCall_set_1 (.ref l)
  repeat (any_goals (first | assumption | wp_step))
  refine codeAny_mono (code_set_led1 (.ref l) (E := E) (Q₁ := fun obj st => obj = .ref s.heap.objs.size ∧ st = { s with heap := s.heap.push (set0 w) }) ⟨rfl, rfl⟩) fun r st hr => ?_
  cases r with
  | error e => exact hr
  | ok fl =>
    cases fl with
    | ret obj =>
      obtain ⟨rfl, rfl⟩ := hr
      have at_set : (s.heap.push (set0 w)).get? s.heap.objs.size = some (set0 w) := Heap.get?_push_size _ rfl
      have is_set : Shared.TypeIs { s with heap := s.heap.push (set0 w) } (.ref s.heap.objs.size) "set" := ⟨_, at_set, rfl⟩
      have init_look := F.called_set.init.lookup
      have init_bind := F.called_set.init.bind (.ref s.heap.objs.size)
      repeat (any_goals (first | assumption | wp_step))
      refine codeAny_mono (codeAny_call_builtin (R := wants (fun r t => r = .none ∧ ∃ h' tk c, t = { s with heap := h', toks := tk } ∧ SetR w h' s.heap.objs.size (fun j => decide (j ∈ ns)) c ∧
        c ≤ ns.length ∧ (∀ b o, s.heap.get? b = some o → h'.get? b = some o)) E) F.called_set.init.plain F.entry_set_init (check_set_init_1 is_set ?_)) fun r₂ s₂ hr₂ => ?_
      · obtain ⟨ol, hol, hcl, nl, hdl⟩ := hl
        obtain ⟨ocls, odict, odata, oslots⟩ := ol
        simp only at hcl hdl
        subst hcl
        subst hdl
        have hol' : (s.heap.push (set0 w)).get? l = some { cls := .type "list", dict := odict, data := .seq items nl, slots := oslots } := Heap.get?_push_of_some _ hol
        have no_set := F.sub_list_set
        have no_frozen := F.sub_list_frozenset
        have no_dict : (Value.type "list" == Value.type "dict") = false := by decide
        have list1 : (s.heap.push (set0 w)).IsList l items := ⟨_, hol', rfl, nl, rfl⟩
        unfold Builtin.«set.__init__» noKeywords Builtin.Frozenset.updateFrom
        generalize iter_is : pyIter = PI
        wp_walk
        subst iter_is
        refine wpAny_pyIter_list list1 ?_
        refine wpAny_bind (wpAny_runValue ?_)
        have l_old : l < s.heap.objs.size := Heap.lt_size hol
        have calm3 : A.in1.in1.in1.handled = none := by simp [hh]
        have next_is : (s.heap.push (set0 w)).objs.size = s.heap.objs.size + 1 := Heap.size_push ..
        have l_ne : l ≠ (s.heap.push (set0 w)).objs.size := by
          rw [next_is]
          exact Nat.ne_of_lt (Nat.lt_succ_of_lt l_old)
        have off : s.heap.objs.size ∉ [(s.heap.push (set0 w)).objs.size, l] := by
          rw [next_is]
          simp only [List.mem_cons, List.not_mem_nil, or_false, not_or]
          exact ⟨Nat.ne_of_lt (Nat.lt_succ_self _), Nat.ne_of_gt l_old⟩
        have vals : ∀ (i : Nat) (v : Value), items[i]? = some v → ∃ k t, ns[i]? = some k ∧ v = .int k t := fun i v hv => by
          have lt : i < ns.length := by
            rw [← size_eq]
            exact (Array.getElem?_eq_some_iff.mp hv).1
          obtain ⟨t, e⟩ := IntsAre.int_at hit i v (by rw [Array.getElem?_toList]; exact hv)
          refine ⟨ns[i], t, List.getElem?_eq_getElem lt, ?_⟩
          rw [e, List.getD_eq_getElem?_getD, List.getElem?_eq_getElem lt] <;> rfl
        refine set_update_ints ((Walks.list calm3 _ l l_ne items).toS) s.heap.objs.size off ns size_eq hb vals (items.size - 0) 0 _ (by omega) (Nat.zero_le _) ⟨⟨_, Heap.get?_push_size _ rfl, rfl, rfl⟩, (list1.push _)⟩ ?start ?done
        case start =>
          refine ⟨0, Nat.le_refl 0, setR_new_at ?_⟩
          exact Heap.get?_push_of_some _ at_set
        case done =>
          intro s' c' hm hc' hS'
          obtain ⟨h', g2, d', tk', os'⟩ := s'
          have eg : g2 = s.gens := hm.gens
          have ed : d' = s.drawn := hm.drawn
          have eo : os' = s.os := hm.os
          subst eg
          subst ed
          subst eo
          show wpAny _ _ _ _ _ _
          refine wpAny_pure ?_
          show wpAny _ _ (ret Value.none) _ _ _
          rw [size_eq] at hc'
          refine wpAny_pure ⟨rfl, h', tk', c', rfl, hS', hc', fun b o e => ?_⟩
          have old := Heap.lt_size e
          refine hm.heap b o ?_ (Heap.get?_push_of_some _ (Heap.get?_push_of_some _ e))
          rw [next_is]
          simp only [List.mem_cons, List.not_mem_nil, or_false, not_or]
          exact ⟨Nat.ne_of_lt old, Nat.ne_of_lt (Nat.lt_succ_of_lt old)⟩
      · cases r₂ with
        | error e => exact hr₂
        | ok fl₂ =>
          cases fl₂ with
          | ret r =>
            obtain ⟨rfl, h', tk, c', rfl, hS', hc', hk'⟩ := hr₂
            repeat (any_goals (first | assumption | wp_step))
            exact h _ _ _ hS' hc' hk'
          | _ => exact hr₂.elim
    | _ => exact hr.elim
/-- set(xs): xs a list or a tuple of ints -/
def rSetInts (K : PySem.W.Frag) (w : World) : List V → Hp → VK → Prop := fun xs H Q => ∃ (a : Addr) (ns : List Int), xs = [.ref a] ∧ (SqL K H a (ns.map V.int) ∨ SqT K H a (ns.map V.int)) ∧ ns.length ≤ 1000 ∧
  ∀ p c, H p = none → c ≤ ns.length → Q (.ref p) (upd H p (SetO w p (fun j => decide (j ∈ ns)) c))
theorem cr_setInts {X : Cx} (hc : X.calm = true) : CallR X (.type "set") (rSetInts X.K X.w) := by
  intro pins s σ H vs us Q I r h
  obtain ⟨a, ns, rfl, hq, hl, q⟩ := h
  cases r with
  | cons r1 r2 =>
    cases r2
    cases r1
    have few : ns.length + 1 < scanBound := by unfold scanBound; omega
    have fresh : H s.heap.objs.size = none := I.hok.fresh (Nat.le_refl _)
    have fin : ∀ (h' : Heap) (tk c : Nat), SetR X.w h' s.heap.objs.size (fun j => decide (j ∈ ns)) c → c ≤ ns.length → (∀ b o, s.heap.get? b = some o → h'.get? b = some o) →
        EP X pins σ Q (.ref s.heap.objs.size) { s with heap := h', toks := tk } := fun h' tk c hS hle keep =>
      ⟨.ref s.heap.objs.size, upd H s.heap.objs.size (SetO X.w s.heap.objs.size (fun j => decide (j ∈ ns)) c), I.laid (t' := tk) keep (Nat.le_refl _) (setO_new hS), rfl, q _ _ fresh hle⟩
    rcases hq with hq | hq
    · obtain ⟨its, r, pl, hz⟩ := I.list hq
      exact set_of_list ns (I.ok.hd hc) pl.isList (by simpa using RZ.intsAre_vals r) few fin
    · obtain ⟨its, r, pl, hz⟩ := I.tuple hq
      exact call_set_tupI ns (I.ok.hd hc) pl (by simpa using RZ.intsAre_vals r) few fin
-- part dictt
/-! dicts with tuple keys: their pairs walked, comprehensions, ==, one written pair, the values -/
theorem frzTV {X : Cx} {pins : List (Addr × Obj)} {σ : L2.St} {H : Hp} {s : Shared} {d : Addr} {o : Obj} {kvs : List (List Key × V)} (I : Inv X pins σ H s) (h : H d = some (.frz o (.dT kvs))) :
    (d == sysModules) = false ∧ s.heap.get? d = some o ∧ o.ExactDict ∧ ∃ (es : Array DictEntry) (ep : Nat), o.data = .dict es ep ∧ es.size = kvs.length ∧
      ∀ (i : Nat) (k : List Key) (v : V), kvs[i]? = some (k, v) → ∃ (en : DictEntry) (q : Addr), es[i]? = some en ∧ en.key = .ref q ∧ RelV v en.val ∧ H q = some (.tup (k.map kV)) := by
  obtain ⟨at_o, _, notSys, rows, rel, o2, es, ep, at_2, exact2, data2, ents, _⟩ := I.hok d _ h
  rw [at_o] at at_2
  cases at_2
  have n1 := size_of_entries ents
  have n2 : kvs.length = rows.length := Paired.length rel
  refine ⟨notSys, at_o, exact2, es, ep, data2, by omega, fun i k v e => ?_⟩
  obtain ⟨row, here, _, tup, val⟩ := paired_get rel e
  have z := entry_at ents i
  rw [here] at z
  exact ⟨_, row.2.1, z, rfl, val, tup⟩
/-- the pairs of the locked dict, each a new tuple of the key's own tuple and the value -/
def ItiT (d : Addr) (o : Obj) (kvs : List (List Key × V)) : It :=
  ⟨fun i H => H d = some (.frz o (.dT kvs)) ∧ i < kvs.length, fun i H x H' => ∃ T k v q, kvs[i]? = some (k, v) ∧ H q = some (.tup (k.map kV)) ∧ x = .ref T ∧ H T = none ∧ H' = upd H T (.tup [.ref q, v]), fun i H => H d = some (.frz o (.dT kvs)) ∧ kvs.length ≤ i⟩
theorem turn_itemsT {P : Program} {w : World} {K : PySem.W.Frag} {d : Addr} {o : Obj} {es : Array DictEntry} {ep : Nat} {kvs : List (List Key × V)} {elts : List Expr} {kk : Nat} {tpos : Pos} (it : Addr) (hod : o.data = .dict es ep) :
    Turn P w K (.Tuple elts kk tpos) (ItiT d o kvs) [it] it (fun i h => ∃ ok ov, IsItemIter h it d i kvs.length ep ok ov) where
  mem := List.mem_singleton.mpr rfl
  obj := fun i h st b hb => by
    obtain ⟨ok, ov, e⟩ := st
    rw [List.mem_singleton.mp hb]
    exact ⟨_, e, fun v z => nomatch z⟩
  keep := fun i h h' st k => by
    obtain ⟨ok, ov, e⟩ := st
    exact ⟨ok, ov, k it (List.mem_singleton.mpr rfl) _ e⟩
  item := by
    intro X eP ew eK calm i pins s σ H E I hf st go
    subst eP ew eK
    obtain ⟨hd, hi⟩ := go
    obtain ⟨notSys, at_o, exact2, es2, ep2, data2, size2, ent⟩ := frzTV I hd
    obtain ⟨rfl, rfl⟩ := dict_ep hod data2
    have hkv : kvs[i]? = some kvs[i] := List.getElem?_eq_getElem hi
    generalize kvs[i] = kv at hkv
    obtain ⟨k, v⟩ := kv
    obtain ⟨en, q, hen, hkey, rv, tup⟩ := ent i k v hkv
    obtain ⟨ok, ov, he⟩ := st
    rw [← size2] at he
    have hlt : it < s.heap.objs.size := Heap.lt_size he
    have hes : i < es2.size := by omega
    have een : es2[i] = en := by
      rw [Array.getElem?_eq_getElem hes] at hen
      exact Option.some.inj hen
    refine DT.nextI (es := es2) he ⟨o, at_o, exact2, hod⟩ hes fun h1 out at_T size1 kept => ?_
    rw [een, hkey] at at_T
    refine ⟨_, rfl, wpAny_letOwnedTupleGo_items (s := { s with heap := h1 }) out fun h2 back sb => ?_⟩
    have at_T2 : h2.get? s.heap.objs.size = some { cls := .type "tuple", data := .seq #[.ref q, en.val] } := (sb.2 _ (Nat.ne_of_gt hlt)).trans at_T
    have new : ObjOk X.prog X.w (upd H s.heap.objs.size (.tup [.ref q, v])) h2 s.heap.objs.size (.tup [.ref q, v]) :=
      ⟨by show 2 ≤ sizeLine; decide, [.ref q, en.val], .cons rfl (.cons rv .nil), ⟨_, at_T2, rfl, _, rfl⟩⟩
    have I1 : Inv X pins σ (upd H s.heap.objs.size (.tup [.ref q, v])) { s with heap := h2 } :=
      I.turnedNew (t' := s.toks) (ch := [it]) (fun b ob hb e => (sb.2 b (fun z => hb (by rw [z]; exact List.mem_singleton.mpr rfl))).trans (kept b ob (fun z => hb (by rw [z]; exact List.mem_singleton.mpr rfl)) e)) hf (Nat.le_refl _) new
    refine ⟨.ref s.heap.objs.size, _, I1, rfl, ⟨_, k, v, q, hkv, tup, rfl, I.hok.fresh (Nat.le_refl _), rfl⟩, ⟨es2[i].key, es2[i].val, ?_⟩, fun b hb => ?_⟩
    · show IsItemIter h2 it d (i + 1) kvs.length _ _ _
      rw [← size2]
      exact back
    · rw [List.mem_singleton.mp hb, upd_ne (Nat.ne_of_lt hlt)]
      exact (hf it (List.mem_singleton.mpr rfl)).1
  done := by
    intro X eP ew eK calm i pins s σ H E I hf st go
    subst eP ew eK
    obtain ⟨hd, hi⟩ := go
    obtain ⟨f0, f1, f2, f3, f4, f5⟩ := hf it (List.mem_singleton.mpr rfl)
    obtain ⟨notSys, at_o, exact2, es2, ep2, data2, size2, ent⟩ := frzTV I hd
    obtain ⟨rfl, rfl⟩ := dict_ep hod data2
    obtain ⟨ok, ov, he⟩ := st
    rw [← size2] at he
    exact DT.endI (I.ok.hd calm) he ⟨o, at_o, exact2, hod⟩ (by omega) fun h1 eb => ⟨rfl, I.turned (t' := s.toks) (fun b ob hb e => eb b ob hb e) f0 f1 f3 f4 f5⟩
  self := fun A i s Q E st h => by
    obtain ⟨_, _, e⟩ := st
    exact PySem.W.kcp_self e h
def iItemsT (td : TE) : TI := fun σ H R => td σ H fun x H1 => ∃ d o kvs, x = .ref d ∧ H1 d = some (.frz o (.dT kvs)) ∧ R (ItiT d o kvs) H1
theorem pi_itemsT {X : Cx} {e : Expr} {td : TE} {apos cpos tpos : Pos} {elts : List Expr} {kk : Nat} (he : PE X e td) (hbase : attributeBase e "items" X.env (eval e X.env) = eval e X.env := by rfl) (hline : (apos.endLine == cpos.line) = true := by rfl) :
    PI X (.Tuple elts kk tpos) (.Call (.Attribute e "items" apos) [] [] cpos) (iItemsT td) := by
  refine ⟨fun pins s σ H R I h => ?_⟩
  refine wpAny_Call_method (T := "dict") (id := "dict.items") hbase rfl hline F.plainAttrs_dict F.slot_dict_items F.type_dict_items (thn (he.run pins s σ H _ I h) fun u s1 ⟨x, H1, I1, rx, d, o, kvs, ex, hd, q⟩ => ?_)
  subst ex
  obtain rfl : u = Value.ref d := rx
  obtain ⟨notSys, at_o, exact2, es, ep, data2, size2, ent⟩ := frzTV I1 hd
  have raw : DT.Raw s1.heap d es ep := ⟨o, at_o, exact2, data2⟩
  refine ⟨raw.typeIs, fun b z => ⟨o, by cases z; exact at_o, exact2.2.1⟩, ?_⟩
  have I2 : Inv X pins σ H1 { s1 with heap := s1.heap.push { cls := .type "dict_items", data := .fields #[.ref d] } } := I1.kept (t' := s1.toks) fun b ob q => Heap.get?_push_of_some _ q
  have fin : wpAny (model X.prog X.w) X.A (pyIter (.ref s1.heap.objs.size)) (PIE X pins σ (.Tuple elts kk tpos) R) X.xe { s1 with heap := s1.heap.push { cls := .type "dict_items", data := .fields #[.ref d] } } := by
    refine DT.iterI (d := d) (es := es) (ep := ep) ⟨_, Heap.get?_push_size _ rfl, rfl, rfl⟩ (raw.push _) (pi_one (tk := s1.toks) I2 _ (turn_itemsT _ data2) ⟨.none, .none, ?_⟩ q)
    rw [← size2]
    exact Heap.get?_push_size _ rfl
  show wpAny _ _ (callWith cpos (.builtin "dict.items") [.ref d] [] []) _ X.xe s1
  exact method_meetsIn F.slot_dict_items F.entry_dict_items rfl (PySem.evalArgs_none ⟨rfl, raw.typeIs, F.args_dict_items_1 _, _, DT.meetsItems (es := es) (ep := ep) notSys, raw, fin⟩)
/-- the pair at its turn -/
def YPairT (kvs : List (List Key × V)) : Nat → Hp → V → Hp → Prop := fun i H x H' => ∃ T k v q, kvs[i]? = some (k, v) ∧ H q = some (.tup (k.map kV)) ∧ x = .ref T ∧ H T = none ∧ H' = upd H T (.tup [.ref q, v])
theorem walk_itemsT {d : Addr} {o : Obj} {kvs : List (List Key × V)} : Walk (ItiT d o kvs) kvs.length (fun H => H d = some (.frz o (.dT kvs))) (YPairT kvs) :=
  ⟨fun i _ hi q => ⟨q, hi⟩, fun _ q => ⟨q, Nat.le_refl _⟩, fun _ _ _ _ _ _ y => y⟩
-- part dictc
/-! {k: v for .. in .. if ..}, k a tuple -/
theorem dictSetT {X : Cx} {pins : List (Addr × Obj)} {σ : L2.St} {H : Hp} {s : Shared} {E : Value → Shared → Prop} {D b : Addr} {kvs : List (List Key × V)} {k : List Key} {v : V} {r : Value} {Q : Unit → Shared → Prop} (hu : X.A.units < cLine) (I : Inv X pins σ H s) (hD : H D = some (.dT kvs)) (hz : kvs.length < sizeLine)
    (hb : H b = some (.tup (k.map kV))) (rv : RelV v r) (h : ∀ s', Inv X pins σ (upd H D (.dT (putK kvs k v))) s' → Q () s') : wpAny (model X.prog X.w) X.A (dictSet D (.ref b) r) Q E s := by
  obtain ⟨z, notSys, rows, rel, dd⟩ := dt_of I.hok hD
  have few : rows.length ≤ sizeLine := by rw [← Paired.length rel]; exact z
  have few2 : (putK kvs k v).length ≤ sizeLine := by have := length_putK kvs k v; omega
  refine wpAny_dictSet_heap (hsz := few) (knd := tupleKind (mixKind X.prog X.w)) hu (key_of I.hok hb) dd fun h1 dd1 sb => h _ ?_
  obtain ⟨o1, es, ep, at1, e1, e2, e3, _, e5⟩ := dd1
  refine d_write I (by rw [hD]; exact True.intro) sb ⟨o1, at1⟩ ⟨few2, notSys, _, (rel.put k hb rv).keeps fun c ys ec => ?_, o1, es, ep, at1, e1, e2, e3, e5⟩
  rw [upd_ne (ne_of ec hD (fun z => nomatch z))]
  exact ec
section
variable {X : Cx}
def tDcT (wi : TI) (g : TG) (tt : TT) (tk tv : TE) (own : List Nat) : TE := fun σ H Q => wi σ H fun J H1 => ∀ D, H1 D = none → ∃ W : Nat → Nat → Hp → Prop, (∃ m, W 0 m (upd H1 D (.dT []))) ∧ ∀ i m G, W i m G →
  (J.stop i G ∧ Q (.ref D) G) ∨ (J.go i G ∧ ∃ N : Hp → Prop, (∀ G', N G' → ∃ m', m' < m ∧ W (i + 1) m' G') ∧ ∀ x G', J.yld i G x G' → g x (wipe σ own) G' fun τ G2 => wipe τ own = wipe σ own ∧ tt τ G2 fun b G3 =>
    if b = true then tk τ G3 fun y G4 => tv τ G4 fun z G5 => ∃ kvs k p, y = .ref p ∧ G5 p = some (.tup (k.map kV)) ∧ G5 D = some (.dT kvs) ∧ kvs.length < sizeLine ∧ N (upd G5 D (.dT (putK kvs k z))) else N G3)
theorem dcT_core {pins : List (Addr × Obj)} {s0 : Shared} {σ : L2.St} {H : Hp} {Q : VK} {kx vx tg iter : Expr} {ifs : List Expr} {sco : Scope} {own : List (Str × Nat)} {pos pos' : Pos} {wi : TI} {g : TG} {tt : TT} {tk tv : TE} {use : Option (Value → Sem Unit)} {Qf : Value → Shared → Prop}
    (hu : X.A.units < cLine) (calm : X.calm = true) (nd : X.N.Nodup) (I : Inv X pins σ H s0) (walk : PI X tg iter wi) (blk : BlkOk X.N X.env.scope sco own)
    (pgs : ∀ (s : Shared) (H : Hp) (C : Addr) (cl : List (Str × Addr)) (fp : List Addr), PG (X.blk s H sco (compEnvC sco cl C X.env) fp) tg g) (pts : ∀ (s : Shared) (H : Hp) (C : Addr) (cl : List (Str × Addr)) (fp : List Addr), PTs (X.blk s H sco (compEnvC sco cl C X.env) fp) ifs tt)
    (pks : ∀ (s : Shared) (H : Hp) (C : Addr) (cl : List (Str × Addr)) (fp : List Addr), PE (X.blk s H sco (compEnvC sco cl C X.env) fp) kx tk)
    (pvs : ∀ (s : Shared) (H : Hp) (C : Addr) (cl : List (Str × Addr)) (fp : List Addr), PE (X.blk s H sco (compEnvC sco cl C X.env) fp) vx tv) (fold : ∀ x, foldedSetIterable iter X.env x = pure x)
    (h : tDcT wi g tt tk tv (own.map (·.2)) σ H Q)
    (out : ∀ D C t m G, Inv X pins σ G t → Q (.ref D) G → t.heap.Ns C m → FpOk X pins G C → compPost (model X.prog X.w) X.A X.xe use Qf (.ref D) C (.ok .next) t) :
    wpAny (model X.prog X.w) X.A (comprehension (.DictComp kx vx [⟨tg, iter, ifs, 0⟩] sco pos) sco X.env pos' newDict false (eval iter X.env) use) Qf X.xe s0 := by
  have closed : ∀ y ∈ sco.names, y.2 = .free → ∃ c, X.env.cells.lookup y.1 = some c := fun y hy e => by
    rcases blk.free y hy e with k | k
    · exact I.ok.has _ (.inl k)
    · exact I.ok.has _ (.inr k)
  refine wpAny_comprehension_free (use := use) rfl fold (closure_ok closed) blk.kind (fun y hy e => by rw [blk.uniq y hy, e])
    (thn (walk.run pins s0 σ H _ I h) fun xv s1 hx => thn hx fun itv s2 made => ?_)
  obtain ⟨it, fp, tn, J, H2, e, I2, T, st2, f2, q⟩ := made
  subst e
  refine wpAny_newObj_type (newEnv_comp ?_)
  generalize eD : s2.heap.objs.size = D
  have nD : H2 D = none := I2.hok.fresh (Nat.le_of_eq eD)
  obtain ⟨W, ⟨m0, w0⟩, turn⟩ := q D nD
  -- the new dict
  generalize es3 : ({ s2 with heap := s2.heap.push { cls := .type "dict", data := .dict #[] } } : Shared) = s3
  have I3 : Inv X pins σ (upd H2 D (.dT [])) s3 := by
    rw [← es3]
    refine I2.laid (t' := s2.toks) (fun b o e => Heap.get?_push_of_some _ e) (Nat.le_of_eq eD) ?_
    rw [← eD]
    exact dt_empty s2.heap I2.big
  have heap3 : s3.heap = s2.heap.push { cls := .type "dict", data := .dict #[] } := by rw [← es3]
  have old : ∀ b ∈ fp, b < s2.heap.objs.size := fun b hb => by
    obtain ⟨o, e, _⟩ := T.obj _ _ st2 b hb
    exact Heap.lt_size e
  have f3 : ∀ b ∈ fp, FpOk X pins (upd H2 D (.dT [])) b ∧ b < s3.heap.objs.size := fun b hb => by
    have lt := old b hb
    refine ⟨⟨?_, (f2 b hb).2⟩, by rw [heap3, Heap.size_push]; exact Nat.lt_succ_of_lt lt⟩
    rw [upd_ne (by rw [← eD]; exact Nat.ne_of_lt lt)]
    exact (f2 b hb).1
  have st3 : tn 0 s3.heap := T.keep _ _ _ st2 fun b _ o e => by rw [heap3]; exact Heap.get?_push_of_some _ e
  have I4 := block_start I3 blk nd f3
  have pg := pgs s3 (upd H2 D (.dT [])) s3.heap.objs.size (cellsFrom (s3.heap.objs.size + 1) sco.names (cloFrom X.env.cells sco.names [])) fp
  have pt := pts s3 (upd H2 D (.dT [])) s3.heap.objs.size (cellsFrom (s3.heap.objs.size + 1) sco.names (cloFrom X.env.cells sco.names [])) fp
  have pk := pks s3 (upd H2 D (.dT [])) s3.heap.objs.size (cellsFrom (s3.heap.objs.size + 1) sco.names (cloFrom X.env.cells sco.names [])) fp
  have pv := pvs s3 (upd H2 D (.dT [])) s3.heap.objs.size (cellsFrom (s3.heap.objs.size + 1) sco.names (cloFrom X.env.cells sco.names [])) fp
  show codeAny _ _ (.compStart (.DictComp kx vx [⟨tg, iter, ifs, 0⟩] sco pos) 0 (.ref it) (.ref D) (compEnvC sco (cellsFrom (s3.heap.objs.size + 1) sco.names (cloFrom X.env.cells sco.names [])) s3.heap.objs.size X.env)) (compPost (model X.prog X.w) X.A X.xe use Qf (.ref D) s3.heap.objs.size) { s3 with heap := pushCells (s3.heap.push { cls := .type "dict", data := .dict #[] }) sco.names }
  have none3 : ∀ b ∈ fp, (upd H2 D (.dT [])) b = none := fun b hb => (f3 b hb).1.1
  generalize ece : compEnvC sco (cellsFrom (s3.heap.objs.size + 1) sco.names (cloFrom X.env.cells sco.names [])) s3.heap.objs.size X.env = ce at I4 pg pt pk pv ⊢
  have ceL : ce.locals = s3.heap.objs.size := by subst ece; rfl
  generalize eH3 : upd H2 D (.dT []) = H3 at I3 I4 pg pt pk pv w0 none3 f3
  generalize es4 : ({ s3 with heap := pushCells (s3.heap.push { cls := .type "dict", data := .dict #[] }) sco.names } : Shared) = s4 at I4 ⊢
  have st4 : tn 0 s4.heap := T.keep _ _ _ st3 fun b _ o e => by rw [← es4]; exact pushCells_keeps _ _ _ _ (Heap.get?_push_of_some _ e)
  have still : ∀ {τ : L2.St} {G : Hp} {t : Shared}, Inv (X.blk s3 H3 sco ce fp) [] τ G t → (∀ b ∈ fp, G b = none) → ∀ b ∈ fp, FpOk (X.blk s3 H3 sco ce fp) [] G b := fun {τ G t} J nn b hb =>
    ⟨nn b hb, (J.ok.exf b hb).1, J.ok.exfs b hb, .inl hb, fun x c e => (J.ok.exf b hb).2 x c e, fun p hp => absurd (show p ∈ ([] : List (Addr × Obj)) ++ [] from hp) (by simp)⟩
  have loop : codeAny (model X.prog X.w) X.A (.compLoop (.DictComp kx vx [⟨tg, iter, ifs, 0⟩] sco pos) 0 (.ref it) (.ref D) ce) (compPost (model X.prog X.w) X.A X.xe use Qf (.ref D) s3.heap.objs.size) s4 := by
    refine compLoop_anyD (fun n t => ∃ i G, Inv (X.blk s3 H3 sco ce fp) [] (wipe σ (own.map (·.2))) G t ∧ tn i t.heap ∧ (∀ b ∈ fp, G b = none) ∧ W i n G) ?_ m0 ⟨0, H3, I4, st4, none3, w0⟩
    rintro n s5 ⟨i, H5, I5, st5, n5, w5⟩
    rcases turn i n H5 w5 with ⟨stop, qq⟩ | ⟨go, N, less, step⟩
    · have over := T.done (X.blk s3 H3 sco ce fp) rfl rfl rfl calm i [] s5 _ H5 (fun _ _ => False) I5 (still I5 n5) st5 stop
      refine thnF over fun r s6 ⟨er, I6⟩ => ?_
      subst er
      have I7 : Inv X pins σ H5 s6 := I3.call' (ch := fp) I6.os I6.base I6.hok I6.bare fun b hb => ⟨(f3 b hb).1.2.2.2.1, (f3 b hb).1.2.1, (f3 b hb).1.2.2.2.2.1, (f3 b hb).1.2.2.2.2.2⟩
      have nC : H5 s3.heap.objs.size = none := by
        have z : H5 ce.locals = none := I6.free
        rw [ceL] at z
        exact z
      obtain ⟨m, names, _⟩ := I6.loc
      have names : s6.heap.Ns ce.locals m := names
      rw [ceL] at names
      exact out D s3.heap.objs.size s6 m H5 I7 qq names (I3.fpOk (Nat.le_refl _) nC)
    · have next := T.item (X.blk s3 H3 sco ce fp) rfl rfl rfl calm i [] s5 _ H5 (fun _ _ => False) I5 (still I5 n5) st5 go
      refine thnF next fun r s6 ⟨u, er, h6⟩ => ?_
      subst er
      refine thnF h6 fun _ s7 ⟨x, H7, I7, r7, y7, st7, n7⟩ => ?_
      have I8 := I7.pinned (still I7 n7) (T.obj _ _ st7)
      refine thnF (pg.run _ s7 _ H7 x u _ I8 r7 (step x H7 y7)) fun _ s8 ⟨σ8, H8, J8, hw8, q8⟩ => ?_
      refine thnF (pt.run _ s8 σ8 H8 _ J8 q8) fun b s9 ⟨H9, I9, q9⟩ => ?_
      have fin : ∀ {t : Shared} {G : Hp}, Inv (X.blk s3 H3 sco ce fp) ([] ++ pinsAt fp s7.heap) σ8 G t → N G → ∃ m, m < n ∧ ∃ i G, Inv (X.blk s3 H3 sco ce fp) [] (wipe σ (own.map (·.2))) G t ∧ tn i t.heap ∧ (∀ b ∈ fp, G b = none) ∧ W i m G := fun {t G} J ng => by
        obtain ⟨m', hm, w'⟩ := less G ng
        have pin : ∀ b ∈ fp, ∀ o, s7.heap.get? b = some o → t.heap.get? b = some o ∧ G b = none := fun b hb o e =>
          let z := J.pin (b, o) (List.mem_append_right _ (List.mem_append_right _ (mem_pinsAt hb e)))
          ⟨z.1, z.2.1⟩
        have len : (wipe σ (own.map (·.2))).length = σ8.length := by rw [← hw8, wipe_length]
        refine ⟨m', hm, i + 1, G, (J.unpinned (pins := [])).weak len (fun j v e => ?_), T.keep _ _ _ st7 fun b hb o e => (pin b hb o e).1, fun b hb => ?_, w'⟩
        · rw [← hw8] at e
          exact (wipe_some e).1
        · obtain ⟨o, e, _⟩ := T.obj _ _ st7 b hb
          exact (pin b hb o e).2
      cases b with
      | false =>
        simp only [Bool.false_eq_true, if_false] at q9 ⊢
        exact fin I9 q9
      | true =>
        simp only [if_true] at q9 ⊢
        refine thnF (pk.run _ s9 σ8 H9 _ I9 q9) fun z s10 ⟨yk, H10, I10, r10, q10⟩ => ?_
        refine thnF (pv.run _ s10 σ8 H10 _ I10 q10) fun z2 s11 ⟨yv, H11, I11, r11, kvs, k, p, ek, hp, hD, hz, ng⟩ => ?_
        subst ek
        obtain rfl : z = Value.ref p := r10
        exact dictSetT (X := X.blk s3 H3 sco ce fp) hu I11 hD hz hp r11 fun s12 I12 => fin I12 ng
  exact codeAny_compStart_dict loop (T.self X.A 0 _ _ _ st4 loop)
theorem pe_dcT {k : Nat} {kx vx tg iter : Expr} {ifs : List Expr} {sco : Scope} {own : List (Str × Nat)} {pos : Pos} {wi : TI} {g : TG} {tt : TT} {tk tv : TE} (hr : Room k X.A) (calm : X.calm = true) (nd : X.N.Nodup) (walk : PI X tg iter wi) (blk : BlkOk X.N X.env.scope sco own)
    (pgs : ∀ (s : Shared) (H : Hp) (C : Addr) (cl : List (Str × Addr)) (fp : List Addr), PG (X.blk s H sco (compEnvC sco cl C X.env) fp) tg g) (pts : ∀ (s : Shared) (H : Hp) (C : Addr) (cl : List (Str × Addr)) (fp : List Addr), PTs (X.blk s H sco (compEnvC sco cl C X.env) fp) ifs tt)
    (pks : ∀ (s : Shared) (H : Hp) (C : Addr) (cl : List (Str × Addr)) (fp : List Addr), PE (X.blk s H sco (compEnvC sco cl C X.env) fp) kx tk)
    (pvs : ∀ (s : Shared) (H : Hp) (C : Addr) (cl : List (Str × Addr)) (fp : List Addr), PE (X.blk s H sco (compEnvC sco cl C X.env) fp) vx tv) (fold : ∀ x, foldedSetIterable iter X.env x = pure x := by intro _; rfl) :
    PE X (.DictComp kx vx [⟨tg, iter, ifs, 0⟩] sco pos) (tDcT wi g tt tk tv (own.map (·.2))) := by
  have hu := hr.un
  refine ⟨fun pins s σ H Q I h => ?_⟩
  rw [arm_eval_DictComp]
  refine dcT_core (by omega) calm nd I walk blk pgs pts pks pvs fold h fun D C t m G J q names f => ⟨m, names, fun h2 sb => ?_⟩
  obtain ⟨f0, f1, f2, f3, f4, f5⟩ := f
  exact ⟨.ref D, G, J.turned (t' := t.toks) (fun b o hb e => (sb.2 b hb).trans e) f0 f1 f3 f4 f5, rfl, q⟩
end
/-- over any walk -/
theorem dcT_it {J : It} {n : Nat} {Gd : Hp → Prop} {Y : Nat → Hp → V → Hp → Prop} (w : Walk J n Gd Y) {g : TG} {tt : TT} {tk tv : TE} {own : List Nat} {σ : L2.St} {H1 : Hp} {D : Addr} {Qd : Hp → Prop} (Pv : Nat → Hp → Prop) (h0 : Pv 0 (upd H1 D (.dT []))) (hG : ∀ i H, i ≤ n → Pv i H → Gd H)
    (hs : ∀ i x H H', i < n → Pv i H → Y i H x H' → g x (wipe σ own) H' fun τ G2 => wipe τ own = wipe σ own ∧ tt τ G2 fun b G3 =>
      if b = true then tk τ G3 fun y G4 => tv τ G4 fun z G5 => ∃ kvs k p, y = .ref p ∧ G5 p = some (.tup (k.map kV)) ∧ G5 D = some (.dT kvs) ∧ kvs.length < sizeLine ∧ Pv (i + 1) (upd G5 D (.dT (putK kvs k z))) else Pv (i + 1) G3) (hd : ∀ H, Pv n H → Qd H) :
    ∃ W : Nat → Nat → Hp → Prop, (∃ m, W 0 m (upd H1 D (.dT []))) ∧ ∀ i m G, W i m G →
      (J.stop i G ∧ Qd G) ∨ (J.go i G ∧ ∃ N : Hp → Prop, (∀ G', N G' → ∃ m', m' < m ∧ W (i + 1) m' G') ∧ ∀ x G', J.yld i G x G' → g x (wipe σ own) G' fun τ G2 => wipe τ own = wipe σ own ∧ tt τ G2 fun b G3 =>
        if b = true then tk τ G3 fun y G4 => tv τ G4 fun z G5 => ∃ kvs k p, y = .ref p ∧ G5 p = some (.tup (k.map kV)) ∧ G5 D = some (.dT kvs) ∧ kvs.length < sizeLine ∧ N (upd G5 D (.dT (putK kvs k z))) else N G3) := by
  refine ⟨fun i m G => m = n - i ∧ i ≤ n ∧ Pv i G, ⟨n, by simp, Nat.zero_le _, h0⟩, ?_⟩
  rintro i m G ⟨rfl, hi, p⟩
  have z := hG i G hi p
  by_cases lt : i < n
  · exact .inr ⟨w.goes i G lt z, Pv (i + 1), fun G' p' => ⟨n - (i + 1), by omega, rfl, lt, p'⟩, fun x G' y => hs i x G G' lt p (w.yields i G x G' lt z y)⟩
  · have e : i = n := by omega
    subst e
    exact .inl ⟨w.stops G z, hd G p⟩
-- part dicte
/-! == of dicts with tuple keys and int values; one written pair; list(d.values()) -/
section
variable {P : Program} {w : World} {A : Around} {E : Value → Shared → Prop} {s : Shared}
abbrev Rows := List (List Key × Addr × Value)
/-- each row of the first looked up in the second -/
inductive HitsT (P : Program) (w : World) (A : Around) (s : Shared) (xb : Rows) : Rows → Bool → Prop
  | nil : HitsT P w A s xb [] true
  | miss {k : List Key} {p : Addr × Value} {r : Rows} : atKey xb k = none → HitsT P w A s xb ((k, p) :: r) false
  | hit {k : List Key} {q q' : Addr} {v y : Value} {r : Rows} {e b : Bool} : atKey xb k = some (q', y) → SeqAt.EqIn P w A s v y e → HitsT P w A s xb r b → HitsT P w A s xb ((k, q, v) :: r) (e && b)
theorem same_pairsT {nm : String} {a b : Addr} {xa xb : Rows} {r : Bool} {Q : Bool → Shared → Prop} (na : (a == sysModules) = false) (nb : (b == sysModules) = false) (room : (tupleKind (mixKind P w)).room A)
    (da : s.heap.DictOfH (tupleKind (mixKind P w)) a xa) (db : s.heap.DictOfH (tupleKind (mixKind P w)) b xb) (hits : xa.length = xb.length → HitsT P w A s xb xa r) (h : Q (xa.length == xb.length && r) s) :
    wpAny (model P w) A (Builtin.Dict.samePairs nm a b) Q E s := by
  obtain ⟨oa, ea, pa, at_a, _, data_a, ents_a, keys_a, _⟩ := da
  obtain ⟨ob, eb, pb, at_b, _, data_b, ents_b, keys_b, nd_b⟩ := db
  have la : ea.size = xa.length := size_of_entries ents_a
  have lb : eb.size = xb.length := size_of_entries ents_b
  rw [← la, ← lb] at h
  unfold Builtin.Dict.samePairs Builtin.Dict.showsAll
  rw [if_neg (show ¬ (a == sysModules) = true by rw [na]; decide), if_neg (show ¬ (b == sysModules) = true by rw [nb]; decide)]
  refine wpAny_bind (wpAny_pure (wpAny_bind (wpAny_pure ?_)))
  refine wpAny_bind (wpAny_dictEntries at_a data_a ?_)
  dsimp only
  refine wpAny_bind (wpAny_dictEntries at_b data_b ?_)
  by_cases alike : ea.size = eb.size
  case neg =>
    have ne : (ea.size == eb.size) = false := by simpa using alike
    rw [if_pos (by simpa using alike)]
    rw [ne, Bool.false_and] at h
    exact wpAny_bind (PySem.wpAny_rule (wpAny_pure h))
  case pos =>
    have good : Q r s := by simpa [alike] using h
    have hits := hits (by rw [← la, ← lb]; exact alike)
    rw [if_neg (by rw [alike]; simp)]
    refine wpAny_bind (wpAny_dictEpoch at_a data_a ?_)
    refine wpAny_bind ?_
    rw [Std.Legacy.Range.forIn_eq_forIn_range']
    simp only [Std.Legacy.Range.size, Nat.sub_zero, Nat.add_sub_cancel, Nat.div_one]
    refine wpAny_forIn_list _
      (fun left q t => t = s ∧ q = (none, ()) ∧ ∃ i, left = List.range' i (ea.size - i) ∧ i ≤ ea.size ∧ HitsT P w A s xb (xa.drop i) r)
      _ ?_ ?_ _ _ ⟨rfl, rfl, 0, by simp, Nat.zero_le _, hits⟩
    · rintro x left q t ⟨rfl, rfl, i, er, hi, now⟩
      have lt : i < ea.size := by
        rcases Nat.lt_or_ge i ea.size with h | h
        · exact h
        · rw [Nat.sub_eq_zero_of_le h] at er
          simp at er
      obtain ⟨rfl, eleft⟩ : x = i ∧ left = List.range' (i + 1) (ea.size - (i + 1)) := by
        have e : ea.size - i = (ea.size - (i + 1)) + 1 := by omega
        rw [e, List.range'_succ] at er
        injection er with h1 h2
        exact ⟨h1, h2⟩
      refine wpAny_bind (wpAny_dictEntries at_a data_a ?_)
      have ltx : x < xa.length := by rw [← la]; exact lt
      obtain ⟨k, p, v, row⟩ : ∃ k p v, xa[x] = (k, p, v) := ⟨_, _, _, rfl⟩
      have at_x : xa[x]? = some (k, p, v) := by rw [List.getElem?_eq_getElem ltx, row]
      have dropped : xa.drop x = (k, p, v) :: xa.drop (x + 1) := by rw [← row]; exact List.drop_eq_getElem_cons ltx
      have at_e : ea[x]? = some ⟨(tupleKind (mixKind P w)).hash k, .ref p, v⟩ := by
        rw [entry_at ents_a x, at_x]
        rfl
      have key : (tupleKind (mixKind P w)).is t.heap k p := keys_a _ (List.mem_of_getElem? at_x)
      rw [at_e]
      rw [dropped] at now
      show wpAny _ _ (holding [Value.ref p, v] _ >>= _) _ _ _
      refine wpAny_bind (wpAny_holding (wpAny_bind (wpAny_dictFind_heap room key at_b data_b ents_b keys_b nd_b (fun no => ?_) (fun j z hj => ?_))))
      · have none_ := atKey_none_of_get no
        cases now with
        | miss _ =>
          refine wpAny_pure ?_
          show wpAny _ _ (if (!false) = true then _ else _) _ _ _
          rw [if_pos (by decide)]
          exact wpAny_pure (wpAny_pure good)
        | hit y _ _ => rw [none_] at y; exact nomatch y
      · have some_ := atKey_of_get nd_b hj
        have at_j : eb[j]? = some ⟨(tupleKind (mixKind P w)).hash k, .ref z.1, z.2⟩ := by
          rw [entry_at ents_b j, hj]
          rfl
        refine wpAny_bind (wpAny_dictEntries at_b data_b ?_)
        rw [at_j]
        cases now with
        | miss y => rw [some_] at y; exact nomatch y
        | @hit _ _ q' _ y _ e b' hy he hr =>
          obtain rfl : z = (q', y) := Option.some.inj (some_.symm.trans hy)
          refine wpAny_holding (he _ _ ?_)
          cases e with
          | false =>
            show wpAny _ _ (if (!false) = true then _ else _) _ _ _
            rw [if_pos (by decide)]
            rw [Bool.false_and] at good
            exact wpAny_pure (wpAny_pure good)
          | true =>
            show wpAny _ _ (if (!true) = true then _ else _) _ _ _
            rw [if_neg (by decide)]
            refine wpAny_bind (wpAny_dictEpoch at_a data_a ?_)
            rw [if_neg (by simp)]
            rw [Bool.true_and]
            exact wpAny_pure ⟨rfl, rfl, x + 1, eleft, lt, hr⟩
    · rintro q t ⟨rfl, rfl, i, er, hi, now⟩
      have ei : i = ea.size := by
        rcases Nat.lt_or_ge i ea.size with h | h
        · have e : ea.size - i = (ea.size - (i + 1)) + 1 := by omega
          rw [e, List.range'_succ] at er
          exact nomatch er
        · exact Nat.le_antisymm hi h
      refine wpAny_pure ?_
      rw [ei, la, List.drop_length] at now
      cases now
      exact good
theorem eq_dictT {a b : Addr} {xa xb : Rows} {r : Bool} {Q : Value → Shared → Prop} (na : (a == sysModules) = false) (nb : (b == sysModules) = false) (hu : A.units + 1 < cLine)
    (da : s.heap.DictOfH (tupleKind (mixKind P w)) a xa) (db : s.heap.DictOfH (tupleKind (mixKind P w)) b xb) (hits : xa.length = xb.length → HitsT P w A.in1 s xb xa r) (h : Q (.bool (xa.length == xb.length && r)) s) :
    wpAny (model P w) A (compareOp .Eq (.ref a) (.ref b)) Q E s := by
  refine wpAny_richCompare_same_room (op := .Eq) da.typeIs db.typeIs PySem.F.slot_dict_eq (wpAny_call_entry PySem.F.slot_dict_eq da.typeIs PySem.F.entry_dict_eq ?_ (PySem.F.args_dict_eq_2 _ _)) (by omega)
  show wpAny _ _ (Builtin.Dict.dictSlotArgs "__eq__" ⟨[.ref a, .ref b], []⟩ >>= _) _ _ s
  refine wpAny_bind ?_
  unfold Builtin.Dict.dictSlotArgs
  refine wpAny_bind (wpAny_notOrdered_dict da.typeIs ?_)
  show wpAny _ _ (pure (Value.ref a, Value.ref b)) _ _ s
  refine wpAny_pure ?_
  refine wpAny_bind (wpAny_isInstance (T := "dict") db.typeIs PySem.F.sub_dict_dict ?_)
  simp only [Bool.not_true, Bool.false_eq_true, if_false]
  refine wpAny_bind (wpAny_pure (wpAny_bind (wpAny_pure ?_)))
  refine wpAny_bind (same_pairsT na nb (tupleKind_room_in1 hu) da db hits ?_)
  refine wpAny_pure ⟨_, rfl, (fun x => nomatch x), ?_⟩
  simpa using h
end
/-- a dict of ints by tuple keys, as values -/
def dtV (L : List (List Key × Int)) : List (List Key × V) := L.map fun e => (e.1, V.int e.2)
def lkT (L : List (List Key × Int)) (k : List Key) : Option Int := (L.find? fun e => decide (e.1 = k)).map (·.2)
def eqT (L M : List (List Key × Int)) : Bool := L.length == M.length && L.all fun e => decide (lkT M e.1 = some e.2)
theorem lkT_val (M : List (List Key × Int)) (k : List Key) : valV (dtV M) k = (lkT M k).map V.int := by
  unfold valV lkT dtV
  rw [List.find?_map]
  show ((M.find? fun e => decide (e.1 = k)).map _).map _ = ((M.find? fun e => decide (e.1 = k)).map _).map _
  cases M.find? fun e => decide (e.1 = k) <;> rfl
theorem hits_of {P : Program} {w : World} {A : Around} {s : Shared} {H : Hp} {M : List (List Key × Int)} {xb : Rows} (rb : KT H (dtV M) xb) : ∀ {L : List (List Key × Int)} {xa : Rows}, KT H (dtV L) xa → HitsT P w A s xb xa (L.all fun e => decide (lkT M e.1 = some e.2))
  | [], xa, r => by
    cases r
    exact .nil
  | e :: L, xa, r => by
    cases r with
    | @cons _ row _ rest h t =>
      obtain ⟨k, q, v⟩ := row
      obtain ⟨ek, _, rv⟩ := h
      have ek : e.1 = k := ek
      obtain ⟨tk, rfl⟩ : ∃ tk, v = Value.int e.2 tk := rv
      subst ek
      have ih := hits_of (A := A) (s := s) (P := P) (w := w) rb (L := L) t
      have val := rb.val e.1
      rw [lkT_val] at val
      rw [List.all_cons]
      cases c : lkT M e.1 with
      | none =>
        rw [c] at val
        have no : atKey xb e.1 = none := by
          cases z : atKey xb e.1 with
          | none => rfl
          | some p => rw [z] at val; exact val.elim
        rw [decide_eq_false (fun z => nomatch z), Bool.false_and]
        exact .miss no
      | some j =>
        rw [c] at val
        obtain ⟨q', y, z, ry⟩ : ∃ q' y, atKey xb e.1 = some (q', y) ∧ RelV (.int j) y := by
          cases z : atKey xb e.1 with
          | none => rw [z] at val; exact val.elim
          | some p => rw [z] at val; exact ⟨p.1, p.2, rfl, val⟩
        obtain ⟨tk2, rfl⟩ := ry
        refine .hit z (fun E Q h => wpAny_eqBool_int ?_) ih
        have : (e.2 == j) = decide (some j = some e.2) := by
          by_cases c2 : e.2 = j
          · subst c2; simp
          · simp [c2, Ne.symm c2, fun z => c2 (Eq.symm z)]
        rw [this]
        exact h
def rEqT : R2 := fun x y H Q => ∃ (a b : Addr) (L M : List (List Key × Int)), x = .ref a ∧ y = .ref b ∧ H a = some (.dT (dtV L)) ∧ H b = some (.dT (dtV M)) ∧ Q (.bl (eqT L M)) H
theorem op_eqT {X : Cx} {k : Nat} (hr : Room k X.A) : OpR X (compareOp .Eq) rEqT := by
  intro pins s σ H x y v u Q I rx ry h
  obtain ⟨a, b, L, M, rfl, rfl, ha, hb, q⟩ := h
  cases (show v = Value.ref a from rx)
  cases (show u = Value.ref b from ry)
  have hu := hr.un
  obtain ⟨_, na, xa, ra, da⟩ := dt_of I.hok ha
  obtain ⟨_, nb, xb, rb, db⟩ := dt_of I.hok hb
  refine eq_dictT (r := L.all fun e => decide (lkT M e.1 = some e.2)) na nb (by omega) da db (fun _ => hits_of rb ra) ?_
  have la : L.length = xa.length := by rw [← Paired.length ra]; unfold dtV; rw [List.length_map]
  have lb : M.length = xb.length := by rw [← Paired.length rb]; unfold dtV; rw [List.length_map]
  refine fin_bl I q ?_
  unfold eqT
  rw [la, lb]
/-- {k: v}, k a tuple -/
def tDispT (tk tv : TE) : TE := fun σ H Q => ∀ d, H d = none → tk σ (upd H d (.dT [])) fun y H1 => tv σ H1 fun v H2 => ∃ p k, y = .ref p ∧ H2 p = some (.tup (k.map kV)) ∧ H2 d = some (.dT []) ∧ Q (.ref d) (upd H2 d (.dT [(k, v)]))
theorem pe_dispT {X : Cx} {j : Nat} {ke ve : Expr} {tk tv : TE} {pos : Pos} (hr : Room j X.A) (hk : PE X ke tk) (hv : PE X ve tv) : PE X (.Dict [some ke] [ve] pos) (tDispT tk tv) := by
  have hu := hr.un
  refine ⟨fun pins s σ H Q I h => ?_⟩
  have nd := I.hok.fresh (Nat.le_refl s.heap.objs.size)
  have I1 := I.laid (a := s.heap.objs.size) (o := .dT []) (h' := s.heap.push { cls := .type "dict", data := .dict #[] }) (t' := s.toks) (fun _ _ q => Heap.get?_push_of_some _ q) (Nat.le_refl _) (dt_empty s.heap I.big)
  have room : (tupleKind (mixKind X.prog X.w)).room X.A := by show X.A.units < cLine; omega
  let Q1 : List (V × V) → Hp → Prop := fun ps H2 => match ps with
    | [(y, v)] => ∃ p k, y = .ref p ∧ H2 p = some (.tup (k.map kV)) ∧ H2 s.heap.objs.size = some (.dT []) ∧ Q (.ref s.heap.objs.size) (upd H2 s.heap.objs.size (.dT [(k, v)]))
    | _ => False
  have one := (pps_cons (pos := pos) hk hv pps_nil).run pins _ σ _ Q1 I1 (h _ nd)
  rw [arm_eval_Dict]
  have shape := zip_pairTrees [some ke] [ve] X.env pos rfl rfl
  rw [shape, dictDisplay_pairs _ (by simp [pairTrees]) (by simp [pairTrees])]
  refine wpAny_bind (wpAny_standAt (wpAny_bind (wpAny_subDictH (knd := tupleKind (mixKind X.prog X.w)) (Q := fun d s' => wpAny (model X.prog X.w) X.A (pure (Value.ref d)) (EP X pins σ Q) X.xe s') room (by simp [pairTrees]) (wpAny_mono one (fun ws s2 got => ?_) fun _ _ e => e))))
  obtain ⟨ps, H2, I2, rel, q⟩ := got
  match ps, rel, q with
  | [(y, v)], .cons (b := (u1, u2)) ⟨r1, r2⟩ .nil, q =>
    obtain ⟨p, k, rfl, hp, hd, q⟩ := q
    obtain rfl : u1 = Value.ref p := r1
    obtain ⟨_, notSys, rows, rel0, dd⟩ := dt_of I2.hok hd
    cases rel0
    refine ⟨[(k, p, u2)], ⟨rfl, rfl, key_of I2.hok hp, True.intro⟩, dd, fun h1 tk1 dd1 sb => wpAny_pure ?_⟩
    obtain ⟨o1, es, ep, at1, e1, e2, e3, _, e5⟩ := dd1
    refine ⟨.ref s.heap.objs.size, _, d_write (ob := .dT [(k, v)]) I2 (by rw [hd]; exact True.intro) sb ⟨o1, at1⟩ ⟨by show 1 ≤ sizeLine; decide, notSys, [(k, p, u2)], .cons ⟨rfl, ?_, r2⟩ .nil, o1, es, ep, at1, e1, e2, e3, by simp⟩, rfl, q⟩
    show upd H2 s.heap.objs.size _ p = some (.tup (k.map kV))
    rw [upd_ne (ne_of hp hd (fun z => nomatch z))]
    exact hp
/-- the view d.values() at p -/
def valsO (p d : Addr) : HO := .ext fun h => h.IsValuesView p d
def rValsT : V → List V → Hp → VK → Prop := fun x xs H Q => ∃ (a : Addr) (kvs : List (List Key × V)), x = .ref a ∧ xs = [] ∧ H a = some (.dT kvs) ∧ ∀ p, H p = none → Q (.ref p) (upd H p (valsO p a))
theorem mt_valsT {X : Cx} : MtR X "dict.values" rValsT := by
  intro pins s σ H x xs v us Q I rx rxs h
  obtain ⟨a, kvs, rfl, rfl, ha, q⟩ := h
  cases rx
  cases rxs
  obtain ⟨_, notSys, rows, rel, o, es, ep, at_o, ex, data, _⟩ := dt_of I.hok ha
  have free := I.hok.fresh (Nat.le_refl s.heap.objs.size)
  have raw : s.heap.DictRaw a es ep := ⟨o, at_o, ex, data⟩
  have isD : s.TypeIs (.ref a) "dict" := ⟨o, at_o, ex.1⟩
  refine call_meetsIn PySem.F.slot_dict_values isD PySem.F.entry_dict_values (PySem.F.args_dict_values_1 _) (meets_dict_values_raw a notSys) ⟨⟨es, ep, raw⟩, ?_⟩
  exact ⟨.ref s.heap.objs.size, _, I.laid (t' := s.toks) (a := s.heap.objs.size) (o := valsO s.heap.objs.size a) (fun b u e => Heap.get?_push_of_some _ e) (Nat.le_refl _) ⟨⟨_, Heap.get?_push_size _ rfl, rfl, rfl⟩, ⟨_, Heap.get?_push_size _ rfl⟩, fun h1 h2 x k => let ⟨o, ho, r⟩ := x; ⟨o, k o ho, r⟩⟩, rfl, q _ free⟩
theorem vals_get : ∀ {xs : List V} {us : List Value}, xs.length = us.length → (∀ (i : Nat) (x : V) (u : Value), xs[i]? = some x → us[i]? = some u → RelV x u) → Vals xs us
  | [], [], _, _ => .nil
  | [], _ :: _, l, _ => nomatch l
  | _ :: _, [], l, _ => nomatch l
  | x :: xs, u :: us, l, h => .cons (h 0 x u rfl rfl) (vals_get (Nat.succ.inj l) fun i y v e1 e2 => h (i + 1) y v e1 e2)
def rListVals : List V → Hp → VK → Prop := fun xs H Q => ∃ (p a : Addr) (kvs : List (List Key × V)), xs = [.ref p] ∧ H p = some (valsO p a) ∧ H a = some (.dT kvs) ∧ ∀ l, H l = none → Q (.ref l) (upd H l (.lst (kvs.map (·.2))))
theorem call_listVals {X : Cx} (calm : X.calm = true) : CallR X (.type "list") rListVals := by
  intro pins s σ H xs us Q I r h
  obtain ⟨p, a, kvs, rfl, hp, ha, q⟩ := h
  cases r with
  | @cons _ u _ rest ru rr =>
    cases rr
    obtain rfl : u = Value.ref p := ru
    obtain ⟨few, notSys, rows, rel, o, es, ep, at_o, ex, data, ents, _⟩ := dt_of I.hok ha
    have free := I.hok.fresh (Nat.le_refl s.heap.objs.size)
    have n1 : es.size = rows.length := size_of_entries ents
    have n2 : kvs.length = rows.length := Paired.length rel
    refine PySem.W.kdl_call (PySem.KdlSrc.rawValues (es := es) (ep := ep)) (I.ok.hd calm) ⟨(I.hok p _ hp).1, ⟨o, at_o, ex, data⟩⟩ (by omega) fun h1 tk1 acc c old new items => ?_
    obtain ⟨size1, items⟩ := items
    refine ⟨.ref s.heap.objs.size, _, I.laid (t' := tk1) (a := s.heap.objs.size) (o := .lst (kvs.map (·.2))) old (Nat.le_refl _) ⟨by rw [List.length_map]; exact few, acc.toList, c, ?_, by simpa using new⟩, rfl, q _ free⟩
    have n3 : acc.toList.length = acc.size := Array.length_toList
    refine vals_get (by rw [List.length_map]; omega) fun i x u e1 e2 => ?_
    rw [List.getElem?_map] at e1
    obtain ⟨kv, hkv, rfl⟩ := Option.map_eq_some_iff.mp e1
    rw [Array.getElem?_toList] at e2
    obtain ⟨hi, rfl⟩ := items i u e2
    obtain ⟨row, here, _, _, val⟩ := paired_get rel hkv
    have z := entry_at ents i
    rw [here, Array.getElem?_eq_getElem hi] at z
    rw [Option.some.inj z]
    exact val
-- part manyd
/-! such polynomials in dicts -/
def kT (k : List Str) : List Key := k.map Sum.inr
theorem kT_inj {a b : List Str} (h : kT a = kT b) : a = b := by
  induction a generalizing b with
  | nil =>
    cases b with
    | nil => rfl
    | cons y b => exact nomatch h
  | cons x a ih =>
    cases b with
    | nil => exact nomatch h
    | cons y b =>
      have h1 := (List.cons.inj h).1
      have h2 := ih (List.cons.inj h).2
      rw [h2, Sum.inr.inj h1]
theorem kT_eq (a b : List Str) : decide (kT a = kT b) = decide (a = b) := decide_eq_decide.mpr ⟨kT_inj, fun h => by rw [h]⟩
theorem kT_V (k : List Str) : (kT k).map kV = k.map V.str := by
  unfold kT
  rw [List.map_map]
  rfl
def tmV (L : FS) : List (List Key × V) := L.map fun e => (kT e.1, V.int e.2)
theorem tmV_len (L : FS) : (tmV L).length = L.length := List.length_map _
theorem tmV_at {L : FS} {i : Nat} {e : List Str × Int} (h : L[i]? = some e) : (tmV L)[i]? = some (kT e.1, V.int e.2) := by
  unfold tmV
  rw [List.getElem?_map, h]
  rfl
theorem tmV_dt (L : FS) : tmV L = dtV (L.map fun e => (kT e.1, e.2)) := by
  unfold tmV dtV
  rw [List.map_map]
  rfl
def lkS (L : FS) (k : List Str) : Option Int := (L.find? fun e => decide (e.1 = k)).map (·.2)
theorem lkS_nil (k : List Str) : lkS [] k = none := rfl
theorem lkS_cons (e : List Str × Int) (L : FS) (k : List Str) : lkS (e :: L) k = if e.1 = k then some e.2 else lkS L k := by
  unfold lkS
  rw [List.find?_cons]
  by_cases c : e.1 = k
  · rw [decide_eq_true c, if_pos c]
    rfl
  · rw [decide_eq_false c, if_neg c]
theorem tm_val (L : FS) (k : List Str) : valV (tmV L) (kT k) = (lkS L k).map V.int := by
  induction L with
  | nil => rfl
  | cons e L ih =>
    show valV ((kT e.1, V.int e.2) :: tmV L) (kT k) = _
    rw [lkS_cons]
    by_cases c : e.1 = k
    · rw [if_pos c, valV_pos (by rw [c])]
      rfl
    · rw [if_neg c, valV_neg (fun h => c (kT_inj h)), ih]
theorem lkS_none {L : FS} {k : List Str} : lkS L k = none ↔ k ∉ L.map (·.1) := by
  induction L with
  | nil => simp [lkS]
  | cons e L ih =>
    rw [lkS_cons, List.map_cons, List.mem_cons]
    by_cases c : e.1 = k
    · rw [if_pos c]
      exact ⟨(fun h => by cases h), fun h => absurd (.inl c.symm) h⟩
    · rw [if_neg c, ih]
      exact ⟨fun h => fun z => z.elim (fun y => c y.symm) h, fun h z => h (.inr z)⟩
theorem lkS_some {L : FS} {k : List Str} {c : Int} (h : lkS L k = some c) : (k, c) ∈ L := by
  unfold lkS at h
  obtain ⟨e, he, rfl⟩ := Option.map_eq_some_iff.mp h
  have h1 := List.mem_of_find?_eq_some he
  have h2 := List.find?_some he
  rw [← of_decide_eq_true h2]
  exact h1
theorem lkS_mem {L : FS} (nd : (L.map (·.1)).Nodup) {e : List Str × Int} (h : e ∈ L) : lkS L e.1 = some e.2 := by
  induction L with
  | nil => cases h
  | cons f L ih =>
    rw [List.map_cons, List.nodup_cons] at nd
    rw [lkS_cons]
    rcases List.mem_cons.mp h with rfl | h
    · rw [if_pos rfl]
    · rw [if_neg (fun z => nd.1 (by rw [z]; exact List.mem_map.mpr ⟨e, h, rfl⟩))]
      exact ih nd.2 h
def putS (L : FS) (k : List Str) (c : Int) : FS := if (lkS L k).isSome = true then L.map fun e => if e.1 = k then (e.1, c) else e else L ++ [(k, c)]
theorem tm_any (L : FS) (k : List Str) : ((tmV L).any fun kv => decide (kv.1 = kT k)) = (lkS L k).isSome := by
  rw [valV_any, tm_val, Option.isSome_map]
theorem tm_put (L : FS) (k : List Str) (c : Int) : putK (tmV L) (kT k) (.int c) = tmV (putS L k c) := by
  unfold putK putS
  rw [tm_any]
  by_cases h : (lkS L k).isSome = true
  · rw [if_pos h, if_pos h]
    unfold tmV
    rw [List.map_map, List.map_map]
    refine List.map_congr_left fun e _ => ?_
    show (if kT e.1 = kT k then _ else _) = (kT (if e.1 = k then (e.1, c) else e).1, V.int (if e.1 = k then (e.1, c) else e).2)
    by_cases z : e.1 = k
    · rw [if_pos z, if_pos (by rw [z])]
    · rw [if_neg z, if_neg (fun y => z (kT_inj y))]
  · rw [if_neg h, if_neg h]
    unfold tmV
    rw [List.map_append]
    rfl
structure Good (L : FS) : Prop where
  nd : (L.map (·.1)).Nodup
  st : ∀ e ∈ L, e.1.Pairwise leN
theorem Good.nil : Good [] := ⟨.nil, fun e h => nomatch h⟩
theorem cf_good {L : FS} (g : Good L) (k : List Str) : cf L k = (lkS L k).getD 0 := by
  obtain ⟨nd, st⟩ := g
  induction L with
  | nil => rfl
  | cons e L ih =>
    rw [List.map_cons, List.nodup_cons] at nd
    have ih := ih nd.2 fun f h => st f (List.mem_cons_of_mem _ h)
    have se := srt_id (st e List.mem_cons_self)
    show (if srt e.1 = k then e.2 else 0) + cf L k = _
    rw [se, lkS_cons]
    by_cases c : e.1 = k
    · rw [if_pos c, if_pos c, ih, lkS_none.mpr (by rw [← c]; exact nd.1)]
      simp
    · rw [if_neg c, if_neg c, ih, Int.zero_add]
theorem put_mem {L : FS} {k : List Str} {c : Int} {e : List Str × Int} (h : e ∈ putS L k c) : e = (k, c) ∨ e ∈ L := by
  unfold putS at h
  by_cases z : (lkS L k).isSome = true
  · rw [if_pos z] at h
    obtain ⟨f, hf, rfl⟩ := List.mem_map.mp h
    by_cases y : f.1 = k
    · rw [if_pos y, y]; exact .inl rfl
    · rw [if_neg y]; exact .inr hf
  · rw [if_neg z] at h
    rcases List.mem_append.mp h with h | h
    · exact .inr h
    · exact .inl (List.mem_singleton.mp h)
theorem put_keys {L : FS} {k : List Str} {c : Int} : (putS L k c).map (·.1) = if (lkS L k).isSome = true then L.map (·.1) else L.map (·.1) ++ [k] := by
  unfold putS
  by_cases z : (lkS L k).isSome = true
  · rw [if_pos z, if_pos z, List.map_map]
    refine List.map_congr_left fun e _ => ?_
    show (if e.1 = k then (e.1, c) else e).1 = e.1
    by_cases y : e.1 = k
    · rw [if_pos y]
    · rw [if_neg y]
  · rw [if_neg z, if_neg z, List.map_append]
    rfl
theorem Good.put {L : FS} (g : Good L) {k : List Str} {c : Int} (sk : k.Pairwise leN) : Good (putS L k c) := by
  refine ⟨?_, fun e he => ?_⟩
  · rw [put_keys]
    by_cases z : (lkS L k).isSome = true
    · rw [if_pos z]; exact g.nd
    · rw [if_neg z]
      have none_ : lkS L k = none := by
        cases y : lkS L k with
        | none => rfl
        | some x => rw [y] at z; exact absurd rfl z
      refine List.nodup_append.mpr ⟨g.nd, List.nodup_cons.mpr ⟨(fun h => by cases h), .nil⟩, fun a ha b hb e => ?_⟩
      rw [List.mem_singleton.mp hb] at e
      rw [e] at ha
      exact lkS_none.mp none_ ha
  · rcases put_mem he with rfl | h
    · exact sk
    · exact g.st e h
theorem lkS_put (L : FS) (k m : List Str) (c : Int) : lkS (putS L k c) m = if m = k then some c else lkS L m := by
  have h := congrArg (fun kvs => valV kvs (kT m)) (tm_put L k c)
  simp only [valV_put, tm_val] at h
  by_cases z : m = k
  · rw [if_pos (by rw [z])] at h
    rw [if_pos z]
    cases y : lkS (putS L k c) m with
    | none => rw [y] at h; exact nomatch h
    | some x => rw [y] at h; rw [V.int.inj (Option.some.inj h)]
  · rw [if_neg (fun y => z (kT_inj y))] at h
    rw [if_neg z]
    cases y : lkS (putS L k c) m with
    | none =>
      rw [y] at h
      cases y2 : lkS L m with
      | none => rfl
      | some x => rw [y2] at h; exact nomatch h
    | some x =>
      rw [y] at h
      cases y2 : lkS L m with
      | none => rw [y2] at h; exact nomatch h
      | some x2 => rw [y2] at h; rw [V.int.inj (Option.some.inj h)]
theorem cf_put {L : FS} (g : Good L) {k : List Str} {c : Int} (sk : k.Pairwise leN) (m : List Str) : cf (putS L k c) m = if m = k then c else cf L m := by
  rw [cf_good (g.put sk), cf_good g, lkS_put]
  by_cases z : m = k
  · rw [if_pos z, if_pos z]; rfl
  · rw [if_neg z, if_neg z]
theorem put_len (L : FS) (k : List Str) (c : Int) : (putS L k c).length ≤ L.length + 1 := by
  unfold putS
  split
  · rw [List.length_map]; omega
  · rw [List.length_append]; exact Nat.le_refl _
/-- added at a key -/
theorem cf_bump {L : FS} (g : Good L) {k : List Str} {c : Int} (sk : k.Pairwise leN) (m : List Str) : cf (putS L k ((lkS L k).getD 0 + c)) m = cf L m + cf [(k, c)] m := by
  rw [cf_put g sk, ← cf_good g]
  show _ = cf L m + ((if srt k = m then c else 0) + 0)
  rw [srt_id sk, Int.add_zero]
  by_cases z : m = k
  · rw [if_pos z, if_pos z.symm, z]
  · rw [if_neg z, if_neg (fun y => z y.symm), Int.add_zero]
structure Terms (L : FS) : Prop where
  gd : Good L
  nz : ∀ e ∈ L, e.2 ≠ 0
def nzS (L : FS) : FS := L.filter fun e => !decide (e.2 = 0)
theorem cf_nz (L : FS) (m : List Str) : cf (nzS L) m = cf L m := by
  induction L with
  | nil => rfl
  | cons e L ih =>
    unfold nzS at ih ⊢
    rw [List.filter_cons]
    by_cases c : e.2 = 0
    · rw [decide_eq_true c]
      simp only [Bool.not_true, Bool.false_eq_true, if_false, cf]
      rw [ih, c]
      simp
    · rw [decide_eq_false c]
      simp only [Bool.not_false, if_true, cf]
      rw [ih]
theorem Terms.of {L : FS} (g : Good L) : Terms (nzS L) := ⟨⟨(g.nd.sublist (List.Sublist.map _ List.filter_sublist)), fun e he => g.st e (List.mem_filter.mp he).1⟩, fun e he => by
  have := (List.mem_filter.mp he).2
  intro z
  rw [z] at this
  exact nomatch this⟩
theorem pol_nz (L : FS) : pol (nzS L) = pol L := pol_eq.mpr (cf_nz L)
theorem perm_of_sub : ∀ {L M : List (List Str × Int)}, L.Nodup → (∀ e ∈ L, e ∈ M) → ∃ N, M.Perm (L ++ N)
  | [], M, _, _ => ⟨M, .refl _⟩
  | e :: L, M, nd, h => by
    obtain ⟨n1, n2⟩ := List.nodup_cons.mp nd
    have pe := List.perm_cons_erase (h e List.mem_cons_self)
    obtain ⟨N, hN⟩ := perm_of_sub (M := M.erase e) n2 fun f hf => (List.mem_erase_of_ne (fun z => n1 (by rw [← z]; exact hf))).mpr (h f (List.mem_cons_of_mem _ hf))
    exact ⟨N, pe.trans (hN.cons e)⟩
theorem nodup_of_keys {L : FS} (h : (L.map (·.1)).Nodup) : L.Nodup := List.Pairwise.of_map (·.1) (fun _ _ hne e => hne (congrArg _ e)) h
theorem cf_perm {A B : FS} (h : A.Perm B) (m : List Str) : cf A m = cf B m := by
  induction h with
  | nil => rfl
  | cons e _ ih => simp only [cf, ih]
  | swap e f l => simp only [cf]; omega
  | trans _ _ h1 h2 => exact h1.trans h2
theorem eqT_pol {L M : FS} (tl : Terms L) (tm : Terms M) : eqT (L.map fun e => (kT e.1, e.2)) (M.map fun e => (kT e.1, e.2)) = true ↔ pol L = pol M := by
  have lk : ∀ k, lkT (M.map fun e => (kT e.1, e.2)) (kT k) = lkS M k := fun k => by
    unfold lkT lkS
    rw [List.find?_map]
    have : ((fun e : List Key × Int => decide (e.1 = kT k)) ∘ fun e : List Str × Int => (kT e.1, e.2)) = fun e => decide (e.1 = k) := funext fun e => kT_eq e.1 k
    rw [this, Option.map_map]
    rfl
  unfold eqT
  rw [List.length_map, List.length_map, List.all_map, Bool.and_eq_true, beq_iff_eq, List.all_eq_true]
  constructor
  · rintro ⟨len, all⟩
    have sub : ∀ e ∈ L, e ∈ M := fun e he => by
      have h := of_decide_eq_true (all e he)
      have h : lkT (M.map fun e => (kT e.1, e.2)) (kT e.1) = some e.2 := h
      rw [lk] at h
      exact lkS_some h
    obtain ⟨N, p⟩ := perm_of_sub (nodup_of_keys tl.gd.nd) sub
    have hN : N = [] := by
      have := p.length_eq
      rw [List.length_append, len] at this
      exact List.length_eq_zero_iff.mp (by omega)
    rw [hN, List.append_nil] at p
    exact pol_eq.mpr fun m => (cf_perm p m).symm
  · intro h
    have h := pol_eq.mp h
    have sub : ∀ {L M : FS}, Terms L → Terms M → (∀ m, cf L m = cf M m) → ∀ e ∈ L, lkS M e.1 = some e.2 := fun {L M} tl tm h e he => by
      have h1 := h e.1
      rw [cf_good tl.gd, cf_good tm.gd, lkS_mem tl.gd.nd he] at h1
      cases z : lkS M e.1 with
      | none =>
        rw [z] at h1
        exact absurd h1 (tl.nz e he)
      | some c =>
        rw [z] at h1
        have : e.2 = c := h1
        rw [this]
    refine ⟨?_, fun e he => ?_⟩
    · have len : ∀ {L M : FS}, Terms L → Terms M → (∀ m, cf L m = cf M m) → L.length ≤ M.length := fun {L M} tl tm h => by
        obtain ⟨N, p⟩ := perm_of_sub (nodup_of_keys tl.gd.nd) fun e he => lkS_some (sub tl tm h e he)
        have := p.length_eq
        rw [List.length_append] at this
        omega
      exact Nat.le_antisymm (len tl tm h) (len tm tl fun m => (h m).symm)
    · show decide (lkT (M.map fun e => (kT e.1, e.2)) (kT e.1) = some e.2) = true
      rw [lk]
      exact decide_eq_true (sub tl tm h e he)
/-- the sum of the sizes of the numbers -/
def nrm : FS → Nat
  | [] => 0
  | e :: L => e.2.natAbs + nrm L
theorem nrm_append (A B : FS) : nrm (A ++ B) = nrm A + nrm B := by
  induction A with
  | nil => exact (Nat.zero_add _).symm
  | cons e A ih =>
    show e.2.natAbs + nrm (A ++ B) = e.2.natAbs + nrm A + nrm B
    rw [ih, Nat.add_assoc]
theorem nrm_mem {L : FS} {e : List Str × Int} (h : e ∈ L) : e.2.natAbs ≤ nrm L := by
  induction L with
  | nil => cases h
  | cons f L ih =>
    show _ ≤ f.2.natAbs + nrm L
    rcases List.mem_cons.mp h with rfl | h
    · exact Nat.le_add_right _ _
    · exact Nat.le_trans (ih h) (Nat.le_add_left _ _)
theorem nrm_nz (L : FS) : nrm (nzS L) = nrm L := by
  induction L with
  | nil => rfl
  | cons e L ih =>
    unfold nzS at ih ⊢
    rw [List.filter_cons]
    by_cases c : e.2 = 0
    · rw [decide_eq_true c]
      simp only [Bool.not_true, Bool.false_eq_true, if_false, nrm]
      rw [ih, c]
      simp
    · rw [decide_eq_false c]
      simp only [Bool.not_false, if_true, nrm]
      rw [ih]
theorem nrm_take_le (L : FS) (i : Nat) : nrm (L.take i) ≤ nrm L := by
  have h := nrm_append (L.take i) (L.drop i)
  rw [List.take_append_drop] at h
  omega
theorem take_snoc {α : Type} {L : List α} {i : Nat} {e : α} (h : L[i]? = some e) : L.take (i + 1) = L.take i ++ [e] := by
  rw [List.take_add_one, h]
  rfl
theorem nrm_put_some {L : FS} {k : List Str} {c d : Int} (h : lkS L k = some d) (nd : (L.map (·.1)).Nodup) : nrm (putS L k c) + d.natAbs = nrm L + c.natAbs := by
  unfold putS
  rw [if_pos (by rw [h]; rfl)]
  induction L with
  | nil => cases h
  | cons e L ih =>
    rw [List.map_cons, List.nodup_cons] at nd
    rw [lkS_cons] at h
    rw [List.map_cons]
    show (if e.1 = k then (e.1, c) else e).2.natAbs + nrm _ + _ = e.2.natAbs + nrm L + _
    by_cases z : e.1 = k
    · rw [if_pos z] at h ⊢
      have hz : e.2 = d := Option.some.inj h
      have rest : (L.map fun e => if e.1 = k then (e.1, c) else e) = L := by
        refine (List.map_congr_left (g := id) fun f hf => ?_).trans (List.map_id _)
        show (if f.1 = k then (f.1, c) else f) = f
        rw [if_neg]
        intro y
        exact nd.1 (by rw [z, ← y]; exact List.mem_map.mpr ⟨f, hf, rfl⟩)
      rw [rest, hz]
      show c.natAbs + nrm L + d.natAbs = d.natAbs + nrm L + c.natAbs
      omega
    · rw [if_neg z] at h ⊢
      have := ih h nd.2
      omega
theorem nrm_put_none {L : FS} {k : List Str} {c : Int} (h : lkS L k = none) : nrm (putS L k c) = nrm L + c.natAbs := by
  unfold putS
  rw [if_neg (by rw [h]; decide), nrm_append]
  show _ + (c.natAbs + 0) = _
  omega
theorem nrm_bump {L : FS} (nd : (L.map (·.1)).Nodup) (k : List Str) (c : Int) : nrm (putS L k ((lkS L k).getD 0 + c)) ≤ nrm L + c.natAbs := by
  cases h : lkS L k with
  | none =>
    rw [nrm_put_none h]
    show nrm L + ((0 : Int) + c).natAbs ≤ _
    rw [Int.zero_add]
    exact Nat.le_refl _
  | some d =>
    have := nrm_put_some (c := d + c) h nd
    have h2 := Int.natAbs_add_le d c
    show nrm (putS L k (d + c)) ≤ _
    omega
/-- sizes: names in a term, terms, the numbers together -/
structure Sz (d n B : Nat) (L : FS) : Prop where
  len : L.length ≤ n
  it : ∀ e ∈ L, e.1.length ≤ d
  nm : nrm L ≤ B
theorem Sz.mono {d n B d' n' B' : Nat} {L : FS} (h : Sz d n B L) (h1 : d ≤ d') (h2 : n ≤ n') (h3 : B ≤ B') : Sz d' n' B' L :=
  ⟨Nat.le_trans h.len h2, fun e he => Nat.le_trans (h.it e he) h1, Nat.le_trans h.nm h3⟩
theorem Sz.nz {d n B : Nat} {L : FS} (h : Sz d n B L) : Sz d n B (nzS L) := ⟨Nat.le_trans (List.length_filter_le _ _) h.len, fun e he => h.it e (List.mem_filter.mp he).1, by rw [nrm_nz]; exact h.nm⟩
theorem Sz.nil {d n B : Nat} : Sz d n B [] := ⟨Nat.zero_le _, (fun e h => by cases h), Nat.zero_le _⟩
theorem Sz.bump {d n B : Nat} {L : FS} (h : Sz d n B L) (g : Good L) {k : List Str} (hk : k.length ≤ d) (c : Int) : Sz d (n + 1) (B + c.natAbs) (putS L k ((lkS L k).getD 0 + c)) := by
  refine ⟨Nat.le_trans (put_len _ _ _) (Nat.add_le_add_right h.len 1), fun e he => ?_, Nat.le_trans (nrm_bump g.nd k c) (Nat.add_le_add_right h.nm _)⟩
  rcases put_mem he with rfl | he
  · exact hk
  · exact h.it e he
theorem Good.bump {L : FS} (g : Good L) {k : List Str} (sk : k.Pairwise leN) (c : Int) : Good (putS L k ((lkS L k).getD 0 + c)) := g.put sk
theorem pol_bump {L : FS} (g : Good L) {k : List Str} (sk : k.Pairwise leN) (c : Int) : pol (putS L k ((lkS L k).getD 0 + c)) = pol L + pol [(k, c)] := by
  rw [Pol.add_mk]
  exact pol_eq.mpr fun m => by rw [cf_bump g sk, cf_append]
theorem neg_terms {L : FS} (t : Terms L) : Terms (negS L) := by
  have keys : (negS L).map (·.1) = L.map (·.1) := by
    unfold negS
    rw [List.map_map]
    rfl
  refine ⟨⟨by rw [keys]; exact t.gd.nd, fun e he => ?_⟩, fun e he => ?_⟩
  all_goals
    unfold negS at he
    obtain ⟨f, hf, rfl⟩ := List.mem_map.mp he
  · exact t.gd.st f hf
  · exact fun z => t.nz f hf (by have : -f.2 = 0 := z; omega)
theorem nrm_neg (L : FS) : nrm (negS L) = nrm L := by
  induction L with
  | nil => rfl
  | cons e L ih =>
    show (-e.2).natAbs + nrm (negS L) = e.2.natAbs + nrm L
    rw [ih, Int.natAbs_neg]
theorem Sz.neg {d n B : Nat} {L : FS} (h : Sz d n B L) : Sz d n B (negS L) := by
  refine ⟨by unfold negS; rw [List.length_map]; exact h.len, fun e he => ?_, by rw [nrm_neg]; exact h.nm⟩
  unfold negS at he
  obtain ⟨f, hf, rfl⟩ := List.mem_map.mp he
  exact h.it f hf
-- part ownops
/-! operators of an own class -/
/-- a method of the class at C, by its promise -/
structure Me (P : Program) (w : World) (K : PySem.W.Frag) (mg : Str → Option Value) (base : Heap) (k : Nat) (C : Addr) (m : Str) (sp : Sp) : Prop where
  ex : ∃ (f : Addr) (fd : FuncData) (ps : List Str), Meth K C m f ∧ FnOk P w K mg base CX0 k f fd ps sp ∧ Binds K fd ps []
section
variable {X : Cx} {C : Addr} {m : Str} {sp : Sp} {k j : Nat}
theorem inst_of {pins : List (Addr × Obj)} {σ : L2.St} {H : Hp} {s : Shared} {a dx : Addr} {fs : List (Str × V)} (I : Inv X pins σ H s) (e : H a = some (.ins C dx fs)) : ∃ ox od, PySem.W.InstAt s.heap a ox C od := by
  obtain ⟨mA, O, _⟩ := ins_get I.hok e
  obtain ⟨od, J, _⟩ := O.look
  exact ⟨_, _, J⟩
/-- x op y of two instances -/
def rOwn2 (C : Addr) (sp : Sp) : R2 := fun x y H Q => ∃ a b dx dy fs gs, x = .ref a ∧ y = .ref b ∧ H a = some (.ins C dx fs) ∧ H b = some (.ins C dy gs) ∧ sp [x, y] H Q E0
theorem op_own2 {op : Operator} (c : Me X.prog X.w X.K X.mg X.base k C m sp) (hr : Room j X.A) (sf : PySem.W.selfFirst X.K C = true) (hm : PySem.dunder op.info.2 = m := by decide +kernel) (hk : k ≤ j := by decide) : OpR X (binaryOp op) (rOwn2 C sp) := by
  obtain ⟨f, fd, ps, M, F, b⟩ := c.ex
  intro pins s σ H x y v u Q I rx ry h
  obtain ⟨a, b', dx, dy, fs, gs, rfl, rfl, ha, hb, q⟩ := h
  cases (show v = Value.ref a from rx)
  cases (show u = Value.ref b' from ry)
  obtain ⟨ox, od, J⟩ := inst_of I ha
  obtain ⟨oy, od', J'⟩ := inst_of I hb
  obtain ⟨mm, hF⟩ := I.fr
  refine PySem.W.binop_K hF I.ok.mod.kin J J'.type sf (by rw [hm]; exact M.at_) M.fn ?_
  refine wpAny_mono (run_fn (us := [.ref a, .ref b']) (vs := [.ref a, .ref b']) F (hr.mono hk) b .nil pass0 I (.cons rfl (.cons rfl .nil)) q) (fun u' s' z => ?_) fun _ _ x => x
  obtain ⟨z', H', I', rz, qz⟩ := z
  exact SlX.cmpback rz ⟨z', H', I', rz, qz⟩
/-- op x of an instance -/
def rOwn1 (C : Addr) (sp : Sp) : V → Hp → VK → Prop := fun x H Q => ∃ a dx fs, x = .ref a ∧ H a = some (.ins C dx fs) ∧ sp [x] H Q E0
theorem un_inv1 (c : Me X.prog X.w X.K X.mg X.base k C "__invert__" sp) (hr : Room j X.A) (hk : k ≤ j := by decide) : UnR X (unaryOp .Invert) (rOwn1 C sp) := by
  obtain ⟨f, fd, ps, M, F, b⟩ := c.ex
  intro pins s σ H x v Q I rx h
  obtain ⟨a, dx, fs, rfl, ha, q⟩ := h
  cases (show v = Value.ref a from rx)
  obtain ⟨ox, od, J⟩ := inst_of I ha
  obtain ⟨mm, hF⟩ := I.fr
  exact PySem.W.ksp_inv hF I.ok.mod.kin J M.at_ M.fn (run_fn (us := [.ref a]) (vs := [.ref a]) F (hr.mono hk) b .nil pass0 I (.cons rfl .nil) q)
theorem un_neg1 (c : Me X.prog X.w X.K X.mg X.base k C "__neg__" sp) (hr : Room j X.A) (hk : k ≤ j := by decide) : UnR X (unaryOp .USub) (rOwn1 C sp) := by
  obtain ⟨f, fd, ps, M, F, b⟩ := c.ex
  intro pins s σ H x v Q I rx h
  obtain ⟨a, dx, fs, rfl, ha, q⟩ := h
  cases (show v = Value.ref a from rx)
  obtain ⟨ox, od, J⟩ := inst_of I ha
  obtain ⟨mm, hF⟩ := I.fr
  exact PySem.W.ksp_neg hF I.ok.mod.kin J M.at_ M.fn (run_fn (us := [.ref a]) (vs := [.ref a]) F (hr.mono hk) b .nil pass0 I (.cons rfl .nil) q)
/-- x in y, y an instance: the answer a bool -/
def rOwnIn (neg : Bool) (C : Addr) (sp : Sp) : R2 := fun x y H Q => ∃ b dx fs, y = .ref b ∧ H b = some (.ins C dx fs) ∧ sp [y, x] H (fun v H' => ∃ c : Bool, v = .bl c ∧ Q (.bl (if neg then !c else c)) H') E0
theorem op_in_own (c : Me X.prog X.w X.K X.mg X.base k C "__contains__" sp) (hr : Room j X.A) (hk : k ≤ j := by decide) : OpR X (compareOp .In) (rOwnIn false C sp) := by
  obtain ⟨f, fd, ps, M, F, b⟩ := c.ex
  intro pins s σ H x y v u Q I rx ry h
  obtain ⟨a, dx, fs, rfl, ha, q⟩ := h
  cases (show u = Value.ref a from ry)
  obtain ⟨ox, od, J⟩ := inst_of I ha
  obtain ⟨mm, hF⟩ := I.fr
  refine PySem.W.in_K hF I.ok.mod.kin J M.at_ M.fn (wpAny_mono (run_fn (us := [.ref a, v]) (vs := [.ref a, x]) F (hr.mono hk) b .nil pass0 I (.cons rfl (.cons rx .nil)) q) (fun u' s' z => ?_) fun _ _ x => x)
  obtain ⟨z', H', I', rz, d, ez, qz⟩ := z
  subst ez
  cases (show u' = Value.bool d from rz)
  exact wpAny_truthy_bool ⟨.bl d, H', I', rfl, qz⟩
theorem op_notIn_own (c : Me X.prog X.w X.K X.mg X.base k C "__contains__" sp) (hr : Room j X.A) (hk : k ≤ j := by decide) : OpR X (compareOp .NotIn) (rOwnIn true C sp) := by
  obtain ⟨f, fd, ps, M, F, b⟩ := c.ex
  intro pins s σ H x y v u Q I rx ry h
  obtain ⟨a, dx, fs, rfl, ha, q⟩ := h
  cases (show u = Value.ref a from ry)
  obtain ⟨ox, od, J⟩ := inst_of I ha
  obtain ⟨mm, hF⟩ := I.fr
  refine PySem.W.notIn_K hF I.ok.mod.kin J M.at_ M.fn (wpAny_mono (run_fn (us := [.ref a, v]) (vs := [.ref a, x]) F (hr.mono hk) b .nil pass0 I (.cons rfl (.cons rx .nil)) q) (fun u' s' z => ?_) fun _ _ x => x)
  obtain ⟨z', H', I', rz, d, ez, qz⟩ := z
  subst ez
  cases (show u' = Value.bool d from rz)
  exact wpAny_truthy_bool ⟨.bl (!d), H', I', rfl, qz⟩
/-- x == y of two instances -/
theorem op_eq_own (c : Me X.prog X.w X.K X.mg X.base k C "__eq__" sp) (hr : Room j X.A) (hk : k ≤ j := by decide) : OpR X (compareOp .Eq) (rOwn2 C sp) := by
  obtain ⟨f, fd, ps, M, F, b⟩ := c.ex
  intro pins s σ H x y v u Q I rx ry h
  obtain ⟨a, b', dx, dy, fs, gs, rfl, rfl, ha, hb, q⟩ := h
  cases (show v = Value.ref a from rx)
  cases (show u = Value.ref b' from ry)
  obtain ⟨ox, od, J⟩ := inst_of I ha
  obtain ⟨oy, od', J'⟩ := inst_of I hb
  obtain ⟨mm, hF⟩ := I.fr
  show wpAny _ _ (richCompare .Eq (.ref a) (.ref b')) _ _ _
  refine PySem.W.cmp_K (op := .Eq) (tb := .ref C) hr.units0 hF I.ok.mod.kin J J'.type (by unfold PySem.W.notFirst; simp) M.at_ M.fn ?_
  refine wpAny_mono (run_fn (us := [.ref a, .ref b']) (vs := [.ref a, .ref b']) F (hr.mono hk) b .nil pass0 I (.cons rfl (.cons rfl .nil)) q) (fun u' s' z => ?_) fun _ _ x => x
  obtain ⟨z', H', I', rz, qz⟩ := z
  exact SlX.cmpback rz ⟨z', H', I', rz, qz⟩
/-- the truth of an instance, by its __bool__ -/
def rTruOwn (C : Addr) (sp : Sp) : V → Hp → (Bool → Hp → Prop) → Prop := fun x H Q => ∃ a dx fs, x = .ref a ∧ H a = some (.ins C dx fs) ∧ sp [x] H (fun v H' => ∃ c : Bool, v = .bl c ∧ Q c H') E0
theorem tru_own (c : Me X.prog X.w X.K X.mg X.base k C "__bool__" sp) (hr : Room j X.A) (hk : k ≤ j := by decide) : TruR X (rTruOwn C sp) := by
  obtain ⟨f, fd, ps, M, F, b⟩ := c.ex
  intro pins s σ H x v Q I rx h
  obtain ⟨a, dx, fs, rfl, ha, q⟩ := h
  cases (show v = Value.ref a from rx)
  obtain ⟨ox, od, J⟩ := inst_of I ha
  obtain ⟨mm, hF⟩ := I.fr
  refine PySem.W.truthy_K hF I.ok.mod.kin J M.at_ M.fn (wpAny_mono (run_fn (us := [.ref a]) (vs := [.ref a]) F (hr.mono hk) b .nil pass0 I (.cons rfl .nil) q) (fun u' s' z => ?_) fun _ _ x => x)
  obtain ⟨z', H', I', rz, d, ez, qz⟩ := z
  subst ez
  cases (show u' = Value.bool d from rz)
  exact ⟨H', I', qz⟩
end
/-- a class that makes instances, its __init__ by its promise (it may raise, and here doesn't) -/
structure Ma (P : Program) (w : World) (K : PySem.W.Frag) (mg : Str → Option Value) (base : Heap) (k : Nat) (C : Addr) (sp : Sp) : Prop where
  ex : ∃ (f : Addr) (fd : FuncData) (ps : List Str), Mk K C f ∧ FnOk P w K mg base (L2N.CX P w) k f fd ps sp ∧ Binds K fd ps []
section
variable {X : Cx} {C : Addr} {x : Str} {sp : Sp} {k j i : Nat} {p pos : Pos} {e : Expr} {es : List Expr} {t : TA}
theorem pe_ma (c : Ma X.prog X.w X.K X.mg X.base k C sp) (hr : Room j X.A) (hm : X.mg x = some (.ref C)) (ha : PA X (e :: es) t) (hk : k + 1 ≤ j := by decide) (hg : Gl X x := by rfl)
    (hdb : (x == ("__debug__" : Str)) = false := by decide) (he : starEach (e :: es) X.env = (false, eval e X.env) :: starEach es X.env := by rfl) (hpl : (backTo pos (starEach es X.env)).any (·.1) = false := by rfl) :
    PE X (.Call (.Name x p) (e :: es) [] pos) (tMake C sp [] E0 t) := by
  obtain ⟨f, fd, ps, M, F, b⟩ := c.ex
  exact pe_make M F (hr.mono hk) hg hm b .nil passN ha hdb he hpl
/-- cls(..), cls a parameter that holds the class -/
def tMakeL (i : Nat) (C : Addr) (sp : Sp) (t : TA) : TE := fun σ H Q => σ[i]? = some (some (.ref C)) ∧ tMake C sp [] E0 t σ H Q
theorem pe_maL (c : Ma X.prog X.w X.K X.mg X.base k C sp) (hr : Room j X.A) (hN : X.N[i]? = some x) (ha : PA X (e :: es) t) (hk : k + 1 ≤ j := by decide)
    (hv : Vis X.env.scope x := by first | exact Or.inl rfl | exact Or.inr (Or.inl rfl) | exact Or.inr (Or.inr rfl))
    (hdb : (x == ("__debug__" : Str)) = false := by decide) (hcd : (x == ("__classdict__" : Str)) = false := by decide)
    (he : starEach (e :: es) X.env = (false, eval e X.env) :: starEach es X.env := by rfl) (hpl : (backTo pos (starEach es X.env)).any (·.1) = false := by rfl) :
    PE X (.Call (.Name x p) (e :: es) [] pos) (tMakeL i C sp t) := by
  obtain ⟨f, fd, ps, M, F, b⟩ := c.ex
  refine ⟨fun pins s σ H Q I h => ?_⟩
  obtain ⟨at_i, rest⟩ := h
  refine wpAny_Call_Name_kw (thn ((pe_var (pos := p) hN hv hdb hcd).run pins s σ H (fun v G => v = .ref C ∧ G = H) I ⟨.ref C, at_i, rfl, rfl⟩) fun u s1 ⟨v, G, I1, r1, e1, e2⟩ => ?_)
  subst e1
  subst e2
  cases r1
  refine PySem.W.callWith_K (h₀ := X.base) I.ok.mod.kin M.kp (thn (ha.run pos pins s1 σ _ _ I1 rest) fun us s2 ⟨vs, G2, I2, r, q⟩ => ⟨I2.kIn, ?_⟩) he hpl
  exact run_make M F (hr.mono hk) b .nil passN I2 r q
end
-- part ownops2
/-! bool(x) and x == y, where y is no instance; classmethods by FnR; C(..) in a try -/
section
variable {X : Cx} {C : Addr} {m : Str} {sp : Sp} {k j : Nat}
/-- bool(x) of an instance -/
def rBoolOwn (C : Addr) (sp : Sp) : List V → Hp → VK → Prop := fun xs H Q => ∃ a dx fs, xs = [.ref a] ∧ H a = some (.ins C dx fs) ∧ sp [.ref a] H (fun v H' => ∃ c : Bool, v = .bl c ∧ Q (.bl c) H') E0
theorem new_bool_any {prog : Program} {w : World} (x : Value) : MeetsIn prog w (Builtin.«bool.__new__» ⟨[.type "bool", x], []⟩)
    (fun A R s => wpAny (model prog w) A.in1 (truthy x) (fun b s1 => R (.ok (.ret (.bool b))) s1) (fun e s1 => R (.error e) s1) s) :=
  .of_wp fun A R s h => by
    have no_bool := F.conv_sub_bool
    unfold Builtin.«bool.__new__»
    generalize same : truthy = TX
    wp_walk
    subst same
    refine wpAny_mono h (fun b s1 hR => ?_) fun _ _ z => z
    exact wpAny_pure ⟨_, rfl, hR⟩
theorem cr_boolOwn (c : Me X.prog X.w X.K X.mg X.base k C "__bool__" sp) (hr : Room j X.A) (hk : k + 2 ≤ j := by decide) : CallR X (.type "bool") (rBoolOwn C sp) := by
  obtain ⟨f, fd, ps, M, F, b⟩ := c.ex
  intro pins s σ H xs us Q I r h
  obtain ⟨a, dx, fs, rfl, ha, q⟩ := h
  obtain rfl := Vals.ref1 r
  obtain ⟨ox, od, J⟩ := inst_of I ha
  obtain ⟨mm, hF⟩ := I.fr
  have many : ([Value.ref a] : List Value).length = ps.length := F.len [.ref a] _ _ _ q
  have bound := b s [.ref a] I.kIn (by rw [List.append_nil]; exact many)
  rw [List.append_nil] at bound
  refine callType_newIn PySem.F.called_bool PySem.F.newNe_bool (PySem.F.typeCall_bool_1 _) (PySem.F.newCall_bool_1 _) (fun obj => PySem.F.args_object_init_2 obj _) PySem.F.entry_bool_new (new_bool_any _) ?_
  refine PySem.W.truthy_K hF I.ok.mod.kin J M.at_ M.fn (wpAny_call (codeAny_mono (F.run _ X.stack s H ⟨[.ref a], []⟩ [.ref a] [.ref a] _ E0 ((hr.mono hk).in1.in1) (I.env0.in1.in1) bound (.cons rfl .nil) q) fun r s' hq => ?_))
  cases r with
  | error e => exact False.elim hq
  | ok fl =>
    cases fl with
    | ret u =>
      obtain ⟨z', H', I', rz, d, ez, qz⟩ := I.after hq
      subst ez
      cases (show u = Value.bool d from rz)
      exact ⟨rfl, .bl d, H', I', rfl, qz⟩
    | next => exact False.elim hq
    | brk => exact False.elim hq
    | cont => exact False.elim hq
/-- x == y, y a tuple -/
def rOwnT (C : Addr) (sp : Sp) : R2 := fun x y H Q => ∃ a b dx fs zs, x = .ref a ∧ y = .ref b ∧ H a = some (.ins C dx fs) ∧ H b = some (.tup zs) ∧ sp [x, y] H Q E0
theorem op_eq_ownT (c : Me X.prog X.w X.K X.mg X.base k C "__eq__" sp) (hr : Room j X.A) (nf : PySem.W.subIn X.K (.type "tuple") (.ref C) = some false) (hk : k ≤ j := by decide) : OpR X (compareOp .Eq) (rOwnT C sp) := by
  obtain ⟨f, fd, ps, M, F, b⟩ := c.ex
  intro pins s σ H x y v u Q I rx ry h
  obtain ⟨a, b', dx, fs, zs, rfl, rfl, ha, hb, q⟩ := h
  cases (show v = Value.ref a from rx)
  cases (show u = Value.ref b' from ry)
  obtain ⟨ox, od, J⟩ := inst_of I ha
  obtain ⟨_, _, _, o, h1, h2, _⟩ := (show ObjOk X.prog X.w H s.heap b' (.tup zs) from I.hok b' _ hb)
  obtain ⟨mm, hF⟩ := I.fr
  show wpAny _ _ (richCompare .Eq (.ref a) (.ref b')) _ _ _
  refine PySem.W.cmp_K (op := .Eq) (tb := .type "tuple") hr.units0 hF I.ok.mod.kin J (fun A Q E s k q => wpAny_typeOf_ref (k _ _ h1) (by rw [h2]; exact q)) (by unfold PySem.W.notFirst; rw [nf]; simp) M.at_ M.fn ?_
  refine wpAny_mono (run_fn (us := [.ref a, .ref b']) (vs := [.ref a, .ref b']) F (hr.mono hk) b .nil pass0 I (.cons rfl (.cons rfl .nil)) q) (fun u' s' z => ?_) fun _ _ x => x
  obtain ⟨z', H', I', rz, qz⟩ := z
  exact SlX.cmpback rz ⟨z', H', I', rz, qz⟩
end
/-- a classmethod by what its call does -/
structure CmR (P : Program) (w : World) (K : PySem.W.Frag) (mg : Str → Option Value) (base : Heap) (k : Nat) (C : Addr) (m : Str) (sp : Sp) : Prop where
  ex : ∃ (mc : Value) (p g : Addr), ClX.CRead K C mc ∧ ClX.CMet K C mc m p g ∧ FnR P w K mg base CX0 k g sp
theorem pe_cmR {X : Cx} {C : Addr} {m : Str} {sp : Sp} {k j : Nat} {o e : Expr} {es : List Expr} {ta : TE} {t : TA} {apos pos : Pos} {pl : Sem Bool} (c : CmR X.prog X.w X.K X.mg X.base k C m sp) (hr : Room j X.A) (he : PE X o ta) (ha : PA X (e :: es) t) (hk : k ≤ j := by decide)
    (hst : starEach (e :: es) X.env = (false, eval e X.env) :: starEach es X.env := by rfl) (hpl : (backTo pos (starEach es X.env)).any (·.1) = false := by rfl)
    (ht : eval (.Call (.Attribute o m apos) (e :: es) [] pos) X.env = (do
      let got ← eval o X.env
      standAt apos.atName
      let (fn, fst) ← holding [got] (getMethod got m pl)
      callWith pos fn fst (backTo pos (starEach (e :: es) X.env)) (backToKw pos (keywordEach [] X.env))) := by rfl) :
    PE X (.Call (.Attribute o m apos) (e :: es) [] pos) (ClX.tCMeth C sp E0 ta t) := by
  obtain ⟨mc, p, g, r, c, F⟩ := c.ex
  exact ClX.pe_cmeth he r c F (hr.mono hk) pass0 ha hst hpl ht
theorem pe_cmR0 {X : Cx} {C : Addr} {m : Str} {sp : Sp} {k j : Nat} {o : Expr} {ta : TE} {apos pos : Pos} {pl : Sem Bool} (c : CmR X.prog X.w X.K X.mg X.base k C m sp) (hr : Room j X.A) (he : PE X o ta) (hk : k ≤ j := by decide)
    (ht : eval (.Call (.Attribute o m apos) [] [] pos) X.env = (do
      let got ← eval o X.env
      standAt apos.atName
      let (fn, fst) ← holding [got] (getMethod got m pl)
      callWith pos fn fst (backTo pos (starEach [] X.env)) (backToKw pos (keywordEach [] X.env))) := by rfl) :
    PE X (.Call (.Attribute o m apos) [] [] pos) (ClX.tCMeth C sp E0 ta tNil) := by
  obtain ⟨mc, p, g, r, c, F⟩ := c.ex
  refine ⟨fun pins s σ H Q I h => ?_⟩
  refine PySem.W.methodCall_KW (pl := pl) (thn (he.run pins s σ H _ I h) fun u s1 ⟨x, H1, I1, rx, ex, q⟩ => ?_) ht
  subst ex
  obtain rfl : u = Value.ref C := rx
  refine ClX.getmethcm_ok I1 r c fun s2 I2 => ?_
  have hq := ClX.pin_at I2
  show wpAny _ _ (callWith pos (Value.ref s1.heap.objs.size) [] (backTo pos (starEach [] X.env)) []) _ _ _
  refine PySem.W.callWith_M0 (K := X.K) (g := g) (self := .ref C) ?_ c.fi ?_
  · exact ⟨hq, I2.kIn⟩
  · exact ClX.run_cm (us := []) (vs := []) F (hr.mono hk) pass0 I2 .nil q
/-- C(..) whose __init__ may raise, in a try that takes it -/
def tMakeS (C : Addr) (sp : Sp) (E : L2.St → XK) (t : TA) : TE := fun σ H Q => tMake C sp [] (E σ) t σ H Q
theorem pe_maX {X : Cx} {W : WX} {C : Addr} {x : Str} {sp : Sp} {k j : Nat} {p pos : Pos} {e : Expr} {es : List Expr} {t : TA} (c : Ma X.prog X.w X.K X.mg X.base k C sp) (hr : Room j X.A) (tk : L2N.Takes X W) (hm : X.mg x = some (.ref C)) (ha : PA X (e :: es) t) (hk : k + 1 ≤ j := by decide) (hg : Gl X x := by rfl)
    (hdb : (x == ("__debug__" : Str)) = false := by decide) (he : starEach (e :: es) X.env = (false, eval e X.env) :: starEach es X.env := by rfl) (hpl : (backTo pos (starEach es X.env)).any (·.1) = false := by rfl) :
    PE X (.Call (.Name x p) (e :: es) [] pos) (tMakeS C sp (WE W) t) := by
  obtain ⟨f, fd, ps, M, F, b⟩ := c.ex
  refine ⟨fun pins s σ H Q I h => ?_⟩
  refine wpAny_Call_Name_kw (ld_glob I hg hm ?_ hdb)
  refine PySem.W.callWith_K (h₀ := X.base) I.ok.mod.kin M.kp (thn (ha.run pos pins s σ H _ I h) fun us s1 ⟨vs, H1, I1, r, q⟩ => ⟨I1.kIn, ?_⟩) he hpl
  generalize ez : s1.heap.objs.size = z
  have le0 : s1.heap.objs.size ≤ z := by rw [ez]; exact Nat.le_refl z
  have asks := q (z + 1) z (I1.hok.fresh (Nat.le_succ_of_le le0)) (I1.hok.fresh le0) (Nat.ne_of_lt (Nat.lt_succ_self z))
  have laid := Inv.made (C := C) I1
  rw [ez] at laid
  have rel : Vals (V.ref (z + 1) :: vs) (Value.ref (z + 1) :: us) := .cons rfl r
  rw [List.append_nil] at asks
  have many : (Value.ref (z + 1) :: us).length = ps.length := by
    rw [← rel.length]
    exact F.len _ _ _ _ asks
  have bound := b _ (Value.ref (z + 1) :: us) laid.kIn (by rw [List.append_nil]; exact many)
  rw [List.append_nil] at bound
  have runs := F.run _ X.stack _ _ ⟨Value.ref (z + 1) :: us, []⟩ (Value.ref (z + 1) :: us) _ _ (WE W σ) ((hr.mono hk).make C us []) (laid.env0.make C us []) bound rel asks
  subst ez
  refine wpAny_call (make_map (f := f) I1.kIn M.makes M.init (beq_iff_eq.mp M.fn) (codeAny_mono runs fun r' s' back => ?_))
  cases r' with
  | error er => exact L2N.passAt tk σ pins _ _ er s' laid back
  | ok fl =>
    cases fl with
    | ret u =>
      obtain ⟨v, H', I3, rv, ev, q3⟩ := laid.after back
      subst ev
      cases (show u = Value.none from rv)
      exact ⟨rfl, .ref _, H', I3, rfl, q3⟩
    | next => exact False.elim back
    | brk => exact False.elim back
    | cont => exact False.elim back
theorem kit_ownF {C : Addr} {U : String} (h2 : PySem.W.isClsIn K C = true) (h3 : PySem.W.typeIn K (.ref C) = some (.type "type")) (h : PySem.W.subIn K (.type U) (.ref C) = some false) : PySem.W.kitOne K (.type U) (.ref C) = some false := by
  have h2' : (PySem.W.clsIn K C).isSome = true := h2
  have e2 : ((PySem.W.clsIn K C).isSome && PySem.W.typeIn K (.ref C) == some (.type "type")) = true := by rw [h2', h3] <;> rfl
  unfold PySem.W.kitOne
  rw [if_neg (by simp)]
  show (if ((PySem.W.clsIn K C).isSome && PySem.W.typeIn K (.ref C) == some (.type "type")) = true then PySem.W.subIn K (.type U) (.ref C) else none) = some false
  rw [if_pos e2]
  exact h
-- part ownxg
/-! == of an instance and another value -/
/-- == with a value that is no instance -/
inductive OthT (H : Hp) : V → String → Prop
  | int (i : Int) : OthT H (.int i) "int"
  | str (z : Str) : OthT H (.str z) "str"
  | lst {b : Addr} {zs : List V} (h : H b = some (.lst zs)) : OthT H (.ref b) "list"
  | tup {b : Addr} {zs : List V} (h : H b = some (.tup zs)) : OthT H (.ref b) "tuple"
section
variable {X : Cx} {C : Addr} {sp : Sp} {k j : Nat}
/-- x == y, y no instance -/
def rOwnX (K : PySem.W.Frag) (C : Addr) (sp : Sp) : R2 := fun x y H Q => ∃ a dx fs t, x = .ref a ∧ H a = some (.ins C dx fs) ∧ OthT H y t ∧ PySem.W.subIn K (.type t) (.ref C) = some false ∧ sp [x, y] H Q E0
theorem op_eq_ownX (c : Me X.prog X.w X.K X.mg X.base k C "__eq__" sp) (hr : Room j X.A) (hk : k ≤ j := by decide) : OpR X (compareOp .Eq) (rOwnX X.K C sp) := by
  obtain ⟨f, fd, ps, M, F, b⟩ := c.ex
  intro pins s σ H x y v u Q I rx ry h
  obtain ⟨a, dx, fs, t, rfl, ha, ho, nf, q⟩ := h
  cases (show v = Value.ref a from rx)
  obtain ⟨ox, od, J⟩ := inst_of I ha
  obtain ⟨mm, hF⟩ := I.fr
  have run := run_fn (us := [.ref a, u]) (vs := [.ref a, y]) F (hr.mono hk) b .nil pass0 I (.cons rfl (.cons ry .nil)) q
  have looks : PySem.W.Looks (model X.prog X.w) s.heap (typeOf u) (.type t) := by
    cases ho with
    | int i =>
      obtain ⟨t, rfl⟩ := ry
      exact fun A Q E s k q => wpAny_pure q
    | str z =>
      obtain ⟨t, rfl⟩ := ry
      exact fun A Q E s k q => wpAny_pure q
    | @lst b' zs h =>
      cases (show u = Value.ref b' from ry)
      obtain ⟨_, its, n, _, e⟩ := (show ObjOk X.prog X.w H s.heap b' (.lst zs) from I.hok b' _ h)
      exact fun A Q E s k q => wpAny_typeOf_ref (k _ _ e) q
    | @tup b' zs h =>
      cases (show u = Value.ref b' from ry)
      obtain ⟨_, _, _, o, h1, h2, _⟩ := (show ObjOk X.prog X.w H s.heap b' (.tup zs) from I.hok b' _ h)
      exact fun A Q E s k q => wpAny_typeOf_ref (k _ _ h1) (by rw [h2]; exact q)
  show wpAny _ _ (richCompare .Eq (.ref a) u) _ _ _
  refine PySem.W.cmp_K (op := .Eq) (tb := .type t) hr.units0 hF I.ok.mod.kin J looks (by unfold PySem.W.notFirst; rw [nf]; simp) M.at_ M.fn ?_
  refine wpAny_mono run (fun u' s' z => ?_) fun _ _ x => x
  obtain ⟨z', H', I', rz, qz⟩ := z
  exact SlX.cmpback rz ⟨z', H', I', rz, qz⟩
end
-- part strown
/-! str(x) of an own instance -/
section
variable {X : Cx} {C : Addr} {sp : Sp} {k j : Nat}
def rStrOwn (C : Addr) (sp : Sp) : List V → Hp → VK → Prop := fun xs H Q => ∃ a dx fs, xs = [.ref a] ∧ H a = some (.ins C dx fs) ∧ sp [.ref a] H (fun v H' => ∃ z : Str, v = .str z ∧ Q (.str z) H') E0
theorem cr_strOwn (c : Me X.prog X.w X.K X.mg X.base k C "__str__" sp) (hr : Room j X.A) (hk : k + 2 ≤ j := by decide) : CallR X (.type "str") (rStrOwn C sp) := by
  obtain ⟨f, fd, ps, M, F, b⟩ := c.ex
  intro pins s σ H xs us Q I r h
  obtain ⟨a, dx, fs, rfl, ha, q⟩ := h
  obtain rfl := Vals.ref1 r
  obtain ⟨ox, od, J⟩ := inst_of I ha
  have many : ([Value.ref a] : List Value).length = ps.length := F.len [.ref a] _ _ _ q
  have bound := b s [.ref a] I.kIn (by rw [List.append_nil]; exact many)
  rw [List.append_nil] at bound
  refine PySem.W.kso_call (hr.mono hk).in1.in1.units0 I.kIn J M.at_ M.fn (wpAny_call (codeAny_mono (F.run _ X.stack s H ⟨[.ref a], []⟩ [.ref a] [.ref a] _ E0 ((hr.mono hk).in1.in1) (I.env0.in1.in1) bound (.cons rfl .nil) q) fun r s' hq => ?_))
  cases r with
  | error e => exact False.elim hq
  | ok fl =>
    cases fl with
    | ret u =>
      obtain ⟨z', H', I', rz, z, ez, qz⟩ := I.after hq
      subst ez
      obtain ⟨t, ht⟩ := (show ∃ t, u = Value.str z t from rz)
      subst ht
      exact ⟨.str z, H', I', ⟨t, rfl⟩, qz⟩
    | next => exact False.elim hq
    | brk => exact False.elim hq
    | cont => exact False.elim hq
end
/-- y.join(xs), the frame named: for the body of a try -/
def rJoin (K : PySem.W.Frag) : V → List V → Hp → VK → Prop := fun x xs H Q => ∃ a p, ∃ ys : List Str, x = .str a ∧ xs = [.ref p] ∧ (SqL K H p (ys.map V.str) ∨ SqT K H p (ys.map V.str)) ∧ (ys.map (·.length)).sum + ys.length * a.length ≤ 16777216 ∧ Q (.str (Txt.join a ys)) H
theorem pe_joinK {X : Cx} {K : PySem.W.Frag} {o e : Expr} {to te : TE} {apos pos : Pos} (hK : X.K = K) (ho : PE X o to) (he : PE X e te) (hs : starEach [e] X.env = [(false, eval e X.env)] := by rfl) (hbase : attributeBase o "join" X.env (eval o X.env) = eval o X.env := by rfl) (hline : (apos.endLine == pos.line) = true := by rfl) :
    PE X (.Call (.Attribute o "join" apos) [e] [] pos) (tM1 (rJoin K) to te) := by
  subst hK
  exact pe_join ho he hs hbase hline
-- part clsm
/-- a call of a classmethod without arguments -/
structure Cm (P : Program) (w : World) (K : PySem.W.Frag) (mg : Str → Option Value) (base : Heap) (k : Nat) (C : Addr) (m : Str) (sp : Sp) : Prop where
  ex : ∃ (mc : Value) (p g : Addr) (fd : FuncData) (ps : List Str), ClX.CRead K C mc ∧ ClX.CMet K C mc m p g ∧ FnOk P w K mg base CX0 k g fd ps sp ∧ Binds K fd ps []
theorem fnR_of {P : Program} {w : World} {K : PySem.W.Frag} {mg : Str → Option Value} {base : Heap} {CX : CXT} {k : Nat} {f : Addr} {fd : FuncData} {ps : List Str} {sp : Sp} (F : FnOk P w K mg base CX k f fd ps sp) (b : Binds K fd ps []) : FnR P w K mg base CX k f sp :=
  fun A outer s H us vs Q E hr e0 r h => by
    have hl : us.length = ps.length := by
      rw [← r.length]
      exact F.len _ _ _ _ h
    have z := b s us (e0.mod.kin.keeps fun b o e => (e0.bs b o e).1) (by rw [List.append_nil]; exact hl)
    rw [List.append_nil] at z
    exact F.run A outer s H ⟨us, []⟩ us vs Q E hr e0 z r h
theorem pe_cm {X : Cx} {C : Addr} {m : Str} {sp : Sp} {k j : Nat} {o e : Expr} {es : List Expr} {ta : TE} {t : TA} {apos pos : Pos} {pl : Sem Bool} (c : Cm X.prog X.w X.K X.mg X.base k C m sp) (hr : Room j X.A) (he : PE X o ta) (ha : PA X (e :: es) t) (hk : k ≤ j := by decide)
    (hst : starEach (e :: es) X.env = (false, eval e X.env) :: starEach es X.env := by rfl) (hpl : (backTo pos (starEach es X.env)).any (·.1) = false := by rfl)
    (ht : eval (.Call (.Attribute o m apos) (e :: es) [] pos) X.env = (do
      let got ← eval o X.env
      standAt apos.atName
      let (fn, fst) ← holding [got] (getMethod got m pl)
      callWith pos fn fst (backTo pos (starEach (e :: es) X.env)) (backToKw pos (keywordEach [] X.env))) := by rfl) :
    PE X (.Call (.Attribute o m apos) (e :: es) [] pos) (ClX.tCMeth C sp E0 ta t) := by
  obtain ⟨mc, p, g, fd, ps, r, c, F, b⟩ := c.ex
  exact ClX.pe_cmeth he r c (fnR_of F b) (hr.mono hk) pass0 ha hst hpl ht
theorem pe_cm0 {X : Cx} {C : Addr} {m : Str} {sp : Sp} {k j : Nat} {o : Expr} {ta : TE} {apos pos : Pos} {pl : Sem Bool} (c : Cm X.prog X.w X.K X.mg X.base k C m sp) (hr : Room j X.A) (he : PE X o ta) (hk : k ≤ j := by decide)
    (ht : eval (.Call (.Attribute o m apos) [] [] pos) X.env = (do
      let got ← eval o X.env
      standAt apos.atName
      let (fn, fst) ← holding [got] (getMethod got m pl)
      callWith pos fn fst (backTo pos (starEach [] X.env)) (backToKw pos (keywordEach [] X.env))) := by rfl) :
    PE X (.Call (.Attribute o m apos) [] [] pos) (ClX.tCMeth C sp E0 ta tNil) := by
  obtain ⟨mc, p, g, fd, ps, r, c, F, b⟩ := c.ex
  refine ⟨fun pins s σ H Q I h => ?_⟩
  refine PySem.W.methodCall_KW (pl := pl) (thn (he.run pins s σ H _ I h) fun u s1 ⟨x, H1, I1, rx, ex, q⟩ => ?_) ht
  subst ex
  obtain rfl : u = Value.ref C := rx
  have notin : X.base.get? s1.heap.objs.size = none := by
    cases z : X.base.get? s1.heap.objs.size with
    | none => rfl
    | some o => exact absurd (Heap.lt_size (I1.bk _ o z)) (Nat.lt_irrefl _)
  refine ClX.getmethcm_ok I1 r c fun s2 I2 => ?_
  have hq := ClX.pin_at I2
  have hL : s1.heap.objs.size ≠ X.env.locals := (I2.pin (s1.heap.objs.size, PySem.W.methodObj (.ref g) (.ref C)) (List.mem_append_right _ List.mem_cons_self)).2.2.1
  show wpAny _ _ (callWith pos (Value.ref s1.heap.objs.size) [] (backTo pos (starEach [] X.env)) []) _ _ _
  refine PySem.W.callWith_M0 (K := X.K) (g := g) (self := .ref C) ?_ c.fi ?_
  · exact ⟨hq, I2.kIn⟩
  · have z := ClX.run_cm (us := []) (vs := []) (fnR_of F b) (hr.mono hk) pass0 I2 .nil q
    exact z
-- part meths
/-! o.m(..) of an own class, by its promise -/
section
variable {X : Cx} {C : Addr} {m : Str} {sp : Sp} {k j : Nat} {o e : Expr} {es : List Expr} {ta : TE} {t : TA} {apos pos : Pos} {pl : Sem Bool}
theorem pe_me0 (c : Me X.prog X.w X.K X.mg X.base k C m sp) (cl : Cls X.K C) (hr : Room j X.A) (he : PE X o ta) (hk : k ≤ j := by decide)
    (ht : eval (.Call (.Attribute o m apos) [] [] pos) X.env = (do
      let ov ← eval o X.env
      standAt apos.atName
      let (f, first) ← holding [ov] (getMethod ov m pl)
      callWith pos f first (backTo pos (starEach [] X.env)) (backToKw pos (keywordEach [] X.env))) := by rfl) :
    PE X (.Call (.Attribute o m apos) [] [] pos) (tMeth C m sp [] E0 ta tNil) := by
  obtain ⟨f, fd, ps, M, F, b⟩ := c.ex
  exact pe_meth0 he cl M F (hr.mono hk) b .nil pass0 ht
theorem pe_me (c : Me X.prog X.w X.K X.mg X.base k C m sp) (cl : Cls X.K C) (hr : Room j X.A) (he : PE X o ta) (ha : PA X (e :: es) t) (hk : k ≤ j := by decide)
    (hst : starEach (e :: es) X.env = (false, eval e X.env) :: starEach es X.env := by rfl) (hpl : (backTo pos (starEach es X.env)).any (·.1) = false := by rfl)
    (ht : eval (.Call (.Attribute o m apos) (e :: es) [] pos) X.env = (do
      let ov ← eval o X.env
      standAt apos.atName
      let (f, first) ← holding [ov] (getMethod ov m pl)
      callWith pos f first (backTo pos (starEach (e :: es) X.env)) (backToKw pos (keywordEach [] X.env))) := by rfl) :
    PE X (.Call (.Attribute o m apos) (e :: es) [] pos) (tMeth C m sp [] E0 ta t) := by
  obtain ⟨f, fd, ps, M, F, b⟩ := c.ex
  exact pe_meth he cl M F (hr.mono hk) b .nil pass0 ha hst hpl ht
end
/-- a class whose instances are called, by the promise of its __call__ -/
structure Co (P : Program) (w : World) (K : PySem.W.Frag) (mg : Str → Option Value) (base : Heap) (k : Nat) (C : Addr) (sp : Sp) : Prop where
  ex : ∃ g, StX.CallO K C g ∧ FnR P w K mg base CX0 k g sp
def tCallI (C : Addr) (sp : Sp) (tf : TE) (t : TA) : TE := fun σ H Q => tf σ H fun y H1 => ∃ a, y = V.ref a ∧ t σ H1 fun vs H2 => ((∃ dx vs, SlX.Slt H2 a C dx vs) ∨ ∃ dx fs, H2 a = some (.ins C dx fs)) ∧ sp (V.ref a :: vs) H2 Q E0
theorem pe_inst {X : Cx} {C : Addr} {sp : Sp} {k j : Nat} {fe e : Expr} {es : List Expr} {tf : TE} {t : TA} {pos : Pos} (c : Co X.prog X.w X.K X.mg X.base k C sp) (hr : Room j X.A) (hf : PE X fe tf) (ha : PA X (e :: es) t) (hk : k ≤ j := by decide)
    (ht : eval (.Call fe (e :: es) [] pos) X.env = (do callWith pos (← eval fe X.env) [] (backTo pos (starEach (e :: es) X.env)) (backToKw pos (keywordEach [] X.env))) := by rfl)
    (he : starEach (e :: es) X.env = (false, eval e X.env) :: starEach es X.env := by rfl) (hpl : (backTo pos (starEach es X.env)).any (·.1) = false := by rfl) :
    PE X (.Call fe (e :: es) [] pos) (tCallI C sp tf t) := by
  obtain ⟨g, c, F⟩ := c.ex
  exact StX.pe_callO hf c F (hr.mono hk) pass0 ha ht he hpl
-- part objs
/-! comprehensions that make lists of objects -/
/-- what a heap but for D holds -/
def But (D : Addr) (H H' : Hp) : Prop := ∀ b o, b ≠ D → H b = some o → H' b = some o
theorem But.upd {D : Addr} {H : Hp} {o : HO} : But D H (upd H D o) := fun b u hb e => by
  rw [upd_ne hb]
  exact e
theorem But.of {D : Addr} {H H' : Hp} (s : Same H H') : But D H H' := fun b o _ e => s b o e
theorem sqT_but {K : PySem.W.Frag} {D q : Addr} {H H' : Hp} {xs : List V} (h : SqT K H q xs) (ne : q ≠ D) (k : But D H H') : SqT K H' q xs := by
  rcases h with (h | ⟨o, h⟩) | h
  · exact .inl (.inl (k _ _ ne h))
  · exact .inl (.inr ⟨o, k _ _ ne h⟩)
  · exact .inr h
theorem sqL_but {K : PySem.W.Frag} {D q : Addr} {H H' : Hp} {xs : List V} (h : SqL K H q xs) (ne : q ≠ D) (k : But D H H') : SqL K H' q xs := by
  rcases h with (h | ⟨o, h⟩) | h
  · exact .inl (.inl (k _ _ ne h))
  · exact .inl (.inr ⟨o, k _ _ ne h⟩)
  · exact .inr h
/-- what is told of the j-th object stands while only D changes -/
def Stab (D : Addr) (R : Nat → V → Hp → Prop) : Prop := ∀ j v H H', R j v H → v ≠ .ref D → But D H H' → R j v H'
def PvO (H1 : Hp) (D : Addr) (R : Nat → V → Hp → Prop) (i : Nat) (H : Hp) : Prop := Same H1 H ∧ ∃ acc, H D = some (.lst acc) ∧ acc.length = i ∧ ∀ j v, acc[j]? = some v → v ≠ .ref D ∧ R j v H
theorem objEnd {H1 H H4 : Hp} {D : Addr} {R : Nat → V → Hp → Prop} {i : Nat} {y : V} (st : Stab D R) (hD : H1 D = none) (p : PvO H1 D R i H) (s4 : Same H H4) (few : i < 1000) (ny : y ≠ .ref D) (ry : R i y H4) :
    ∃ acc, H4 D = some (.lst acc) ∧ acc.length < sizeLine ∧ PvO H1 D R (i + 1) (upd H4 D (.lst (acc ++ [y]))) := by
  obtain ⟨s, acc, ha, hl, hr⟩ := p
  refine ⟨acc, s4 _ _ ha, small1000 (by omega), fun b o eb => ?_, acc ++ [y], upd_same, ?_, fun j v hv => ?_⟩
  · rw [upd_ne (ne_of_none eb hD)]
    exact s4 b o (s b o eb)
  · rw [List.length_append, hl]
    rfl
  · by_cases c : j < acc.length
    · rw [List.getElem?_append_left c] at hv
      obtain ⟨nv, rv⟩ := hr j v hv
      exact ⟨nv, st j v _ _ (st j v _ _ rv nv (But.of s4)) nv But.upd⟩
    · rw [List.getElem?_append_right (by omega)] at hv
      have e : j = i := by
        by_cases e : j - acc.length = 0
        · omega
        · rw [List.getElem?_eq_none (by show 1 ≤ j - acc.length; omega)] at hv
          cases hv
      subst e
      rw [hl, Nat.sub_self] at hv
      cases hv
      exact ⟨ny, st j y _ _ ry ny But.upd⟩
section
variable {J : It} {n : Nat} {G : Hp → Prop} {Y : Nat → Hp → V → Hp → Prop}
theorem lcObj (w : Walk J n G Y) {g : TG} {tt : TT} {te : TE} {vs : List Nat} {σ : L2.St} {H1 : Hp} {D : Addr} {Qd : Hp → Prop} (R : Nat → V → Hp → Prop) (hD : H1 D = none) (hG : ∀ H, Same H1 H → G H)
    (hs : ∀ i x H H', i < n → PvO H1 D R i H → Y i H x H' → g x (wipe σ vs) H' fun σ2 H2 => wipe σ2 vs = wipe σ vs ∧ tt σ2 H2 fun b H3 =>
      if b = true then te σ2 H3 fun y H4 => ∃ acc, H4 D = some (.lst acc) ∧ acc.length < sizeLine ∧ PvO H1 D R (i + 1) (upd H4 D (.lst (acc ++ [y]))) else PvO H1 D R (i + 1) H3)
    (hd : ∀ H acc, Same H1 H → H D = some (.lst acc) → acc.length = n → (∀ j v, acc[j]? = some v → v ≠ .ref D ∧ R j v H) → Qd H) :
    ∃ W : Nat → Nat → Hp → Prop, (∃ m, W 0 m (upd H1 D (.lst []))) ∧ ∀ i m H, W i m H →
      (J.stop i H ∧ Qd H) ∨ (J.go i H ∧ ∃ Nx : Hp → Prop, (∀ H', Nx H' → ∃ m', m' < m ∧ W (i + 1) m' H') ∧ ∀ x H', J.yld i H x H' → g x (wipe σ vs) H' fun σ2 H2 => wipe σ2 vs = wipe σ vs ∧ tt σ2 H2 fun b H3 =>
        if b = true then te σ2 H3 fun y H4 => ∃ acc, H4 D = some (.lst acc) ∧ acc.length < sizeLine ∧ Nx (upd H4 D (.lst (acc ++ [y]))) else Nx H3) :=
  lc_it w (PvO H1 D R) ⟨same_upd hD, [], upd_same, rfl, fun j v h => by cases h⟩ (fun _ H _ h => hG H h.1) hs fun H h => by
    obtain ⟨s, acc, a, b, c⟩ := h
    exact hd H acc s a b c
end
/-- the j-th is a list of ints, a tuple of ints -/
def RL (w : Nat) (f : Nat → Nat → Int) : Nat → V → Hp → Prop := fun i v H => ∃ q, v = .ref q ∧ H q = some (.lst ((rngN w (f i)).map V.int))
def RT (g : Nat → List Int) : Nat → V → Hp → Prop := fun i v H => ∃ q, v = .ref q ∧ H q = some (.tup ((g i).map V.int))
theorem stab_RL {w : Nat} {f : Nat → Nat → Int} {D : Addr} : Stab D (RL w f) := fun j v H H' h nv k => by
  obtain ⟨q, rfl, h⟩ := h
  exact ⟨q, rfl, k _ _ (fun e => nv (by rw [e])) h⟩
theorem stab_RT {g : Nat → List Int} {D : Addr} : Stab D (RT g) := fun j v H H' h nv k => by
  obtain ⟨q, rfl, h⟩ := h
  exact ⟨q, rfl, k _ _ (fun e => nv (by rw [e])) h⟩
/-- an address that stands is no new one -/
theorem ref_ne {H : Hp} {q D : Addr} {o : HO} (hq : H q = none) (hD : H D = some o) : V.ref q ≠ V.ref D := fun e => by
  have := V.ref.inj e
  rw [this, hD] at hq
  cases hq
theorem pe_tupleOfK {X : Cx} {K : PySem.W.Frag} {p pos : Pos} {a : Expr} {ta : TE} (hK : X.K = K) (hg : Gl X "tuple") (hm : X.mg "tuple" = none) (ha : PE X a ta)
    (na : starEach [a] X.env = (false, eval a X.env) :: starEach [] X.env := by rfl) : PE X (.Call (.Name "tuple" p) [a] [] pos) (tThen ta (kTup K)) := by
  subst hK
  exact pe_tupleOf hg hm ha na
theorem ref_ne2 {H : Hp} {q D : Addr} {xs ys : List V} (hq : H q = some (.tup xs)) (hD : H D = some (.lst ys)) : V.ref q ≠ V.ref D := fun e => by
  have := V.ref.inj e
  rw [this, hD] at hq
  cases hq
/-! walks, the frame named -/
section
variable {X : Cx} {K : PySem.W.Frag} {e e2 : Expr} {te : TE} {ta : TA} {tg : Expr} {p pos tpos : Pos} {elts : List Expr} {kk : Nat}
theorem pi_listK (hK : X.K = K) (he : PE X e te) : PI X tg e (iList K te) := by
  subst hK
  exact pi_list he
theorem pi_tupK (hK : X.K = K) (he : PE X e te) : PI X tg e (iTup K te) := by
  subst hK
  exact pi_tup he
theorem pi_zipAK (hK : X.K = K) (hg : Gl X "zip") (hm : X.mg "zip" = none) (ha : PA X [e, e2] ta)
    (hs : starEach [e, e2] X.env = (false, eval e X.env) :: starEach [e2] X.env := by rfl) (hpl : (backTo pos (starEach [e2] X.env)).any (·.1) = false := by rfl) :
    PI X (.Tuple elts kk tpos) (.Call (.Name "zip" p) [e, e2] [] pos) (RZ.iZipA K ta) := by
  subst hK
  exact RZ.pi_zipA hg hm ha hs hpl
end
theorem walk_zipT {K : PySem.W.Frag} {a b : Addr} {xs ys : List V} {n : Nat} (hn : n = min xs.length ys.length) : Walk (RZ.ItzT K a b) n (fun H => SqT K H a xs ∧ SqT K H b ys) (YPair (fun i => xs[i]?) (fun i => ys[i]?)) := by
  subst hn
  refine ⟨fun i _ hi q => ?_, fun _ q => ⟨xs, ys, q.1, q.2, by omega⟩, fun i H v H' _ q y => ?_⟩
  · have h1 : i < xs.length := by omega
    have h2 : i < ys.length := by omega
    exact ⟨xs, ys, xs[i], ys[i], q.1, q.2, by simp [h1], by simp [h2]⟩
  · obtain ⟨T, x, z, h1, h2, h3, h4, h5⟩ := y
    exact ⟨T, x, z, h1, h2, h3, h4 xs q.1, h5 ys q.2⟩
-- part many1
/-! the class Many -/
theorem hu1 {k : Nat} {A : Around} (hr : Room k A) : A.units + 1 < cLine := by
  have := hr.un
  omega
def mnF (d : Addr) : List (Str × V) := putF "_terms" (.ref d) []
theorem mn_t (d : Addr) : (mnF d).lookup ("_terms" : Str) = some (.ref d) := by
  unfold mnF
  rw [lookup_putF, if_pos rfl]
theorem mn_no (d : Addr) {m : Str} (h : ¬ m = "_terms") : (mnF d).lookup m = none := by
  unfold mnF
  rw [lookup_putF, if_neg h] <;> rfl
structure ManyAt (C : Addr) (H : Hp) (a : Addr) (L : FS) : Prop where
  ob : ∃ dx d, H a = some (.ins C dx (mnF d)) ∧ H d = some (.dT (tmV L))
  ok : Terms L
theorem ManyAt.same {C : Addr} {H H' : Hp} {a : Addr} {L : FS} (h : ManyAt C H a L) (s : Same H H') : ManyAt C H' a L := by
  obtain ⟨dx, d, h1, h2⟩ := h.ob
  exact ⟨⟨dx, d, s _ _ h1, s _ _ h2⟩, h.ok⟩
structure ManyT (K : PySem.W.Frag) (mg : Str → Option Value) (C : Addr) : Prop where
  g : mg "Many" = some (.ref C)
  cl : Cls K C
  nT : NoAttr K C "_terms"
  sf : PySem.W.selfFirst K C = true
  isC : C8.InsC K C
theorem putS_new {L : FS} {k : List Str} {c : Int} (h : k ∉ L.map (·.1)) : putS L k c = L ++ [(k, c)] := by
  unfold putS
  rw [if_neg (by rw [lkS_none.mpr h]; decide)]
theorem nz_sub {L : FS} {k : List Str} (h : k ∈ (nzS L).map (·.1)) : k ∈ L.map (·.1) := by
  obtain ⟨e, he, rfl⟩ := List.mem_map.mp h
  exact List.mem_map.mpr ⟨e, (List.mem_filter.mp he).1, rfl⟩
theorem new_key {L : FS} (nd : (L.map (·.1)).Nodup) {i : Nat} {e : List Str × Int} (h : L[i]? = some e) : e.1 ∉ (L.take i).map (·.1) := by
  have := nd
  rw [← List.take_append_drop i L, List.map_append, List.nodup_append] at this
  have hd : e ∈ L.drop i := by
    refine List.mem_iff_getElem?.mpr ⟨0, ?_⟩
    rw [List.getElem?_drop]
    exact h
  exact fun m => this.2.2 _ m _ (List.mem_map.mpr ⟨e, hd, rfl⟩) rfl
theorem nz_take {L : FS} (nd : (L.map (·.1)).Nodup) {i : Nat} {e : List Str × Int} (h : L[i]? = some e) (ne : e.2 ≠ 0) : putS (nzS (L.take i)) e.1 e.2 = nzS (L.take (i + 1)) := by
  rw [putS_new (fun m => new_key nd h (nz_sub m)), take_snoc h]
  unfold nzS
  rw [List.filter_append, List.filter_cons, if_pos (by rw [decide_eq_false ne]; rfl)]
  rfl
theorem nz_skip {L : FS} {i : Nat} {e : List Str × Int} (h : L[i]? = some e) (z : e.2 = 0) : nzS (L.take (i + 1)) = nzS (L.take i) := by
  rw [take_snoc h]
  unfold nzS
  rw [List.filter_append, List.filter_cons, if_neg (by rw [decide_eq_true z]; decide), List.filter_nil, List.append_nil]
theorem nz_len (L : FS) (i : Nat) : (nzS (L.take i)).length ≤ L.length := by
  refine Nat.le_trans (List.length_filter_le _ _) ?_
  rw [List.length_take]
  omega
/-- a lock and its end -/
theorem lock_same {H H' : Hp} {d : Addr} {u f : HO} (hd : H d = some u) (s : Same (upd H d f) H') : Same H (upd H' d u) := fun b o e => by
  by_cases c : b = d
  · subst c
    rw [hd] at e
    rw [← Option.some.inj e]
    exact upd_same
  · rw [upd_ne c]
    exact s b o (by rw [upd_ne c]; exact e)
theorem tm_get {L : FS} {i : Nat} {k : List Key} {v : V} (h : (tmV L)[i]? = some (k, v)) : ∃ e, L[i]? = some e ∧ k = kT e.1 ∧ v = .int e.2 := by
  unfold tmV at h
  rw [List.getElem?_map] at h
  obtain ⟨e, he, z⟩ := Option.map_eq_some_iff.mp h
  cases z
  exact ⟨e, he, rfl, rfl⟩
abbrev s_mninit : Stmt := inClass (top 10) 0
theorem sc_mninit : FnScope ["self", "terms", "names"] ["self", "terms"] (defScope s_mninit) := ⟨rfl, rfl, rfl, by decide +kernel, rfl, by decide +kernel, by decide +kernel⟩
def spMnI (C : Addr) : Sp := fun vs H Q _ => ∃ (x dx t : Addr) (L : FS), vs = [.ref x, .ref t] ∧ H x = some (.ins C dx []) ∧ H t = some (.dT (tmV L)) ∧ Good L ∧ L.length < 1000000 ∧
  ∀ H', ManyAt C H' x (nzS L) → (∀ b o, H b = some o → b ≠ x → H' b = some o) → Q .non H'
theorem ok_mninit {f C : Addr} {fd : FuncData} (T : ManyT K mg C) (F : Fun K "__init__" "Many.__init__" s_mninit f fd) : FnOk P w K mg base (L2N.CX P w) 2 f fd ["self", "terms"] (spMnI C) := by
  refine okN F sc_mninit (fun vs H Q E h => ?_) (fun cdv A outer s H vs Q E hr h => ?_)
  · obtain ⟨x, dx, t, L, rfl, _⟩ := h
    rfl
  · obtain ⟨x, dx, t, L, rfl, hx, ht, gd, few, q⟩ := h
    have z : L.length < sizeLine := by rw [sizeLine_eq]; omega
    refine ⟨_, (pss_one (ps_fld (pv 0) (pe_lock (pe_dcT (own := [("names", 2)]) (g := (gName 2)) hr rfl sc_mninit.nd (pi_keys (pv 1)) (blkOk_by (N := ["self", "terms", "names"]) (sc := defScope s_mninit) (by decide +kernel)) (fun _ _ _ _ _ => (pg_name (i := 2) sc_mninit.nd rfl (Or.inl rfl))) (fun _ _ _ _ _ => (pts_one (pt_cmpR op_ne (pe_dget (by exact hu1 hr) (pv 1) (pv 2) (fun _ _ => rfl)) pe_int (nomark _)))) (fun _ _ _ _ _ => (pv 2)) (fun _ _ _ _ _ => (pe_dget (by exact hu1 hr) (pv 1) (pv 2) (fun _ _ => rfl))))) rfl)), ?_⟩
    refine ⟨t, _, ht, trivial, fun od => ?_⟩
    refine ⟨_, rfl, t, od, rfl, .inr ⟨_, upd_same, fun D nD => dcT_it walk_keysT (fun i G => Same (upd H t (.frz od (.dT (tmV L)))) G ∧ G D = some (.dT (tmV (nzS (L.take i))))) ⟨same_upd nD, upd_same⟩ (fun i G _ p => p.1 _ _ upd_same) ?_ ?_⟩⟩
    · rintro i y _ G hi ⟨s1, hD⟩ ⟨rfl, k, v, q1, hk, rfl, hq1⟩
      obtain ⟨e, he, rfl, rfl⟩ := tm_get hk
      have look : DGet G t (.ref q1) (some (.int e.2)) := by
        have hv : valV (tmV L) (kT e.1) = some (.int e.2) := by rw [tm_val, lkS_mem gd.nd (List.mem_of_getElem? he)]; rfl
        rw [← hv]
        exact .inr ⟨_, kT e.1, q1, .inr ⟨od, s1 _ _ upd_same⟩, rfl, hq1, rfl⟩
      have fresh : ¬ t = D := fun c => by
        rw [c, upd_same] at nD
        cases nD
      refine ⟨rfl, _, rfl, _, rfl, t, _, rfl, look, rfl, _, rfl, ?_⟩
      by_cases c : e.2 = 0
      · refine if_neg_of (by rw [c]; exact congrArg not (decide_eq_true rfl)) ?_
        exact ⟨s1, by rw [nz_skip he c]; exact hD⟩
      · refine if_pos_of (by rw [decide_eq_false fun h => c (V.int.inj h)]; rfl) ?_
        refine ⟨_, rfl, _, rfl, _, rfl, t, _, rfl, look, _, kT e.1, q1, rfl, hq1, hD, by rw [tmV_len]; exact Nat.lt_of_le_of_lt (nz_len L i) z, fun b o eb => ?_, ?_⟩
        · rw [upd_ne (ne_of_none eb nD)]
          exact s1 b o eb
        · rw [tm_put, nz_take gd.nd he c]
          exact upd_same
    · rintro G ⟨s1, hD⟩
      rw [tmV_len, List.take_length] at hD
      have hD2 : upd G t (.dT (tmV L)) D = some (.dT (tmV (nzS L))) := by
        rw [upd_ne (fun c => by rw [c, s1 _ _ upd_same] at hD; cases hD)]
        exact hD
      have s2 := lock_same ht s1
      refine ⟨s1 _ _ upd_same, _, rfl, x, C, dx, [], rfl, s2 _ _ hx, T.cl, T.nT, (by show 0 < 1000; decide), ?_⟩
      refine q _ ⟨⟨dx, D, upd_same, ?_⟩, Terms.of gd⟩ fun b o hb hbx => ?_
      · rw [upd_ne (fun c => by rw [c, s2 _ _ hx] at hD2; cases hD2)]
        exact hD2
      · rw [upd_ne hbx]
        exact s2 b o hb
/-- made by Many(..) -/
theorem make_mnA {C x dx : Addr} {H1 : Hp} {t : Addr} {L : FS} {R : VK} (hx : H1 x = none) (hdx : H1 dx = none) (ht : H1 t = some (.dT (tmV L))) (gd : Good L) (few : L.length < 1000000)
    (k : ∀ H2, ManyAt C H2 x (nzS L) → Same H1 H2 → R .non H2) : spMnI C (.ref x :: ([.ref t] ++ [])) (upd (upd H1 dx (.own x)) x (.ins C dx [])) R E0 := by
  have s1 : Same H1 (upd (upd H1 dx (.own x)) x (.ins C dx [])) := fun b o eb => by
    rw [upd_ne (ne_of_none eb hx), upd_ne (ne_of_none eb hdx)]
    exact eb
  exact ⟨x, dx, t, L, rfl, upd_same, s1 _ _ ht, gd, few, fun H' m keep => k H' m fun b o eb => keep b o (s1 b o eb) (ne_of_none eb hx)⟩
theorem make_mn {C : Addr} {H1 : Hp} {t : Addr} {L : FS} {Q : VK} (ht : H1 t = some (.dT (tmV L))) (gd : Good L) (few : L.length < 1000000)
    (k : ∀ (r : Addr) (H2 : Hp), ManyAt C H2 r (nzS L) → Same H1 H2 → Q (.ref r) H2) :
    ∀ x dx, H1 x = none → H1 dx = none → dx ≠ x → spMnI C (.ref x :: ([.ref t] ++ [])) (upd (upd H1 dx (.own x)) x (.ins C dx [])) (fun v H2 => v = .non ∧ Q (.ref x) H2) E0 :=
  fun x dx hx hdx _ => make_mnA hx hdx ht gd few fun H2 m s => ⟨rfl, k x H2 m s⟩
abbrev s_mnnum : Stmt := inClass (top 10) 1
theorem sc_mnnum : FnScope ["cls", "n"] ["cls", "n"] (defScope s_mnnum) := ⟨rfl, rfl, rfl, by decide +kernel, rfl, by decide +kernel, by decide +kernel⟩
def numL (n : Int) : FS := nzS [([], n)]
def spMnN (C : Addr) : Sp := fun vs H Q _ => ∃ n : Int, vs = [.ref C, .int n] ∧ ∀ r H', ManyAt C H' r (numL n) → Same H H' → Q (.ref r) H'
theorem good1 {k : List Str} (sk : k.Pairwise leN) (n : Int) : Good [(k, n)] := ⟨List.nodup_cons.mpr ⟨(fun h => by cases h), .nil⟩, fun e he => by rw [List.mem_singleton.mp he]; exact sk⟩
theorem ok_mnnum {f C : Addr} {fd : FuncData} (T : ManyT K mg C) (F : Fun K "number" "Many.number" s_mnnum f fd) (c_mi : Ma P w K mg base 2 C (spMnI C)) : FnOk P w K mg base CX0 4 f fd ["cls", "n"] (spMnN C) := by
  refine F.ok sc_mnnum (fun vs H Q E h => ?_) (fun cdv A outer s H vs Q E hr h => ?_)
  · obtain ⟨n, rfl, _⟩ := h
    rfl
  · obtain ⟨n, rfl, q⟩ := h
    refine ⟨_, (pss_one (ps_ret (pe_maL (i := 0) c_mi hr rfl (pa_cons (pe_dispT hr (pe_tup pa_nil) (pv 1)) pa_nil)))), ?_⟩
    refine ⟨rfl, fun d nd => ?_⟩
    have g1 := same_upd (o := .dT []) nd
    refine ⟨(by show 0 ≤ sizeLine; decide), fun p np => ⟨_, rfl, p, [], rfl, upd_same, ?_, ?_⟩⟩
    · rw [upd_ne (ne_of_none upd_same np)]
      exact upd_same
    · have g : Same H (upd (upd (upd H d (.dT [])) p (.tup [])) d (.dT [([], .int n)])) := fun b o e => by
        rw [upd_ne (ne_of_none e nd)]
        exact same_upd np b o (g1 b o e)
      exact make_mn (L := [([], n)]) upd_same (good1 .nil n) (by show 1 < 1000000; decide) fun r H2 m s => q r H2 m (g.trans s)
abbrev s_mnunk : Stmt := inClass (top 10) 2
theorem sc_mnunk : FnScope ["cls", "name"] ["cls", "name"] (defScope s_mnunk) := ⟨rfl, rfl, rfl, by decide +kernel, rfl, by decide +kernel, by decide +kernel⟩
def spMnU (C : Addr) : Sp := fun vs H Q _ => ∃ x : Str, vs = [.ref C, .str x] ∧ ∀ r H', ManyAt C H' r [([x], 1)] → Same H H' → Q (.ref r) H'
theorem ok_mnunk {f C : Addr} {fd : FuncData} (T : ManyT K mg C) (F : Fun K "unknown" "Many.unknown" s_mnunk f fd) (c_mi : Ma P w K mg base 2 C (spMnI C)) : FnOk P w K mg base CX0 4 f fd ["cls", "name"] (spMnU C) := by
  refine F.ok sc_mnunk (fun vs H Q E h => ?_) (fun cdv A outer s H vs Q E hr h => ?_)
  · obtain ⟨n, rfl, _⟩ := h
    rfl
  · obtain ⟨x, rfl, q⟩ := h
    refine ⟨_, (pss_one (ps_ret (pe_maL (i := 0) c_mi hr rfl (pa_cons (pe_dispT hr (pe_tup (pa_cons (pv 1) pa_nil)) pe_int) pa_nil)))), ?_⟩
    refine ⟨rfl, fun d nd => ?_⟩
    have g1 := same_upd (o := .dT []) nd
    refine ⟨_, rfl, (by show 1 ≤ sizeLine; decide), fun p np => ⟨p, kT [x], rfl, upd_same, ?_, ?_⟩⟩
    · rw [upd_ne (ne_of_none upd_same np)]
      exact upd_same
    · have g : Same H (upd (upd (upd H d (.dT [])) p (.tup [.str x])) d (.dT [(kT [x], .int 1)])) := fun b o e => by
        rw [upd_ne (ne_of_none e nd)]
        exact same_upd np b o (g1 b o e)
      exact make_mn (L := [([x], 1)]) upd_same (good1 (List.pairwise_singleton _ _) 1) (by show 1 < 1000000; decide) fun r H2 m s => q r H2 m (g.trans s)
abbrev s_mneq : Stmt := inClass (top 10) 7
theorem sc_mneq : FnScope ["self", "other"] ["self", "other"] (defScope s_mneq) := ⟨rfl, rfl, rfl, by decide +kernel, rfl, by decide +kernel, by decide +kernel⟩
noncomputable def polEq (p q : Pol) : Bool := @decide (p = q) (Classical.propDecidable _)
theorem polEq_iff {p q : Pol} : polEq p q = true ↔ p = q := by
  unfold polEq
  exact @decide_eq_true_iff _ (Classical.propDecidable _)
theorem polEq_t {L M : FS} (tl : Terms L) (tm : Terms M) : eqT (L.map fun e => (kT e.1, e.2)) (M.map fun e => (kT e.1, e.2)) = polEq (pol L) (pol M) :=
  Bool.eq_iff_iff.mpr ((eqT_pol tl tm).trans polEq_iff.symm)
def spMnEq (C : Addr) : Sp := fun vs H Q _ => ∃ (a b : Addr) (L M : FS), vs = [.ref a, .ref b] ∧ ManyAt C H a L ∧ ManyAt C H b M ∧ Q (.bl (polEq (pol L) (pol M))) H
theorem ok_mneq {f C : Addr} {fd : FuncData} (TT : Txt mg) (T : ManyT K mg C) (F : Fun K "__eq__" "Many.__eq__" s_mneq f fd) : FnOk P w K mg base CX0 1 f fd ["self", "other"] (spMnEq C) := by
  refine F.ok sc_mneq (fun vs H Q E h => ?_) (fun cdv A outer s H vs Q E hr h => ?_)
  · obtain ⟨a, b, _, _, rfl, _⟩ := h
    rfl
  · obtain ⟨a, b, L, M, rfl, ma, mb, q⟩ := h
    obtain ⟨dx, d, h1, h2⟩ := ma.ob
    obtain ⟨dy, e, g1, g2⟩ := mb.ob
    refine ⟨_, (pss_one (ps_ret (pe_and (pe_callB (C8.call_isC T.isC) (by rfl) TT.isinstance boot_isinstance (pa_cons (pv 1) (pa_cons (pe_glob (v := .ref C) (by rfl) T.g rfl) pa_nil))) (pe_one (pe_cmpR (op_eqT hr) (pe_fld (pv 0) rfl) (pe_fld (pv 1) rfl) (nomark _)))))), ?_⟩
    refine ⟨_, rfl, b, dy, _, rfl, g1, _, rfl, if_pos_of rfl ?_⟩
    refine ⟨_, rfl, a, C, dx, _, _, rfl, h1, T.cl, T.nT, mn_t _, _, rfl, b, C, dy, _, _, rfl, g1, T.cl, T.nT, mn_t _, d, e, L.map fun e => (kT e.1, e.2), M.map fun e => (kT e.1, e.2), rfl, rfl, ?_, ?_, ?_⟩
    · rw [← tmV_dt]; exact h2
    · rw [← tmV_dt]; exact g2
    · rw [polEq_t ma.ok mb.ok]; exact q
-- part srtt
/-! sorted(t), t a tuple of texts -/
def rSortedTS (K : PySem.W.Frag) : List V → Hp → VK → Prop := fun vs H Q => ∃ (a : Addr) (xs : List Str), vs = [V.ref a] ∧ SqT K H a (xs.map V.str) ∧ xs.length < 64 ∧
  ∀ (ys : List Str) (p : Addr), ys.Perm xs → sortedS ys = true → H p = none → Q (.ref p) (upd H p (.lst (ys.map V.str)))
theorem call_sortedTS {X : Cx} : CallR X (.builtin "sorted") (rSortedTS X.K) := by
  intro pins s σ H xs us Q I r q
  obtain ⟨a, ks, rfl, hs, h64, q⟩ := q
  obtain ⟨its, rv, ⟨o, ho, hc, n, hd⟩, hz⟩ := I.tuple hs
  rw [Vals.ref1 r]
  have hS := rv.strs
  have hl : its.length = ks.length := by
    have z := rv.length
    rw [List.length_map] at z
    exact z.symm
  have h16 : its.toArray.size ≤ sizeLine := by rw [List.size_toArray, hl, sizeLine_eq]; omega
  refine Calls.call_function_entry PyProof.Rows.kind_sorted PyProof.Rows.plain_sorted PyProof.Rows.entry_sorted (PyProof.Rows.args_sorted1 _) ?_
  unfold Builtin.«sorted»
  refine wpAny_bind (m := checkCount "sorted" 1 1 _) (wpAny_pure ?_)
  refine wpAny_bind (wpAny_collect_seq a (.inr rfl) ho hc hd (fun h' hk => ?_) h16)
  have I1 : Inv X pins σ H { s with heap := h' } := I.kept (t' := s.toks) hk
  refine wpAny_bind (wpAny_newList ?_ h16)
  have hoL : (h'.push (seqObj "list" its.toArray 0)).get? h'.objs.size = some (seqObj "list" its.toArray 0) := Heap.get?_push_size _ rfl
  show wpAny _ _ _ _ _ { s with heap := h'.push (seqObj "list" its.toArray 0) }
  refine wpAny_bind (wpAny_holding (wpAny_call_entry PyProof.Rows.slot_list_sort ⟨_, hoL, rfl⟩ PyProof.Rows.entry_list_sort
    (list_sort_treeK strKind_oneLt (s := { s with heap := h'.push (seqObj "list" its.toArray 0) }) hoL hS.keysOf (fun v₁ v₂ rest e => keyKind_strs (by rw [← e]; exact hS)) (by rw [hl]; exact h64) fun st' hp hs => ⟨_, rfl, ?_⟩)
    (PyProof.Rows.args_list_sort _)))
  obtain ⟨ys, g1, g2, g3⟩ := sorted_out_str hS hp hs
  obtain ⟨e', he'⟩ := PyProof.Rows.sortedHeap_at (vs := its) (out := (arrOf st').map (·.2)) hoL
  have hlen : (ys.map V.str).length ≤ sizeLine := by
    rw [List.length_map, g2.length_eq]
    exact Nat.le_trans (Nat.le_of_lt h64) (by decide)
  refine wpAny_pure ⟨_, rfl, .ref h'.objs.size, upd H h'.objs.size (.lst (ys.map V.str)), I1.laid (t' := s.toks) (fun b u e => ?_) (Nat.le_refl _)
    (show ObjOk X.prog X.w _ _ _ (.lst (ys.map V.str)) from ⟨hlen, ((arrOf st').map (·.2)).toList, e', vals_of_strs g1, by rw [Array.toArray_toList]; exact he'⟩), rfl, q ys _ g2 g3 (I1.hok.fresh (Nat.le_refl _))⟩
  have hb : b < h'.objs.size := Heap.lt_size e
  rw [PyProof.Rows.sortedHeap_old (Nat.ne_of_lt hb) (by rw [size_push']; exact Nat.lt_succ_of_lt hb)]
  exact Heap.get?_push_of_some _ e
theorem risingS_leN : ∀ {ys : List Str} {x : Str}, risingS x ys = true → (∀ y ∈ ys, leN x y) ∧ ys.Pairwise leN
  | [], _, _ => ⟨(fun _ h => by cases h), .nil⟩
  | y :: ys, x, h => by
    have h : (!ltCps y.cps.toList x.cps.toList && risingS y ys) = true := h
    rw [Bool.and_eq_true] at h
    obtain ⟨h1, h2⟩ := h
    obtain ⟨a1, a2⟩ := risingS_leN h2
    have le : leN x y := by
      rw [ltCps_eq] at h1
      have h1 : decide (y.cps.toList < x.cps.toList) = false := by cases c : decide (y.cps.toList < x.cps.toList) with
        | false => rfl
        | true => rw [c] at h1; cases h1
      exact List.not_lt.mp (of_decide_eq_false h1)
    exact ⟨fun z hz => by
      rcases List.mem_cons.mp hz with rfl | hz
      · exact le
      · exact leN_trans le (a1 z hz), List.pairwise_cons.mpr ⟨a1, a2⟩⟩
theorem sortedS_leN : ∀ {ys : List Str}, sortedS ys = true → ys.Pairwise leN
  | [], _ => .nil
  | y :: ys, h => by
    obtain ⟨a1, a2⟩ := risingS_leN (ys := ys) (x := y) h
    exact List.pairwise_cons.mpr ⟨a1, a2⟩
-- part many2
/-! sums, opposites and products of Manys -/
/-- a Many of these sizes, with this polynomial -/
def MP (C : Addr) (d n B : Nat) (H : Hp) (a : Addr) (p : Pol) : Prop := ∃ L, ManyAt C H a L ∧ pol L = p ∧ Sz d n B L
theorem MP.same {C : Addr} {d n B : Nat} {H H' : Hp} {a : Addr} {p : Pol} (h : MP C d n B H a p) (s : Same H H') : MP C d n B H' a p := by
  obtain ⟨L, h1, h2, h3⟩ := h
  exact ⟨L, h1.same s, h2, h3⟩
theorem MP.mono {C : Addr} {d n B d' n' B' : Nat} {H : Hp} {a : Addr} {p : Pol} (h : MP C d n B H a p) (h1 : d ≤ d' := by decide) (h2 : n ≤ n' := by decide) (h3 : B ≤ B' := by decide) : MP C d' n' B' H a p := by
  obtain ⟨L, k1, k2, k3⟩ := h
  exact ⟨L, k1, k2, k3.mono h1 h2 h3⟩
theorem num_sz {n : Int} {B : Nat} (h : n.natAbs ≤ B) : Sz 0 1 B (numL n) := by
  have : Sz 0 1 B [([], n)] := ⟨Nat.le_refl _, (fun e he => by rw [List.mem_singleton.mp he]; exact Nat.le_refl 0), by show n.natAbs + 0 ≤ B; omega⟩
  exact this.nz
theorem num_mp {C : Addr} {H : Hp} {a : Addr} {n : Int} {B : Nat} (m : ManyAt C H a (numL n)) (h : n.natAbs ≤ B) : MP C 0 1 B H a (Pol.num n) := ⟨_, m, pol_nz _, num_sz h⟩
/-- gathered so far: the terms A -/
structure Acc (d : Nat) (A F : FS) : Prop where
  gd : Good F
  eq : pol F = pol A
  sz : Sz d A.length (nrm A) F
theorem Acc.nil {d : Nat} : Acc d [] [] := ⟨Good.nil, rfl, Sz.nil⟩
theorem Acc.step {d : Nat} {A F : FS} (h : Acc d A F) {k : List Str} (c : Int) (sk : k.Pairwise leN) (hk : k.length ≤ d) : Acc d (A ++ [(k, c)]) (putS F k ((lkS F k).getD 0 + c)) := by
  refine ⟨h.gd.bump sk c, ?_, ?_⟩
  · rw [pol_bump h.gd sk, h.eq, Pol.add_mk]
  · rw [List.length_append, nrm_append]
    exact h.sz.bump h.gd hk c
theorem Acc.done {C : Addr} {d n B : Nat} {A F : FS} {H : Hp} {a : Addr} {p : Pol} (h : Acc d A F) (m : ManyAt C H a (nzS F)) (hp : pol A = p) (hn : A.length ≤ n) (hB : nrm A ≤ B) : MP C d n B H a p :=
  ⟨_, m, by rw [pol_nz, h.eq, hp], h.sz.nz.mono (Nat.le_refl _) hn hB⟩
theorem get_getD {F : FS} {k : List Str} : (Option.map V.int (lkS F k)).getD (V.int 0) = V.int ((lkS F k).getD 0) := by
  cases lkS F k <;> rfl
theorem same_lock {H G : Hp} {d : Addr} {f : HO} (s : Same H G) : Same (upd H d f) (upd G d f) := fun b o e => by
  by_cases c : b = d
  · subst c
    rw [upd_same] at e ⊢
    exact e
  · rw [upd_ne c] at e ⊢
    exact s b o e
theorem pairAt {α : Type} {x y : α} {i : Nat} {z : α} (h : [x, y][i]? = some z) : i < 2 := by
  have := (List.getElem?_eq_some_iff.mp h).1
  exact this
abbrev s_mnadd : Stmt := inClass (top 10) 3
theorem sc_mnadd : FnScope ["self", "other", "found", "terms", "names"] ["self", "other"] (defScope s_mnadd) := ⟨rfl, rfl, rfl, by decide +kernel, rfl, by decide +kernel, by decide +kernel⟩
def spMnAdd (C : Addr) : Sp := fun vs H Q _ => ∃ (a b : Addr) (d n m B D : Nat) (p q : Pol), vs = [.ref a, .ref b] ∧ MP C d n B H a p ∧ MP C d m D H b q ∧ n + m < 1000000 ∧
  ∀ r H', MP C d (n + m) (B + D) H' r (p + q) → Same H H' → Q (.ref r) H'
theorem ok_mnadd {f C : Addr} {fd : FuncData} (T : ManyT K mg C) (F : Fun K "__add__" "Many.__add__" s_mnadd f fd) (c_mi : Ma P w K mg base 2 C (spMnI C)) : FnOk P w K mg base CX0 4 f fd ["self", "other"] (spMnAdd C) := by
  refine F.ok sc_mnadd (fun vs H Q E h => ?_) (fun cdv A outer s H vs Q E hr h => ?_)
  · obtain ⟨a, b, _, _, _, _, _, _, _, rfl, _⟩ := h
    rfl
  · obtain ⟨a, b, d, n, m, B, D, p, q, rfl, ⟨L, ma, rfl, za⟩, ⟨M, mb, rfl, zb⟩, few, qq⟩ := h
    obtain ⟨dx, da, h1, h2⟩ := ma.ob
    obtain ⟨dy, db, g1, g2⟩ := mb.ob
    have zl := za.len
    have zm := zb.len
    refine ⟨_, (pss_cons (ps_set (i := 2) sc_mnadd.nd rfl (Or.inl rfl) pe_dnewT)
 (pss_cons (ps_for PassesOwn.never rfl (pi_tup (pe_tup (pa_cons (pe_fld (pv 0) rfl) (pa_cons (pe_fld (pv 1) rfl) pa_nil)))) (pg_name (i := 3) sc_mnadd.nd rfl (Or.inl rfl)) (pss_one (ps_lock (ps_for PassesOwn.never rfl (pi_keys (pv 3)) (pg_name (i := 4) sc_mnadd.nd rfl (Or.inl rfl)) (pss_one (ps_dput (hu1 hr) (pv 2) (pv 4) (pe_op op_add (pe_dget2 (by exact hu1 hr) (pv 2) (pv 4) pe_int ⟨rfl, rfl, rfl, rfl⟩) (pe_dget (by exact hu1 hr) (pv 3) (pv 4) (fun _ _ => rfl))) rfl))))))
 (pss_one (ps_ret (pe_ma c_mi hr T.g (pa_cons (pv 2) pa_nil)))))), ?_⟩
    refine fun fd nfd => ?_
    have k0 := same_upd (o := .dT []) nfd
    have each : ∀ (i : Nat) (x : V), ([V.ref da, V.ref db])[i]? = some x → ∃ dd Li, x = .ref dd ∧ H dd = some (.dT (tmV Li)) ∧ ([L, M])[i]? = some Li ∧ Terms Li ∧ (∀ e ∈ Li, e.1.length ≤ d) ∧ (([L, M]).take (i + 1)).flatten.length ≤ n + m := fun i x hx => by
      match i, hx with
      | 0, hx =>
        cases hx
        refine ⟨da, L, rfl, h2, rfl, ma.ok, za.it, ?_⟩
        show (L ++ []).length ≤ n + m
        rw [List.append_nil]
        omega
      | 1, hx =>
        cases hx
        refine ⟨db, M, rfl, g2, rfl, mb.ok, zb.it, ?_⟩
        show (L ++ (M ++ [])).length ≤ n + m
        rw [List.append_nil, List.length_append]
        omega
      | i + 2, hx => cases hx
    refine ⟨_, rfl, a, C, dx, _, _, rfl, k0 _ _ h1, T.cl, T.nT, mn_t _, _, rfl, b, C, dy, _, _, rfl, k0 _ _ g1, T.cl, T.nT, mn_t _, (by show 2 ≤ sizeLine; decide), fun tp ntp => ?_⟩
    have nft : fd ≠ tp := ne_of_none upd_same ntp
    have k1 := k0.trans (same_upd (o := .tup [.ref da, .ref db]) ntp)
    refine ⟨tp, rfl, ⟨_, SqT.of upd_same⟩, for_tup (K := K) (a := tp) (xs := [.ref da, .ref db])
      (fun i σ G => Same H G ∧ ∃ F x3 x4, σ = [some (.ref a), some (.ref b), some (.ref fd), x3, x4] ∧ G fd = some (.dT (tmV F)) ∧ G tp = some (.tup [.ref da, .ref db]) ∧ Acc d (([L, M]).take i).flatten F)
      ⟨k1, [], none, none, rfl, (by rw [upd_ne nft]; exact upd_same), upd_same, Acc.nil⟩ (fun i σ G _ h => by obtain ⟨_, F, x3, x4, _, _, htp, _⟩ := h; exact SqT.of htp) ?_ ?_⟩
    · rintro i x σ G hx ⟨s1, F, x3, x4, rfl, hf, htp, ac⟩
      obtain ⟨dd, Li, rfl, hdd, hLi, tl, names, few2⟩ := each i x hx
      have hdG := s1 _ _ hdd
      have nfd2 : fd ≠ dd := fun e => by rw [e, hdd] at nfd; cases nfd
      have ntd : tp ≠ dd := fun e => by rw [e, hdG] at htp; cases htp
      have ft : (([L, M]).take (i + 1)).flatten = (([L, M]).take i).flatten ++ Li := by rw [take_snoc hLi, List.flatten_append]; simp
      rw [ft, List.length_append] at few2
      refine ⟨dd, _, hdG, trivial, fun od => ?_⟩
      refine ⟨_, rfl, dd, od, rfl, .inr ⟨_, upd_same, for_it walk_keysT
        (fun j σ G' => Same (upd H dd (.frz od (.dT (tmV Li)))) G' ∧ ∃ F x4, σ = [some (.ref a), some (.ref b), some (.ref fd), some (.ref dd), x4] ∧ G' fd = some (.dT (tmV F)) ∧ G' tp = some (.tup [.ref da, .ref db]) ∧ Acc d ((([L, M]).take i).flatten ++ Li.take j) F)
        ⟨same_lock s1, F, x4, rfl, (by rw [upd_ne nfd2]; exact hf), (by rw [upd_ne ntd]; exact htp), (by rw [List.take_zero, List.append_nil]; exact ac)⟩ (fun j σ G' _ h => h.1 _ _ upd_same) ?_ ?_⟩⟩
      · rintro j y σ _ G' hj ⟨s2, F, x4, rfl, hf, htp, ac⟩ ⟨rfl, k, v, q1, hk, rfl, hq1⟩
        obtain ⟨e, he, rfl, rfl⟩ := tm_get hk
        rw [tmV_len] at hj
        have em := List.mem_of_getElem? he
        have look1 : DGet G' fd (.ref q1) ((lkS F e.1).map V.int) := by
          rw [← tm_val]
          exact DGet.t hf hq1
        have look2 : DGet G' dd (.ref q1) (some (.int e.2)) := by
          have hv : valV (tmV Li) (kT e.1) = some (.int e.2) := by rw [tm_val, lkS_mem tl.gd.nd em]; rfl
          rw [← hv]
          exact .inr ⟨_, kT e.1, q1, .inr ⟨od, s2 _ _ upd_same⟩, rfl, hq1, rfl⟩
        have lF := ac.sz.len
        rw [List.length_append, List.length_take] at lF
        refine ⟨_, rfl, fd, rfl, .inr ⟨_, .inl hf⟩, _, rfl, _, look1, _, rfl, _, rfl, dd, _, rfl, look2, _, _, get_getD, rfl, _, rfl, _, rfl, fd, _, rfl, DPut.t (k := kT e.1) hf hq1 (by rw [tmV_len, sizeLine_eq]; omega), ?_⟩
        refine ⟨fun b o eb => ?_, putS F e.1 ((lkS F e.1).getD 0 + e.2), _, rfl, ?_, ?_, ?_⟩
        · have nb : b ≠ fd := fun c => by
            rw [c, upd_ne nfd2, nfd] at eb
            cases eb
          rw [upd_ne nb]
          exact s2 b o eb
        · rw [upd_same, tm_put]
        · rw [upd_ne nft.symm]
          exact htp
        · rw [take_snoc he, ← List.append_assoc]
          exact ac.step e.2 (tl.gd.st e em) (names e em)
      · rintro σ G' ⟨s2, F, x4, rfl, hf, htp, ac⟩
        rw [tmV_len, List.take_length, ← ft] at ac
        refine ⟨s2 _ _ upd_same, lock_same hdd s2, F, _, _, rfl, ?_, ?_, ac⟩
        · rw [upd_ne nfd2]
          exact hf
        · rw [upd_ne ntd]
          exact htp
    · rintro σ G ⟨s1, F, x3, x4, rfl, hf, htp, ac⟩
      have eA : (([L, M]).take ([V.ref da, V.ref db]).length).flatten = L ++ M := by
        show L ++ (M ++ []) = _
        rw [List.append_nil]
      rw [eA] at ac
      have lF := ac.sz.len
      rw [List.length_append] at lF
      refine ⟨_, rfl, make_mn hf ac.gd (by omega) fun r H2 mr s => qq r H2 (ac.done mr (Pol.add_mk L M).symm (by rw [List.length_append]; omega) ?_) (s1.trans s)⟩
      rw [nrm_append]
      exact Nat.add_le_add za.nm zb.nm
abbrev s_mnneg : Stmt := inClass (top 10) 5
theorem sc_mnneg : FnScope ["self", "names", "n"] ["self"] (defScope s_mnneg) := ⟨rfl, rfl, rfl, by decide +kernel, rfl, by decide +kernel, by decide +kernel⟩
theorem neg_take {L : FS} (nd : (L.map (·.1)).Nodup) {i : Nat} {e : List Str × Int} (h : L[i]? = some e) : putS (negS (L.take i)) e.1 (-e.2) = negS (L.take (i + 1)) := by
  have keys : (negS (L.take i)).map (·.1) = (L.take i).map (·.1) := by
    unfold negS
    rw [List.map_map]
    rfl
  rw [putS_new (by rw [keys]; exact new_key nd h), take_snoc h]
  unfold negS
  rw [List.map_append]
  rfl
def spMnNeg (C : Addr) : Sp := fun vs H Q _ => ∃ (a : Addr) (d n B : Nat) (p : Pol), vs = [.ref a] ∧ MP C d n B H a p ∧ n < 1000000 ∧ ∀ r H', MP C d n B H' r (-p) → Same H H' → Q (.ref r) H'
theorem ok_mnneg {f C : Addr} {fd : FuncData} (T : ManyT K mg C) (F : Fun K "__neg__" "Many.__neg__" s_mnneg f fd) (c_mi : Ma P w K mg base 2 C (spMnI C)) : FnOk P w K mg base CX0 4 f fd ["self"] (spMnNeg C) := by
  refine F.ok sc_mnneg (fun vs H Q E h => ?_) (fun cdv A outer s H vs Q E hr h => ?_)
  · obtain ⟨a, _, _, _, _, rfl, _⟩ := h
    rfl
  · obtain ⟨a, d, n, B, p, rfl, ⟨L, ma, rfl, za⟩, few, qq⟩ := h
    obtain ⟨dx, da, h1, h2⟩ := ma.ob
    have zl := za.len
    refine ⟨_, (pss_one (ps_ret (pe_ma c_mi hr T.g (pa_cons (pe_lock (pe_dcT (own := [("names", 1), ("n", 2)]) (g := (gTup K 2 (gCons (gName 1) (gCons (gName 2) gNil)))) (tt := tYes) hr rfl sc_mnneg.nd (pi_itemsT (pe_fldK (K := K) rfl (pv 0) rfl)) (blkOk_by (N := ["self", "names", "n"]) (sc := defScope s_mnneg) (by decide +kernel)) (fun _ _ _ _ _ => (pg_tup rfl (pgs_cons (pg_name (i := 1) sc_mnneg.nd rfl (Or.inl rfl)) (pgs_cons (pg_name (i := 2) sc_mnneg.nd rfl (Or.inl rfl)) pgs_nil)))) (fun _ _ _ _ _ => pts_nil) (fun _ _ _ _ _ => (pv 1)) (fun _ _ _ _ _ => (pe_un un_neg (pv 2))))) pa_nil)))), ?_⟩
    refine ⟨da, _, h2, trivial, fun od => ?_⟩
    have h1' : upd H da (.frz od (.dT (tmV L))) a = some (.ins C dx (mnF da)) := by
      rw [upd_ne (fun c => by rw [c, h2] at h1; cases h1)]
      exact h1
    refine ⟨_, rfl, a, C, dx, _, _, rfl, h1', T.cl, T.nT, mn_t _, da, od, _, rfl, upd_same, fun D nD => dcT_it walk_itemsT (fun i G => Same (upd H da (.frz od (.dT (tmV L)))) G ∧ G D = some (.dT (tmV (negS (L.take i))))) ⟨same_upd nD, upd_same⟩ (fun i G _ h => h.1 _ _ upd_same) ?_ ?_⟩
    · rintro i y G _ hi ⟨s1, hD⟩ ⟨Tp, k, v, q1, hk, hq1, rfl, nT, rfl⟩
      obtain ⟨e, he, rfl, rfl⟩ := tm_get hk
      rw [tmV_len] at hi
      have s2 := same_upd (o := .tup [.ref q1, .int e.2]) nT
      have lL : (negS (L.take i)).length ≤ L.length := by
        unfold negS
        rw [List.length_map, List.length_take]
        omega
      refine ⟨Tp, _, rfl, SqT.of upd_same, rfl, _, _, rfl, _, _, rfl, rfl, rfl, _, rfl, _, rfl, _, rfl, _, kT e.1, q1, rfl, s2 _ _ hq1, s2 _ _ hD, by rw [tmV_len, sizeLine_eq]; omega, fun b o eb => ?_, ?_⟩
      · rw [upd_ne (ne_of_none eb nD)]
        exact s2 _ _ (s1 b o eb)
      · rw [tm_put, neg_take ma.ok.gd.nd he]
        exact upd_same
    · rintro G ⟨s1, hD⟩
      rw [tmV_len, List.take_length] at hD
      have hD2 : upd G da (.dT (tmV L)) D = some (.dT (tmV (negS L))) := by
        rw [upd_ne (fun c => by rw [c, s1 _ _ upd_same] at hD; cases hD)]
        exact hD
      refine ⟨s1 _ _ upd_same, make_mn hD2 (neg_terms ma.ok).gd (by unfold negS; rw [List.length_map]; omega) fun r H2 mr s => qq r H2 ⟨_, mr, by rw [pol_nz, Pol.neg_mk], za.neg.nz⟩ ((lock_same h2 s1).trans s)⟩
abbrev s_mnsub : Stmt := inClass (top 10) 4
theorem sc_mnsub : FnScope ["self", "other"] ["self", "other"] (defScope s_mnsub) := ⟨rfl, rfl, rfl, by decide +kernel, rfl, by decide +kernel, by decide +kernel⟩
theorem useM2 {C : Addr} {H : Hp} {a b : Addr} {d n B e m D : Nat} {p q : Pol} {sp : Sp} {Q : VK} (ma : MP C d n B H a p) (mb : MP C e m D H b q) (h : sp [.ref a, .ref b] H Q E0) : rOwn2 C sp (.ref a) (.ref b) H Q := by
  obtain ⟨L, ma, _, _⟩ := ma
  obtain ⟨M, mb, _, _⟩ := mb
  obtain ⟨dx, da, h1, _⟩ := ma.ob
  obtain ⟨dy, db, g1, _⟩ := mb.ob
  exact ⟨a, b, dx, dy, _, _, rfl, rfl, h1, g1, h⟩
theorem useM1 {C : Addr} {H : Hp} {a : Addr} {d n B : Nat} {p : Pol} {sp : Sp} {Q : VK} (ma : MP C d n B H a p) (h : sp [.ref a] H Q E0) : rOwn1 C sp (.ref a) H Q := by
  obtain ⟨L, ma, _, _⟩ := ma
  obtain ⟨dx, da, h1, _⟩ := ma.ob
  exact ⟨a, dx, _, rfl, h1, h⟩
def spMnSub (C : Addr) : Sp := fun vs H Q _ => ∃ (a b : Addr) (d n m B D : Nat) (p q : Pol), vs = [.ref a, .ref b] ∧ MP C d n B H a p ∧ MP C d m D H b q ∧ n + m < 1000000 ∧
  ∀ r H', MP C d (n + m) (B + D) H' r (p - q) → Same H H' → Q (.ref r) H'
theorem ok_mnsub {f C : Addr} {fd : FuncData} (T : ManyT K mg C) (F : Fun K "__sub__" "Many.__sub__" s_mnsub f fd) (c_add : Me P w K mg base 4 C "__add__" (spMnAdd C)) (c_neg : Me P w K mg base 4 C "__neg__" (spMnNeg C)) : FnOk P w K mg base CX0 5 f fd ["self", "other"] (spMnSub C) := by
  refine F.ok sc_mnsub (fun vs H Q E h => ?_) (fun cdv A outer s H vs Q E hr h => ?_)
  · obtain ⟨a, b, _, _, _, _, _, _, _, rfl, _⟩ := h
    rfl
  · obtain ⟨a, b, d, n, m, B, D, p, q, rfl, ma, mb, few, qq⟩ := h
    refine ⟨_, (pss_one (ps_ret (pe_op (op_own2 c_add hr T.sf) (pv 0) (pe_un (un_neg1 c_neg hr) (pv 1))))), ?_⟩
    refine ⟨_, rfl, _, rfl, useM1 mb ⟨b, d, m, D, q, rfl, mb, by omega, fun r H' mr s3 => ?_⟩⟩
    exact useM2 (ma.same s3) mr ⟨a, r, d, n, m, B, D, p, -q, rfl, ma.same s3, mr, few, fun r' H2 mr2 s4 => qq r' H2 mr2 (s3.trans s4)⟩
-- part many3
/-! products of Manys -/
/-- a lock, or the dict is locked already -/
def tLockU (t : TS) : TS := fun D σ H => ∃ d u, ((H d = some u ∧ Mut (some u)) ∨ ∃ od, H d = some (.frz od u)) ∧
  ∀ od (back : Hp → Hp), (∀ H', H' d = some (.frz od u) → back H' d = H d ∧ ∀ b, b ≠ d → back H' b = H' b) →
    t ⟨fun σ' H' => H' d = some (.frz od u) ∧ D.nx σ' (back H'), fun v H' => H' d = some (.frz od u) ∧ D.rt v (back H'), fun σ' H' => H' d = some (.frz od u) ∧ D.bk σ' (back H'), fun σ' H' => H' d = some (.frz od u) ∧ D.ct σ' (back H')⟩ σ (upd H d (.frz od u))
theorem upd_self {H : Hp} {d : Addr} {o : HO} (h : H d = some o) : upd H d o = H := funext fun b => by
  by_cases c : b = d
  · subst c
    rw [upd_same, h]
  · rw [upd_ne c]
theorem ps_lockU {X : Cx} {st : Stmt} {t : TS} (h : PS X st t) : PS X st (tLockU t) := by
  refine ⟨fun pins s σ H D I hw => ?_⟩
  obtain ⟨d, u, how, hw⟩ := hw
  rcases how with ⟨hd, mu⟩ | ⟨od, hd⟩
  · refine (ps_lock h).run pins s σ H D I ⟨d, u, hd, mu, fun od => ?_⟩
    exact hw od (fun H' => upd H' d u) fun H' _ => ⟨by rw [upd_same, hd], fun b hb => upd_ne hb⟩
  · have h2 := hw od id fun H' e => ⟨e.trans hd.symm, fun b _ => rfl⟩
    rw [upd_self hd] at h2
    refine thn (h.run pins s σ _ _ I h2) fun f s1 q => ?_
    cases f with
    | next => obtain ⟨σ', H', I2, e, q⟩ := q; exact ⟨σ', _, I2, q⟩
    | brk => obtain ⟨σ', H', I2, e, q⟩ := q; exact ⟨σ', _, I2, q⟩
    | cont => obtain ⟨σ', H', I2, e, q⟩ := q; exact ⟨σ', _, I2, q⟩
    | ret v => obtain ⟨x, σ', H', I2, r, e, q⟩ := q; exact ⟨x, σ', _, I2, r, q⟩
theorem cat_useS {K : PySem.W.Frag} {a b : Addr} {xs ys : List Str} {H : Hp} {Q : VK} (ha : SqT K H a (xs.map V.str)) (hb : SqT K H b (ys.map V.str)) (few : xs.length + ys.length ≤ sizeLine) (k : ∀ c H', SqT K H' c ((xs ++ ys).map V.str) → Same H H' → Q (.ref c) H') : rCatA K (.ref a) (.ref b) H Q := by
  refine ⟨a, b, _, _, rfl, rfl, ha, hb, ?_, fun e => ?_, fun e1 e2 => ?_, fun e1 e2 p hp => ?_⟩
  · rw [List.length_map, List.length_map]
    exact few
  · have z : xs = [] := List.map_eq_nil_iff.mp e
    subst z
    exact k b H hb (Same.refl H)
  · have z : ys = [] := List.map_eq_nil_iff.mp e2
    subst z
    refine k a H ?_ (Same.refl H)
    rw [List.append_nil]
    exact ha
  · refine k p _ ?_ (same_upd hp)
    rw [List.map_append]
    exact .inl (.inl upd_same)
theorem nrm_mulE (e : List Str × Int) (B : FS) : nrm (mulE e B) = e.2.natAbs * nrm B := by
  induction B with
  | nil => rfl
  | cons f B ih =>
    show (e.2 * f.2).natAbs + nrm (mulE e B) = e.2.natAbs * (f.2.natAbs + nrm B)
    rw [ih, Int.natAbs_mul, Nat.mul_add]
theorem nrm_mulS (A B : FS) : nrm (mulS A B) = nrm A * nrm B := by
  induction A with
  | nil => exact (Nat.zero_mul _).symm
  | cons e A ih =>
    rw [mulS_cons, nrm_append, nrm_mulE, ih]
    show _ = (e.2.natAbs + nrm A) * nrm B
    rw [Nat.add_mul]
theorem mulE_len (e : List Str × Int) (B : FS) : (mulE e B).length = B.length := List.length_map _
theorem mulS_len (A B : FS) : (mulS A B).length = A.length * B.length := by
  induction A with
  | nil => exact (Nat.zero_mul _).symm
  | cons e A ih =>
    rw [mulS_cons, List.length_append, mulE_len, ih]
    show _ = (A.length + 1) * B.length
    rw [Nat.add_mul, Nat.one_mul, Nat.add_comm]
theorem mulE_snoc (e : List Str × Int) {B : FS} {j : Nat} {f : List Str × Int} (h : B[j]? = some f) : mulE e (B.take (j + 1)) = mulE e (B.take j) ++ [(srt (e.1 ++ f.1), e.2 * f.2)] := by
  rw [take_snoc h]
  unfold mulE
  rw [List.map_append]
  rfl
theorem mulS_snoc {A : FS} {i : Nat} {e : List Str × Int} (h : A[i]? = some e) (B : FS) : mulS (A.take (i + 1)) B = mulS (A.take i) B ++ mulE e B := by
  rw [take_snoc h, mulS_append]
  show _ ++ (mulE e B ++ []) = _
  rw [List.append_nil]
abbrev s_mnmul : Stmt := inClass (top 10) 6
theorem sc_mnmul : FnScope ["self", "other", "found", "names", "n", "others", "m", "both"] ["self", "other"] (defScope s_mnmul) := ⟨rfl, rfl, rfl, by decide +kernel, rfl, by decide +kernel, by decide +kernel⟩
def spMnMul (C : Addr) : Sp := fun vs H Q _ => ∃ (a b : Addr) (d e n m B D : Nat) (p q : Pol), vs = [.ref a, .ref b] ∧ MP C d n B H a p ∧ MP C e m D H b q ∧ d + e < 64 ∧ n * m < 1000000 ∧ B < 2 ^ 2000 ∧ D < 2 ^ 2000 ∧
  ∀ r H', MP C (d + e) (n * m) (B * D) H' r (p * q) → Same H H' → Q (.ref r) H'
theorem ok_mnmul {f C : Addr} {fd : FuncData} (TT : Txt mg) (T : ManyT K mg C) (F : Fun K "__mul__" "Many.__mul__" s_mnmul f fd) (c_mi : Ma P w K mg base 2 C (spMnI C)) : FnOk P w K mg base CX0 4 f fd ["self", "other"] (spMnMul C) := by
  refine F.ok sc_mnmul (fun vs H Q E h => ?_) (fun cdv A outer s H vs Q E hr h => ?_)
  · obtain ⟨a, b, _, _, _, _, _, _, _, _, rfl, _⟩ := h
    rfl
  · obtain ⟨a, b, d, e, n, m, B, D, p, q, rfl, ⟨L, ma, rfl, za⟩, ⟨M, mb, rfl, zb⟩, deg, few, hB, hD, qq⟩ := h
    obtain ⟨dx, da, h1, h2⟩ := ma.ob
    obtain ⟨dy, db, g1, g2⟩ := mb.ob
    have zl := za.len
    have zm := zb.len
    have few2 : L.length * M.length < 1000000 := Nat.lt_of_le_of_lt (Nat.mul_le_mul zl zm) few
    refine ⟨_, (pss_cons (ps_set (i := 2) sc_mnmul.nd rfl (Or.inl rfl) pe_dnewT)
 (pss_cons (ps_lock (ps_for PassesOwn.never rfl (pi_itemsT (pe_fld (pv 0) rfl)) (pg_tup rfl (pgs_cons (pg_name (i := 3) sc_mnmul.nd rfl (Or.inl rfl)) (pgs_cons (pg_name (i := 4) sc_mnmul.nd rfl (Or.inl rfl)) pgs_nil))) (pss_one (ps_lockU (ps_for PassesOwn.never rfl (pi_itemsT (pe_fld (pv 1) rfl)) (pg_tup rfl (pgs_cons (pg_name (i := 5) sc_mnmul.nd rfl (Or.inl rfl)) (pgs_cons (pg_name (i := 6) sc_mnmul.nd rfl (Or.inl rfl)) pgs_nil))) (pss_cons (ps_set (i := 7) sc_mnmul.nd rfl (Or.inl rfl) (pe_tupleOf (by rfl) TT.tuple (pe_callB call_sortedTS (by rfl) TT.sorted boot_sorted (pa_cons (pe_op op_catA (pv 3) (pv 5)) pa_nil))))
 (pss_one (ps_dput (hu1 hr) (pv 2) (pv 7) (pe_op op_add (pe_dget2 (by exact hu1 hr) (pv 2) (pv 7) pe_int ⟨rfl, rfl, rfl, rfl⟩) (pe_op op_mulW (pv 4) (pv 6))) rfl))))))))
 (pss_one (ps_ret (pe_ma c_mi hr T.g (pa_cons (pv 2) pa_nil)))))), ?_⟩
    refine fun fd nfd => ?_
    have k0 := same_upd (o := .dT []) nfd
    have nfa : fd ≠ da := (ne_of_none h2 nfd).symm
    have nfb : fd ≠ db := (ne_of_none g2 nfd).symm
    refine ⟨da, _, k0 _ _ h2, trivial, fun od => ?_⟩
    have aa : ∀ (o : HO) (G : Hp), Same (upd H da o) G → G a = some (.ins C dx (mnF da)) := fun o G s => s _ _ (by rw [upd_ne (fun c => by rw [c, h2] at h1; cases h1)]; exact h1)
    have bb : ∀ (o : HO) (G : Hp), Same (upd H da o) G → G b = some (.ins C dy (mnF db)) := fun o G s => s _ _ (by rw [upd_ne (fun c => by rw [c, h2] at g1; cases g1)]; exact g1)
    have k1 : Same (upd H da (.frz od (.dT (tmV L)))) (upd (upd H fd (.dT [])) da (.frz od (.dT (tmV L)))) := same_lock k0
    refine ⟨_, rfl, a, C, dx, _, _, rfl, aa _ _ k1, T.cl, T.nT, mn_t _, da, od, _, rfl, upd_same, for_it walk_itemsT
      (fun i σ G => Same (upd H da (.frz od (.dT (tmV L)))) G ∧ ∃ F x3 x4 x5 x6 x7, σ = [some (.ref a), some (.ref b), some (.ref fd), x3, x4, x5, x6, x7] ∧ G fd = some (.dT (tmV F)) ∧ Acc (d + e) (mulS (L.take i) M) F)
      ⟨k1, [], none, none, none, none, none, rfl, (by rw [upd_ne nfa]; exact upd_same), Acc.nil⟩ (fun i σ G _ h => h.1 _ _ upd_same) ?_ ?_⟩
    · rintro i y σ G _ hi ⟨s1, F, x3, x4, x5, x6, x7, rfl, hf, ac⟩ ⟨Tp, k, v, q1, hk, hq1, rfl, nT, rfl⟩
      obtain ⟨ee, he, rfl, rfl⟩ := tm_get hk
      rw [tmV_len] at hi
      have sT := same_upd (o := .tup [.ref q1, .int ee.2]) nT
      generalize hG1 : upd G Tp (.tup [.ref q1, .int ee.2]) = G1 at sT
      have hTp : G1 Tp = some (.tup [.ref q1, .int ee.2]) := by rw [← hG1]; exact upd_same
      have s1' := s1.trans sT
      have hf := sT _ _ hf
      have hq1 := sT _ _ hq1
      have how : (G1 db = some (.dT (tmV M)) ∧ Mut (some (.dT (tmV M)))) ∨ ∃ od, G1 db = some (.frz od (.dT (tmV M))) := by
        by_cases c : db = da
        · refine .inr ⟨od, s1' _ _ ?_⟩
          rw [c, h2] at g2
          rw [c, upd_same, HO.dT.inj (Option.some.inj g2)]
        · exact .inl ⟨s1' _ _ (by rw [upd_ne c]; exact g2), trivial⟩
      have n1 : ∀ {z : Addr} {xs : List V}, G1 z = some (.tup xs) → z ≠ db := fun hz c => by
        rw [c] at hz
        rcases how with ⟨h, _⟩ | ⟨_, h⟩ <;> rw [h] at hz <;> cases hz
      have hb1 : G1 b = some (.ins C dy (mnF db)) := bb _ _ s1'
      have n2 : b ≠ db := fun c => by
        rw [c] at hb1
        rcases how with ⟨h, _⟩ | ⟨_, h⟩ <;> rw [h] at hb1 <;> cases hb1
      have nq1 : q1 ≠ fd := fun c => by rw [c, hf] at hq1; cases hq1
      refine ⟨Tp, _, rfl, SqT.of hTp, rfl, _, _, rfl, _, _, rfl, rfl, db, _, how, fun od2 back hback => ?_⟩
      refine ⟨_, rfl, b, C, dy, _, _, rfl, (by rw [upd_ne n2]; exact hb1), T.cl, T.nT, mn_t _, db, od2, _, rfl, upd_same, for_it walk_itemsT
        (fun j σ G' => (∀ z o, z ≠ fd → upd G1 db (.frz od2 (.dT (tmV M))) z = some o → G' z = some o) ∧ ∃ F x5 x6 x7, σ = [some (.ref a), some (.ref b), some (.ref fd), some (.ref q1), some (.int ee.2), x5, x6, x7] ∧ G' fd = some (.dT (tmV F)) ∧ Acc (d + e) (mulS (L.take i) M ++ mulE ee (M.take j)) F)
        ⟨fun z o _ h => h, F, x5, x6, x7, rfl, (by rw [upd_ne nfb]; exact hf), (by rw [List.take_zero]; show Acc _ (_ ++ []) _; rw [List.append_nil]; exact ac)⟩ (fun j σ G' _ h => h.1 _ _ nfb.symm upd_same) ?_ ?_⟩
      · rintro j y σ G' _ hj ⟨s2, F, x5, x6, x7, rfl, hf, ac⟩ ⟨Tq, k2, v2, q2, hk2, hq2, rfl, nT2, rfl⟩
        obtain ⟨ff, hf2, rfl, rfl⟩ := tm_get hk2
        rw [tmV_len] at hj
        have sT2 := same_upd (o := .tup [.ref q2, .int ff.2]) nT2
        generalize hG2 : upd G' Tq (.tup [.ref q2, .int ff.2]) = G2 at sT2
        have hTq : G2 Tq = some (.tup [.ref q2, .int ff.2]) := by rw [← hG2]; exact upd_same
        have hf3 := sT2 _ _ hf
        have q1' : G2 q1 = some (.tup (ee.1.map V.str)) := by
          rw [← kT_V]
          exact sT2 _ _ (s2 _ _ nq1 (by rw [upd_ne (n1 hq1)]; exact hq1))
        have q2' : G2 q2 = some (.tup (ff.1.map V.str)) := by
          rw [← kT_V]
          exact sT2 _ _ hq2
        have le1 := za.it ee (List.mem_of_getElem? he)
        have le2 := zb.it ff (List.mem_of_getElem? hf2)
        have w1 : ee.2.natAbs < 2 ^ 2000 := Nat.lt_of_le_of_lt (Nat.le_trans (nrm_mem (List.mem_of_getElem? he)) za.nm) hB
        have w2 : ff.2.natAbs < 2 ^ 2000 := Nat.lt_of_le_of_lt (Nat.le_trans (nrm_mem (List.mem_of_getElem? hf2)) zb.nm) hD
        have lF := ac.sz.len
        rw [List.length_append, mulS_len, mulE_len, List.length_take, List.length_take, Nat.min_eq_left (Nat.le_of_lt hi), Nat.min_eq_left (Nat.le_of_lt hj)] at lF
        have lF2 : F.length < 1000000 := by
          have := Nat.mul_le_mul_right M.length (show i + 1 ≤ L.length from hi)
          rw [Nat.add_mul, Nat.one_mul] at this
          omega
        refine ⟨Tq, _, rfl, SqT.of hTq, rfl, _, _, rfl, _, _, rfl, rfl, _, rfl, _, rfl, cat_useS (xs := ee.1) (ys := ff.1) (SqT.of q1') (SqT.of q2') (by rw [sizeLine_eq]; omega) fun c H3 hc s3 => ?_⟩
        refine ⟨c, ee.1 ++ ff.1, rfl, hc, by rw [List.length_append]; omega, fun ys p perm srd np => ?_⟩
        have ey : ys = srt (ee.1 ++ ff.1) := srt_uniq perm (sortedS_leN srd)
        subst ey
        have s4 := same_upd (o := .lst ((srt (ee.1 ++ ff.1)).map V.str)) np
        refine .inl ⟨p, _, rfl, SqL.of upd_same, fun t nt => ?_⟩
        have s5 := same_upd (o := .tup ((srt (ee.1 ++ ff.1)).map V.str)) nt
        have s35 := (s3.trans s4).trans s5
        generalize hH5 : upd (upd H3 p (.lst ((srt (ee.1 ++ ff.1)).map V.str))) t (.tup ((srt (ee.1 ++ ff.1)).map V.str)) = H5 at s5 s35
        have ht : H5 t = some (.tup ((kT (srt (ee.1 ++ ff.1))).map kV)) := by rw [← hH5, kT_V]; exact upd_same
        have hf5 := s35 _ _ hf3
        have look1 : DGet H5 fd (.ref t) ((lkS F (srt (ee.1 ++ ff.1))).map V.int) := by
          rw [← tm_val]
          exact DGet.t hf5 ht
        refine ⟨_, rfl, fd, rfl, .inr ⟨_, .inl hf5⟩, _, rfl, _, look1, _, rfl, _, rfl, _, _, rfl, rfl, wide_mul w1 w2 (by decide) (by decide) (by decide), _, _, get_getD, rfl, _, rfl, _, rfl, fd, _, rfl, DPut.t (k := kT (srt (ee.1 ++ ff.1))) hf5 ht (by rw [tmV_len, sizeLine_eq]; omega), ?_⟩
        refine ⟨fun z o nz hz => ?_, putS F (srt (ee.1 ++ ff.1)) ((lkS F (srt (ee.1 ++ ff.1))).getD 0 + ee.2 * ff.2), _, _, _, rfl, ?_, ?_⟩
        · rw [upd_ne nz]
          exact s35 _ _ (sT2 _ _ (s2 z o nz hz))
        · rw [upd_same, tm_put]
        · rw [mulE_snoc ee hf2, ← List.append_assoc]
          exact ac.step (ee.2 * ff.2) (srt_sorted _) (by rw [srt_len, List.length_append]; omega)
      · rintro σ G' ⟨s2, F, x5, x6, x7, rfl, hf, ac⟩
        rw [tmV_len, List.take_length, ← mulS_snoc he] at ac
        have hdb := s2 _ _ nfb.symm upd_same
        obtain ⟨b1, b2⟩ := hback G' hdb
        refine ⟨hdb, fun z o hz => ?_, F, _, _, _, _, _, rfl, by rw [b2 _ nfb]; exact hf, ac⟩
        have nz : z ≠ fd := fun c => by
          rw [c, upd_ne nfa, nfd] at hz
          cases hz
        by_cases c : z = db
        · rw [c, b1, ← c]
          exact s1' _ _ hz
        · rw [b2 _ c]
          exact s2 z o nz (by rw [upd_ne c]; exact s1' _ _ hz)
    · rintro σ G ⟨s1, F, x3, x4, x5, x6, x7, rfl, hf, ac⟩
      rw [tmV_len, List.take_length] at ac
      have lF := ac.sz.len
      rw [mulS_len] at lF
      refine ⟨s1 _ _ upd_same, _, rfl, make_mn (by rw [upd_ne nfa]; exact hf) ac.gd (by omega) fun r H2 mr s => qq r H2 (ac.done mr (Pol.mul_mk L M).symm ?_ ?_) ((lock_same h2 s1).trans s)⟩
      · rw [mulS_len]
        exact Nat.mul_le_mul zl zm
      · rw [nrm_mulS]
        exact Nat.mul_le_mul za.nm zb.nm
-- part sets
/-! sets of texts: the set at an address, add, sorted -/
def keyX (e : Int × Value) : Str := match e.2 with | .str k _ => k | _ => Str.empty
/-- the set of texts at a: S its members, n their number; its table rises and can be walked -/
def SetX (P : Program) (w : World) (h : Heap) (a : Addr) (S : Str → Bool) (n : Nat) : Prop :=
  ∃ o es ep t, h.get? a = some o ∧ o.ExactSet ∧ o.data = .set es ep t ∧ ElemsOf (strKind P w) es.toList ∧ (∀ e ∈ es.toList, ∃ k u, e.2 = Value.str k u) ∧ (es.toList.map keyX).Nodup ∧ (∀ k, S k = true ↔ k ∈ es.toList.map keyX) ∧
    es.size < scanBound ∧ t.fits es.size = true ∧ es.size = n ∧ Ris t.place.toList ∧ (w.params.followText "set-order" = true ∨ t.led = true)
theorem keyX_str {k : Str} {u : Tok} {i : Int} : keyX (i, .str k u) = k := rfl
theorem isX {P : Program} {w : World} {e : Int × Value} (g : ∃ k u, e.2 = Value.str k u) (k : Str) : (strKind P w).is k e.2 = true ↔ keyX e = k := by
  obtain ⟨k0, u, h⟩ := g
  unfold keyX
  rw [h]
  have := (strKind P w).inj (Value.str k0 u)
  constructor
  · exact fun z => this k0 k (strKind_is P w k0 u) z
  · rintro rfl
    exact strKind_is P w k0 u
theorem memX {P : Program} {w : World} {l : List (Int × Value)} (g : ∀ e ∈ l, ∃ k u, e.2 = Value.str k u) (k : Str) : k ∈ l.map keyX ↔ ∃ e ∈ l, (strKind P w).is k e.2 = true := by
  rw [List.mem_map]
  exact ⟨fun ⟨e, he, q⟩ => ⟨e, he, (isX (g e he) k).mpr q⟩, fun ⟨e, he, q⟩ => ⟨e, he, (isX (g e he) k).mp q⟩⟩
theorem SetX.at {P : Program} {w : World} {h h' : Heap} {a : Addr} {S : Str → Bool} {n : Nat} (R : SetX P w h a S n) (k : ∀ o, h.get? a = some o → h'.get? a = some o) : SetX P w h' a S n := by
  obtain ⟨o, es, ep, t, ho, r⟩ := R
  exact ⟨o, es, ep, t, k o ho, r⟩
theorem SetX.setOf {P : Program} {w : World} {h : Heap} {a : Addr} {S : Str → Bool} {n : Nat} (R : SetX P w h a S n) : h.SetOf (strKind P w) a S n := by
  obtain ⟨o, es, ep, t, ho, hx, hd, el, g, nd, hm, hb, hf, hn, _⟩ := R
  exact ⟨o, es, ep, t, ho, hx, hd, el, fun k => (hm k).trans (memX g k), hb, hf, hn⟩
section
variable {P : Program} {w : World} {A : Around} {E : Value → Shared → Prop} {s : Shared} {a : Addr} {S : Str → Bool} {n : Nat}
theorem storeX_at {h : Heap} {a : Addr} {o : Obj} {es es' : Array (Int × Value)} {ep : Nat} {t t' : SetTable} (ho : h.get? a = some o) (hd : o.data = .set es ep t) :
    (h.update a (Obj.putSet es' t')).get? a = some { o with data := .set es' (ep + 1) t' } := by
  have q := Heap.get?_update_self (Obj.putSet es' t') ho (by rw [putSet_of es' t' hd]; rfl)
  rwa [putSet_of es' t' hd] at q
/-- what is told of the entries alone -/
structure EntX (P : Program) (w : World) (S : Str → Bool) (es : Array (Int × Value)) : Prop where
  el : ElemsOf (strKind P w) es.toList
  st : ∀ e ∈ es.toList, ∃ k u, e.2 = Value.str k u
  nd : (es.toList.map keyX).Nodup
  mem : ∀ k, S k = true ↔ k ∈ es.toList.map keyX
theorem EntX.perm {es es' : Array (Int × Value)} (x : EntX P w S es) (p : es'.toList.Perm es.toList) : EntX P w S es' :=
  ⟨x.el.perm p, fun e he => x.st e (p.mem_iff.mp he), (p.map keyX).nodup_iff.mpr x.nd, fun k => (x.mem k).trans (p.map keyX).mem_iff.symm⟩
theorem EntX.push {es es' : Array (Int × Value)} {k : Str} {u : Tok} (x : EntX P w S es) (nk : S k = false) (p : es'.toList.Perm (es.toList ++ [((strKind P w).hash k, .str k u)])) : EntX P w (fun j => S j || decide (j = k)) es' := by
  have hk : (strKind P w).is k (.str k u) = true := strKind_is P w k u
  have n2 : k ∉ es.toList.map keyX := fun z => by
    rw [(x.mem k).mpr z] at nk
    cases nk
  have p2 := p.map keyX
  rw [List.map_append] at p2
  refine ⟨(x.el.push (k := k) (x := .str k u) hk rfl).perm p, fun e he => ?_, p2.nodup_iff.mpr ?_, fun j => ?_⟩
  · rcases List.mem_append.mp (p.mem_iff.mp he) with h | h
    · exact x.st e h
    · rw [List.mem_singleton.mp h]
      exact ⟨k, u, rfl⟩
  · refine List.nodup_append.mpr ⟨x.nd, List.nodup_cons.mpr ⟨(fun h => by cases h), .nil⟩, fun a ha b hb e => ?_⟩
    have hb : b = k := List.mem_singleton.mp hb
    rw [e, hb] at ha
    exact n2 ha
  · rw [Bool.or_eq_true, decide_eq_true_eq, x.mem j, p2.mem_iff, List.mem_append]
    exact or_congr_right (List.mem_singleton (a := j) (b := k)).symm
theorem addX_tail {g : Bool → Sem Unit} (hg : ∀ (b : Bool) (s₁ : Shared) (Q' : Unit → Shared → Prop), Q' () s₁ → wpAny (model P w) A (g b) Q' E s₁)
    {o : Obj} {es : Array (Int × Value)} {ep : Nat} {t : SetTable} (ho : s.heap.get? a = some o) (hex : o.ExactSet) (hd : o.data = .set es ep t)
    {es1 : Array (Int × Value)} {t2 : SetTable} (x1 : EntX P w S es1) (hb1 : es1.size < scanBound) (hf2 : t2.fits es1.size = true) (hr : Ris t2.place.toList) (hl : w.params.followText "set-order" = true ∨ t2.led = true) {wasDummy : Bool} {R : Option Bool → Shared → Prop}
    (hR : ∀ h', Heap.SameBut a s.heap h' → SetX P w h' a S es1.size → R (some true) { s with heap := h' }) :
    wpAny (model P w) A (do
        storeSet a es1 t2
        if (!wasDummy && t2.tooFull) = true then do
            g (relayAll t2 es1 (SetTable.grown es1.size)).2.2
            storeSet a (relayAll t2 es1 (SetTable.grown es1.size)).1 (relayAll t2 es1 (SetTable.grown es1.size)).2.1
            pure (some true)
          else pure (some true)) R E s := by
  have sb1 := Heap.SameBut.update s.heap a (Obj.putSet es1 t2)
  have ho1 := storeX_at (es' := es1) (t' := t2) ho hd
  refine wpAny_bind (wpAny_storeSet_of ho hd ?_ (fits_of_scanBound hb1))
  split
  · have pm := relayAll_perm t2 es1 (SetTable.grown es1.size)
    have hf3 := relayAll_fits t2 es1 (SetTable.grown es1.size)
    have hr3 := relayAll_ris t2 es1 (SetTable.grown es1.size)
    have hl3 := relayAll_led t2 es1 (SetTable.grown es1.size)
    generalize relayAll t2 es1 (SetTable.grown es1.size) = Z at pm hf3 hr3 hl3 ⊢
    obtain ⟨es2, t3, gave⟩ := Z
    dsimp only at pm hf3 hr3 hl3 ⊢
    have x2 := x1.perm pm
    have hsz : es2.size = es1.size := by rw [← Array.length_toList, pm.length_eq, Array.length_toList]
    refine wpAny_bind (hg _ _ _ (wpAny_bind (wpAny_storeSet_of ho1 rfl ?_ (fits_of_scanBound (by rw [hsz]; exact hb1)))))
    exact wpAny_pure (hR _ (sb1.trans (Heap.SameBut.update _ a _)) ⟨_, es2, _, t3, storeX_at (es' := es2) (t' := t3) ho1 rfl, hex, rfl, x2.el, x2.st, x2.nd, x2.mem, by rw [hsz]; exact hb1, hf3, hsz, hr3, hl.imp id fun z => by rw [hl3]; exact z⟩)
  · exact wpAny_pure (hR _ sb1 ⟨_, es1, _, t2, ho1, hex, rfl, x1.el, x1.st, x1.nd, x1.mem, hb1, hf2, rfl, hr, hl⟩)
theorem addX_hashed {k : Str} {u : Tok} {Q : Bool → Shared → Prop} (R : SetX P w s.heap a S n) (room : n + 1 < scanBound)
    (hQ : ∀ h', Heap.SameBut a s.heap h' → SetX P w h' a (fun j => S j || decide (j = k)) (if S k = true then n else n + 1) → Q (!S k) { s with heap := h' }) :
    wpAny (model P w) A (setAddHashed a (.str k u) ((strKind P w).hash k)) Q E s := by
  obtain ⟨o, es, ep, t, ho, hex, hd, el, st, nd, hm, hb, hf, hn, hr, hl⟩ := R
  have hkey : (strKind P w).is k (.str k u) = true := strKind_is P w k u
  have hsc : (Value.str k u).scannable = true := rfl
  unfold setAddHashed setAddHashedIn
  refine wpAny_holding (wpAny_bind (wpAny_setState_of ho hd hf ?_))
  dsimp only
  rw [byScan_of hsc hb el]
  simp only [↓reduceIte]
  unfold setAddByScan
  refine wpAny_bind (wpAny_bind (wpAny_rule (wpAny_bind (wpAny_setScan_of hkey ho hd hf el ?_))))
  cases hfi : List.findIdx? (fun e => (strKind P w).is k e.2) es.toList with
  | some j =>
    dsimp only
    obtain ⟨hj, pj, _⟩ := List.findIdx?_eq_some_iff_getElem.mp hfi
    have hSk : S k = true := (hm k).mpr ((memX (P := P) (w := w) st k).mpr ⟨es.toList[j], List.getElem_mem hj, pj⟩)
    refine wpAny_pure (wpAny_pure ?_)
    have q := hQ s.heap (Heap.SameBut.refl a s.heap) ⟨o, es, ep, t, ho, hex, hd, el, st, nd, fun i => by
      rw [Bool.or_eq_true, decide_eq_true_eq, ← hm i]
      exact ⟨fun z => z.elim id (fun e => e ▸ hSk), .inl⟩, hb, hf, by rw [if_pos hSk]; exact hn, hr, hl⟩
    rw [hSk] at q
    exact q
  | none =>
    dsimp only
    have hSk : S k = false := by
      cases q : S k with
      | false => rfl
      | true =>
        obtain ⟨e, he, z⟩ := (memX (P := P) (w := w) st k).mp ((hm k).mp q)
        have c := List.findIdx?_eq_none_iff.mp hfi e he
        rw [z] at c
        cases c
    have hgw : ∀ (b : Bool) {s₁ : Shared} {Q' : Unit → Shared → Prop}, Q' () s₁ → wpAny (model P w) A (match b with | true => rule "set.scan.the-table-gave-way" | false => pure ()) Q' E s₁ :=
      fun b s₁ Q' q => by cases b <;> first | exact wpAny_pure q | exact wpAny_rule q
    have pm := layNew_perm t es ((strKind P w).hash k) (.str k u)
    have hf1 := layNew_fits t es ((strKind P w).hash k) (.str k u)
    have hr1 := layNew_ris t es ((strKind P w).hash k) (.str k u) hr
    have hl1 := layNew_led t es ((strKind P w).hash k) (.str k u)
    generalize layNew t es ((strKind P w).hash k) (.str k u) = Z at pm hf1 hr1 hl1 ⊢
    obtain ⟨es1, t1, wasDummy, gave⟩ := Z
    dsimp only at pm hf1 hr1 hl1 ⊢
    rw [Array.toList_push] at pm
    have x1 := (EntX.mk (S := S) el st nd hm).push hSk pm
    have hsz : es1.size = n + 1 := by rw [← Array.length_toList, pm.length_eq, List.length_append, Array.length_toList, hn]; rfl
    have hb1 : es1.size < scanBound := by rw [hsz]; exact room
    have hled : w.params.followText "set-order" = true ∨ t1.led = true := hl.imp id fun z => by rw [hl1]; exact z
    have fin : ∀ h', Heap.SameBut a s.heap h' → SetX P w h' a (fun j => S j || decide (j = k)) es1.size → Q true { s with heap := h' } := fun h' sb r => by
      have q := hQ h' sb
      rw [hSk] at q
      rw [hsz] at r
      exact q r
    refine wpAny_bind (hgw _ ?_)
    split
    · refine wpAny_bind ?_
      rw [hashByValue_scannable 8 hsc]
      refine wpAny_pure ?_
      refine addX_tail ?_ ho hex hd x1 hb1 ?_ ?_ ?_ ?_
      · intro b s₁ Q' q; cases b <;> first | exact wpAny_pure q | exact wpAny_rule q
      · first | (split <;> first | exact hf1 | exact SetTable.fits_plain_off hf1) | exact hf1
      · first | (split <;> exact hr1) | exact hr1
      · first | (split <;> exact hled) | exact hled
      · intro h' sb r; dsimp only; exact wpAny_pure (fin h' sb r)
    · refine wpAny_bind (wpAny_pure ?_)
      simp only [↓reduceIte]
      refine addX_tail ?_ ho hex hd x1 hb1 hf1 hr1 hled ?_
      · intro b s₁ Q' q; cases b <;> first | exact wpAny_pure q | exact wpAny_rule q
      · intro h' sb r; dsimp only; exact wpAny_pure (fin h' sb r)
/-- found.add(k) -/
theorem addX {k : Str} {u : Tok} {Q : Value → Shared → Prop} (R : SetX P w s.heap a S n) (room : n + 1 < scanBound)
    (hQ : ∀ h', Heap.SameBut a s.heap h' → SetX P w h' a (fun j => S j || decide (j = k)) (if S k = true then n else n + 1) → Q .none { s with heap := h', toks := s.toks + 1 }) :
    wpAny (model P w) A (call (.builtin "set.add") [.ref a, .str k u]) Q E s := by
  have hS : s.heap.SetOf (strKind P w) a S n := R.setOf
  refine wpAny_call_entry F.slot_set_add hS.typeIs F.entry_set_add ?_ (F.args_set_add_2 _ _)
  unfold Builtin.«set.add» Builtin.Frozenset.oneOther
  simp only [List.isEmpty_nil, bind_assoc]
  unfold Builtin.Frozenset.addrOf setAdd
  refine wpAny_bind (wpAny_pure ?_)
  try dsimp only
  refine wpAny_bind (wpAny_pure ?_)
  try dsimp only
  refine wpAny_bind ?_
  refine wpAny_holding ?_
  refine wpAny_bind ((strKind P w).pyHash (strKind_is P w k u) ?_)
  refine addX_hashed (s := { s with toks := s.toks + 1 }) R room fun h' sb r => ?_
  show wpAny _ _ (ret Value.none) _ _ _
  exact wpAny_pure ⟨_, rfl, hQ h' sb r⟩
theorem newX {h : Heap} (P : Program) (w : World) : SetX P w (h.push { cls := .type "set", dict := none, data := .set #[] 0 (.fresh 0 0 (!w.params.followText "set-order")) }) h.objs.size (fun _ => false) 0 :=
  ⟨_, #[], 0, _, Heap.get?_push_size _ rfl, ⟨rfl, rfl, rfl⟩, rfl, (fun e he => by simp at he), (fun e he => by simp at he), (by simp), (fun k => by simp), (by decide), (by rfl), rfl, List.Pairwise.nil, by
    show _ ∨ (!w.params.followText "set-order") = true
    cases w.params.followText "set-order"
    · exact .inr rfl
    · exact .inl rfl⟩
end
/-- tracked -/
def SetXO (P : Program) (w : World) (a : Addr) (S : Str → Bool) (n : Nat) : HO := .ext fun h => SetX P w h a S n
theorem setXO_new {w : World} {P : Program} {H : Hp} {h : Heap} {a : Addr} {S : Str → Bool} {n : Nat} (R : SetX P w h a S n) : ObjOk P w H h a (SetXO P w a S n) := by
  have ⟨o, _, _, _, ho, _⟩ := R
  exact ⟨R, ⟨o, ho⟩, fun h1 h2 p k => SetX.at p k⟩
section
variable {X : Cx}
theorem setXO_get {pins : List (Addr × Obj)} {σ : L2.St} {H : Hp} {s : Shared} {a : Addr} {S : Str → Bool} {n : Nat} (I : Inv X pins σ H s) (ha : H a = some (SetXO X.prog X.w a S n)) : SetX X.prog X.w s.heap a S n := (I.hok a _ ha).1
theorem addXO {pins : List (Addr × Obj)} {σ : L2.St} {H : Hp} {s : Shared} {E : Value → Shared → Prop} {D : Addr} {S : Str → Bool} {n : Nat} {y : Str} {u : Tok} {Q : Value → Shared → Prop} (I : Inv X pins σ H s) (hD : H D = some (SetXO X.prog X.w D S n)) (room : n + 1 < scanBound)
    (h : ∀ s', Inv X pins σ (upd H D (SetXO X.prog X.w D (fun j => S j || decide (j = y)) (if S y = true then n else n + 1))) s' → Q .none s') : wpAny (model X.prog X.w) X.A (call (.builtin "set.add") [.ref D, .str y u]) Q E s := by
  have R := setXO_get I hD
  refine addX R room fun h' sb new => ?_
  have he : ∃ u, h'.get? D = some u := by
    have ⟨o, _, _, _, ho, _⟩ := new
    exact ⟨o, ho⟩
  exact h _ (I.write (e := D) (t' := s.toks + 1) (by rw [hD]; trivial) (.inl rfl) (fun b u hb hu => (sb.2 b hb).trans hu) he (setXO_new new))
/-- sorted(found), fewer than 64 texts -/
def rSortedX (P : Program) (w : World) : List V → Hp → VK → Prop := fun vs H Q => ∃ (a : Addr) (S : Str → Bool) (n : Nat), vs = [V.ref a] ∧ H a = some (SetXO P w a S n) ∧ n < 64 ∧
  ∀ (ys : List Str) (p : Addr), sortedS ys = true → ys.Nodup → (∀ k : Str, k ∈ ys ↔ S k = true) → ys.length = n → H p = none → Q (.ref p) (upd H p (.lst (ys.map V.str)))
theorem strsX : ∀ {vs : List Value}, (∀ v ∈ vs, ∃ k u, v = Value.str k u) → StrsAre vs (vs.map fun v => keyX (0, v))
  | [], _ => .nil
  | v :: vs, h => by
    obtain ⟨k, u, rfl⟩ := h v List.mem_cons_self
    exact .cons _ _ (strsX fun x hx => h x (List.mem_cons_of_mem _ hx))
theorem call_sortedX (hc : X.calm = true) : CallR X (.builtin "sorted") (rSortedX X.prog X.w) := by
  intro pins s σ H vs us Q I r h
  obtain ⟨a, S, n, rfl, ha, h64, q⟩ := h
  obtain ⟨o, es, ep, t, ho, hex, hd, el, st, nd, hm, hb, hf, hn, hr, hl⟩ := setXO_get I ha
  rw [Vals.ref1 r]
  refine Calls.call_function_entry PyProof.Rows.kind_sorted PyProof.Rows.plain_sorted PyProof.Rows.entry_sorted (PyProof.Rows.args_sorted1 _) ?_
  unfold Builtin.«sorted»
  refine wpAny_bind (m := checkCount "sorted" 1 1 _) (wpAny_pure ?_)
  refine wpAny_bind (collect_set (A := X.A.in1) (I.ok.hd hc) ⟨o, ho, hex.1, hd⟩ hf hb hr hl fun s1 vs k1 hz g1 o1 pm => ?_)
  have hvl : vs.length = n := by rw [pm.length_eq, List.length_map, Array.length_toList]; exact hn
  have hS : StrsAre vs (vs.map fun v => keyX (0, v)) := strsX fun v hv => by
    obtain ⟨e, he, q⟩ := List.mem_map.mp (pm.mem_iff.mp hv)
    obtain ⟨k, u, z⟩ := st e he
    exact ⟨k, u, by rw [← q]; exact z⟩
  have pk : (vs.map fun v => keyX (0, v)).Perm (es.toList.map keyX) := by
    have q := pm.map fun v => keyX (0, v)
    rw [List.map_map] at q
    exact q
  refine wpAny_bind (wpAny_newList ?_ (by rw [hvl, sizeLine_eq]; omega))
  have hoL : (s1.heap.push (seqObj "list" vs.toArray 0)).get? s1.heap.objs.size = some (seqObj "list" vs.toArray 0) := Heap.get?_push_size _ rfl
  show wpAny _ _ _ _ _ { s1 with heap := s1.heap.push (seqObj "list" vs.toArray 0) }
  refine wpAny_bind (wpAny_holding (wpAny_call_entry PyProof.Rows.slot_list_sort ⟨_, hoL, rfl⟩ PyProof.Rows.entry_list_sort
    (list_sort_treeK strKind_oneLt (s := { s1 with heap := s1.heap.push (seqObj "list" vs.toArray 0) }) hoL hS.keysOf (fun v₁ v₂ rest e => keyKind_strs (by rw [← e]; exact hS)) (by rw [hvl]; exact h64) fun st' hp hs => ⟨_, rfl, ?_⟩)
    (PyProof.Rows.args_list_sort _)))
  obtain ⟨ys, a1, a2, a3⟩ := sorted_out_str hS hp hs
  obtain ⟨c, hc⟩ := PyProof.Rows.sortedHeap_at (vs := vs) (out := (arrOf st').map (·.2)) hoL
  have pn := a2.trans pk
  have hyl : ys.length = n := by rw [pn.length_eq, List.length_map, Array.length_toList]; exact hn
  have hlen : (ys.map V.str).length ≤ sizeLine := by rw [List.length_map, hyl, sizeLine_eq]; omega
  have old : ∀ b u, s.heap.get? b = some u → (sortedHeap (s1.heap.push (seqObj "list" vs.toArray 0)) s1.heap.objs.size vs ((arrOf st').map (·.2))).get? b = some u := fun b u e => by
    have hlt := Heap.lt_size (k1 b u e)
    rw [PyProof.Rows.sortedHeap_old (Nat.ne_of_lt hlt) (by rw [size_push']; exact Nat.lt_succ_of_lt hlt)]
    exact Heap.get?_push_of_some _ (k1 b u e)
  have hn2 : H s1.heap.objs.size = none := I.hok.fresh hz
  have J : Inv X pins σ (upd H s1.heap.objs.size (.lst (ys.map V.str))) { s with heap := sortedHeap (s1.heap.push (seqObj "list" vs.toArray 0)) s1.heap.objs.size vs ((arrOf st').map (·.2)), gens := s1.gens, drawn := s1.drawn, toks := s1.toks } :=
    I.call (ch := []) (Un.laid old hz hn2) (I.hok.laid old hz ⟨hlen, ((arrOf st').map (·.2)).toList, c, vals_of_strs a1, by rw [Array.toArray_toList]; exact hc⟩) (by rw [g1]; exact I.bare) (fun _ z => nomatch z)
  refine wpAny_pure ⟨_, rfl, .ref s1.heap.objs.size, _, ?_, rfl, q ys _ a3 (pn.nodup_iff.mpr nd) (fun k => by rw [pn.mem_iff, ← hm k]) hyl hn2⟩
  have e : ({ s1 with heap := sortedHeap (s1.heap.push (seqObj "list" vs.toArray 0)) s1.heap.objs.size vs ((arrOf st').map (·.2)) } : Shared) = { s with heap := sortedHeap (s1.heap.push (seqObj "list" vs.toArray 0)) s1.heap.objs.size vs ((arrOf st').map (·.2)), gens := s1.gens, drawn := s1.drawn, toks := s1.toks } := by
    cases s1
    cases s
    cases o1
    rfl
  rw [e]
  exact J
end
-- part setc2
/-! {e for .. in .. for .. in ..}, e a text -/
section
variable {P : Program} {w : World} {A : Around} {R : Result → Shared → Prop} {s : Shared} {elt t0 i0 t1 i1 : Expr} {f0 f1 : List Expr} {scope : Scope} {pos : Pos} {it acc : Value} {env : Env}
theorem scTurn_out : compTurn (.SetComp elt [⟨t0, i0, f0, 0⟩, ⟨t1, i1, f1, 0⟩] scope pos) 0 it acc env = (do
    standAt i0.pos
    match ← pyNext it with
    | none => pure (.done .next)
    | some v =>
      letOwnedTupleGo t0 it v
      assign t0 env v
      let mut ok := true
      for c in f0 do
        if ok then ok ← isTrue c env (eval c env)
      if ok then
        let x ← eval i1 env
        standAt i1.pos
        let x ← foldedSetIterable i1 env x
        let _ ← runOwn (.compStart (.SetComp elt [⟨t0, i0, f0, 0⟩, ⟨t1, i1, f1, 0⟩] scope pos) 1 (← holding [x] (pyIter x)) acc env) env
      again (.compLoop (.SetComp elt [⟨t0, i0, f0, 0⟩, ⟨t1, i1, f1, 0⟩] scope pos) 0 it acc env)) := by rfl
theorem scTurn_in : compTurn (.SetComp elt [⟨t0, i0, f0, 0⟩, ⟨t1, i1, f1, 0⟩] scope pos) 1 it acc env = (do
    standAt i1.pos
    match ← pyNext it with
    | none => pure (.done .next)
    | some v =>
      letOwnedTupleGo t1 it v
      assign t1 env v
      let mut ok := true
      for c in f1 do
        if ok then ok ← isTrue c env (eval c env)
      if ok then
        (do let v ← eval elt env; standAt elt.pos; let _ ← call (.builtin "set.add") [acc, v])
      again (.compLoop (.SetComp elt [⟨t0, i0, f0, 0⟩, ⟨t1, i1, f1, 0⟩] scope pos) 1 it acc env)) := by rfl
theorem scLoop_out (hs : ∀ x, foldedSetIterable i1 env x = pure x) (I : Nat → Shared → Prop)
    (turn : ∀ n s, I n s → wpAny (model P w) A (pyNext it) (fun r s1 => match r with
      | none => R (.ok .next) s1
      | some v => wpAny (model P w) A (letOwnedTupleGo t0 it v) (fun _ s1' => wpAny (model P w) A (assign t0 env v) (fun _ s2 =>
          wpAny (model P w) A (forIn f0 true fun c r => if r = true then do let ok ← isTrue c env (eval c env); pure (ForInStep.yield ok) else pure (ForInStep.yield r)) (fun ok s3 =>
            if ok = true then wpAny (model P w) A (eval i1 env) (fun x s4 => wpAny (model P w) A (pyIter x) (fun it1 s5 =>
              codeAny (model P w) A (.compStart (.SetComp elt [⟨t0, i0, f0, 0⟩, ⟨t1, i1, f1, 0⟩] scope pos) 1 it1 acc env) (fun r s' => match r with
                | .ok _ => ∃ m, m < n ∧ I m s'
                | .error _ => False) s5) (notedBy (model P w) A env fun e s' => R (.error e) s') s4) (notedBy (model P w) A env fun e s' => R (.error e) s') s3
            else ∃ m, m < n ∧ I m s3) (notedBy (model P w) A env fun e s' => R (.error e) s') s2) (notedBy (model P w) A env fun e s' => R (.error e) s') s1') (notedBy (model P w) A env fun e s' => R (.error e) s') s1) (notedBy (model P w) A env fun e s' => R (.error e) s') s)
    (n : Nat) (h : I n s) : codeAny (model P w) A (.compLoop (.SetComp elt [⟨t0, i0, f0, 0⟩, ⟨t1, i1, f1, 0⟩] scope pos) 0 it acc env) R s := by
  refine codeAny_loop rfl I (fun n s hI => ?_) n h
  show wpAny _ A ((compTurn (.SetComp elt [⟨t0, i0, f0, 0⟩, ⟨t1, i1, f1, 0⟩] scope pos) 0 it acc env).onRaise (fun x => do noteFrame x env; theTreesLotGoes x)) _ _ s
  refine wpAny_noted ?_
  rw [scTurn_out]
  refine wpAny_bind (wpAny_standAt (wpAny_bind (wpAny_mono (turn n s hI) (fun r s1 h1 => ?_) fun _ _ x => x)))
  cases r with
  | none => exact wpAny_pure h1
  | some v =>
    refine wpAny_bind (wpAny_mono h1 (fun _ s1' h1' => wpAny_bind (wpAny_mono h1' (fun _ s2 h2 => wpAny_bind (wpAny_mono h2 (fun ok s3 h3 => ?_) fun _ _ x => x)) fun _ _ x => x)) fun _ _ x => x)
    cases ok with
    | false => exact wpAny_pure ⟨rfl, h3⟩
    | true =>
      refine wpAny_bind (wpAny_mono h3 (fun x s4 h4 => ?_) fun _ _ x => x)
      refine wpAny_bind (wpAny_standAt (wpAny_bind (wpAny_of_eq (hs x) (wpAny_bind (wpAny_holding (wpAny_mono h4 (fun it1 s5 h5 => ?_) fun _ _ x => x))))))
      refine wpAny_bind (wpAny_runOwn ?_)
      rw [Around.mark_none]
      refine codeAny_mono h5 fun r s' hr => ?_
      cases r with
      | ok f =>
        first
          | exact wpAny_pure ⟨rfl, hr⟩
          | exact wpAny_bind (wpAny_pure (wpAny_pure ⟨rfl, hr⟩))
      | error e => exact hr.elim
theorem scLoop_in (I : Nat → Shared → Prop)
    (turn : ∀ n s, I n s → wpAny (model P w) A (pyNext it) (fun r s1 => match r with
      | none => R (.ok .next) s1
      | some v => wpAny (model P w) A (letOwnedTupleGo t1 it v) (fun _ s1' => wpAny (model P w) A (assign t1 env v) (fun _ s2 =>
          wpAny (model P w) A (forIn f1 true fun c r => if r = true then do let ok ← isTrue c env (eval c env); pure (ForInStep.yield ok) else pure (ForInStep.yield r)) (fun ok s3 =>
            if ok = true then wpAny (model P w) A (eval elt env) (fun x s4 =>
              wpAny (model P w) A (call (.builtin "set.add") [acc, x]) (fun _ s5 => ∃ m, m < n ∧ I m s5) (notedBy (model P w) A env fun e s' => R (.error e) s') s4) (notedBy (model P w) A env fun e s' => R (.error e) s') s3
            else ∃ m, m < n ∧ I m s3) (notedBy (model P w) A env fun e s' => R (.error e) s') s2) (notedBy (model P w) A env fun e s' => R (.error e) s') s1') (notedBy (model P w) A env fun e s' => R (.error e) s') s1) (notedBy (model P w) A env fun e s' => R (.error e) s') s)
    (n : Nat) (h : I n s) : codeAny (model P w) A (.compLoop (.SetComp elt [⟨t0, i0, f0, 0⟩, ⟨t1, i1, f1, 0⟩] scope pos) 1 it acc env) R s := by
  refine codeAny_loop rfl I (fun n s hI => ?_) n h
  show wpAny _ A ((compTurn (.SetComp elt [⟨t0, i0, f0, 0⟩, ⟨t1, i1, f1, 0⟩] scope pos) 1 it acc env).onRaise (fun x => do noteFrame x env; theTreesLotGoes x)) _ _ s
  refine wpAny_noted ?_
  rw [scTurn_in]
  refine wpAny_bind (wpAny_standAt (wpAny_bind (wpAny_mono (turn n s hI) (fun r s1 h1 => ?_) fun _ _ x => x)))
  cases r with
  | none => exact wpAny_pure h1
  | some v =>
    refine wpAny_bind (wpAny_mono h1 (fun _ s1' h1' => wpAny_bind (wpAny_mono h1' (fun _ s2 h2 => wpAny_bind (wpAny_mono h2 (fun ok s3 h3 => ?_) fun _ _ x => x)) fun _ _ x => x)) fun _ _ x => x)
    cases ok with
    | false => exact wpAny_pure ⟨rfl, h3⟩
    | true =>
      exact wpAny_bind (wpAny_bind (wpAny_mono h3 (fun x s4 h4 => wpAny_bind (wpAny_standAt (wpAny_bind (wpAny_mono h4 (fun _ s5 h5 => wpAny_pure (wpAny_pure ⟨rfl, h5⟩)) fun _ _ x => x)))) fun _ _ x => x))
theorem scStart_in (h0 : codeAny (model P w) A (.compLoop (.SetComp elt [⟨t0, i0, f0, 0⟩, ⟨t1, i1, f1, 0⟩] scope pos) 1 it acc env) R s)
    (h : wpAny (model P w) A (pyIter it) (fun it' s' => codeAny (model P w) A (.compLoop (.SetComp elt [⟨t0, i0, f0, 0⟩, ⟨t1, i1, f1, 0⟩] scope pos) 1 it' acc env) R s')
      (notedBy (model P w) A env fun x s' => R (.error x) s') s) : codeAny (model P w) A (.compStart (.SetComp elt [⟨t0, i0, f0, 0⟩, ⟨t1, i1, f1, 0⟩] scope pos) 1 it acc env) R s := by
  refine codeAny_of_tree ?_
  show wpAny _ _ ((compStart (.SetComp elt [⟨t0, i0, f0, 0⟩, ⟨t1, i1, f1, 0⟩] scope pos) 1 it acc env).onRaise (fun x => do noteFrame x env; standAt theWindowsPlace)) _ _ s
  refine wpAny_notedAt ?_
  unfold compStart
  show wpAny _ _ (ask >>= _) _ _ s
  refine wpAny_bind (wpAny_askSetting (wpAny_ite ?_))
  split
  · first
      | exact wpAny_bind (wpAny_pure (wpAny_pure (And.intro rfl h0)))
      | exact wpAny_pure (And.intro rfl h0)
  · first
      | exact wpAny_bind (wpAny_rule (wpAny_bind (wpAny_standAt (wpAny_bind (wpAny_mono h (fun it' s' h' => wpAny_pure (And.intro rfl h')) fun _ _ x => x)))))
      | (refine wpAny_bind (wpAny_rule ?_); show wpAny _ _ (standAt i1.pos >>= _) _ _ s; exact wpAny_bind (wpAny_standAt (wpAny_bind (wpAny_mono h (fun it' s' h' => wpAny_pure (And.intro rfl h')) fun _ _ x => x))))
end
section
variable {X : Cx}
/-- behind the first clause's store and tests the second clause's own loop, from which N is reached -/
def tSc2 (P : Program) (w : World) (wi : TI) (g : TG) (tt : TT) (wi1 : TI) (g1 : TG) (tt1 : TT) (te : TE) (own own1 : List Nat) : TE := fun σ H Q => wi σ H fun J H1 => ∀ D, H1 D = none → ∃ W : Nat → Nat → Hp → Prop, (∃ m, W 0 m (upd H1 D (SetXO P w D (fun _ => false) 0))) ∧ ∀ i m G, W i m G →
  (J.stop i G ∧ Q (.ref D) G) ∨ (J.go i G ∧ ∃ N : Hp → Prop, (∀ G', N G' → ∃ m', m' < m ∧ W (i + 1) m' G') ∧ ∀ x G', J.yld i G x G' → g x (wipe σ own) G' fun τ G2 => wipe τ own = wipe σ own ∧ tt τ G2 fun b G3 =>
    if b = true then wi1 τ G3 fun J1 G4 => ∃ V1 : Nat → Nat → Hp → Prop, (∃ m, V1 0 m G4) ∧ ∀ j k G, V1 j k G →
      (J1.stop j G ∧ N G) ∨ (J1.go j G ∧ ∃ N1 : Hp → Prop, (∀ G', N1 G' → ∃ k', k' < k ∧ V1 (j + 1) k' G') ∧ ∀ x G', J1.yld j G x G' → g1 x (wipe τ own1) G' fun υ G5 => wipe υ own1 = wipe τ own1 ∧ tt1 υ G5 fun b G6 =>
        if b = true then te υ G6 fun y G7 => ∃ (c : Str) (S : Str → Bool) (n : Nat), y = .str c ∧ G7 D = some (SetXO P w D S n) ∧ n + 1 < scanBound ∧ N1 (upd G7 D (SetXO P w D (fun j => S j || decide (j = c)) (if S c = true then n else n + 1))) else N1 G6)
    else N G3)
theorem sc2_core {pins : List (Addr × Obj)} {s0 : Shared} {σ : L2.St} {H : Hp} {Q : VK} {elt tg iter tg1 iter1 : Expr} {ifs ifs1 : List Expr} {sco : Scope} {own : List (Str × Nat)} {own1 : List Nat} {pos pos' : Pos} {wi wi1 : TI} {g g1 : TG} {tt tt1 : TT} {te : TE} {use : Option (Value → Sem Unit)} {Qf : Value → Shared → Prop}
    (calm : X.calm = true) (nd : X.N.Nodup) (I : Inv X pins σ H s0) (walk : PI X tg iter wi) (blk : BlkOk X.N X.env.scope sco own) (hv : ∀ i ∈ own1, i ∈ own.map (·.2))
    (pgs : ∀ (s : Shared) (H : Hp) (C : Addr) (cl : List (Str × Addr)) (fp : List Addr), PG (X.blk s H sco (compEnvC sco cl C X.env) fp) tg g) (pts : ∀ (s : Shared) (H : Hp) (C : Addr) (cl : List (Str × Addr)) (fp : List Addr), PTs (X.blk s H sco (compEnvC sco cl C X.env) fp) ifs tt)
    (pes : ∀ (s : Shared) (H : Hp) (C : Addr) (cl : List (Str × Addr)) (fp : List Addr), PE (X.blk s H sco (compEnvC sco cl C X.env) fp) elt te) (fold : ∀ x, foldedSetIterable iter X.env x = pure x)
    (pis1 : ∀ (s : Shared) (H : Hp) (C : Addr) (cl : List (Str × Addr)) (fp : List Addr), PI (X.blk s H sco (compEnvC sco cl C X.env) fp) tg1 iter1 wi1)
    (pgs1 : ∀ (s : Shared) (H : Hp) (C : Addr) (cl : List (Str × Addr)) (fp : List Addr), PG (X.blk s H sco (compEnvC sco cl C X.env) fp) tg1 g1)
    (pts1 : ∀ (s : Shared) (H : Hp) (C : Addr) (cl : List (Str × Addr)) (fp : List Addr), PTs (X.blk s H sco (compEnvC sco cl C X.env) fp) ifs1 tt1) (fold1 : ∀ env x, foldedSetIterable iter1 env x = pure x)
    (h : tSc2 X.prog X.w wi g tt wi1 g1 tt1 te (own.map (·.2)) own1 σ H Q)
    (out : ∀ D C t m G, Inv X pins σ G t → Q (.ref D) G → t.heap.Ns C m → FpOk X pins G C → compPost (model X.prog X.w) X.A X.xe use Qf (.ref D) C (.ok .next) t) :
    wpAny (model X.prog X.w) X.A (comprehension (.SetComp elt [⟨tg, iter, ifs, 0⟩, ⟨tg1, iter1, ifs1, 0⟩] sco pos) sco X.env pos' (newSet (.type "set")) false (eval iter X.env) use) Qf X.xe s0 := by
  have closed : ∀ y ∈ sco.names, y.2 = .free → ∃ c, X.env.cells.lookup y.1 = some c := fun y hy e => by
    rcases blk.free y hy e with k | k
    · exact I.ok.has _ (.inl k)
    · exact I.ok.has _ (.inr k)
  refine wpAny_comprehension_free (use := use) rfl fold (closure_ok closed) blk.kind (fun y hy e => by rw [blk.uniq y hy, e])
    (thn (walk.run pins s0 σ H _ I h) fun xv s1 hx => thn hx fun itv s2 made => ?_)
  obtain ⟨it, fp, tn, J, H2, e, I2, T, st2, f2, q⟩ := made
  subst e
  refine PpSet.newSet_ok (newEnv_comp ?_)
  generalize eD : s2.heap.objs.size = D
  have nD : H2 D = none := I2.hok.fresh (Nat.le_of_eq eD)
  obtain ⟨W, ⟨m0, w0⟩, turn⟩ := q D nD
  generalize es3 : ({ s2 with heap := s2.heap.push { cls := .type "set", dict := none, data := .set #[] 0 (.fresh 0 0 (!X.w.params.followText "set-order")) } } : Shared) = s3
  have I3 : Inv X pins σ (upd H2 D (SetXO X.prog X.w D (fun _ => false) 0)) s3 := by
    rw [← es3]
    refine I2.laid (t' := s2.toks) (fun b o e => Heap.get?_push_of_some _ e) (Nat.le_of_eq eD) ?_
    rw [← eD]
    exact setXO_new (newX X.prog X.w)
  have heap3 : s3.heap = s2.heap.push { cls := .type "set", dict := none, data := .set #[] 0 (.fresh 0 0 (!X.w.params.followText "set-order")) } := by rw [← es3]
  have old : ∀ b ∈ fp, b < s2.heap.objs.size := fun b hb => by
    obtain ⟨o, e, _⟩ := T.obj _ _ st2 b hb
    exact Heap.lt_size e
  have f3 : ∀ b ∈ fp, FpOk X pins (upd H2 D (SetXO X.prog X.w D (fun _ => false) 0)) b ∧ b < s3.heap.objs.size := fun b hb => by
    have lt := old b hb
    refine ⟨⟨?_, (f2 b hb).2⟩, by rw [heap3, Heap.size_push]; exact Nat.lt_succ_of_lt lt⟩
    rw [upd_ne (by rw [← eD]; exact Nat.ne_of_lt lt)]
    exact (f2 b hb).1
  have st3 : tn 0 s3.heap := T.keep _ _ _ st2 fun b _ o e => by rw [heap3]; exact Heap.get?_push_of_some _ e
  have I4 := block_start I3 blk nd f3
  have pg := pgs s3 (upd H2 D (SetXO X.prog X.w D (fun _ => false) 0)) s3.heap.objs.size (cellsFrom (s3.heap.objs.size + 1) sco.names (cloFrom X.env.cells sco.names [])) fp
  have pt := pts s3 (upd H2 D (SetXO X.prog X.w D (fun _ => false) 0)) s3.heap.objs.size (cellsFrom (s3.heap.objs.size + 1) sco.names (cloFrom X.env.cells sco.names [])) fp
  have pe := pes s3 (upd H2 D (SetXO X.prog X.w D (fun _ => false) 0)) s3.heap.objs.size (cellsFrom (s3.heap.objs.size + 1) sco.names (cloFrom X.env.cells sco.names [])) fp
  have pi1 := pis1 s3 (upd H2 D (SetXO X.prog X.w D (fun _ => false) 0)) s3.heap.objs.size (cellsFrom (s3.heap.objs.size + 1) sco.names (cloFrom X.env.cells sco.names [])) fp
  have pg1 := pgs1 s3 (upd H2 D (SetXO X.prog X.w D (fun _ => false) 0)) s3.heap.objs.size (cellsFrom (s3.heap.objs.size + 1) sco.names (cloFrom X.env.cells sco.names [])) fp
  have pt1 := pts1 s3 (upd H2 D (SetXO X.prog X.w D (fun _ => false) 0)) s3.heap.objs.size (cellsFrom (s3.heap.objs.size + 1) sco.names (cloFrom X.env.cells sco.names [])) fp
  show codeAny _ _ (.compStart (.SetComp elt [⟨tg, iter, ifs, 0⟩, ⟨tg1, iter1, ifs1, 0⟩] sco pos) 0 (.ref it) (.ref D) (compEnvC sco (cellsFrom (s3.heap.objs.size + 1) sco.names (cloFrom X.env.cells sco.names [])) s3.heap.objs.size X.env)) (compPost (model X.prog X.w) X.A X.xe use Qf (.ref D) s3.heap.objs.size) { s3 with heap := pushCells (s3.heap.push { cls := .type "dict", data := .dict #[] }) sco.names }
  have none3 : ∀ b ∈ fp, (upd H2 D (SetXO X.prog X.w D (fun _ => false) 0)) b = none := fun b hb => (f3 b hb).1.1
  generalize ece : compEnvC sco (cellsFrom (s3.heap.objs.size + 1) sco.names (cloFrom X.env.cells sco.names [])) s3.heap.objs.size X.env = ce at I4 pg pt pe pi1 pg1 pt1 ⊢
  have ceL : ce.locals = s3.heap.objs.size := by subst ece; rfl
  generalize eH3 : upd H2 D (SetXO X.prog X.w D (fun _ => false) 0) = H3 at I3 I4 pg pt pe pi1 pg1 pt1 w0 none3 f3
  generalize es4 : ({ s3 with heap := pushCells (s3.heap.push { cls := .type "dict", data := .dict #[] }) sco.names } : Shared) = s4 at I4 ⊢
  have st4 : tn 0 s4.heap := T.keep _ _ _ st3 fun b _ o e => by rw [← es4]; exact pushCells_keeps _ _ _ _ (Heap.get?_push_of_some _ e)
  have still : ∀ {τ : L2.St} {G : Hp} {t : Shared}, Inv (X.blk s3 H3 sco ce fp) [] τ G t → (∀ b ∈ fp, G b = none) → ∀ b ∈ fp, FpOk (X.blk s3 H3 sco ce fp) [] G b := fun {τ G t} J nn b hb =>
    ⟨nn b hb, (J.ok.exf b hb).1, J.ok.exfs b hb, .inl hb, fun x c e => (J.ok.exf b hb).2 x c e, fun p hp => absurd (show p ∈ ([] : List (Addr × Obj)) ++ [] from hp) (by simp)⟩
  have loop : codeAny (model X.prog X.w) X.A (.compLoop (.SetComp elt [⟨tg, iter, ifs, 0⟩, ⟨tg1, iter1, ifs1, 0⟩] sco pos) 0 (.ref it) (.ref D) ce) (compPost (model X.prog X.w) X.A X.xe use Qf (.ref D) s3.heap.objs.size) s4 := by
    refine scLoop_out (fold1 ce) (fun n t => ∃ i G, Inv (X.blk s3 H3 sco ce fp) [] (wipe σ (own.map (·.2))) G t ∧ tn i t.heap ∧ (∀ b ∈ fp, G b = none) ∧ W i n G) ?_ m0 ⟨0, H3, I4, st4, none3, w0⟩
    rintro n s5 ⟨i, H5, I5, st5, n5, w5⟩
    rcases turn i n H5 w5 with ⟨stop, qq⟩ | ⟨go, N, less, step⟩
    · refine thnF (T.done (X.blk s3 H3 sco ce fp) rfl rfl rfl calm i [] s5 _ H5 (fun _ _ => False) I5 (still I5 n5) st5 stop) fun r s6 ⟨er, I6⟩ => ?_
      subst er
      have I7 : Inv X pins σ H5 s6 := I3.call' (ch := fp) I6.os I6.base I6.hok I6.bare fun b hb => ⟨(f3 b hb).1.2.2.2.1, (f3 b hb).1.2.1, (f3 b hb).1.2.2.2.2.1, (f3 b hb).1.2.2.2.2.2⟩
      have nC : H5 s3.heap.objs.size = none := by
        have z : H5 ce.locals = none := I6.free
        rw [ceL] at z
        exact z
      obtain ⟨m, names, _⟩ := I6.loc
      have names : s6.heap.Ns ce.locals m := names
      rw [ceL] at names
      exact out D s3.heap.objs.size s6 m H5 I7 qq names (I3.fpOk (Nat.le_refl _) nC)
    · refine thnF (T.item (X.blk s3 H3 sco ce fp) rfl rfl rfl calm i [] s5 _ H5 (fun _ _ => False) I5 (still I5 n5) st5 go) fun r s6 ⟨u, er, h6⟩ => ?_
      subst er
      refine thnF h6 fun _ s7 ⟨x, H7, I7, r7, y7, st7, n7⟩ => ?_
      have I8 := I7.pinned (still I7 n7) (T.obj _ _ st7)
      refine thnF (pg.run _ s7 _ H7 x u _ I8 r7 (step x H7 y7)) fun _ s8 ⟨σ8, H8, J8, hw8, q8⟩ => ?_
      refine thnF (pt.run _ s8 σ8 H8 _ J8 q8) fun b s9 ⟨H9, I9, q9⟩ => ?_
      -- the turn's end, whatever slots know what the block knew
      have fin : ∀ {σ9 : L2.St} {t : Shared} {G : Hp}, Inv (X.blk s3 H3 sco ce fp) ([] ++ pinsAt fp s7.heap) σ9 G t → (wipe σ (own.map (·.2))).length = σ9.length → (∀ (j : Nat) v, (wipe σ (own.map (·.2)))[j]? = some (some v) → σ9[j]? = some (some v)) → N G →
          ∃ m, m < n ∧ ∃ i G, Inv (X.blk s3 H3 sco ce fp) [] (wipe σ (own.map (·.2))) G t ∧ tn i t.heap ∧ (∀ b ∈ fp, G b = none) ∧ W i m G := fun {σ9 t G} K hl hk ng => by
        obtain ⟨m', hm, w'⟩ := less G ng
        have pin : ∀ b ∈ fp, ∀ o, s7.heap.get? b = some o → t.heap.get? b = some o ∧ G b = none := fun b hb o e =>
          let z := K.pin (b, o) (List.mem_append_right _ (List.mem_append_right _ (mem_pinsAt hb e)))
          ⟨z.1, z.2.1⟩
        refine ⟨m', hm, i + 1, G, (K.unpinned (pins := [])).weak hl hk, T.keep _ _ _ st7 fun b hb o e => (pin b hb o e).1, fun b hb => ?_, w'⟩
        obtain ⟨o, e, _⟩ := T.obj _ _ st7 b hb
        exact (pin b hb o e).2
      have hl8 : (wipe σ (own.map (·.2))).length = σ8.length := by rw [← hw8, wipe_length]
      have hk8 : ∀ (j : Nat) v, (wipe σ (own.map (·.2)))[j]? = some (some v) → σ8[j]? = some (some v) := fun j v e => by
        rw [← hw8] at e
        exact (wipe_some e).1
      have hk9 : ∀ (j : Nat) v, (wipe σ (own.map (·.2)))[j]? = some (some v) → (wipe σ8 own1)[j]? = some (some v) := fun j v e => by
        rw [← hw8] at e
        obtain ⟨e1, e2⟩ := wipe_some e
        rw [wipe_out fun z => e2 (hv j z)]
        exact e1
      cases b with
      | false =>
        simp only [Bool.false_eq_true, if_false] at q9 ⊢
        exact fin I9 hl8 hk8 q9
      | true =>
        simp only [if_true] at q9 ⊢
        refine thnF (pi1.run _ s9 σ8 H9 _ I9 q9) fun xv s10 hx => thnF hx fun itv s11 made1 => ?_
        obtain ⟨it1, fp1, tn1, J1, H11, e1, I11, T1, st11, f11, V1, ⟨m1, w1⟩, turn1⟩ := made1
        subst e1
        have still1 : ∀ {G : Hp}, (∀ b ∈ fp1, G b = none) → ∀ b ∈ fp1, FpOk (X.blk s3 H3 sco ce fp) ([] ++ pinsAt fp s7.heap) G b := fun nn b hb => ⟨nn b hb, (f11 b hb).2⟩
        have loop1 : codeAny (model X.prog X.w) X.A (.compLoop (.SetComp elt [⟨tg, iter, ifs, 0⟩, ⟨tg1, iter1, ifs1, 0⟩] sco pos) 1 (.ref it1) (.ref D) ce)
            (fun r t => match r with
              | .ok _ => ∃ m, m < n ∧ ∃ i G, Inv (X.blk s3 H3 sco ce fp) [] (wipe σ (own.map (·.2))) G t ∧ tn i t.heap ∧ (∀ b ∈ fp, G b = none) ∧ W i m G
              | .error _ => False) s11 := by
          refine scLoop_in (fun k t => ∃ j G, Inv (X.blk s3 H3 sco ce fp) ([] ++ pinsAt fp s7.heap) (wipe σ8 own1) G t ∧ tn1 j t.heap ∧ (∀ b ∈ fp1, G b = none) ∧ V1 j k G) ?_ m1 ⟨0, H11, I11.weak (wipe_length _ _) (fun j v e => (wipe_some e).1), st11, fun b hb => (f11 b hb).1, w1⟩
          rintro k s12 ⟨j, H12, I12, st12, n12, w12⟩
          rcases turn1 j k H12 w12 with ⟨stop1, nx1⟩ | ⟨go1, N1, less1, step1⟩
          · refine thnF (T1.done (X.blk s3 H3 sco ce fp) rfl rfl rfl calm j _ s12 (wipe σ8 own1) H12 (fun _ _ => False) I12 (still1 n12) st12 stop1) fun r s13 ⟨er, I13⟩ => ?_
            subst er
            exact fin I13 (hl8.trans (wipe_length σ8 own1).symm) hk9 nx1
          · refine thnF (T1.item (X.blk s3 H3 sco ce fp) rfl rfl rfl calm j _ s12 (wipe σ8 own1) H12 (fun _ _ => False) I12 (still1 n12) st12 go1) fun r s13 ⟨u1, er, h13⟩ => ?_
            subst er
            refine thnF h13 fun _ s14 ⟨x1, H14, I14, r14, y14, st14, n14⟩ => ?_
            have I15 := I14.pinned (still1 n14) (T1.obj _ _ st14)
            refine thnF (pg1.run _ s14 (wipe σ8 own1) H14 x1 u1 _ I15 r14 (step1 x1 H14 y14)) fun _ s15 ⟨σ15, H15, J15, hw15, q15⟩ => ?_
            refine thnF (pt1.run _ s15 σ15 H15 _ J15 q15) fun b1 s16 ⟨H16, I16, q16⟩ => ?_
            have fin1 : ∀ {t : Shared} {G : Hp}, Inv (X.blk s3 H3 sco ce fp) (([] ++ pinsAt fp s7.heap) ++ pinsAt fp1 s14.heap) σ15 G t → N1 G → ∃ m, m < k ∧ ∃ j G, Inv (X.blk s3 H3 sco ce fp) ([] ++ pinsAt fp s7.heap) (wipe σ8 own1) G t ∧ tn1 j t.heap ∧ (∀ b ∈ fp1, G b = none) ∧ V1 j m G := fun {t G} K ng => by
              obtain ⟨m', hm, w'⟩ := less1 G ng
              have pin : ∀ b ∈ fp1, ∀ o, s14.heap.get? b = some o → t.heap.get? b = some o ∧ G b = none := fun b hb o e =>
                let z := K.pin (b, o) (List.mem_append_right _ (List.mem_append_right _ (mem_pinsAt hb e)))
                ⟨z.1, z.2.1⟩
              refine ⟨m', hm, j + 1, G, K.unpinned.weak (by rw [← hw15, wipe_length]) (fun j v e => by rw [← hw15] at e; exact (wipe_some e).1), T1.keep _ _ _ st14 fun b hb o e => (pin b hb o e).1, fun b hb => ?_, w'⟩
              obtain ⟨o, e, _⟩ := T1.obj _ _ st14 b hb
              exact (pin b hb o e).2
            cases b1 with
            | false =>
              simp only [Bool.false_eq_true, if_false] at q16 ⊢
              exact fin1 I16 q16
            | true =>
              simp only [if_true] at q16 ⊢
              refine thnF (pe.run _ s16 σ15 H16 _ I16 q16) fun z s17 ⟨yv, H17, I17, r17, c, S, n0, ey, hD17, hz17, ng⟩ => ?_
              subst ey
              obtain ⟨tk, rfl⟩ : ∃ tk, z = Value.str c tk := r17
              exact addXO (X := X.blk s3 H3 sco ce fp) I17 hD17 hz17 fun s18 I18 => fin1 I18 ng
        exact scStart_in loop1 (T1.self X.A 0 _ _ _ st11 loop1)
  exact PpSet.codeAny_compStart_set loop (T.self X.A 0 _ _ _ st4 loop)
theorem pe_sc2 {elt tg iter tg1 iter1 : Expr} {ifs ifs1 : List Expr} {sco : Scope} {own : List (Str × Nat)} {own1 : List Nat} {pos : Pos} {wi wi1 : TI} {g g1 : TG} {tt tt1 : TT} {te : TE} (calm : X.calm = true) (nd : X.N.Nodup) (walk : PI X tg iter wi) (blk : BlkOk X.N X.env.scope sco own) (hv : ∀ i ∈ own1, i ∈ own.map (·.2))
    (pgs : ∀ (s : Shared) (H : Hp) (C : Addr) (cl : List (Str × Addr)) (fp : List Addr), PG (X.blk s H sco (compEnvC sco cl C X.env) fp) tg g) (pts : ∀ (s : Shared) (H : Hp) (C : Addr) (cl : List (Str × Addr)) (fp : List Addr), PTs (X.blk s H sco (compEnvC sco cl C X.env) fp) ifs tt)
    (pis1 : ∀ (s : Shared) (H : Hp) (C : Addr) (cl : List (Str × Addr)) (fp : List Addr), PI (X.blk s H sco (compEnvC sco cl C X.env) fp) tg1 iter1 wi1)
    (pgs1 : ∀ (s : Shared) (H : Hp) (C : Addr) (cl : List (Str × Addr)) (fp : List Addr), PG (X.blk s H sco (compEnvC sco cl C X.env) fp) tg1 g1) (pts1 : ∀ (s : Shared) (H : Hp) (C : Addr) (cl : List (Str × Addr)) (fp : List Addr), PTs (X.blk s H sco (compEnvC sco cl C X.env) fp) ifs1 tt1)
    (pes : ∀ (s : Shared) (H : Hp) (C : Addr) (cl : List (Str × Addr)) (fp : List Addr), PE (X.blk s H sco (compEnvC sco cl C X.env) fp) elt te) (fold : ∀ x, foldedSetIterable iter X.env x = pure x := by intro _; rfl) (fold1 : ∀ env x, foldedSetIterable iter1 env x = pure x := by intro _ _; rfl) :
    PE X (.SetComp elt [⟨tg, iter, ifs, 0⟩, ⟨tg1, iter1, ifs1, 0⟩] sco pos) (tSc2 X.prog X.w wi g tt wi1 g1 tt1 te (own.map (·.2)) own1) := by
  refine ⟨fun pins s σ H Q I h => ?_⟩
  rw [PpSet.eval_SetComp]
  refine sc2_core calm nd I walk blk hv pgs pts pes fold pis1 pgs1 pts1 fold1 h fun D C t m G J q names f => ⟨m, names, fun h2 sb => ?_⟩
  obtain ⟨a0, a1, a2, a3, a4, a5⟩ := f
  exact ⟨.ref D, G, J.turned (t' := t.toks) (fun b o hb e => (sb.2 b hb).trans e) a0 a1 a3 a4 a5, rfl, q⟩
end
-- part strs
theorem bl_eq {α : Type} (x y : α) [DecidableEq α] {f : α → V} (inj : ∀ a b, f a = f b → a = b) : decide (f x = f y) = decide (x = y) := by
  by_cases c : x = y
  · rw [c, decide_eq_true rfl, decide_eq_true rfl]
  · rw [decide_eq_false c, decide_eq_false fun h => c (inj _ _ h)]
theorem str_eq (x y : Str) : decide (V.str x = V.str y) = decide (x = y) := bl_eq x y fun _ _ h => V.str.inj h
theorem dpAll_strs {K : PySem.W.Frag} {H : Hp} : ∀ l : List Str, DpAll K H (l.map V.str) (l.map PyData.str)
  | [] => .nil
  | x :: l => .cons (.str x) (dpAll_strs l)
theorem eqvAll_strs : ∀ l m : List Str, PyData.eqvAll (l.map PyData.str) (m.map PyData.str) = decide (l = m)
  | [], [] => by rw [List.map_nil, PyData.eqvAll]; rfl
  | [], b :: m => by rw [List.map_nil, List.map_cons, PyData.eqvAll] <;> first | (exact (decide_eq_false (by simp)).symm) | skip
  | a :: l, [] => by rw [List.map_nil, List.map_cons, PyData.eqvAll] <;> first | (exact (decide_eq_false (by simp)).symm) | skip
  | a :: l, b :: m => by
    rw [List.map_cons, List.map_cons, PyData.eqvAll, PyData.eqv, eqvAll_strs l m]
    by_cases c : a = b
    · subst c
      by_cases d : l = m
      · subst d
        simp
      · simp [d]
    · simp [c]
theorem eqv_strs (l m : List Str) : PyData.eqv (.list (l.map PyData.str)) (.list (m.map PyData.str)) = decide (l = m) := by
  rw [PyData.eqv]
  exact eqvAll_strs l m
theorem canLay_strs : ∀ l : List Str, (∀ z ∈ l, PyData.strOk z = true) → PyData.canLayAll0 (l.map PyData.str) = true
  | [], _ => by rw [List.map_nil, PyData.canLayAll0]
  | a :: l, h => by rw [List.map_cons, PyData.canLayAll0, PyData.canLay0, canLay_strs l fun z hz => h z (List.mem_cons_of_mem _ hz), h a List.mem_cons_self]; rfl
theorem depth_strs : ∀ l : List Str, PyData.depthAll (l.map PyData.str) = 0
  | [] => by rw [List.map_nil, PyData.depthAll]
  | a :: l => by rw [List.map_cons, PyData.depthAll, PyData.depth, depth_strs l]; rfl
theorem shaped_strs {l : List Str} (h : ∀ z ∈ l, PyData.strOk z = true) : SeqAt.shaped (.list (l.map PyData.str)) = true := by
  unfold SeqAt.shaped
  rw [PyData.canLay0, canLay_strs l h, PyData.depth, depth_strs]
  rfl
theorem dp_strs {K : PySem.W.Frag} {H : Hp} {a : Addr} {l : List Str} (h : SqL K H a (l.map V.str)) : Dp K H (.ref a) (.list (l.map PyData.str)) := .lst h (dpAll_strs l)
theorem at_str {L : List Str} {i : Nat} {z : Str} (h : L[i]? = some z) : atI (L.map V.str) (i : Int) = some (V.str z) := atI_nat (by rw [List.getElem?_map, h]; rfl)
-- part kwm
/-! methods called with keywords, nothing lacks -/
structure MeKw (P : Program) (w : World) (K : PySem.W.Frag) (mg : Str → Option Value) (base : Heap) (CX : CXT) (k : Nat) (C : Addr) (m : Str) (n : Nat) (ks : List Str) (sp : Sp) : Prop where
  ex : ∃ (f : Addr) (fd : FuncData) (ps : List Str), Meth K C m f ∧ FnOk P w K mg base CX k f fd ps sp ∧ KBn K fd ps (n + 1) ks (fun us ws => us ++ ws) (fun vs zs => vs ++ zs)
theorem kbn_of {K : PySem.W.Frag} {fd : FuncData} {ps ks : List Str} {n : Nat} (h : ∀ (s : Shared) (us ws : List Value), us.length = n → ws.length = ks.length → BindsTo s fd ⟨us, ks.zip ws⟩ (ps.zip (us ++ ws))) : KBn K fd ps n ks (fun us ws => us ++ ws) (fun vs zs => vs ++ zs) :=
  ⟨fun s us ws _ l1 l2 => h s us ws l1 l2, fun r1 r2 => r1.append r2⟩
def tMethK (C : Addr) (m : Str) (n j : Nat) (sp : Sp) (E : L2.St → XK) (ta : TE) (t tk : TA) : TE := fun σ H Q => ta σ H fun x H1 => ∃ a dx fs, x = .ref a ∧ H1 a = some (.ins C dx fs) ∧ fs.lookup m = none ∧ t σ H1 fun vs H2 => tk σ H2 fun zs H3 => vs.length = n ∧ zs.length = j ∧ sp (x :: vs ++ zs) H3 Q (E σ)
section
variable {X : Cx} {C : Addr} {m : Str} {sp : Sp} {k j n : Nat} {ks : List Str} {o e : Expr} {es : List Expr} {kws : List Keyword} {ta : TE} {t tw : TA} {apos pos : Pos} {pl : Sem Bool}
theorem run_fnK {CX : CXT} {E : L2.St → XK} {f : Addr} {fd : FuncData} {ps : List Str} {pins : List (Addr × Obj)} {σ : L2.St} {H : Hp} {s : Shared} {Q : VK} {us ws : List Value} {vs zs : List V} (F : FnOk X.prog X.w X.K X.mg X.base CX k f fd ps sp) (hr : Room k X.A) (hb : KBn X.K fd ps n ks (fun us ws => us ++ ws) (fun vs zs => vs ++ zs)) (hx : PassesAt CX X σ (E σ))
    (I : Inv X pins σ H s) (r : Vals vs us) (rz : Vals zs ws) (l1 : vs.length = n) (l2 : zs.length = ks.length) (h : sp (vs ++ zs) H Q (E σ)) : wpAny (model X.prog X.w) X.A (call (.ref f) us (ks.zip ws)) (EP X pins σ Q) X.xe s := by
  have r2 := hb.rel r rz
  refine wpAny_call (codeAny_mono (F.run X.A X.stack s H ⟨us, ks.zip ws⟩ (us ++ ws) (vs ++ zs) Q (E σ) hr I.env0 (hb.to s us ws I.kIn (r.length.symm.trans l1) (rz.length.symm.trans l2)) r2 h) fun r s' hq => ?_)
  cases r with
  | error e => exact hx pins H s e s' I hq
  | ok fl =>
    cases fl with
    | ret u => exact I.after hq
    | next => exact False.elim hq
    | brk => exact False.elim hq
    | cont => exact False.elim hq
theorem pe_meKw {CX : CXT} {E : L2.St → XK} (c : MeKw X.prog X.w X.K X.mg X.base CX k C m n ks sp) (cl : Cls X.K C) (hr : Room j X.A) (hx : ∀ σ, PassesAt CX X σ (E σ)) (he : PE X o ta) (ha : PA X (e :: es) t) (hw : PK X kws tw) (hk : k ≤ j := by decide)
    (hall : (backToKw pos (keywordEach kws X.env)).all (·.1.isSome) = true := by rfl) (hks : (backToKw pos (keywordEach kws X.env)).filterMap (·.1) = ks := by rfl)
    (hst : starEach (e :: es) X.env = (false, eval e X.env) :: starEach es X.env := by rfl) (hpl : ((backTo pos (starEach (e :: es) X.env)).any (·.1) || (backToKw pos (keywordEach kws X.env)).any (·.1.isNone)) = false := by rfl)
    (ht : eval (.Call (.Attribute o m apos) (e :: es) kws pos) X.env = (do
      let ov ← eval o X.env
      standAt apos.atName
      let (f, first) ← holding [ov] (getMethod ov m pl)
      callWith pos f first (backTo pos (starEach (e :: es) X.env)) (backToKw pos (keywordEach kws X.env))) := by rfl) :
    PE X (.Call (.Attribute o m apos) (e :: es) kws pos) (tMethK C m n ks.length sp E ta t tw) := by
  obtain ⟨f, fd, ps, M, F, b⟩ := c.ex
  refine ⟨fun pins s σ H Q I h => ?_⟩
  refine PySem.W.methodCall_KW (pl := pl) (thn (he.run pins s σ H _ I h) fun u s1 ⟨x, H1, I1, rx, a, dx, fs, ex, ea, l, q⟩ => ?_) ht
  subst ex
  obtain rfl : u = Value.ref a := rx
  refine getmeth_ok I1 ea cl M l ?_
  refine PySem.W.callWith_KW (first := [.ref a]) (h₀ := X.base) I1.ok.mod.kin M.kp hall (thn (ha.run pos pins s1 σ H1 _ I1 q) fun us s2 ⟨vs, H2, I2, r, q⟩ => ?_) hpl hst
  refine thn (hw.run pos pins s2 σ H2 _ I2 q) fun ws s3 ⟨zs, H3, I3, rz, l1, l2, q2⟩ => ⟨I3.kIn, ?_⟩
  rw [hks]
  exact run_fnK (us := .ref a :: us) (vs := .ref a :: vs) F (hr.mono hk) b (hx σ) I3 (.cons rfl r) rz (congrArg Nat.succ l1) l2 q2
/-- o.m(.., k = v), no keyword's positional argument -/
theorem pe_meKw0 {CX : CXT} {E : L2.St → XK} (c : MeKw X.prog X.w X.K X.mg X.base CX k C m 0 ks sp) (cl : Cls X.K C) (hr : Room j X.A) (hx : ∀ σ, PassesAt CX X σ (E σ)) (he : PE X o ta) (hw : PK X kws tw) (hk : k ≤ j := by decide)
    (hall : (backToKw pos (keywordEach kws X.env)).all (·.1.isSome) = true := by rfl) (hks : (backToKw pos (keywordEach kws X.env)).filterMap (·.1) = ks := by rfl)
    (hpl : ((backTo pos (starEach [] X.env)).any (·.1) || (backToKw pos (keywordEach kws X.env)).any (·.1.isNone)) = false := by rfl)
    (ht : eval (.Call (.Attribute o m apos) [] kws pos) X.env = (do
      let ov ← eval o X.env
      standAt apos.atName
      let (f, first) ← holding [ov] (getMethod ov m pl)
      callWith pos f first (backTo pos (starEach [] X.env)) (backToKw pos (keywordEach kws X.env))) := by rfl) :
    PE X (.Call (.Attribute o m apos) [] kws pos) (tMethK C m 0 ks.length sp E ta tNil tw) := by
  obtain ⟨f, fd, ps, M, F, b⟩ := c.ex
  refine ⟨fun pins s σ H Q I h => ?_⟩
  refine PySem.W.methodCall_KW (pl := pl) (thn (he.run pins s σ H _ I h) fun u s1 ⟨x, H1, I1, rx, a, dx, fs, ex, ea, l, q⟩ => ?_) ht
  subst ex
  obtain rfl : u = Value.ref a := rx
  refine getmeth_ok I1 ea cl M l ?_
  refine PySem.W.callWith_KW0 (first := [.ref a]) (h₀ := X.base) I1.ok.mod.kin M.kp hall (thn (hw.run pos pins s1 σ H1 _ I1 q) fun ws s3 ⟨zs, H3, I3, rz, l1, l2, q2⟩ => ⟨I3.kIn, ?_⟩) hpl
  rw [hks]
  exact run_fnK (us := [.ref a]) (vs := [.ref a]) F (hr.mono hk) b (hx σ) I3 (.cons rfl .nil) rz rfl l2 q2
theorem passE0 : ∀ σ : L2.St, PassesAt CX0 X σ E0 := fun _ _ _ _ _ _ _ h => h.elim
theorem passEN : ∀ σ : L2.St, PassesAt (L2N.CX X.prog X.w) X σ E0 := fun _ _ _ _ _ _ _ ⟨_, _, _, _, _, _, _, _, _, _, _, _, z⟩ => z.elim
end
/-- a list compared with the empty one -/
def rEqNil (K : PySem.W.Frag) : R2 := fun x y H Q => ∃ a b xs, x = .ref a ∧ y = .ref b ∧ SqL K H a xs ∧ SqL K H b [] ∧ Q (.bl xs.isEmpty) H
theorem op_eqNil {X : Cx} {k : Nat} (hr : Room k X.A) : OpR X (compareOp .Eq) (rEqNil X.K) := by
  intro pins s σ H x y v u Q I rx ry h
  obtain ⟨a, b, xs, rfl, rfl, ha, hb, q⟩ := h
  cases (show v = Value.ref a from rx)
  cases (show u = Value.ref b from ry)
  obtain ⟨us, r1, p1, _⟩ := I.list ha
  obtain ⟨ws, r2, p2, _⟩ := I.list hb
  have hu := hr.un
  cases r2
  cases r1 with
  | nil =>
    refine SeqAt.eq_listAt (e := fun _ => true) p1.isList p2.isList rfl (by omega) (fun j h1 h2 => absurd h1 (Nat.not_lt_zero j)) ?_
    exact ⟨.bl true, H, I, rfl, q⟩
  | cons _ _ =>
    refine SeqAt.eq_list_lengthsAt p1.isList p2.isList (by simp) (by omega) ?_
    exact ⟨.bl false, H, I, rfl, q⟩
-- part common

abbrev s_common : Stmt := top 3
theorem sc_common : FnScope ["a", "b"] ["a", "b"] (defScope s_common) := ⟨rfl, rfl, rfl, by decide +kernel, rfl, by decide +kernel, by decide +kernel⟩
def spCommon : Sp := fun vs H Q _ => ∃ (a b : Int), vs = [.int a, .int b] ∧ Q (.int ((a.gcd b : Nat) : Int)) H
theorem ok_common {f : Addr} {fd : FuncData} (hg : mg "gcd" = some (.builtin "math.gcd")) (F : Fun K "common" "common" s_common f fd) : FnOk P w K mg base CX0 1 f fd ["a", "b"] spCommon := by
  refine F.ok sc_common (fun vs H Q E h => ?_) (fun cdv A outer s H vs Q E hr h => ?_)
  · obtain ⟨a, b, rfl, _⟩ := h
    rfl
  · obtain ⟨a, b, rfl, q⟩ := h
    exact ⟨_, (pss_one (ps_ret (pe_callBfun cr_gcd (by rfl) hg (pa_cons (pv 0) (pa_cons (pv 1) pa_nil))))), _, rfl, _, rfl, _, _, rfl, q⟩
-- part mnval
/-! names and values of Manys -/
section
variable {J : It} {n : Nat} {Gd : Hp → Prop} {Y : Nat → Hp → V → Hp → Prop}
/-- the outer clause over a walk -/
theorem sc2_it {P : Program} {w' : World} (wk : Walk J n Gd Y) {g : TG} {tt : TT} {wi1 : TI} {g1 : TG} {tt1 : TT} {te : TE} {own own1 : List Nat} {σ : L2.St} {H1 : Hp} {D : Addr} {Qd : Hp → Prop} (Pv : Nat → Hp → Prop) (h0 : Pv 0 (upd H1 D (SetXO P w' D (fun _ => false) 0))) (hG : ∀ i H, i ≤ n → Pv i H → Gd H)
    (hs : ∀ i x H H', i < n → Pv i H → Y i H x H' → g x (wipe σ own) H' fun τ G2 => wipe τ own = wipe σ own ∧ tt τ G2 fun b G3 =>
      if b = true then wi1 τ G3 fun J1 G4 => ∃ V1 : Nat → Nat → Hp → Prop, (∃ m, V1 0 m G4) ∧ ∀ j k G, V1 j k G →
        (J1.stop j G ∧ Pv (i + 1) G) ∨ (J1.go j G ∧ ∃ N1 : Hp → Prop, (∀ G', N1 G' → ∃ k', k' < k ∧ V1 (j + 1) k' G') ∧ ∀ x G', J1.yld j G x G' → g1 x (wipe τ own1) G' fun υ G5 => wipe υ own1 = wipe τ own1 ∧ tt1 υ G5 fun b G6 =>
          if b = true then te υ G6 fun y G7 => ∃ (c : Str) (S : Str → Bool) (n : Nat), y = .str c ∧ G7 D = some (SetXO P w' D S n) ∧ n + 1 < scanBound ∧ N1 (upd G7 D (SetXO P w' D (fun j => S j || decide (j = c)) (if S c = true then n else n + 1))) else N1 G6)
      else Pv (i + 1) G3) (hd : ∀ H, Pv n H → Qd H) :
    ∃ W : Nat → Nat → Hp → Prop, (∃ m, W 0 m (upd H1 D (SetXO P w' D (fun _ => false) 0))) ∧ ∀ i m G, W i m G →
      (J.stop i G ∧ Qd G) ∨ (J.go i G ∧ ∃ N : Hp → Prop, (∀ G', N G' → ∃ m', m' < m ∧ W (i + 1) m' G') ∧ ∀ x G', J.yld i G x G' → g x (wipe σ own) G' fun τ G2 => wipe τ own = wipe σ own ∧ tt τ G2 fun b G3 =>
        if b = true then wi1 τ G3 fun J1 G4 => ∃ V1 : Nat → Nat → Hp → Prop, (∃ m, V1 0 m G4) ∧ ∀ j k G, V1 j k G →
          (J1.stop j G ∧ N G) ∨ (J1.go j G ∧ ∃ N1 : Hp → Prop, (∀ G', N1 G' → ∃ k', k' < k ∧ V1 (j + 1) k' G') ∧ ∀ x G', J1.yld j G x G' → g1 x (wipe τ own1) G' fun υ G5 => wipe υ own1 = wipe τ own1 ∧ tt1 υ G5 fun b G6 =>
            if b = true then te υ G6 fun y G7 => ∃ (c : Str) (S : Str → Bool) (n : Nat), y = .str c ∧ G7 D = some (SetXO P w' D S n) ∧ n + 1 < scanBound ∧ N1 (upd G7 D (SetXO P w' D (fun j => S j || decide (j = c)) (if S c = true then n else n + 1))) else N1 G6)
        else N G3) := by
  refine ⟨fun i m G => m = n - i ∧ i ≤ n ∧ Pv i G, ⟨n, by simp, Nat.zero_le _, h0⟩, ?_⟩
  rintro i m G ⟨rfl, hi, p⟩
  have z := hG i G hi p
  by_cases lt : i < n
  · exact .inr ⟨wk.goes i G lt z, Pv (i + 1), fun G' p' => ⟨n - (i + 1), by omega, rfl, lt, p'⟩, fun x G' y => hs i x G G' lt p (wk.yields i G x G' lt z y)⟩
  · have e : i = n := by omega
    subst e
    exact .inl ⟨wk.stops G z, hd G p⟩
/-- the inner clause over a walk -/
theorem sc2_in {P : Program} {w' : World} (wk : Walk J n Gd Y) {g1 : TG} {tt1 : TT} {te : TE} {own1 : List Nat} {τ : L2.St} {G4 : Hp} {D : Addr} {N : Hp → Prop} (Pv : Nat → Hp → Prop) (h0 : Pv 0 G4) (hG : ∀ i H, i ≤ n → Pv i H → Gd H)
    (hs : ∀ j x H H', j < n → Pv j H → Y j H x H' → g1 x (wipe τ own1) H' fun υ G5 => wipe υ own1 = wipe τ own1 ∧ tt1 υ G5 fun b G6 =>
      if b = true then te υ G6 fun y G7 => ∃ (c : Str) (S : Str → Bool) (n : Nat), y = .str c ∧ G7 D = some (SetXO P w' D S n) ∧ n + 1 < scanBound ∧ Pv (j + 1) (upd G7 D (SetXO P w' D (fun j => S j || decide (j = c)) (if S c = true then n else n + 1))) else Pv (j + 1) G6) (hd : ∀ H, Pv n H → N H) :
    ∃ V1 : Nat → Nat → Hp → Prop, (∃ m, V1 0 m G4) ∧ ∀ j k G, V1 j k G →
      (J.stop j G ∧ N G) ∨ (J.go j G ∧ ∃ N1 : Hp → Prop, (∀ G', N1 G' → ∃ k', k' < k ∧ V1 (j + 1) k' G') ∧ ∀ x G', J.yld j G x G' → g1 x (wipe τ own1) G' fun υ G5 => wipe υ own1 = wipe τ own1 ∧ tt1 υ G5 fun b G6 =>
        if b = true then te υ G6 fun y G7 => ∃ (c : Str) (S : Str → Bool) (n : Nat), y = .str c ∧ G7 D = some (SetXO P w' D S n) ∧ n + 1 < scanBound ∧ N1 (upd G7 D (SetXO P w' D (fun j => S j || decide (j = c)) (if S c = true then n else n + 1))) else N1 G6) := by
  refine ⟨fun i m G => m = n - i ∧ i ≤ n ∧ Pv i G, ⟨n, by simp, Nat.zero_le _, h0⟩, ?_⟩
  rintro i m G ⟨rfl, hi, p⟩
  have z := hG i G hi p
  by_cases lt : i < n
  · exact .inr ⟨wk.goes i G lt z, Pv (i + 1), fun G' p' => ⟨n - (i + 1), by omega, rfl, lt, p'⟩, fun x G' y => hs i x G G' lt p (wk.yields i G x G' lt z y)⟩
  · have e : i = n := by omega
    subst e
    exact .inl ⟨wk.stops G z, hd G p⟩
end
/-- the members of a set are those of a row without repetition -/
def Mem (S : Str → Bool) (n : Nat) (l : List Str) : Prop := ∃ ns : List Str, ns.Nodup ∧ ns.length = n ∧ (∀ k, k ∈ ns ↔ S k = true) ∧ ∀ k, S k = true ↔ k ∈ l
theorem Mem.nil : Mem (fun _ => false) 0 [] := ⟨[], .nil, rfl, fun k => by simp, fun k => by simp⟩
theorem Mem.add {S : Str → Bool} {n : Nat} {l : List Str} (m : Mem S n l) (c : Str) : Mem (fun j => S j || decide (j = c)) (if S c = true then n else n + 1) (l ++ [c]) := by
  obtain ⟨ns, nd, hn, h1, h2⟩ := m
  have last : ∀ k, (S k || decide (k = c)) = true ↔ k ∈ l ++ [c] := fun k => by
    rw [Bool.or_eq_true, decide_eq_true_eq, h2 k, List.mem_append, List.mem_singleton]
  by_cases s : S c = true
  · rw [if_pos s]
    refine ⟨ns, nd, hn, fun k => ?_, last⟩
    rw [h1 k, Bool.or_eq_true, decide_eq_true_eq]
    exact ⟨.inl, fun h => h.elim id fun e => by rw [e]; exact s⟩
  · rw [if_neg s]
    refine ⟨c :: ns, List.nodup_cons.mpr ⟨fun h => s ((h1 c).mp h), nd⟩, by rw [List.length_cons, hn], fun k => ?_, last⟩
    rw [List.mem_cons, h1 k, Bool.or_eq_true, decide_eq_true_eq]
    exact Or.comm
theorem sub_len : ∀ {L M : List Str}, L.Nodup → (∀ e ∈ L, e ∈ M) → L.length ≤ M.length
  | [], M, _, _ => Nat.zero_le _
  | e :: L, M, nd, h => by
    obtain ⟨n1, n2⟩ := List.nodup_cons.mp nd
    have pe := List.perm_cons_erase (h e List.mem_cons_self)
    have := sub_len (M := M.erase e) n2 fun f hf => (List.mem_erase_of_ne (fun z => n1 (by rw [← z]; exact hf))).mpr (h f (List.mem_cons_of_mem _ hf))
    rw [pe.length_eq, List.length_cons, List.length_cons]
    omega
theorem Mem.few {S : Str → Bool} {n : Nat} {l U : List Str} (m : Mem S n l) (h : ∀ k ∈ l, k ∈ U) : n ≤ U.length := by
  obtain ⟨ns, nd, hn, h1, h2⟩ := m
  rw [← hn]
  exact sub_len nd fun k hk => h k ((h2 k).mp ((h1 k).mp hk))
def namesN (L : FS) : List Str := L.flatMap (·.1)
theorem namesN_take {L : FS} {i : Nat} {e : List Str × Int} (h : L[i]? = some e) : namesN (L.take (i + 1)) = namesN (L.take i) ++ e.1 := by
  rw [take_snoc h]
  unfold namesN
  rw [List.flatMap_append]
  simp
theorem namesN_sub {L : FS} {i : Nat} {k : Str} (h : k ∈ namesN (L.take i)) : k ∈ namesN L := by
  unfold namesN at h ⊢
  obtain ⟨e, he, hk⟩ := List.mem_flatMap.mp h
  exact List.mem_flatMap.mpr ⟨e, List.mem_of_mem_take he, hk⟩
abbrev s_mnnames : Stmt := inClass (top 10) 9
theorem sc_mnnames : FnScope ["self", "names", "name"] ["self"] (defScope s_mnnames) := ⟨rfl, rfl, rfl, by decide +kernel, rfl, by decide +kernel, by decide +kernel⟩
def spMnNames (C : Addr) : Sp := fun vs H Q _ => ∃ (a : Addr) (L : FS) (U : List Str), vs = [.ref a] ∧ ManyAt C H a L ∧ L.length < 1000000 ∧ (∀ k ∈ namesN L, k ∈ U) ∧ U.length < 64 ∧
  ∀ (r : Addr) (ys : List Str) (H' : Hp), H r = none → H' r = some (.lst (ys.map V.str)) → ys.Pairwise leN → ys.Nodup → (∀ k, k ∈ ys ↔ k ∈ namesN L) → Same H H' → Q (.ref r) H'
theorem ok_mnnames {f C : Addr} {fd : FuncData} (TT : Txt mg) (T : ManyT K mg C) (F : Fun K "names" "Many.names" s_mnnames f fd) : FnOk P w K mg base CX0 1 f fd ["self"] (spMnNames C) := by
  refine F.ok sc_mnnames (fun vs H Q E h => ?_) (fun cdv A outer s H vs Q E hr h => ?_)
  · obtain ⟨_, _, _, rfl, _⟩ := h
    rfl
  · obtain ⟨a, L, U, rfl, ma, few, hU, hu, q⟩ := h
    obtain ⟨dx, da, h1, h2⟩ := ma.ob
    refine ⟨_, (pss_one (ps_ret (pe_callB (call_sortedX rfl) (by rfl) TT.sorted boot_sorted (pa_cons (pe_lock (pe_sc2 (own := [("names", 1), ("name", 2)]) (own1 := [2]) (g := gName 1) (tt := tYes) (g1 := gName 2) (tt1 := tYes) rfl sc_mnnames.nd (pi_keys (pe_fld (pv 0) rfl)) (blkOk_by (N := ["self", "names", "name"]) (sc := defScope s_mnnames) (by decide +kernel)) (by decide) (fun _ _ _ _ _ => pg_name (i := 1) sc_mnnames.nd rfl (Or.inl rfl)) (fun _ _ _ _ _ => pts_nil) (fun _ _ _ _ _ => pi_tupK (K := K) rfl (pv 1)) (fun _ _ _ _ _ => pg_name (i := 2) sc_mnnames.nd rfl (Or.inl rfl)) (fun _ _ _ _ _ => pts_nil) (fun _ _ _ _ _ => pv 2))) pa_nil)))), ?_⟩
    refine ⟨da, _, h2, trivial, fun od => ?_⟩
    have h1' : upd H da (.frz od (.dT (tmV L))) a = some (.ins C dx (mnF da)) := by
      rw [upd_ne (fun c => by rw [c, h2] at h1; cases h1)]
      exact h1
    have fewN : ∀ {S : Str → Bool} {n : Nat} {i j : Nat} {e : List Str × Int}, L[i]? = some e → Mem S n (namesN (L.take i) ++ e.1.take j) → n + 1 < scanBound := fun {S n i j e} he m => by
      have h := m.few (U := U) fun k hk => by
        rcases List.mem_append.mp hk with hk | hk
        · exact hU k (namesN_sub hk)
        · exact hU k (List.mem_flatMap.mpr ⟨e, List.mem_of_getElem? he, List.mem_of_mem_take hk⟩)
      have z : (65 : Nat) < scanBound := by decide
      omega
    refine ⟨_, rfl, a, C, dx, _, _, rfl, h1', T.cl, T.nT, mn_t _, da, od, rfl, .inr ⟨_, upd_same, fun D nD => sc2_it walk_keysT (fun i G => Same (upd H da (.frz od (.dT (tmV L)))) G ∧ ∃ S n, G D = some (SetXO P w D S n) ∧ Mem S n (namesN (L.take i))) ⟨same_upd nD, _, _, upd_same, Mem.nil⟩ (fun i G _ p => p.1 _ _ upd_same) ?_ ?_⟩⟩
    · rintro i y _ G hi ⟨s1, S, n, hD, mem⟩ ⟨rfl, k, v, q1, hk, rfl, hq1⟩
      obtain ⟨e, he, rfl, rfl⟩ := tm_get hk
      refine ⟨rfl, _, rfl, q1, rfl, ⟨_, SqT.of hq1⟩, sc2_in walk_tup (fun j G' => Same (upd H da (.frz od (.dT (tmV L)))) G' ∧ G' q1 = some (.tup ((kT e.1).map kV)) ∧ ∃ S n, G' D = some (SetXO P w D S n) ∧ Mem S n (namesN (L.take i) ++ e.1.take j))
        ⟨s1, hq1, S, n, hD, by rw [List.take_zero, List.append_nil]; exact mem⟩ (fun j G' _ p => SqT.of p.2.1) ?_ ?_⟩
      · rintro j x _ G' hj ⟨s2, hq, S, n, hD, mem⟩ ⟨rfl, hx⟩
        rw [kT_V, List.getElem?_map] at hx
        obtain ⟨c, hc, rfl⟩ := Option.map_eq_some_iff.mp hx
        refine ⟨rfl, _, rfl, c, S, n, rfl, hD, fewN he mem, fun b o eb => ?_, ?_, _, _, upd_same, ?_⟩
        · rw [upd_ne (ne_of_none eb nD)]
          exact s2 b o eb
        · rw [upd_ne (fun z => by rw [z, hD] at hq; cases hq)]
          exact hq
        · rw [take_snoc hc, ← List.append_assoc]
          exact mem.add c
      · rintro G' ⟨s2, hq, S, n, hD, mem⟩
        rw [kT_V, List.length_map, List.take_length, ← namesN_take he] at mem
        exact ⟨s2, S, n, hD, mem⟩
    · rintro G ⟨s1, S, n, hD, mem⟩
      rw [tmV_len, List.take_length] at mem
      have hD2 : upd G da (.dT (tmV L)) D = some (SetXO P w D S n) := by
        rw [upd_ne (fun c => by rw [c, s1 _ _ upd_same] at hD; cases hD)]
        exact hD
      have few2 := mem.few hU
      obtain ⟨ns, nd, hn, m1, m2⟩ := mem
      have s2 := lock_same h2 s1
      refine ⟨s1 _ _ upd_same, D, S, n, rfl, hD2, by omega, fun ys p srd ndy hys _ np => ?_⟩
      have nH : H p = none := by
        cases h : H p with
        | none => rfl
        | some o => rw [s2 _ _ h] at np; cases np
      exact q p ys _ nH upd_same (sortedS_leN srd) ndy (fun k => (hys k).trans (m2 k)) (s2.trans (same_upd np))
-- part mncont
/-! contents of Manys -/
def gcds (l : List Int) : Nat := l.foldl (fun (g : Nat) (z : Int) => Int.gcd (g : Int) z) 0
theorem gcds_take {l : List Int} {i : Nat} {z : Int} (h : l[i]? = some z) : gcds (l.take (i + 1)) = Int.gcd ((gcds (l.take i) : Nat) : Int) z := by
  unfold gcds
  rw [List.take_add_one, h, List.foldl_append]
  rfl
/-- a Many that is a number -/
theorem num_terms {L : FS} {n : Int} (t : Terms L) (h : pol L = Pol.num n) : L = if n = 0 then [] else [([], n)] := by
  have h := pol_eq.mp h
  have key : ∀ e ∈ L, e.1 = [] ∧ e.2 = n := fun e he => by
    have h1 := h e.1
    rw [cf_good t.gd, lkS_mem t.gd.nd he] at h1
    have h1 : e.2 = (if srt [] = e.1 then n else 0) + 0 := h1
    rw [srt_nil, Int.add_zero] at h1
    by_cases c : [] = e.1
    · rw [if_pos c] at h1
      exact ⟨c.symm, h1⟩
    · rw [if_neg c] at h1
      exact absurd h1 (t.nz e he)
  match L, key, t, h with
  | [], _, _, h =>
    have h1 := h []
    have h1 : (0 : Int) = (if srt [] = [] then n else 0) + 0 := h1
    rw [srt_nil, if_pos rfl, Int.add_zero] at h1
    rw [if_pos h1.symm]
  | [e], key, t, _ =>
    obtain ⟨k1, k2⟩ := key e List.mem_cons_self
    have nz := t.nz e List.mem_cons_self
    rw [k2] at nz
    rw [if_neg nz]
    obtain ⟨e1, e2⟩ := e
    have k1 : e1 = [] := k1
    have k2 : e2 = n := k2
    rw [k1, k2]
  | e :: f :: L, key, t, _ =>
    have nd := t.gd.nd
    rw [List.map_cons, List.nodup_cons] at nd
    have k1 := (key e List.mem_cons_self).1
    have k2 := (key f (List.mem_cons_of_mem _ List.mem_cons_self)).1
    exact absurd (by rw [k1, ← k2]; exact List.mem_map.mpr ⟨f, List.mem_cons_self, rfl⟩) nd.1
theorem gcds_num {L : FS} {n : Int} (t : Terms L) (h : pol L = Pol.num n) : gcds (L.map (·.2)) = n.natAbs := by
  rw [num_terms t h]
  by_cases c : n = 0
  · rw [if_pos c, c]
    rfl
  · rw [if_neg c]
    show Int.gcd ((0 : Nat) : Int) n = _
    exact Int.zero_gcd
abbrev s_comofl : Stmt := top 4
theorem sc_comofl : FnScope ["numbers", "found", "n"] ["numbers"] (defScope s_comofl) := ⟨rfl, rfl, rfl, by decide +kernel, rfl, by decide +kernel, by decide +kernel⟩
def spComofL (K : PySem.W.Frag) : Sp := fun vs H Q _ => ∃ (a : Addr) (l : List Int), vs = [.ref a] ∧ SqL K H a (l.map V.int) ∧ Q (.int ((gcds l : Nat) : Int)) H
theorem ok_comofl {f : Addr} {fd : FuncData} (F : Fun K "common_of" "common_of" s_comofl f fd) (c_common : Cl P w K mg base CX0 1 "common" spCommon) : FnOk P w K mg base CX0 2 f fd ["numbers"] (spComofL K) := by
  refine F.ok sc_comofl (fun vs H Q E h => ?_) (fun cdv A outer s H vs Q E hr h => ?_)
  · obtain ⟨a, l, rfl, _⟩ := h
    rfl
  · obtain ⟨a, l, rfl, hS, q⟩ := h
    refine ⟨_, (pss_cons (ps_set (i := 1) sc_comofl.nd rfl (Or.inl rfl) pe_int)
 (pss_cons (ps_for PassesOwn.never rfl (pi_list (pv 0)) (pg_name (i := 2) sc_comofl.nd rfl (Or.inl rfl)) (pss_one (ps_set (i := 1) sc_comofl.nd rfl (Or.inl rfl) (pe_cl c_common hr (pa_cons (pv 1) (pa_cons (pv 2) pa_nil))))))
 (pss_one (ps_ret (pv 1))))), ?_⟩
    refine ⟨_, rfl, a, rfl, ⟨_, hS⟩, for_list (K := K) (a := a) (xs := l.map V.int) (fun i σ H' => H = H' ∧ ∃ x2, σ = [some (.ref a), some (.int ((gcds (l.take i) : Nat) : Int)), x2]) ⟨rfl, none, rfl⟩ (fun i σ H' _ h => by rw [← h.1]; exact hS) ?_ ?_⟩
    · rintro i y σ _ hi ⟨rfl, x2, rfl⟩
      obtain ⟨z, rfl, hz⟩ := item_int hi
      refine ⟨_, rfl, _, rfl, _, _, rfl, ?_⟩
      rw [← gcds_take hz]
      exact ⟨rfl, _, rfl⟩
    · rintro σ _ ⟨rfl, x2, rfl⟩
      rw [List.length_map, List.take_length]
      exact ⟨_, rfl, q⟩
abbrev s_mncont : Stmt := inClass (top 10) 11
theorem sc_mncont : FnScope ["self"] ["self"] (defScope s_mncont) := ⟨rfl, rfl, rfl, by decide +kernel, rfl, by decide +kernel, by decide +kernel⟩
def spMnCont (C : Addr) : Sp := fun vs H Q _ => ∃ (a : Addr) (L : FS), vs = [.ref a] ∧ ManyAt C H a L ∧ ∀ H', Same H H' → Q (.int ((gcds (L.map (·.2)) : Nat) : Int)) H'
theorem ok_mncont {f C : Addr} {fd : FuncData} (TT : Txt mg) (T : ManyT K mg C) (F : Fun K "content" "Many.content" s_mncont f fd) (c_comof : Cl P w K mg base CX0 2 "common_of" (spComofL K)) : FnOk P w K mg base CX0 3 f fd ["self"] (spMnCont C) := by
  refine F.ok sc_mncont (fun vs H Q E h => ?_) (fun cdv A outer s H vs Q E hr h => ?_)
  · obtain ⟨a, L, rfl, _⟩ := h
    rfl
  · obtain ⟨a, L, rfl, ma, q⟩ := h
    obtain ⟨dx, d, h1, h2⟩ := ma.ob
    refine ⟨_, (pss_one (ps_ret (pe_cl c_comof hr (pa_cons (pe_callTy (call_listVals rfl) (by rfl) TT.list boot_list (pa_cons (pe_bm0 PySem.F.plainAttrs_dict PySem.F.slot_dict_values PySem.F.type_dict_values mt_valsT (pe_fld (pv 0) rfl)) pa_nil)) pa_nil)))), ?_⟩
    refine ⟨_, rfl, a, C, dx, _, _, rfl, h1, T.cl, T.nT, mn_t _, .inr (.inr (.inl ⟨rfl, .inr ⟨_, h2⟩⟩)), d, _, rfl, rfl, h2, fun p np => ?_⟩
    have k1 := same_upd (o := valsO p d) np
    refine ⟨p, d, _, rfl, upd_same, k1 _ _ h2, fun l nl => ?_⟩
    have k2 := same_upd (o := .lst ((tmV L).map (·.2))) nl
    refine ⟨l, L.map (·.2), rfl, SqL.of ?_, q _ (k1.trans k2)⟩
    rw [upd_same]
    unfold tmV
    rw [List.map_map, List.map_map]
    rfl
-- part sortd
/-! sorted(xs) of nested rows, sorted(d) of a dict with tuple keys -/
section
open PySem.W PySem.SeqAt
variable {prog : Program} {w' : World} {A : Around} {s : Shared}
theorem oneLt_tups {E : Value → Shared → Prop} {k : Bool} {ps qs : List PyData} {u v : Value} {as bs : List Addr} {Q : Bool → Shared → Prop} (ru : Reads s.heap u (.tuple ps) as) (rv : Reads s.heap v (.tuple qs) bs) (al : PySem.W.alike (.tuple ps) (.tuple qs) = true)
    (room : A.units + min (PyData.tuple ps).depth (PyData.tuple qs).depth < cLine) (q : Q (dataLt (.tuple ps) (.tuple qs)) s) : wpAny (model prog w') A (oneLt' k u v) Q E s := by
  cases k with
  | false => exact oneLt_alike (fun h => by cases h) ru rv al (fun h => by cases h) room q
  | true =>
    have al2 : alikeAll ps qs = true := by
      have h := al
      simp only [PySem.W.alike] at h
      exact h
    cases ru with
    | @tuple l o us n _ as1 p1 p2 p3 p4 =>
      cases rv with
      | @tuple l' o' us' n' _ bs1 q1 q2 q3 q4 =>
        have sz1 : us.size = ps.length := by
          have z := SeqAt.ReadsAll.length _ _ _ p4
          rw [Array.length_toList] at z
          exact z
        have sz2 : us'.size = qs.length := by
          have z := SeqAt.ReadsAll.length _ _ _ q4
          rw [Array.length_toList] at z
          exact z
        have e : dataLt (.tuple ps) (.tuple qs) = firstLt (pairEq ps qs) (fun j => dataLt (ps.getD j .none) (qs.getD j .none)) (decide (us.size < us'.size)) (List.range (min us.size us'.size)) := by
          rw [sz1, sz2, firstLt_toks ps qs al2]
          exact dataLt_tuple ps qs
        rw [e] at q
        rw [oneLt'_eq, if_pos rfl]
        refine wpAny_bind (wpAny_cRoomFor (room_here room) ?_)
        refine wpAny_bind (wpAny_callSpecialIfBound?_slot (T := "tuple") ⟨_, p1, p2⟩ F.slot_tuple_lt ?_)
        obtain ⟨cls, dd, data, sl⟩ := o
        obtain ⟨cls2, dd2, data2, sl2⟩ := o'
        simp only at p2 p3 q2 q3
        subst p2 p3 q2 q3
        refine call_meets F.slot_tuple_lt ⟨_, p1, rfl⟩ F.entry_tuple_lt (F.args_tuple_lt_2 _ _) (tuple_ltAt l l' us us' n n' dd dd2 sl sl2 (pairEq ps qs) (fun j => dataLt (ps.getD j .none) (qs.getD j .none))) ⟨p1, q1, fun j j1 j2 => ?_, fun j j1 j2 hj => ?_, wpAny_truthy_bool q⟩
        · have z := eqAt_alikeAll ps qs A.in1 s us.toList us'.toList _ _ p4 q4 al2 (room_in room) j (by rw [Array.length_toList]; exact j1) (by rw [Array.length_toList]; exact j2)
          simpa using z
        · have z := rcLt_alikeAll ps qs A.in1 s us.toList us'.toList _ _ p4 q4 al2 (room_in room) j (by rw [Array.length_toList]; exact j1) (by rw [Array.length_toList]; exact j2) hj
          simpa using z
/-- what a sort's look at the firsts of tuples gives -/
theorem firsts_any {M : Model} {E : Value → Shared → Prop} : ∀ {vs : List Value} {ds : List PyData}, EachIs (fun v d => ∃ as, Reads s.heap v d as) vs ds → (∀ d ∈ ds, ∃ xs, d = .tuple xs) →
    ∃ fs : List (Option Value), (∀ {Q : List (Option Value) → Shared → Prop}, Q fs s → wpAny M A (vs.mapM firstOfTuple') Q E s) ∧ fs.length = ds.length ∧ ∀ (i : Nat) (d : PyData), ds[i]? = some d → ∃ f, fs[i]? = some f ∧ (f = none ↔ d = .tuple [])
  | _, _, .nil, _ => ⟨[], fun {Q} q => by rw [List.mapM_nil]; exact wpAny_pure q, rfl, fun i d h => by cases h⟩
  | _, _, .cons (a := v) (b := d) (as := vs) (bs := ds) ⟨as, r⟩ t, ht => by
    obtain ⟨fs, g1, g2, g3⟩ := firsts_any (M := M) (E := E) t fun d' hd' => ht d' (List.mem_cons_of_mem _ hd')
    obtain ⟨xs, rfl⟩ := ht d List.mem_cons_self
    cases r with
    | @tuple a o us n _ as1 p1 p2 p3 p4 =>
      refine ⟨us[0]? :: fs, fun {Q} q => ?_, by rw [List.length_cons, List.length_cons, g2], fun i d' hd' => ?_⟩
      · rw [List.mapM_cons]
        refine wpAny_bind ?_
        rw [kas_first_eq]
        refine wpAny_bind (Looks.here (show Looks M s.heap (typeOf (.ref a)) o.cls from (Looks.ld p1).andThen .now) ?_)
        rw [p2, if_neg (by decide)]
        refine wpAny_bind (listItems_at p1 p3 (wpAny_pure ?_))
        exact wpAny_bind (g1 (Q := fun bs s' => wpAny M A (pure (us[0]? :: bs)) Q E s') (wpAny_pure q))
      · match i, hd' with
        | 0, hd' =>
          cases hd'
          refine ⟨us[0]?, rfl, ?_⟩
          have z := SeqAt.ReadsAll.length _ _ _ p4
          rw [Array.length_toList] at z
          constructor
          · intro h
            have h0 := Array.getElem?_eq_none_iff.mp h
            rw [List.length_eq_zero_iff.mp (show xs.length = 0 by omega)]
          · intro h
            cases h
            exact Array.getElem?_eq_none_iff.mpr (by rw [z]; exact Nat.zero_le _)
        | i + 1, hd' => exact g3 i d' hd'
/-- tuples that may be empty can be sorted -/
theorem sortsAt_tups {vs : List Value} {ds : List PyData} (e : EachIs (fun v d => ∃ as, Reads s.heap v d as) vs ds) (hal : AllAlike ds) (ht : ∀ d ∈ ds, ∃ xs, d = .tuple xs) (hu : ∀ d, d ∈ ds → A.units + d.depth < cLine) : SortsAt prog w' A s (dataKind s.heap ds) vs := by
  by_cases full : ∀ d ∈ ds, d ≠ .tuple []
  · refine SortsAt.data e hal (.inl fun d hd => ?_) hu
    obtain ⟨xs, rfl⟩ := ht d hd
    cases xs with
    | nil => exact absurd rfl (full _ hd)
    | cons x r => exact ⟨x, r, rfl⟩
  · have ex : ∃ d ∈ ds, d = .tuple [] := Classical.byContradiction fun h => full fun d hd e => h ⟨d, hd, e⟩
    obtain ⟨d0, hd0, ed0⟩ := ex
    refine ⟨fun v hv => ?_, ?_⟩
    · obtain ⟨d, hd, as, r⟩ := e.left v hv
      exact ⟨_, dataKind_some hal hd r⟩
    have lt : ∀ k : Bool, H.LtAt prog w' A s (dataKind s.heap ds) (if k = true then oneType' else general') := fun k => by
      intro E x y a b Q ha hb hq
      obtain ⟨d, as, hd, ra, rfl⟩ := dataKind_inv ha
      obtain ⟨d', as', hd', rb, rfl⟩ := dataKind_inv hb
      obtain ⟨xs, rfl⟩ := ht d hd
      obtain ⟨ys, rfl⟩ := ht d' hd'
      have rm : A.units + min (PyData.tuple xs).depth (PyData.tuple ys).depth < cLine := Nat.lt_of_le_of_lt (Nat.add_le_add_left (Nat.min_le_left _ _) _) (hu _ hd)
      cases k with
      | true => exact oneLt_tups (k := true) ra rb (hal _ hd _ hd') rm hq
      | false => exact oneLt_tups (k := false) ra rb (hal _ hd _ hd') rm hq
    have kinds : ∃ k : Bool, 2 ≤ vs.length → ∀ (E : Value → Shared → Prop) {Q : SortKind → Shared → Prop}, Q (if k = true then oneType' else general') s → wpAny (model prog w') A (keyKind' vs.toArray) Q E s := by
      by_cases hd : ds[0]? = some (.tuple [])
      · refine ⟨true, fun h2 E Q q => ?_⟩
        obtain ⟨fs, g1, g2, g3⟩ := firsts_any (M := model prog w') (A := A) (E := E) e ht
        rw [keyKind'_eq, List.mapM_toArray, map_eq_pure_bind]
        refine wpAny_bind (wpAny_bind (g1 (wpAny_pure ?_)))
        obtain ⟨f0, f1, f2⟩ := g3 0 _ hd
        have fn : f0 = none := f2.mpr rfl
        have na : ¬ (fs.toArray.all fun x => x.isSome) = true := by
          rw [List.all_toArray, List.all_eq_true]
          intro h
          have := h f0 (List.mem_of_getElem? f1)
          rw [fn] at this
          cases this
        rw [if_neg na, if_neg (by rw [List.getElem?_toArray, f1, fn]; decide)]
        rw [oneTypeOnly'_eq, List.mapM_toArray, map_eq_pure_bind]
        refine wpAny_bind (wpAny_bind (wpAny_bind (kas_mapM (r := Value.type "tuple") _ (fun v hv Q' hq => ?_) (wpAny_pure ?_))))
        · obtain ⟨d, hd', as, r⟩ := e.left v hv
          obtain ⟨xs, rfl⟩ := ht d hd'
          exact (looks_reads r).here hq
        · have h0 : ((vs.map fun _ => Value.type "tuple").toArray)[0]? = some (Value.type "tuple") := by
            cases vs with
            | nil => exact absurd h2 (by decide)
            | cons _ _ => rfl
          have al : ((vs.map fun _ => Value.type "tuple").toArray.all fun x => x == Value.type "tuple") = true := by
            rw [List.all_toArray, List.all_map, List.all_eq_true]
            exact fun _ _ => rfl
          rw [h0]
          simp only [al, if_true]
          exact wpAny_pure (wpAny_pure q)
      · refine ⟨false, fun h2 E Q q => ?_⟩
        obtain ⟨fs, g1, g2, g3⟩ := firsts_any (M := model prog w') (A := A) (E := E) e ht
        rw [keyKind'_eq, List.mapM_toArray, map_eq_pure_bind]
        refine wpAny_bind (wpAny_bind (g1 (wpAny_pure ?_)))
        obtain ⟨j, hj⟩ := List.mem_iff_getElem?.mp hd0
        obtain ⟨f0, f1, f2⟩ := g3 j _ hj
        have fn : f0 = none := f2.mpr ed0
        have na : ¬ (fs.toArray.all fun x => x.isSome) = true := by
          rw [List.all_toArray, List.all_eq_true]
          intro h
          have := h f0 (List.mem_of_getElem? f1)
          rw [fn] at this
          cases this
        have l0 : 0 < ds.length := by
          rw [← e.length]
          omega
        obtain ⟨k0, k1, k2⟩ := g3 0 _ (List.getElem?_eq_getElem l0)
        rw [if_neg na, if_pos (by
          rw [List.getElem?_toArray, k1]
          cases k0 with
          | none => exact absurd (by rw [List.getElem?_eq_getElem l0, k2.mp rfl]) hd
          | some _ => rfl)]
        exact wpAny_pure q
    obtain ⟨k, hk⟩ := kinds
    exact ⟨_, lt k, hk⟩
end
section
open PySem.W PySem.SeqAt
def encK (k : List Str) : PyData := .tuple (k.map .str)
def encR (b : List Str × Int) : PyData := .list [.list (b.1.map .str), .int b.2]
theorem alike_strs : ∀ xs ys : List Str, alikeAll (xs.map PyData.str) (ys.map PyData.str) = true
  | [], _ => by simp [alikeAll]
  | _ :: _, [] => by simp [alikeAll]
  | x :: xs, y :: ys => by
    rw [List.map_cons, List.map_cons, alikeAll, alike_strs xs ys]
    simp [PySem.W.alike]
theorem depthS : ∀ xs : List Str, PyData.depthAll (xs.map PyData.str) = 0
  | [] => by simp [PyData.depthAll]
  | x :: xs => by
    rw [List.map_cons, PyData.depthAll, depthS xs]
    simp [PyData.depth]
theorem encK_depth (k : List Str) : (encK k).depth ≤ 2 := by
  unfold encK
  simp only [PyData.depth, depthS]
  omega
theorem encR_depth (b : List Str × Int) : (encR b).depth ≤ 4 := by
  unfold encR
  simp only [PyData.depth, PyData.depthAll, depthS]
  omega
theorem encK_alike (k l : List Str) : PySem.W.alike (encK k) (encK l) = true := by
  unfold encK
  simp only [PySem.W.alike]
  exact alike_strs k l
theorem encR_alike (b c : List Str × Int) : PySem.W.alike (encR b) (encR c) = true := by
  unfold encR
  simp only [PySem.W.alike, alikeAll, alike_strs, Bool.and_self]
theorem toks_strs_inj : ∀ {xs ys : List Str} {a b : List (Int ⊕ List Nat)}, keyToksAll (xs.map PyData.str) ++ a = keyToksAll (ys.map PyData.str) ++ b → xs = ys ∧ a = b
  | [], [], a, b, h => by
    simp only [List.map_nil, keyToksAll] at h
    exact ⟨rfl, by injection h⟩
  | [], y :: ys, a, b, h => by
    simp only [List.map_nil, List.map_cons, keyToksAll, List.cons_append, List.nil_append, List.cons.injEq] at h
    have := Sum.inl.inj h.1
    exact absurd this (by decide)
  | x :: xs, [], a, b, h => by
    simp only [List.map_nil, List.map_cons, keyToksAll, List.cons_append, List.nil_append, List.cons.injEq] at h
    have := Sum.inl.inj h.1
    exact absurd this (by decide)
  | x :: xs, y :: ys, a, b, h => by
    simp only [List.map_cons, keyToksAll, keyToks, List.cons_append, List.nil_append, List.cons.injEq, true_and] at h
    obtain ⟨h1, h2⟩ := h
    obtain ⟨e, ab⟩ := toks_strs_inj h2
    exact ⟨by rw [str_of_cps (Sum.inr.inj h1), e], ab⟩
/-- names before names -/
def ltK (k l : List Str) : Bool := dataLt (encK k) (encK l)
theorem ltK_irr (k : List Str) : ltK k k = false := (listOrd itemOrd).irrefl (keyToks (encK k))
theorem ltK_tot {k l : List Str} (h1 : ltK k l = false) (h2 : ltK l k = false) : k = l := by
  have z := (listOrd itemOrd).total (keyToks (encK k)) (keyToks (encK l)) h1 h2
  unfold encK at z
  simp only [keyToks] at z
  exact (toks_strs_inj (a := []) (b := []) (by rw [List.append_nil, List.append_nil]; exact z)).1
theorem ltK_tr {k l m : List Str} (h1 : ltK l k = false) (h2 : ltK m l = false) : ltK m k = false := KeyOrd.kle_trans (O := listOrd itemOrd) (a := keyToks (encK k)) (b := keyToks (encK l)) (c := keyToks (encK m)) h1 h2
theorem ltK_asym {k l : List Str} (h : ltK k l = true) : ltK l k = false := KeyOrd.klt_asymm (O := listOrd itemOrd) (a := keyToks (encK k)) (b := keyToks (encK l)) h
theorem ltR_eq {b c : List Str × Int} (h : b.1 ≠ c.1) : dataLt (encR b) (encR c) = ltK b.1 c.1 := by
  unfold encR ltK encK
  rw [dataLt_list, dataLt_cons (by simp only [PySem.W.alike]; exact alike_strs _ _)]
  have al : PySem.W.alike (.list (b.1.map .str)) (.list (c.1.map .str)) = true := by
    simp only [PySem.W.alike]
    exact alike_strs _ _
  have ne : ¬ PyData.eqv (.list (b.1.map .str)) (.list (c.1.map .str)) = true := fun e => by
    have z := (toks_eqv _ _ al).1 e
    simp only [keyToks] at z
    exact h (toks_strs_inj (a := []) (b := []) (by rw [List.append_nil, List.append_nil]; exact z)).1
  rw [if_neg ne, dataLt_list, dataLt_tuple]
def leK (k l : List Str) : Bool := !ltK l k
theorem leK_trans {k l m : List Str} (h1 : leK k l = true) (h2 : leK l m = true) : leK k m = true := by
  unfold leK at *
  rw [Bool.not_eq_true'] at *
  exact ltK_tr h1 h2
theorem leK_total (k l : List Str) : (leK k l || leK l k) = true := by
  unfold leK
  cases e : ltK l k with
  | false => rfl
  | true =>
    rw [ltK_asym e]
    rfl
theorem leK_anti {k l : List Str} (h1 : leK k l = true) (h2 : leK l k = true) : k = l := by
  unfold leK at *
  rw [Bool.not_eq_true'] at *
  exact ltK_tot h2 h1
theorem leR_eq {b c : List Str × Int} (h : b.1 ≠ c.1) : dataLe false encR b c = leK b.1 c.1 := by
  show (!dataLt (encR c) (encR b)) = _
  rw [ltR_eq (Ne.symm h)]
  rfl
/-- keys in their order: one list -/
theorem sortK_uniq {ks ls : List (List Str)} (p : ls.Perm ks) (s : ls.Pairwise fun k l => leK k l = true) : ls = ks.mergeSort (dataLe false encK) := by
  have e : dataLe false encK = leK := rfl
  rw [e]
  exact List.Perm.eq_of_pairwise (le := fun k l => leK k l = true) (fun _ _ _ _ h1 h2 => leK_anti h1 h2) s (List.pairwise_mergeSort (le := leK) (fun _ _ _ h1 h2 => leK_trans h1 h2) leK_total ks) (p.trans (List.mergeSort_perm _ _).symm)
/-- rows with names that differ: by the names -/
theorem sortR_srt {bs : List (List Str × Int)} (nd : (bs.map (·.1)).Nodup) : (bs.mergeSort (dataLe false encR)).Pairwise fun b c => leK b.1 c.1 = true := by
  have tr : ∀ a b c : List Str × Int, dataLe false encR a b = true → dataLe false encR b c = true → dataLe false encR a c = true := fun a b c h1 h2 => by
    show (!dataLt (encR c) (encR a)) = true
    have h1 : (!dataLt (encR b) (encR a)) = true := h1
    have h2 : (!dataLt (encR c) (encR b)) = true := h2
    rw [Bool.not_eq_true'] at *
    exact KeyOrd.kle_trans (O := listOrd itemOrd) (a := keyToks (encR a)) (b := keyToks (encR b)) (c := keyToks (encR c)) h1 h2
  have tot : ∀ a b : List Str × Int, (dataLe false encR a b || dataLe false encR b a) = true := fun a b => by
    show ((!dataLt (encR b) (encR a)) || (!dataLt (encR a) (encR b))) = true
    cases e : dataLt (encR b) (encR a) with
    | false => rfl
    | true =>
      have z : dataLt (encR a) (encR b) = false := KeyOrd.klt_asymm (O := listOrd itemOrd) (a := keyToks (encR b)) (b := keyToks (encR a)) e
      rw [z]
      rfl
  have nd2 : ((bs.mergeSort (dataLe false encR)).map (·.1)).Nodup := ((List.mergeSort_perm bs (dataLe false encR)).map (·.1)).nodup_iff.mpr nd
  have ne := List.Pairwise.of_map (R := fun a b : List Str × Int => a.1 ≠ b.1) (fun e : List Str × Int => e.1) (fun _ _ h => h) nd2
  refine ((List.pairwise_mergeSort tr tot bs).and ne).imp fun {a b} h => ?_
  rw [← leR_eq h.2]
  exact h.1
theorem sortR_perm (bs : List (List Str × Int)) : (bs.mergeSort (dataLe false encR)).Perm bs := List.mergeSort_perm _ _
/-- what stands at an address -/
def RowAt (H : Hp) (v : V) (b : List Str × Int) : Prop := ∃ r q, v = .ref r ∧ H r = some (.lst [.ref q, .int b.2]) ∧ H q = some (.lst (b.1.map V.str))
def RowsAt (H : Hp) (us : List V) (bs : List (List Str × Int)) : Prop := us.length = bs.length ∧ ∀ (i : Nat) b, bs[i]? = some b → ∃ v, us[i]? = some v ∧ RowAt H v b
theorem RowAt.same {H H' : Hp} {v : V} {b : List Str × Int} (h : RowAt H v b) (s : Same H H') : RowAt H' v b := by
  obtain ⟨r, q, e, h1, h2⟩ := h
  exact ⟨r, q, e, s _ _ h1, s _ _ h2⟩
theorem RowsAt.same {H H' : Hp} {us : List V} {bs : List (List Str × Int)} (h : RowsAt H us bs) (s : Same H H') : RowsAt H' us bs := ⟨h.1, fun i b hb => by
  obtain ⟨v, v1, v2⟩ := h.2 i b hb
  exact ⟨v, v1, v2.same s⟩⟩
def KeyAt (H : Hp) (v : V) (k : List Str) : Prop := ∃ q, v = .ref q ∧ H q = some (.tup (k.map V.str))
def KeysAt (H : Hp) (us : List V) (ks : List (List Str)) : Prop := us.length = ks.length ∧ ∀ (i : Nat) k, ks[i]? = some k → ∃ v, us[i]? = some v ∧ KeyAt H v k
theorem KeysAt.same {H H' : Hp} {us : List V} {ks : List (List Str)} (h : KeysAt H us ks) (s : Same H H') : KeysAt H' us ks := ⟨h.1, fun i b hb => by
  obtain ⟨v, v1, q, e, h1⟩ := h.2 i b hb
  exact ⟨v, v1, q, e, s _ _ h1⟩⟩
theorem reads_strs {h : Heap} : ∀ {k : List Str} {us : List Value}, Vals (k.map V.str) us → ∃ as, ReadsAll h us (k.map PyData.str) as
  | [], us, r => by
    cases r
    exact ⟨[], .nil⟩
  | x :: k, us, r => by
    cases r with
    | cons r1 r2 =>
      obtain ⟨as, ra⟩ := reads_strs (h := h) r2
      obtain ⟨t, rfl⟩ := r1
      exact ⟨_, .cons (.str x t) ra⟩
theorem reads_key {P : Program} {w : World} {H : Hp} {h : Heap} {x : V} {v : Value} {k : List Str} (ok : HOk P w H h) (ha : KeyAt H x k) (r : RelV x v) : ∃ as, Reads h v (encK k) as := by
  obtain ⟨q, rfl, hq⟩ := ha
  obtain rfl : v = Value.ref q := r
  obtain ⟨_, its, rv, o, ho, hc, n, hd⟩ := (show ObjOk P w H h q (.tup (k.map V.str)) from ok q _ hq)
  obtain ⟨as, ra⟩ := reads_strs (h := h) rv
  exact ⟨_, .tuple ho hc hd (by rw [List.toList_toArray]; exact ra)⟩
theorem reads_row {P : Program} {w : World} {H : Hp} {h : Heap} {x : V} {v : Value} {b : List Str × Int} (ok : HOk P w H h) (ha : RowAt H x b) (r : RelV x v) : ∃ as, Reads h v (encR b) as := by
  obtain ⟨a, q, rfl, h1, h2⟩ := ha
  obtain rfl : v = Value.ref a := r
  obtain ⟨_, its, n, rv, ho⟩ := (show ObjOk P w H h a (.lst [.ref q, .int b.2]) from ok a _ h1)
  obtain ⟨_, its2, n2, rv2, ho2⟩ := (show ObjOk P w H h q (.lst (b.1.map V.str)) from ok q _ h2)
  obtain ⟨as, ra⟩ := reads_strs (h := h) rv2
  cases rv with
  | cons r1 rv =>
    cases rv with
    | cons r2 rv =>
      cases rv
      obtain rfl : _ = Value.ref q := r1
      obtain ⟨t, rfl⟩ := r2
      exact ⟨_, .list ho rfl rfl (by rw [List.toList_toArray]; exact .cons (.list ho2 rfl rfl (by rw [List.toList_toArray]; exact ra)) (.cons (.int _ t) .nil))⟩
/-- abstract values of what was sorted -/
theorem each_lift {β : Type} {S : V → β → Prop} : ∀ {out : List Value} {bs : List β}, EachIs (fun v b => ∃ x, RelV x v ∧ S x b) out bs → ∃ us : List V, Vals us out ∧ us.length = bs.length ∧ ∀ (i : Nat) b, bs[i]? = some b → ∃ v, us[i]? = some v ∧ S v b
  | _, _, .nil => ⟨[], .nil, rfl, fun i b h => by cases h⟩
  | _, _, .cons ⟨x, rx, sx⟩ t => by
    obtain ⟨us, r, l, a⟩ := each_lift t
    refine ⟨x :: us, .cons rx r, by rw [List.length_cons, List.length_cons, l], fun i b hb => ?_⟩
    match i, hb with
    | 0, hb =>
      cases hb
      exact ⟨x, rfl, sx⟩
    | i + 1, hb => exact a i b hb
theorem each_of {β : Type} {S : V → β → Prop} : ∀ {us : List V} {vs : List Value} {bs : List β}, Vals us vs → us.length = bs.length → (∀ (i : Nat) b, bs[i]? = some b → ∃ v, us[i]? = some v ∧ S v b) → EachIs (fun v b => ∃ x, RelV x v ∧ S x b) vs bs
  | [], _, [], .nil, _, _ => .nil
  | [], _, _ :: _, _, h, _ => by simp at h
  | _ :: _, _, [], _, h, _ => by simp at h
  | u :: us, _, b :: bs, .cons r rs, h, a => by
    obtain ⟨v, e, s⟩ := a 0 b rfl
    cases e
    exact .cons ⟨u, r, s⟩ (each_of rs (by simpa using h) fun i c hc => a (i + 1) c hc)
def rSortRows (K : PySem.W.Frag) : List V → Hp → VK → Prop := fun xs H Q => ∃ (a : Addr) (us : List V) (bs : List (List Str × Int)), xs = [.ref a] ∧ SqL K H a us ∧ RowsAt H us bs ∧
  ∀ p us', H p = none → RowsAt H us' (bs.mergeSort (dataLe false encR)) → Q (.ref p) (upd H p (.lst us'))
theorem cr_sortRows {X : Cx} {K : PySem.W.Frag} {k : Nat} (hK : X.K = K) (hr : Room k X.A) : CallR X (.builtin "sorted") (rSortRows K) := by
  subst hK
  intro pins s σ H xs us Q I r h
  obtain ⟨a, ws, bs, rfl, hs, rows, q⟩ := h
  rw [Vals.ref1 r]
  obtain ⟨its, rv, hl, hz⟩ := I.list hs
  have hu := hr.un
  have e := each_of (S := RowAt H) rv rows.1 rows.2
  have er : EachIs (fun v b => ∃ as, Reads s.heap v (encR b) as) its bs := e.mono fun v b ⟨x, rx, sx⟩ => reads_row I.hok sx rx
  refine sorted_data hl.isList e er (AllAlike.of encR_alike) (Sortable.others fun b => ⟨(fun z => nomatch z), (fun xs z => nomatch z)⟩) (by rw [← rows.1]; exact hz) (fun b _ => by have := encR_depth b; omega) fun out hlen eo => ?_
  obtain ⟨us', rv', l', a'⟩ := each_lift eo
  obtain ⟨ep, he'⟩ := PyProof.Rows.sortedAll_at s.heap its (List.toArray out)
  have lm : (bs.mergeSort (dataLe false encR)).length = bs.length := (sortR_perm bs).length_eq
  refine ⟨.ref _, upd H (s.heap.objs.size + 1) (.lst us'), I.laid (t' := s.toks) (fun _ _ => PyProof.Rows.sortedAll_old) (Nat.le_succ _) ⟨by rw [l', lm, ← rows.1]; exact hz, out, ep, rv', he'⟩, rfl, q _ us' (I.hok.fresh (Nat.le_succ _)) ⟨l', a'⟩⟩
theorem paired_get {α β : Type} {F : α → β → Prop} : ∀ {l : List α} {m : List β} {j : Nat} {x : α}, Paired F l m → l[j]? = some x → ∃ y, m[j]? = some y ∧ F x y
  | _, _, j, x, .nil, h => by cases h
  | _, _, 0, x, .cons a _, h => by
    cases h
    exact ⟨_, rfl, a⟩
  | _, _, j + 1, x, .cons _ t, h => paired_get (j := j) t h
def rSortKeys : List V → Hp → VK → Prop := fun xs H Q => ∃ (d : Addr) (kvs : List (List Key × V)) (ks : List (List Str)), xs = [.ref d] ∧ H d = some (.dT kvs) ∧ kvs.map (·.1) = ks.map (fun k => k.map Sum.inr) ∧
  ∀ p us', H p = none → KeysAt H us' (ks.mergeSort (dataLe false encK)) → Q (.ref p) (upd H p (.lst us'))
theorem cr_sortKeys {X : Cx} {k : Nat} (hc : X.calm = true) (hr : Room k X.A) : CallR X (.builtin "sorted") rSortKeys := by
  intro pins s σ H xs us Q I r h
  obtain ⟨d, kvs, ks, rfl, hd, hks, q⟩ := h
  rw [Vals.ref1 r]
  have hu := hr.un
  obtain ⟨z, hs, ps, pr, o, es, ep, ho, hx, hdt, he, hn⟩ := (show ObjOk X.prog X.w H s.heap d (.dT kvs) from I.hok d _ hd)
  have l1 : es.size = ps.length := size_of_entries he
  have l2 : kvs.length = ps.length := Paired.length pr
  have lk : kvs.length = ks.length := by
    have := congrArg List.length hks
    rw [List.length_map, List.length_map] at this
    exact this
  refine Calls.call_function_entry PyProof.Rows.kind_sorted PyProof.Rows.plain_sorted PyProof.Rows.entry_sorted (PyProof.Rows.args_sorted1 _) ?_
  unfold Builtin.«sorted»
  refine wpAny_bind (m := checkCount "sorted" 1 1 _) (wpAny_pure ?_)
  refine wpAny_bind (PySem.W.kdu_collect (A := X.A.in1) (kdl_raw hs hx hdt) (I.ok.hd hc) ho (by omega) fun h' tk acc hk it => ?_)
  have ea : acc.toList = ps.map fun x => Value.ref x.2.1 := by
    have hl : acc.toList.length = ps.length := by rw [Array.length_toList, it.1]; exact l1
    refine List.ext_getElem? fun j => ?_
    rw [List.getElem?_map]
    cases hj : acc.toList[j]? with
    | none =>
      rw [List.getElem?_eq_none (by have := List.getElem?_eq_none_iff.mp hj; omega)]
      rfl
    | some v =>
      obtain ⟨en, hen, hv⟩ := it.2 j v (by rw [← Array.getElem?_toList]; exact hj)
      have qe := entry_at he j
      rw [hen] at qe
      cases hb : ps[j]? with
      | none =>
        rw [hb] at qe
        cases qe
      | some b =>
        rw [hb] at qe
        rw [hv, Option.some.inj qe]
        rfl
  have I1 : Inv X pins σ H { s with heap := h', toks := tk } := I.kept hk
  have kat : ∀ (i : Nat) k, ks[i]? = some k → ∃ v, (ps.map fun x => V.ref x.2.1)[i]? = some v ∧ KeyAt H v k := fun i k hi => by
    have e1 : (kvs.map (·.1))[i]? = some (k.map Sum.inr) := by rw [hks, List.getElem?_map, hi]; rfl
    rw [List.getElem?_map] at e1
    obtain ⟨kv, e2, e3⟩ := Option.map_eq_some_iff.mp e1
    obtain ⟨x, e4, _, e5, _⟩ := paired_get pr e2
    refine ⟨.ref x.2.1, by rw [List.getElem?_map, e4]; rfl, x.2.1, rfl, ?_⟩
    rw [e5, e3, List.map_map]
    rfl
  have vals : Vals (ps.map fun x => V.ref x.2.1) acc.toList := by
    rw [ea]
    have go : ∀ l : List (List Key × Addr × Value), Vals (l.map fun x => V.ref x.2.1) (l.map fun x => Value.ref x.2.1) := fun l => by
      induction l with
      | nil => exact .nil
      | cons x l ih => exact .cons rfl ih
    exact go ps
  have e := each_of (S := KeyAt H) vals (by rw [List.length_map]; omega) kat
  have lacc : acc.toList.length = ks.length := by rw [ea, List.length_map]; omega
  refine wpAny_bind (wpAny_newList ?_ (by rw [lacc, ← lk]; exact z))
  have hoL : (h'.push (seqObj "list" acc.toList.toArray 0)).get? h'.objs.size = some (seqObj "list" acc.toList.toArray 0) := Heap.get?_push_size _ rfl
  show wpAny _ _ _ _ _ { s with heap := h'.push (seqObj "list" acc.toList.toArray 0), toks := tk }
  have er : EachIs (fun v b => ∃ as, Reads (sortingHeap (h'.push (seqObj "list" acc.toList.toArray 0)) h'.objs.size acc.toList) v (encK b) as) acc.toList ks := e.mono fun v b ⟨x, rx, sx⟩ => by
    obtain ⟨as, ra⟩ := reads_key I1.hok sx rx
    exact ⟨as, PyProof.Rows.Reads.keeps (fun b o eb => sortingHeap_old (Nat.ne_of_lt (Heap.lt_size eb)) (Heap.get?_push_of_some _ eb)) ra⟩
  have S := sortsAt_tups (prog := X.prog) (w' := X.w) (A := X.A.in1.in1) (s := { s with heap := sortingHeap (h'.push (seqObj "list" acc.toList.toArray 0)) h'.objs.size acc.toList, toks := tk }) (ds := ks.map encK) (each_map (R := fun v d => ∃ as, Reads (sortingHeap (h'.push (seqObj "list" acc.toList.toArray 0)) h'.objs.size acc.toList) v d as) encK er) (AllAlike.of encK_alike)
    (fun d hd => by
      obtain ⟨k, _, rfl⟩ := List.mem_map.mp hd
      exact ⟨_, rfl⟩) (fun d hd => by
      obtain ⟨k, _, rfl⟩ := List.mem_map.mp hd
      have := encK_depth k
      show X.A.units + 1 + 1 + _ < cLine
      omega)
  refine wpAny_bind (wpAny_holding (wpAny_call_entry PyProof.Rows.slot_list_sort ⟨_, hoL, rfl⟩ PyProof.Rows.entry_list_sort
    (list_sort_vals (s := { s with heap := h'.push (seqObj "list" acc.toList.toArray 0), toks := tk }) hoL S (by rw [lacc, ← lk]; exact z) ⟨_, rfl, ?_⟩) (PyProof.Rows.args_list_sort _)))
  have eo := sortVals_data (h' := sortingHeap (h'.push (seqObj "list" acc.toList.toArray 0)) h'.objs.size acc.toList) false e er (AllAlike.of encK_alike)
  obtain ⟨us', rv', l', a'⟩ := each_lift eo
  obtain ⟨ep', he'⟩ := PyProof.Rows.sortedHeap_at (vs := acc.toList) (out := (sortVals (dataKind (sortingHeap (h'.push (seqObj "list" acc.toList.toArray 0)) h'.objs.size acc.toList) (ks.map encK)) false acc.toList acc.toList).toArray) hoL
  have lm : (ks.mergeSort (dataLe false encK)).length = ks.length := (List.mergeSort_perm _ _).length_eq
  refine wpAny_pure ⟨_, rfl, .ref h'.objs.size, upd H h'.objs.size (.lst us'), I1.laid (t' := tk) (fun b u e => ?_) (Nat.le_refl _) (show ObjOk X.prog X.w _ _ _ (.lst us') from ⟨by rw [l', lm, ← lk]; exact z, _, ep', rv', he'⟩), rfl, q _ us' (I1.hok.fresh (Nat.le_refl _)) ⟨l', a'⟩⟩
  have hb : b < h'.objs.size := Heap.lt_size e
  rw [PyProof.Rows.sortedHeap_old (Nat.ne_of_lt hb) (by rw [size_push']; exact Nat.lt_succ_of_lt hb)]
  exact Heap.get?_push_of_some _ e
end
-- part writ
/-! numbers written in blocks of 18 digits -/
theorem tl_numI (k : Int) : TL.tl (Str.ofString (toString k)) = if 0 ≤ k then TL.numL k.toNat else 45 :: TL.numL k.natAbs := by
  cases k with
  | ofNat n =>
    rw [if_pos (show 0 ≤ Int.ofNat n from Int.natCast_nonneg n)]
    exact TL.tl_num n
  | negSucc n =>
    rw [if_neg (by omega)]
    have e : toString (Int.negSucc n) = "-" ++ toString (n + 1) := rfl
    have e2 : TL.tl (Str.ofString (toString (((n + 1 : Nat) : Int)))) = TL.numL (n + 1) := TL.tl_num (n + 1)
    have e3 : toString (((n + 1 : Nat) : Int)) = toString (n + 1) := rfl
    rw [TL.tl_ofString, e, String.toList_append, List.map_append, ← TL.tl_ofString (toString (n + 1)), ← e3, e2]
    rfl
theorem numL_block {q r : Nat} (hq : 0 < q) (hr : r < 10 ^ 18) : TL.numL (q * 10 ^ 18 + r) = TL.numL q ++ (List.replicate (18 - (TL.numL r).length) 48 ++ TL.numL r) := by
  have h := digits_block q hq 18 r (by decide) hr
  unfold TL.numL
  rw [h, List.map_append, List.map_append, List.map_replicate, List.length_map]
  rfl
theorem numL_len {n k : Nat} (hk : 0 < k) (h : n < 10 ^ k) : (TL.numL n).length ≤ k := by
  unfold TL.numL
  rw [List.length_map]
  exact (Nat.length_toDigits_le_iff (by decide) hk).mpr h
theorem zfill_num {r : Nat} (hr : r < 10 ^ 18) : TL.tl (Txt.zfill (Str.ofString (toString ((r : Nat) : Int))) 18) = List.replicate (18 - (TL.numL r).length) 48 ++ TL.numL r := by
  have len := numL_len (by decide) hr
  have hl : (Str.ofString (toString ((r : Nat) : Int))).length = (TL.numL r).length := by rw [TL.len_tl, TL.tl_num]
  unfold Txt.zfill
  by_cases c : (18 : Int) ≤ ((Str.ofString (toString ((r : Nat) : Int))).length : Nat)
  · rw [if_pos c, TL.tl_num]
    have : 18 - (TL.numL r).length = 0 := by omega
    rw [this]
    rfl
  · rw [if_neg c, hl]
    have t18 : Int.toNat 18 = 18 := rfl
    rw [t18]
    unfold zfilled
    have hd : ∀ ch, (Str.ofString (toString ((r : Nat) : Int))).cps[0]? = some ch → 48 ≤ ch := fun ch h => by
      have h2 : (TL.tl (Str.ofString (toString ((r : Nat) : Int))))[0]? = some ch := by
        rw [Array.getElem?_toList]
        exact h
      rw [TL.tl_num] at h2
      exact (TL.numL_digits r ch (List.mem_of_getElem? h2)).1
    have pad : ∀ x : Str, TL.tl (Builtin.Str.padded x (18 - (TL.numL r).length) 0 48) = List.replicate (18 - (TL.numL r).length) 48 ++ TL.tl x := fun x => by
      show (Array.replicate (18 - (TL.numL r).length) 48 ++ x.cps ++ Array.replicate 0 48).toList = _
      rw [Array.toList_append, Array.toList_append, Array.toList_replicate, Array.toList_replicate]
      exact List.append_nil _
    split
    · rename_i h
      exact absurd (hd _ h) (by decide)
    · rename_i h
      exact absurd (hd _ h) (by decide)
    · rw [pad, TL.tl_num]
theorem str_fit {n : Int} (h : n.natAbs.log2 < 1900) : (Str.ofString (toString n)).length ≤ 1921 := int_text_len_1921 (by omega)
abbrev numI (n : Int) : Str := Str.ofString (toString n)
theorem log2_le_of_le {a b : Nat} (h : a ≤ b) : a.log2 ≤ b.log2 := by
  by_cases z : a = 0
  · subst z; rw [Nat.log2_zero]; exact Nat.zero_le _
  · exact (Nat.le_log2 (by omega)).mpr (Nat.le_trans (Nat.log2_self_le z) h)
abbrev s_writ : Stmt := top 8
theorem sc_writ : FnScope ["n", "sign", "text", "rest", "low"] ["n"] (defScope s_writ) := ⟨rfl, rfl, rfl, by decide +kernel, rfl, by decide +kernel, by decide +kernel⟩
def spWrit : Sp := fun vs H Q _ => ∃ n : Int, vs = [.int n] ∧ n.natAbs.log2 < 1900 ∧ ∀ H', Same H H' → Q (.str (numI n)) H'
theorem ok_writ {f : Addr} {fd : FuncData} {tB tD : Tok} (T : Txt mg) (hB : mg "_BLOCK" = some (.int 1000000000000000000 tB)) (hD : mg "_BLOCK_DIGITS" = some (.int 18 tD)) (nD : mg "divmod" = none) (F : Fun K "written" "written" s_writ f fd) : FnOk P w K mg base CX0 1 f fd ["n"] spWrit := by
  refine F.ok sc_writ (fun vs H Q E h => ?_) (fun cdv A outer s H vs Q E hr h => ?_)
  · obtain ⟨_, rfl, _⟩ := h
    rfl
  · obtain ⟨n, rfl, hl, q⟩ := h
    refine ⟨_, (Evl.pss_cut (ps_set (i := 1) sc_writ.nd rfl (Or.inl rfl) (pe_ifExp (pt_cmpR op_lt (pv 0) pe_int (nomark _)) pe_str pe_str))
 (pss_cons (ps_par (i := 2) (j := 3) rfl sc_writ.nd rfl rfl (by decide) rfl rfl (pa_cons pe_str (pa_cons (pe_callB call_abs (by rfl) T.abs boot_abs (pa_cons (pv 0) pa_nil)) pa_nil)) rfl)
 (pss_cons (ps_while PassesOwn.never (pt_cmpR op_ge (pv 3) (pe_glob (v := .int 1000000000000000000) (by rfl) hB ⟨_, rfl⟩) (nomark _)) (pss_cons (ps_asg (pe_callB call_divmodW (by rfl) nD (by decide +kernel) (pa_cons (pv 3) (pa_cons (pe_glob (v := .int 1000000000000000000) (by rfl) hB ⟨_, rfl⟩) pa_nil))) (pg_tup rfl (pgs_cons (pg_name (i := 3) sc_writ.nd rfl (Or.inl rfl)) (pgs_cons (pg_name (i := 4) sc_writ.nd rfl (Or.inl rfl)) pgs_nil))))
 (pss_one (ps_set (i := 2) sc_writ.nd rfl (Or.inl rfl) (pe_joined (.cons (pe_fmt (pe_bm PySem.F.plainAttrs_str PySem.F.slot_str_zfill PySem.F.type_str_zfill mt_zfill (pe_callTy call_str_int (by rfl) T.str boot_str (pa_cons (pv 4) pa_nil)) (pa_cons (pe_glob (v := .int 18) (by rfl) hD ⟨_, rfl⟩) pa_nil))) (.cons (pe_fmt (pv 2)) .nil)))))))
 (pss_one (ps_ret (pe_joined (.cons (pe_fmt (pv 1)) (.cons (pe_fmt (pv 3)) (.cons (pe_fmt (pv 2)) .nil))))))))), ?_⟩
    refine ⟨fun σ G => G = H ∧ ∃ sg : Str, σ = [some (.int n), some (.str sg), none, none, none] ∧ TL.tl sg = (if 0 ≤ n then [] else [45]) ∧ sg.length ≤ 1, ?_, ?_⟩
    · refine ⟨_, rfl, _, _, rfl, rfl, _, rfl, ?_⟩
      by_cases c : n < 0
      · refine if_pos_of (decide_eq_true c) ⟨rfl, _, rfl, ?_, by decide +kernel⟩
        rw [if_neg (by omega)]
        decide +kernel
      · refine if_neg_of (decide_eq_false c) ⟨rfl, _, rfl, ?_, by decide +kernel⟩
        rw [if_pos (by omega)]
        decide +kernel
    rintro σ H ⟨rfl, sg, rfl, hsg, lsg⟩
    refine ⟨_, rfl, _, rfl, _, _, rfl, ?_⟩
    refine while_by (fun σ G => Same H G ∧ ∃ (T : Str) (R : Nat) (x4 : Option V), σ = [some (.int n), some (.str sg), some (.str T), some (.int (R : Int)), x4] ∧ R ≤ n.natAbs ∧ TL.numL R ++ TL.tl T = TL.numL n.natAbs) (fun σ _ => match σ[3]? with | some (some (V.int k)) => k.toNat | _ => 0)
      ⟨Same.refl _, _, n.natAbs, none, (by rw [show (if n < 0 then -n else n) = (n.natAbs : Int) by split <;> omega]; rfl), Nat.le_refl _, List.append_nil _⟩ ?_ ?_
    · rintro σ G ⟨s1, T, R, x4, rfl, hR, eT⟩
      refine ⟨_, rfl, _, _, rfl, rfl, _, rfl, ?_⟩
      have lR : R.log2 < 1900 := Nat.lt_of_le_of_lt (log2_le_of_le hR) hl
      have lN : (TL.numL n.natAbs).length ≤ 1921 := by
        have := str_fit (n := (n.natAbs : Int)) hl
        rw [TL.len_tl, TL.tl_num] at this
        exact this
      have hT : T.length ≤ 1921 := by
        have := congrArg List.length eT
        rw [List.length_append, ← TL.len_tl] at this
        omega
      by_cases c : (1000000000000000000 : Int) ≤ (R : Int)
      · refine if_pos_of (decide_eq_true c) ?_
        have hq : 0 < R / 10 ^ 18 := Nat.div_pos (by omega) (by decide)
        have hm : R % 10 ^ 18 < 10 ^ 18 := Nat.mod_lt R (by decide)
        have bits : Builtin.Int.intBits (R : Int) ≤ 1900 := intBits_le (Nat.lt_of_lt_of_le Nat.lt_log2_self (Nat.pow_le_pow_right (by decide) (by show R.log2 + 1 ≤ 1900; omega)))
        refine ⟨_, rfl, _, _, rfl, divp_ok (by decide) (by omega), fun p np => ?_⟩
        have s2 := same_upd (o := .tup [.int ((R : Int) / 1000000000000000000), .int ((R : Int) % 1000000000000000000)]) np
        have e1 : (R : Int) / 1000000000000000000 = ((R / 10 ^ 18 : Nat) : Int) := by omega
        have e2 : (R : Int) % 1000000000000000000 = ((R % 10 ^ 18 : Nat) : Int) := by omega
        rw [e1, e2] at s2 ⊢
        have blk := numL_block hq hm
        rw [Nat.mul_comm, Nat.div_add_mod, ← zfill_num hm] at blk
        have lz : (Txt.zfill (Str.ofString (toString ((R % 10 ^ 18 : Nat) : Int))) 18).length ≤ 1921 := by
          have h := congrArg List.length blk
          have h2 := congrArg List.length eT
          rw [List.length_append, ← TL.len_tl] at h
          rw [List.length_append] at h2
          omega
        have lm : ((R % 10 ^ 18 : Nat) : Int).natAbs.log2 < 1920 := Nat.lt_of_le_of_lt (log2_le_of_le (Nat.mod_le R _)) (by omega)
        refine ⟨p, _, rfl, SqT.of upd_same, rfl, _, _, rfl, _, _, rfl, rfl, ?_⟩
        have ap : ∀ x y : Str, (x ++ y).length = x.length + y.length := fun x y => by rw [TL.len_tl, TL.tl_append, List.length_append, ← TL.len_tl, ← TL.len_tl]
        have l0 : (Str.empty : Str).length = 0 := rfl
        refine ⟨_, rfl, _, rfl, lm, rfl, _, _, rfl, rfl, by decide +kernel, .inl ⟨_, rfl, by rw [sizeLine_eq]; omega, _, rfl, ?_, _, rfl, .inl ⟨_, rfl, by rw [sizeLine_eq]; omega, _, rfl, ?_, ?_⟩⟩⟩
        · rw [sizeLine_eq, ap]; omega
        · rw [sizeLine_eq, ap, ap]; omega
        refine ⟨⟨s1.trans s2, _, R / 10 ^ 18, _, rfl, Nat.le_trans (Nat.div_le_self _ _) hR, ?_⟩, ?_⟩
        · rw [TL.tl_append, TL.tl_append, ← eT, blk, List.append_assoc, List.append_assoc]
          rfl
        · show ((R / 10 ^ 18 : Nat) : Int).toNat < (R : Int).toNat
          have : R / 10 ^ 18 < R := Nat.div_lt_self (by omega) (by decide)
          omega
      · refine if_neg_of (decide_eq_false c) ?_
        have ap : ∀ x y : Str, (x ++ y).length = x.length + y.length := fun x y => by rw [TL.len_tl, TL.tl_append, List.length_append, ← TL.len_tl, ← TL.len_tl]
        have l0 : (Str.empty : Str).length = 0 := rfl
        have lr : (Str.ofString (toString (R : Int))).length ≤ 1921 := str_fit (n := (R : Int)) lR
        refine ⟨_, rfl, .inl ⟨_, rfl, by rw [sizeLine_eq]; omega, _, rfl, ?_, _, rfl, .inr ⟨_, rfl, by show R.log2 < 1920; omega, _, rfl, ?_, _, rfl, .inl ⟨_, rfl, by rw [sizeLine_eq]; omega, _, rfl, ?_, ?_⟩⟩⟩⟩
        · rw [sizeLine_eq, ap]; omega
        · rw [sizeLine_eq, ap, ap]; omega
        · rw [sizeLine_eq, ap, ap, ap]; omega
        have e : Str.empty ++ sg ++ Str.ofString (toString (R : Int)) ++ T = numI n := TL.ext_tl (by
          rw [TL.tl_append, TL.tl_append, TL.tl_append, TL.tl_num, hsg, List.append_assoc, eT, tl_numI]
          split
          · rename_i h0
            have : n.toNat = n.natAbs := by omega
            rw [this]
            rfl
          · rfl)
        rw [e]
        exact q G s1
    · rintro σ H1 Q1 Q2 h ⟨v, e1, i, j, e2, e3, k, e4, qq⟩
      exact ⟨v, e1, i, j, e2, e3, k, e4, h _ _ qq⟩
-- part trud
/-! the truth of a dict with tuple keys; *row in a display within a comprehension -/
section
variable {prog : Program} {w' : World} {A : Around} {E : Value → Shared → Prop} {s : Shared} {d : Addr} {es : Array DictEntry} {ep : Nat}
theorem len_body_raw {Q : Value → Shared → Prop} (hd : (d == sysModules) = false) (hm : s.heap.DictRaw d es ep) (hfit : (es.size : Int) < 2 ^ 63)
    (h : Q (.int es.size (s.toks + 1)) { s with toks := s.toks + 1 + 1 }) : wpAny (model prog w') A (Builtin.«len» ⟨[.ref d], []⟩) (fun fin s' => ∃ r, fin = .done (.ret r) ∧ Q r s') E s := by
  unfold Builtin.«len»
  refine wpAny_bind (m := oneArg "len" _) (wpAny_pure ?_)
  refine wpAny_bind (m := callSpecial? (.ref d) (Str.ofString "__len__")) (wpAny_callSpecial?_slot (name := Str.ofString "__len__") hm.typeIs F.slot_dict_len
    (call_meetsIn F.slot_dict_len hm.typeIs F.entry_dict_len (F.args_dict_len_1 _) (meets_dict_len_raw d hd) ⟨es, ep, hm, ?_⟩))
  show wpAny _ _ _ _ _ { s with toks := s.toks + 1 }
  refine wpAny_bind (wpAny_holding (wpAny_pure ?_))
  refine wpAny_bind (wpAny_letGo ?_)
  show wpAny _ _ (if ((es.size : Nat) : Int) < 0 then _ else _) _ _ _
  rw [if_neg (by omega)]
  show wpAny _ _ (if ((es.size : Nat) : Int) ≥ 2 ^ 63 then _ else _) _ _ _
  rw [if_neg (by omega)]
  exact wpAny_bind (wpAny_mkInt (wpAny_pure ⟨_, rfl, h⟩))
theorem truthy_raw {Q : Bool → Shared → Prop} (hd : (d == sysModules) = false) (hm : s.heap.DictRaw d es ep) (hfit : (es.size : Int) < 2 ^ 63)
    (h : Q ((es.size : Int) != 0) { s with toks := s.toks + 1 + 1 }) : wpAny (model prog w') A (truthy (.ref d)) Q E s := by
  have key : wpAny (model prog w') A (runValue (.builtin "len" ⟨[.ref d], []⟩)) (fun r s' => r = .int es.size (s.toks + 1) ∧ Q ((es.size : Int) != 0) s') E s := by
    refine wpAny_runValue (codeAny_builtin entry_len ?_)
    rw [Around.under_plainId plain_len _]
    exact wpAny_mono (len_body_raw (Q := fun r s' => r = .int es.size (s.toks + 1) ∧ Q ((es.size : Int) != 0) s') hd hm hfit ⟨rfl, h⟩)
      (fun fin s' h' => by obtain ⟨r, rfl, hq⟩ := h'; exact hq) fun _ _ e => e
  unfold truthy
  first
    | refine wpAny_bind (wpAny_callSpecial?_none (name := Str.ofString "__bool__") hm.typeIs noBool_dict ?_)
    | refine wpAny_bind (wpAny_pure (wpAny_bind (wpAny_callSpecial?_none (name := Str.ofString "__bool__") hm.typeIs noBool_dict ?_)))
  first
    | refine wpAny_bind (wpAny_specialOf (name := Str.ofString "__len__") hm.typeIs F.slot_dict_len.lookup ?_)
    | refine wpAny_bind (wpAny_pure (wpAny_bind (wpAny_specialOf (name := Str.ofString "__len__") hm.typeIs F.slot_dict_len.lookup ?_)))
  first
    | exact wpAny_bind (wpAny_mono key (fun r s' h' => by obtain ⟨rfl, hq⟩ := h'; exact wpAny_pure hq) fun _ _ e => e)
    | exact wpAny_bind (wpAny_pure (wpAny_bind (wpAny_mono key (fun r s' h' => by obtain ⟨rfl, hq⟩ := h'; exact wpAny_pure hq) fun _ _ e => e)))
end
def rTruD : V → Hp → (Bool → Hp → Prop) → Prop := fun x H Q => ∃ a kvs, x = .ref a ∧ H a = some (.dT kvs) ∧ Q (!kvs.isEmpty) H
theorem tru_dT {X : Cx} : TruR X rTruD := by
  intro pins s σ H x v Q I rx h
  obtain ⟨a, kvs, rfl, ha, q⟩ := h
  cases rx
  obtain ⟨few, notSys, rows, rel, o, es, ep, at_o, ex, data, ents, _⟩ := dt_of I.hok ha
  have n1 : es.size = rows.length := size_of_entries ents
  have n2 : kvs.length = rows.length := Paired.length rel
  refine truthy_raw (es := es) (ep := ep) notSys ⟨o, at_o, ex, data⟩ (by rw [sizeLine_eq] at few; omega) ⟨H, I.tok _, ?_⟩
  have e : ((es.size : Int) != 0) = !kvs.isEmpty := by
    rw [n1, ← n2]
    cases kvs with
    | nil => rfl
    | cons _ _ =>
      show ((_ : Int) != 0) = true
      simp only [List.length_cons, bne_iff_ne]
      omega
  rw [e]
  exact q
theorem pa_starK {X : Cx} {K : PySem.W.Frag} {e : Expr} {es : List Expr} {te : TE} {t : TA} {p : Pos} (hK : X.K = K) (he : PE X e te) (hr : PA X es t) (hs : starEach (.Starred e p :: es) X.env = (true, eval e X.env) :: starEach es X.env := by rfl) : PA X (.Starred e p :: es) (StX.tStar K te t) := by
  subst hK
  exact StX.pa_star he hr hs
-- part setstr
/-! set(xs) of a list of texts, max(xs, default=d) -/
theorem setX_new_at {P : Program} {w : World} {h : Heap} {a : Addr} {ns : List Str} (ho : h.get? a = some { cls := .type "set", dict := none, data := .set #[] 0 (.fresh 0 0 (!w.params.followText "set-order")) }) : SetX P w h a (fun j => decide (j ∈ ns.take 0)) 0 :=
  ⟨_, #[], 0, _, ho, ⟨rfl, rfl, rfl⟩, rfl, (fun e he => by simp at he), (fun e he => by simp at he), (by simp), (fun k => by simp), (by decide), (by rfl), rfl, List.Pairwise.nil, by
    show _ ∨ (!w.params.followText "set-order") = true
    cases w.params.followText "set-order"
    · exact .inr rfl
    · exact .inl rfl⟩
theorem SetX.congr {P : Program} {w : World} {h : Heap} {a : Addr} {S S' : Str → Bool} {n : Nat} (R : SetX P w h a S n) (e : ∀ k, S k = S' k) : SetX P w h a S' n := by
  have : S = S' := funext e
  rw [← this]
  exact R
section
variable {P : Program} {w : World} {A : Around} {E : Value → Shared → Prop} {s : Shared}
theorem set_update_strs {I : Addr} {fp wr : List Addr} {G : Array GenState → Array GenState → Prop} {n : Nat} {Pv : Nat → Value → Prop} {St : Nat → Shared → Prop} {R : Result → Shared → Prop}
    (W : WalksS P w A.in1 I fp wr G n Pv St) (S : Addr) (hSf : S ∉ fp) (ns : List Str) (hn : n = ns.length) (hb : ns.length + 1 < scanBound) (hval : ∀ i v, Pv i v → ∃ k t, ns[i]? = some k ∧ v = .str k t) :
    ∀ (k i : Nat) (s : Shared), n - i = k → i ≤ n → St i s → (∃ c, c ≤ i ∧ SetX P w s.heap S (fun j => decide (j ∈ ns.take i)) c) →
      (∀ s' c, Moved (S :: wr) G s s' → c ≤ n → SetX P w s'.heap S (fun j => decide (j ∈ ns)) c → R (.ok (.ret .none)) s') →
      codeAny (model P w) A (.builtin "set.update.loop" ⟨[.ref S, .ref I], []⟩) R s := by
  have hSw : S ∉ wr := fun h => hSf (W.sub _ h)
  have hsub : ∀ b ∈ wr, b ∈ S :: wr := fun b hb => List.mem_cons_of_mem _ hb
  intro k
  induction k with
  | zero =>
    intro i s hk' hi hst ⟨c, hc, hS⟩ hR
    have hin : i = n := by omega
    subst hin
    refine codeAny_builtin F.entry_set_update_loop ?_
    rw [Around.under_plainId F.plain_set_update_loop _]
    show wpAny _ A.in1 (pyNext (.ref I) >>= _) _ _ s
    refine wpAny_bind (W.done s _ _ hst fun s' hm => ?_)
    show wpAny _ A.in1 (ret Value.none) _ _ s'
    have e : ns.take i = ns := List.take_of_length_le (by omega)
    rw [e] at hS
    exact wpAny_pure (hR s' c (hm.mono hsub) hc (hS.at fun o e => hm.heap S o hSw e))
  | succ k ih =>
    intro i s hk' hi hst ⟨c, hc, hS⟩ hR
    have hlt : i < n := by omega
    refine codeAny_builtin F.entry_set_update_loop ?_
    rw [Around.under_plainId F.plain_set_update_loop _]
    show wpAny _ A.in1 (pyNext (.ref I) >>= _) _ _ s
    refine wpAny_bind (W.item i s _ _ hlt hst fun v s' hP hst' hm => ?_)
    obtain ⟨z, t, hz, rfl⟩ := hval i v hP
    have hS' : SetX P w s'.heap S (fun j => decide (j ∈ ns.take i)) c := hS.at fun o e => hm.heap S o hSw e
    show wpAny _ A.in1 (holding [Value.str z t] (setAdd S (.str z t)) >>= _) _ _ s'
    refine wpAny_bind (wpAny_holding ?_)
    unfold setAdd
    refine wpAny_holding ?_
    refine wpAny_bind ((strKind P w).pyHash (strKind_is P w z t) ?_)
    refine addX_hashed (s := { s' with toks := s'.toks + 1 }) hS' (by omega) fun h' hsb hS2 => ?_
    have hS3 : SetX P w h' S (fun j => decide (j ∈ ns.take (i + 1))) (if decide (z ∈ ns.take i) = true then c else c + 1) := hS2.congr fun j => by
      rw [List.take_add_one, hz]
      simp [List.mem_append]
    have hc3 : (if decide (z ∈ ns.take i) = true then c else c + 1) ≤ i + 1 := by
      split <;> omega
    refine wpAny_pure ⟨plainId_quiet F.plain_set_update_loop _, ih (i + 1) _ (by omega) hlt (W.frame _ s' _ _ hst' (Nat.le_succ _) fun b hb o e => ?_) ⟨_, hc3, hS3⟩ fun s'' c2 hm'' hc'' hS'' => ?_⟩
    · rw [hsb.2 b (fun h : b = S => hSf (by rw [← h]; exact hb))]; exact e
    · refine hR s'' c2 (Moved.trans W.gtrans ((hm.mono hsub).then_heap (Nat.le_succ _) fun b o hb e => ?_) hm'') hc'' hS''
      rw [hsb.2 b (fun h : b = S => hb (by rw [h]; exact List.mem_cons_self))]; exact e
end
open PySem.Calls in
theorem set_of_listS {P : Program} {w : World} {A : Around} {E : Value → Shared → Prop} {s : Shared} {l : Addr} {items : Array Value} (ns : List Str) {Q : Value → Shared → Prop} (hh : A.handled = none)
    (hl : s.heap.IsList l items) (hit : Vals (ns.map V.str) items.toList) (hb : ns.length + 1 < scanBound)
    (h : ∀ (h' : Heap) (tk c : Nat), SetX P w h' s.heap.objs.size (fun j => decide (j ∈ ns)) c → c ≤ ns.length → (∀ b o, s.heap.get? b = some o → h'.get? b = some o) →
      Q (.ref s.heap.objs.size) { s with heap := h', toks := tk }) :
    wpAny (model P w) A (call (.type "set") [.ref l]) Q E s := by
  have size_eq : items.size = ns.length := by
    have z : (ns.map V.str).length = items.toList.length := hit.length
    rw [List.length_map, Array.length_toList] at z
    exact z.symm
  obtain ⟨c, tl, hmro⟩ := F.called_set.mro
  have made_set := F.called_set.made
  have sub_set := F.called_set.sub
  refine wpAny_call (codeAny_of_tree ?_)
  show wpAny _ _ (callAny (.type "set") _) _ _ _
  refine wpAny_pure ⟨Code.quiet_builtin _ (by decide +kernel), codeAny_builtin F.entry_type_call ?_⟩
  rw [Around.under_plain (weight_type_call_type "set" [.ref l] []) rfl]
  have not_type := F.called_set.notType
  have can_create := F.called_set.canCreate
  have type_call := F.typeCall_set_1 (.ref l)
  repeat (any_goals (first | assumption | wp_step))
  refine codeAny_mono (code_set_led1 (.ref l) (E := E) (Q₁ := fun obj st => obj = .ref s.heap.objs.size ∧ st = { s with heap := s.heap.push (set0 w) }) ⟨rfl, rfl⟩) fun r st hr => ?_
  cases r with
  | error e => exact hr
  | ok fl =>
    cases fl with
    | ret obj =>
      obtain ⟨rfl, rfl⟩ := hr
      have at_set : (s.heap.push (set0 w)).get? s.heap.objs.size = some (set0 w) := Heap.get?_push_size _ rfl
      have is_set : Shared.TypeIs { s with heap := s.heap.push (set0 w) } (.ref s.heap.objs.size) "set" := ⟨_, at_set, rfl⟩
      have init_look := F.called_set.init.lookup
      have init_bind := F.called_set.init.bind (.ref s.heap.objs.size)
      repeat (any_goals (first | assumption | wp_step))
      refine codeAny_mono (codeAny_call_builtin (R := wants (fun r t => r = .none ∧ ∃ h' tk c, t = { s with heap := h', toks := tk } ∧ SetX P w h' s.heap.objs.size (fun j => decide (j ∈ ns)) c ∧
        c ≤ ns.length ∧ (∀ b o, s.heap.get? b = some o → h'.get? b = some o)) E) F.called_set.init.plain F.entry_set_init (check_set_init_1 is_set ?_)) fun r₂ s₂ hr₂ => ?_
      · obtain ⟨ol, hol, hcl, nl, hdl⟩ := hl
        obtain ⟨ocls, odict, odata, oslots⟩ := ol
        simp only at hcl hdl
        subst hcl
        subst hdl
        have hol' : (s.heap.push (set0 w)).get? l = some { cls := .type "list", dict := odict, data := .seq items nl, slots := oslots } := Heap.get?_push_of_some _ hol
        have no_set := F.sub_list_set
        have no_frozen := F.sub_list_frozenset
        have no_dict : (Value.type "list" == Value.type "dict") = false := by decide
        have list1 : (s.heap.push (set0 w)).IsList l items := ⟨_, hol', rfl, nl, rfl⟩
        unfold Builtin.«set.__init__» noKeywords Builtin.Frozenset.updateFrom
        generalize iter_is : pyIter = PI
        wp_walk
        subst iter_is
        refine wpAny_pyIter_list list1 ?_
        refine wpAny_bind (wpAny_runValue ?_)
        have l_old : l < s.heap.objs.size := Heap.lt_size hol
        have calm3 : A.in1.in1.in1.handled = none := by simp [hh]
        have next_is : (s.heap.push (set0 w)).objs.size = s.heap.objs.size + 1 := Heap.size_push ..
        have l_ne : l ≠ (s.heap.push (set0 w)).objs.size := by
          rw [next_is]
          exact Nat.ne_of_lt (Nat.lt_succ_of_lt l_old)
        have off : s.heap.objs.size ∉ [(s.heap.push (set0 w)).objs.size, l] := by
          rw [next_is]
          simp only [List.mem_cons, List.not_mem_nil, or_false, not_or]
          exact ⟨Nat.ne_of_lt (Nat.lt_succ_self _), Nat.ne_of_gt l_old⟩
        have vals : ∀ (i : Nat) (v : Value), items[i]? = some v → ∃ k t, ns[i]? = some k ∧ v = .str k t := fun i v hv => by
          have lt : i < ns.length := by
            rw [← size_eq]
            exact (Array.getElem?_eq_some_iff.mp hv).1
          have hk : (ns.map V.str)[i]? = some (V.str ns[i]) := by rw [List.getElem?_map, List.getElem?_eq_getElem lt]; rfl
          obtain ⟨u, hu, r⟩ := hit.get hk
          rw [Array.getElem?_toList, hv] at hu
          cases hu
          obtain ⟨t, e⟩ := (show ∃ t, v = Value.str ns[i] t from r)
          exact ⟨ns[i], t, List.getElem?_eq_getElem lt, e⟩
        refine set_update_strs ((Walks.list calm3 _ l l_ne items).toS) s.heap.objs.size off ns size_eq hb vals (items.size - 0) 0 _ (by omega) (Nat.zero_le _) ⟨⟨_, Heap.get?_push_size _ rfl, rfl, rfl⟩, (list1.push _)⟩ ?start ?done
        case start =>
          refine ⟨0, Nat.le_refl 0, setX_new_at ?_⟩
          exact Heap.get?_push_of_some _ at_set
        case done =>
          intro s' c' hm hc' hS'
          obtain ⟨h', g2, d', tk', os'⟩ := s'
          have eg : g2 = s.gens := hm.gens
          have ed : d' = s.drawn := hm.drawn
          have eo : os' = s.os := hm.os
          subst eg
          subst ed
          subst eo
          show wpAny _ _ _ _ _ _
          refine wpAny_pure ?_
          show wpAny _ _ (ret Value.none) _ _ _
          rw [size_eq] at hc'
          refine wpAny_pure ⟨rfl, h', tk', c', rfl, hS', hc', fun b o e => ?_⟩
          have old := Heap.lt_size e
          refine hm.heap b o ?_ (Heap.get?_push_of_some _ (Heap.get?_push_of_some _ e))
          rw [next_is]
          simp only [List.mem_cons, List.not_mem_nil, or_false, not_or]
          exact ⟨Nat.ne_of_lt old, Nat.ne_of_lt (Nat.lt_succ_of_lt old)⟩
      · cases r₂ with
        | error e => exact hr₂
        | ok fl₂ =>
          cases fl₂ with
          | ret r =>
            obtain ⟨rfl, h', tk, c', rfl, hS', hc', hk'⟩ := hr₂
            repeat (any_goals (first | assumption | wp_step))
            exact h _ _ _ hS' hc' hk'
          | _ => exact hr₂.elim
    | _ => exact hr.elim
/-- set(xs): xs a list of texts -/
def rSetStrs (K : PySem.W.Frag) (P : Program) (w : World) : List V → Hp → VK → Prop := fun xs H Q => ∃ (a : Addr) (ns : List Str), xs = [.ref a] ∧ SqL K H a (ns.map V.str) ∧ ns.length ≤ 1000 ∧
  ∀ p c, H p = none → (∀ U : List Str, (∀ x ∈ ns, x ∈ U) → c ≤ U.length) → Q (.ref p) (upd H p (SetXO P w p (fun j => decide (j ∈ ns)) c))
theorem cr_setStrs {X : Cx} (hc : X.calm = true) : CallR X (.type "set") (rSetStrs X.K X.prog X.w) := by
  intro pins s σ H vs us Q I r h
  obtain ⟨a, ns, rfl, hq, hl, q⟩ := h
  rw [Vals.ref1 r]
  have few : ns.length + 1 < scanBound := by unfold scanBound; omega
  have fresh : H s.heap.objs.size = none := I.hok.fresh (Nat.le_refl _)
  obtain ⟨its, r, pl, hz⟩ := I.list hq
  exact set_of_listS ns (I.ok.hd hc) pl.isList (by simpa using r) few fun h' tk c hS hle keep =>
    ⟨.ref s.heap.objs.size, upd H s.heap.objs.size (SetXO X.prog X.w s.heap.objs.size (fun j => decide (j ∈ ns)) c), I.laid (t' := tk) keep (Nat.le_refl _) (setXO_new hS), rfl, q _ _ fresh fun U hU => by
      obtain ⟨o, es, ep, t, _, _, _, _, _, nd, hm, _, _, hn, _⟩ := hS
      have h1 := sub_len (M := U) nd fun e he => hU e (of_decide_eq_true ((hm e).mpr he))
      rw [List.length_map, Array.length_toList, hn] at h1
      exact h1⟩
-- part maxd
/-! max(xs, default=d), xs a list of ints -/
section
open PySem.W PySem.SeqAt
theorem foldl_max_le (l : List Int) : ∀ n : Int, n ≤ l.foldl max n ∧ ∀ y ∈ l, y ≤ l.foldl max n := by
  induction l with
  | nil => exact fun n => ⟨Int.le_refl n, fun y h => nomatch h⟩
  | cons a l ih =>
    intro n
    obtain ⟨h1, h2⟩ := ih (max n a)
    refine ⟨Int.le_trans (Int.le_max_left n a) h1, fun y hy => ?_⟩
    rcases List.mem_cons.mp hy with rfl | hy
    · exact Int.le_trans (Int.le_max_right n _) h1
    · exact h2 y hy
theorem foldl_max_mem (l : List Int) : ∀ n : Int, l.foldl max n ∈ n :: l := by
  induction l with
  | nil => exact fun n => List.mem_cons_self
  | cons a l ih =>
    intro n
    have h := ih (max n a)
    show l.foldl max (max n a) ∈ n :: a :: l
    rcases List.mem_cons.mp h with h | h
    · rw [h]
      rcases Int.le_total n a with c | c
      · rw [Int.max_eq_right c]; exact List.mem_cons_of_mem _ List.mem_cons_self
      · rw [Int.max_eq_left c]; exact List.mem_cons_self
    · exact List.mem_cons_of_mem _ (List.mem_cons_of_mem _ h)
theorem reads_ints {h : Heap} : ∀ {k : List Int} {us : List Value}, Vals (k.map V.int) us → ∃ as, ReadsAll h us (k.map PyData.int) as
  | [], us, r => by
    cases r
    exact ⟨[], .nil⟩
  | x :: k, us, r => by
    cases r with
    | cons r1 r2 =>
      obtain ⟨as, ra⟩ := reads_ints (h := h) r2
      obtain ⟨t, rfl⟩ := r1
      exact ⟨_, .cons (.int x t) ra⟩
theorem alike_ints (l : List Int) : AlikeAll (l.map PyData.int) := by
  refine ⟨fun x hx y hy => ?_, fun x hx => ?_⟩
  · obtain ⟨a, _, rfl⟩ := List.mem_map.mp hx
    obtain ⟨b, _, rfl⟩ := List.mem_map.mp hy
    simp [PySem.W.alike]
  · obtain ⟨a, _, rfl⟩ := List.mem_map.mp hx
    exact fun h => nomatch h
end
def maxDf (ns : List Int) (d : Int) : Int := match ns with
  | [] => d
  | n :: l => l.foldl max n
def rMaxDf (K : PySem.W.Frag) : List V → List V → Hp → VK → Prop := fun xs zs H Q => ∃ (a : Addr) (ns : List Int) (d : Int), xs = [.ref a] ∧ zs = [.int d] ∧ SqL K H a (ns.map V.int) ∧ Q (.int (maxDf ns d)) H
theorem cr_maxDf {X : Cx} {K : PySem.W.Frag} {j : Nat} (hK : X.K = K) (hc : X.calm = true) (hr : Room j X.A) : CallRK X (.builtin "max") [Str.ofString "default"] (rMaxDf K) := by
  subst hK
  intro pins s σ H vs zs us ws Q I r rz h
  obtain ⟨a, ns, d, rfl, rfl, hs, q⟩ := h
  obtain rfl := Vals.ref1 r
  obtain ⟨w1, rfl, e1⟩ := vals1 rz
  obtain ⟨tk0, rfl⟩ := (show ∃ t, w1 = Value.int d t from e1)
  obtain ⟨its, rv, hl, _⟩ := I.list hs
  obtain ⟨as, ra⟩ := reads_ints (h := s.heap) rv
  have hu := hr.un
  refine PySem.W.max_list_default (I.ok.hd hc) hl.isList (by simpa using ra) (alike_ints ns) (by rw [depth_ints]; omega) (fun e h' tk hk => ?_) (fun y ys i v h' tk bs e hv rd hk => ?_)
  · have : ns = [] := List.map_eq_nil_iff.mp e
    subst this
    exact ⟨.int d, H, I.kept hk, ⟨_, rfl⟩, q⟩
  · cases ns with
    | nil => cases e
    | cons n l =>
      rw [List.map_cons] at e
      injection e with e1 e2
      subst e1 e2
      rw [PySem.W.maxD_ints] at rd
      cases rd
      exact ⟨.int _, H, I.kept hk, ⟨_, rfl⟩, q⟩
-- part mnstr
/-! the text of a Many -/
def canon (L : FS) : FS := L.mergeSort (PySem.W.dataLe false encR)
theorem canon_perm (L : FS) : (canon L).Perm L := sortR_perm L
theorem canon_keys {L : FS} (nd : (L.map (·.1)).Nodup) : (L.map (·.1)).mergeSort (PySem.W.dataLe false encK) = (canon L).map (·.1) :=
  (sortK_uniq ((canon_perm L).map (·.1)) (List.pairwise_map.mpr (sortR_srt nd))).symm
def rowT (b : List Str × Int) : Str := Txt.join " " (numI b.2 :: b.1)
def txT (bs : FS) : Str := if bs = [] then "0" else Txt.join " + " (bs.map rowT)
/-- sizes under which a text is made -/
structure TxOk (L : FS) : Prop where
  len : L.length ≤ 100
  nums : ∀ e ∈ L, e.2.natAbs.log2 < 1900
  few : ∀ e ∈ L, e.1.length ≤ 20
  nms : ∀ e ∈ L, ∀ x ∈ e.1, x.length ≤ 20
theorem join_len (sep : Str) (ys : List Str) : (Txt.join sep ys).length ≤ (ys.map (·.length)).sum + ys.length * sep.length := by
  rw [TL.join_eq]
  exact StrLaws.join_length_le sep ys
theorem sum_leS {k : Nat} : ∀ {ys : List Str}, (∀ y ∈ ys, y.length ≤ k) → (ys.map (·.length)).sum ≤ ys.length * k
  | [], _ => Nat.zero_le _
  | y :: ys, h => by
    have h1 := h y List.mem_cons_self
    have h2 := sum_leS (k := k) (ys := ys) fun z hz => h z (List.mem_cons_of_mem _ hz)
    rw [List.map_cons, List.sum_cons, List.length_cons, Nat.succ_mul]
    omega
theorem row_parts {L : FS} (t : TxOk L) {e : List Str × Int} (h : e ∈ L) : ((numI e.2 :: e.1).map (·.length)).sum + (numI e.2 :: e.1).length * (" " : Str).length ≤ 2400 := by
  have e1 : (" " : Str).length = 1 := by decide +kernel
  have h1 := str_fit (t.nums e h)
  have h2 := sum_leS (k := 20) (t.nms e h)
  have h3 := t.few e h
  have h4 : e.1.length * 20 ≤ 20 * 20 := Nat.mul_le_mul_right 20 h3
  rw [e1, List.map_cons, List.sum_cons, List.length_cons]
  show (numI e.2).length + _ + _ ≤ _
  have h5 : (numI e.2).length ≤ 1921 := h1
  omega
theorem rows_fit {L : FS} (t : TxOk L) : ((L.map rowT).map (·.length)).sum + (L.map rowT).length * (" + " : Str).length ≤ 16777216 := by
  have e1 : (" + " : Str).length = 3 := by decide +kernel
  have h := sum_leS (k := 2400) (ys := L.map rowT) fun y hy => by
    obtain ⟨e, he, rfl⟩ := List.mem_map.mp hy
    exact Nat.le_trans (join_len _ _) (row_parts t he)
  rw [List.length_map] at h
  rw [e1, List.length_map]
  have h2 := Nat.mul_le_mul_right 2400 t.len
  have h3 := t.len
  omega
theorem TxOk.perm {L M : FS} (p : M.Perm L) (t : TxOk L) : TxOk M := ⟨by rw [p.length_eq]; exact t.len, fun e h => t.nums e (p.mem_iff.mp h), fun e h => t.few e (p.mem_iff.mp h), fun e h => t.nms e (p.mem_iff.mp h)⟩
abbrev s_mnstr : Stmt := inClass (top 10) 8
theorem sc_mnstr : FnScope ["self", "names"] ["self"] (defScope s_mnstr) := ⟨rfl, rfl, rfl, by decide +kernel, rfl, by decide +kernel, by decide +kernel⟩
def spMnStr (C : Addr) : Sp := fun vs H Q _ => ∃ (a : Addr) (L : FS), vs = [.ref a] ∧ ManyAt C H a L ∧ TxOk L ∧ ∀ H', Same H H' → Q (.str (txT (canon L))) H'
theorem ok_mnstr {f C : Addr} {fd : FuncData} (TT : Txt mg) (T : ManyT K mg C) (F : Fun K "__str__" "Many.__str__" s_mnstr f fd) (c_writ : Cl P w K mg base CX0 1 "written" spWrit) : FnOk P w K mg base CX0 2 f fd ["self"] (spMnStr C) := by
  refine F.ok sc_mnstr (fun vs H Q E h => ?_) (fun cdv A outer s H vs Q E hr h => ?_)
  · obtain ⟨a, L, rfl, _⟩ := h
    rfl
  · obtain ⟨a, L, rfl, ma, tx, q⟩ := h
    obtain ⟨dx, d, h1, h2⟩ := ma.ob
    refine ⟨_, (pss_cons (ps_if (pt_not (pt_own (pe_fld (pv 0) rfl) tru_dT)) (pss_one (ps_ret pe_str)) pss_nil)
 (pss_one (ps_ret (pe_join pe_str (pe_lc (own := [("names", 1)]) (g := (gName 1)) (tt := tYes) rfl sc_mnstr.nd (pi_list (pe_callB (cr_sortKeys rfl hr) (by rfl) TT.sorted boot_sorted (pa_cons (pe_fld (pv 0) rfl) pa_nil))) (blkOk_by (N := ["self", "names"]) (sc := defScope s_mnstr) (by decide +kernel)) (fun _ _ _ _ _ => (pg_name (i := 1) sc_mnstr.nd rfl (Or.inl rfl))) (fun _ _ _ _ _ => pts_nil) (fun _ _ _ _ _ => (pe_joinK (K := K) rfl pe_str (pe_lst (pa_cons (pe_cl c_writ (by exact hr) (pa_cons (pe_dget (by exact hu1 hr) (pe_fldK (K := K) rfl (pv 0) rfl) (pv 1) (fun _ _ => rfl)) pa_nil)) (pa_starK (K := K) rfl (pv 1) pa_nil)))))))))), ?_⟩
    refine ⟨_, rfl, a, C, dx, _, _, rfl, h1, T.cl, T.nT, mn_t _, d, _, rfl, h2, ?_⟩
    rw [show (!(tmV L).isEmpty) = !L.isEmpty by cases L <;> rfl]
    by_cases c : L = []
    · subst c
      have e0 : canon [] = [] := List.mergeSort_nil
      have e : txT (canon []) = "0" := by rw [e0]; rfl
      rw [e] at q
      exact if_pos_of rfl (q H (Same.refl H))
    have cne : L.isEmpty = false := by cases L with | nil => exact absurd rfl c | cons _ _ => rfl
    refine if_neg_of (by rw [cne]; rfl) ?_
    have pm := canon_perm L
    have eT : txT (canon L) = Txt.join " + " ((canon L).map rowT) := if_neg fun z => c (List.length_eq_zero_iff.mp (by rw [← pm.length_eq, z]; rfl))
    refine ⟨⟨_, rfl⟩, _, rfl, a, C, dx, _, _, rfl, h1, T.cl, T.nT, mn_t _, d, tmV L, L.map (·.1), rfl, h2, (by unfold tmV; rw [List.map_map, List.map_map]; rfl), fun p us np keys => ?_⟩
    rw [canon_keys ma.ok.gd.nd] at keys
    have s1 := same_upd (o := .lst us) np
    have keys := keys.same s1
    generalize hH1 : upd H p (.lst us) = H1 at s1 keys
    have hp : H1 p = some (.lst us) := by rw [← hH1]; exact upd_same
    have lu : us.length = (canon L).length := by rw [keys.1, List.length_map]
    have h1 := s1 _ _ h1
    have h2 := s1 _ _ h2
    refine ⟨p, rfl, ⟨us, SqL.of hp⟩, fun D nD => lcMap walk_list (((canon L).map rowT).map V.str) (by rw [List.length_map, List.length_map, lu]) nD (fun G s => SqL.of (s _ _ hp)) ?_ ?_⟩
    · rintro i x _ G hi s2 hD ⟨rfl, hx⟩
      obtain ⟨e, he⟩ : ∃ e, (canon L)[i]? = some e := ⟨_, List.getElem?_eq_getElem (by rw [← lu]; exact hi)⟩
      have hk : ((canon L).map (·.1))[i]? = some e.1 := by rw [List.getElem?_map, he]; rfl
      obtain ⟨v, hv, q1, rfl, hq1⟩ := keys.2 i e.1 hk
      obtain rfl := Option.some.inj (hx.symm.trans hv)
      have mem : e ∈ L := pm.mem_iff.mp (List.mem_of_getElem? he)
      have hq1 := s2 _ _ hq1
      have look : DGet G d (.ref q1) (some (.int e.2)) := by
        have hv : valV (tmV L) (kT e.1) = some (.int e.2) := by rw [tm_val, lkS_mem ma.ok.gd.nd mem]; rfl
        rw [← hv]
        exact .inr ⟨_, kT e.1, q1, .inl (s2 _ _ h2), rfl, by rw [kT_V]; exact hq1, rfl⟩
      refine ⟨rfl, ⟨_, rfl⟩, _, rfl, a, C, dx, _, _, rfl, s2 _ _ h1, T.cl, T.nT, mn_t _, _, rfl, d, _, rfl, look, e.2, rfl, tx.nums e mem, fun G1 g1 => ?_⟩
      have hq1 := g1 _ _ hq1
      refine ⟨_, rfl, q1, _, rfl, .inl (SqT.of hq1), ?_⟩
      refine ⟨by rw [List.append_nil, List.length_cons, List.length_map, sizeLine_eq]; have := tx.few e mem; omega, fun b nb => ?_⟩
      rw [List.append_nil]
      have g2 := g1.trans (same_upd (o := .lst (V.str (numI e.2) :: e.1.map V.str)) nb)
      have e16 := row_parts tx mem
      refine ⟨_, b, numI e.2 :: e.1, rfl, rfl, .inl (SqL.of upd_same), by omega, ?_⟩
      exact mapEnd nD (by rw [List.length_map, List.length_map, pm.length_eq]; have := tx.len; omega) (s2.trans g2) (g2 _ _ hD) (map_at (f := V.str) (by rw [List.getElem?_map, he] <;> rfl))
    · intro G s2 hD
      refine ⟨_, D, (canon L).map rowT, rfl, rfl, .inl (SqL.of hD), rows_fit (tx.perm pm), ?_⟩
      rw [← eT]
      exact q G (s1.trans s2)
-- part gathm
/-! gathered rows -/
def gath (bs : FS) : FS := bs.foldl (fun F b => putS F b.1 ((lkS F b.1).getD 0 + b.2)) []
theorem gath_snoc (bs : FS) (b : List Str × Int) : gath (bs ++ [b]) = putS (gath bs) b.1 ((lkS (gath bs) b.1).getD 0 + b.2) := by
  unfold gath
  rw [List.foldl_append]
  rfl
theorem gath_acc {d : Nat} (bs : FS) (h : ∀ b ∈ bs, b.1.Pairwise leN ∧ b.1.length ≤ d) : Acc d bs (gath bs) := by
  have key : ∀ n, n ≤ bs.length → Acc d (bs.take n) (gath (bs.take n)) := fun n => by
    induction n with
    | zero => intro _; rw [List.take_zero]; exact Acc.nil
    | succ n ih =>
      intro hn
      have he : bs[n]? = some bs[n] := List.getElem?_eq_getElem hn
      rw [take_snoc he, gath_snoc]
      obtain ⟨h1, h2⟩ := h _ (List.mem_of_getElem? he)
      exact (ih (by omega)).step _ h1 h2
  have := key bs.length (Nat.le_refl _)
  rw [List.take_length] at this
  exact this
def idxs (F : FS) (k : List Str) : List Nat := (List.range F.length).filter fun i => decide ((F.map (·.1))[i]? = some k)
theorem idx_none {F : FS} {k : List Str} (h : lkS F k = none) : idxs F k = [] := by
  unfold idxs
  rw [List.filter_eq_nil_iff]
  intro i _ z
  exact lkS_none.mp h (List.mem_of_getElem? (of_decide_eq_true z))
theorem idx_some {F : FS} {k : List Str} {c : Int} (nd : (F.map (·.1)).Nodup) (h : lkS F k = some c) : ∃ j, idxs F k = [j] ∧ F[j]? = some (k, c) := by
  obtain ⟨j, hj⟩ := List.mem_iff_getElem?.mp (lkS_some h)
  refine ⟨j, ?_, hj⟩
  have hj2 : (F.map (·.1))[j]? = some k := by rw [List.getElem?_map, hj]; rfl
  have lt : j < F.length := (List.getElem?_eq_some_iff.mp hj).1
  have all : ∀ i, i < F.length → (decide ((F.map (·.1))[i]? = some k) = true ↔ i = j) := fun i hi => by
    rw [decide_eq_true_iff]
    constructor
    · intro e
      exact (List.getElem?_inj (by rw [List.length_map]; exact hi) nd).mp (e.trans hj2.symm)
    · rintro rfl
      exact hj2
  unfold idxs
  have fc : (List.range F.length).filter (fun i => decide ((F.map (·.1))[i]? = some k)) = (List.range F.length).filter (fun i => i == j) := List.filter_congr fun i hi => by
    have := all i (List.mem_range.mp hi)
    cases e : decide ((F.map (·.1))[i]? = some k) with
    | true => rw [(all i (List.mem_range.mp hi)).mp e]; exact (beq_self_eq_true j).symm
    | false =>
      refine (beq_eq_false_iff_ne.mpr fun z => ?_).symm
      rw [(all i (List.mem_range.mp hi)).mpr z] at e
      cases e
  rw [fc]
  have : (List.range F.length).filter (fun i => i == j) = List.replicate ((List.range F.length).count j) j := List.filter_beq j
  rw [this, List.nodup_range.count, if_pos (List.mem_range.mpr lt)]
  rfl
theorem put_new {F : FS} {k : List Str} {c : Int} (h : lkS F k = none) : putS F k c = F ++ [(k, c)] := putS_new (lkS_none.mp h)
theorem put_set {F : FS} {k : List Str} {c0 c : Int} {j : Nat} (nd : (F.map (·.1)).Nodup) (hj : F[j]? = some (k, c0)) : putS F k c = F.set j (k, c) := by
  unfold putS
  rw [if_pos (by rw [lkS_mem nd (List.mem_of_getElem? hj)]; rfl)]
  have hj2 : (F.map (·.1))[j]? = some k := by rw [List.getElem?_map, hj]; rfl
  refine List.ext_getElem? fun i => ?_
  rw [List.getElem?_map, List.getElem?_set]
  by_cases c2 : j = i
  · subst c2
    rw [if_pos rfl, if_pos (List.getElem?_eq_some_iff.mp hj).1, hj]
    show some (if k = k then (k, c) else (k, c0)) = _
    rw [if_pos rfl]
  · rw [if_neg c2]
    cases e : F[i]? with
    | none => rfl
    | some f =>
      show some (if f.1 = k then (f.1, c) else f) = some f
      rw [if_neg fun z => ?_]
      have hi : (F.map (·.1))[i]? = some k := by rw [List.getElem?_map, e]; exact congrArg some z
      exact c2 ((List.getElem?_inj (by rw [List.length_map]; exact (List.getElem?_eq_some_iff.mp hj).1) nd).mp (hj2.trans hi.symm))
/-- two polynomials of terms that are equal: the same terms -/
theorem terms_perm {L M : FS} (tl : Terms L) (tm : Terms M) (h : pol L = pol M) : L.Perm M := by
  have h := pol_eq.mp h
  have sub : ∀ {L M : FS}, Terms L → Terms M → (∀ m, cf L m = cf M m) → ∀ e ∈ L, lkS M e.1 = some e.2 := fun {L M} tl tm h e he => by
    have h1 := h e.1
    rw [cf_good tl.gd, cf_good tm.gd, lkS_mem tl.gd.nd he] at h1
    cases z : lkS M e.1 with
    | none =>
      rw [z] at h1
      exact absurd h1 (tl.nz e he)
    | some c =>
      rw [z] at h1
      have : e.2 = c := h1
      rw [this]
  obtain ⟨N, p⟩ := perm_of_sub (nodup_of_keys tl.gd.nd) fun e he => lkS_some (sub tl tm h e he)
  obtain ⟨N2, p2⟩ := perm_of_sub (nodup_of_keys tm.gd.nd) fun e he => lkS_some (sub tm tl (fun m => (h m).symm) e he)
  have l1 := p.length_eq
  have l2 := p2.length_eq
  rw [List.length_append] at l1 l2
  have : N = [] := List.length_eq_zero_iff.mp (by omega)
  rw [this, List.append_nil] at p
  exact p.symm
theorem canon_congr {L M : FS} (nd : (L.map (·.1)).Nodup) (h : L.Perm M) : canon L = canon M := by
  have nd2 : (M.map (·.1)).Nodup := (h.map (·.1)).nodup_iff.mp nd
  have key : ∀ {A B : FS}, A.Perm B → (A.map (·.1)).Nodup → (A.Pairwise fun b c => leK b.1 c.1 = true) → (B.Pairwise fun b c => leK b.1 c.1 = true) → A = B := fun {A B} p nd s1 s2 => by
    refine List.Perm.eq_of_pairwise (le := fun b c => leK b.1 c.1 = true) (fun a b ha hb h1 h2 => ?_) s1 s2 p
    have e1 : a.1 = b.1 := leK_anti h1 h2
    obtain ⟨i, hi⟩ := List.mem_iff_getElem?.mp ha
    obtain ⟨j, hj⟩ := List.mem_iff_getElem?.mp (p.mem_iff.mpr hb)
    have ei : (A.map (·.1))[i]? = some a.1 := by rw [List.getElem?_map, hi]; rfl
    have ej : (A.map (·.1))[j]? = some b.1 := by rw [List.getElem?_map, hj]; rfl
    have : i = j := (List.getElem?_inj (by rw [List.length_map]; exact (List.getElem?_eq_some_iff.mp hi).1) nd).mp (by rw [ei, ej, e1])
    subst this
    rw [hi] at hj
    exact Option.some.inj hj
  refine key ((canon_perm L).trans (h.trans (canon_perm M).symm)) ?_ (sortR_srt nd) (sortR_srt nd2)
  exact ((canon_perm L).map (·.1)).nodup_iff.mpr nd
/-- the rows that the law gathers -/
def gathT (bs : FS) : FS := canon (nzS (gath bs))
theorem gathT_terms {bs : FS} {d : Nat} (h : ∀ b ∈ bs, b.1.Pairwise leN ∧ b.1.length ≤ d) : Terms (gathT bs) := by
  have t : Terms (nzS (gath bs)) := Terms.of (gath_acc bs h).gd
  have p := canon_perm (nzS (gath bs))
  exact ⟨⟨(p.map (·.1)).nodup_iff.mpr t.gd.nd, fun e he => t.gd.st e (p.mem_iff.mp he)⟩, fun e he => t.nz e (p.mem_iff.mp he)⟩
theorem pol_perm {A B : FS} (h : A.Perm B) : pol A = pol B := pol_eq.mpr (cf_perm h)
theorem gathT_pol {bs : FS} {d : Nat} (h : ∀ b ∈ bs, b.1.Pairwise leN ∧ b.1.length ≤ d) : pol (gathT bs) = pol bs := by
  unfold gathT
  rw [pol_perm (canon_perm _), pol_nz, (gath_acc bs h).eq]
theorem gathT_sz {bs : FS} {d : Nat} (h : ∀ b ∈ bs, b.1.Pairwise leN ∧ b.1.length ≤ d) : Sz d bs.length (nrm bs) (gathT bs) := by
  have z := (gath_acc bs h).sz.nz
  have p := canon_perm (nzS (gath bs))
  have nrmP : ∀ {A B : FS}, A.Perm B → nrm A = nrm B := fun {A B} p => by
    induction p with
    | nil => rfl
    | cons e _ ih => show _ + _ = _ + _; rw [ih]
    | swap e f l => show _ + (_ + _) = _ + (_ + _); omega
    | trans _ _ h1 h2 => exact h1.trans h2
  exact ⟨by unfold gathT; rw [p.length_eq]; exact z.len, fun e he => z.it e (p.mem_iff.mp he), by unfold gathT; rw [nrmP p]; exact z.nm⟩
/-- a text of terms is a text of their polynomial -/
theorem text_eq {L M : FS} (tl : Terms L) (tm : Terms M) (h : pol L = pol M) : canon L = canon M := canon_congr tl.gd.nd (terms_perm tl tm h)
theorem gath_keys (bs : FS) : ∀ e ∈ gath bs, ∃ b ∈ bs, e.1 = b.1 := by
  have key : ∀ n, n ≤ bs.length → ∀ e ∈ gath (bs.take n), ∃ b ∈ bs, e.1 = b.1 := fun n => by
    induction n with
    | zero => intro _ e he; rw [List.take_zero] at he; cases he
    | succ n ih =>
      intro hn e he
      have hb : bs[n]? = some bs[n] := List.getElem?_eq_getElem hn
      rw [take_snoc hb, gath_snoc] at he
      rcases put_mem he with rfl | h
      · exact ⟨_, List.mem_of_getElem? hb, rfl⟩
      · exact ih (by omega) e h
  have := key bs.length (Nat.le_refl _)
  rw [List.take_length] at this
  exact this
-- part k71a
/-! the law's rows -/
theorem RowAt.mk {H : Hp} {r q : Addr} {b : List Str × Int} (h1 : H r = some (.lst [.ref q, .int b.2])) (h2 : H q = some (.lst (b.1.map V.str))) : RowAt H (.ref r) b := ⟨r, q, rfl, h1, h2⟩
/-- each of a row of values stands for its partner -/
def AllS {α : Type} (S : V → α → Prop) (us : List V) (bs : List α) : Prop := us.length = bs.length ∧ ∀ (i : Nat) b, bs[i]? = some b → ∃ v, us[i]? = some v ∧ S v b
section
variable {α : Type} {S S' : V → α → Prop} {us : List V} {bs : List α} {v : V} {b : α}
theorem AllS.nil : AllS S [] [] := ⟨rfl, fun i b h => by cases h⟩
theorem AllS.snoc (h : AllS S us bs) (hv : S v b) : AllS S (us ++ [v]) (bs ++ [b]) := by
  refine ⟨by rw [List.length_append, List.length_append, h.1]; rfl, fun i c hc => ?_⟩
  by_cases z : i < bs.length
  · rw [List.getElem?_append_left z] at hc
    obtain ⟨u, h1, h2⟩ := h.2 i c hc
    exact ⟨u, by rw [List.getElem?_append_left (by rw [h.1]; exact z)]; exact h1, h2⟩
  · have hi := (List.getElem?_eq_some_iff.mp hc).1
    rw [List.length_append] at hi
    have e : i = bs.length := by
      have : [b].length = 1 := rfl
      omega
    subst e
    rw [List.getElem?_append_right (Nat.le_refl _), Nat.sub_self] at hc
    cases hc
    exact ⟨v, by rw [← h.1, List.getElem?_append_right (Nat.le_refl _), Nat.sub_self]; rfl, hv⟩
theorem AllS.set {j : Nat} (h : AllS S us bs) (hv : S v b) : AllS S (us.set j v) (bs.set j b) := by
  refine ⟨by rw [List.length_set, List.length_set, h.1], fun i c hc => ?_⟩
  rw [List.getElem?_set] at hc ⊢
  by_cases z : j = i
  · rw [if_pos z] at hc ⊢
    by_cases l : j < bs.length
    · rw [if_pos l] at hc
      rw [if_pos (by rw [h.1]; exact l)]
      cases hc
      exact ⟨v, rfl, hv⟩
    · rw [if_neg l] at hc
      cases hc
  · rw [if_neg z] at hc ⊢
    exact h.2 i c hc
theorem AllS.get {i : Nat} (h : AllS S us bs) (hv : us[i]? = some v) : ∃ b, bs[i]? = some b ∧ S v b := by
  have hi : i < bs.length := by rw [← h.1]; exact (List.getElem?_eq_some_iff.mp hv).1
  obtain ⟨u, h1, h2⟩ := h.2 i bs[i] (List.getElem?_eq_getElem hi)
  rw [hv] at h1
  cases h1
  exact ⟨_, List.getElem?_eq_getElem hi, h2⟩
theorem AllS.mono (h : AllS S us bs) (k : ∀ v b, b ∈ bs → S v b → S' v b) : AllS S' us bs := ⟨h.1, fun i b hb => by
  obtain ⟨v, h1, h2⟩ := h.2 i b hb
  exact ⟨v, h1, k v b (List.mem_of_getElem? hb) h2⟩⟩
end
theorem RowsAt.get {H : Hp} {us : List V} {bs : FS} {i : Nat} {v : V} (h : RowsAt H us bs) (hv : us[i]? = some v) : ∃ b, bs[i]? = some b ∧ RowAt H v b := AllS.get h hv
/-- a row apart from the object l -/
def RowN (l : Addr) (H : Hp) (v : V) (b : List Str × Int) : Prop := ∃ r q, v = .ref r ∧ r ≠ l ∧ q ≠ l ∧ H r = some (.lst [.ref q, .int b.2]) ∧ H q = some (.lst (b.1.map V.str))
theorem RowN.same {l : Addr} {H H' : Hp} {v : V} {b : List Str × Int} (h : RowN l H v b) (s : Same H H') : RowN l H' v b := by
  obtain ⟨r, q, e, n1, n2, h1, h2⟩ := h
  exact ⟨r, q, e, n1, n2, s _ _ h1, s _ _ h2⟩
theorem RowN.upd {l : Addr} {H : Hp} {v : V} {b : List Str × Int} {o : HO} (h : RowN l H v b) : RowN l (upd H l o) v b := by
  obtain ⟨r, q, e, n1, n2, h1, h2⟩ := h
  exact ⟨r, q, e, n1, n2, by rw [upd_ne n1]; exact h1, by rw [upd_ne n2]; exact h2⟩
theorem RowN.row {l : Addr} {H : Hp} {v : V} {b : List Str × Int} (h : RowN l H v b) : RowAt H v b := by
  obtain ⟨r, q, e, n1, n2, h1, h2⟩ := h
  exact ⟨r, q, e, h1, h2⟩
abbrev RowsN (l : Addr) (H : Hp) (us : List V) (bs : FS) : Prop := AllS (RowN l H) us bs
theorem AllS.rows {l : Addr} {H : Hp} {us : List V} {bs : FS} (h : RowsN l H us bs) : RowsAt H us bs := AllS.mono h fun v b _ r => r.row
/-- sizes of rows -/
structure RowsOk (bs : FS) : Prop where
  len : bs.length ≤ 60
  st : ∀ b ∈ bs, b.1.Pairwise leN ∧ b.1.length ≤ 6
  nms : ∀ b ∈ bs, ∀ x ∈ b.1, x.length ≤ 20 ∧ PyData.strOk x = true
  nums : ∀ b ∈ bs, b.2.natAbs < 2 ^ 1200
abbrev s_ltext : Stmt := top 17
theorem sc_ltext : FnScope ["_law_terms_here", "_law_row", "_law_number"] ["_law_terms_here"] (defScope s_ltext) := ⟨rfl, rfl, rfl, by decide +kernel, rfl, by decide +kernel, by decide +kernel⟩
def spLtext : Sp := fun vs H Q _ => ∃ (t : Addr) (us : List V) (bs : FS), vs = [.ref t] ∧ H t = some (.lst us) ∧ RowsAt H us bs ∧ TxOk bs ∧ ∀ H', Same H H' → Q (.str (txT bs)) H'
theorem ok_ltext {f : Addr} {fd : FuncData} (TT : Txt mg) (F : Fun K "_law_text" "_law_text" s_ltext f fd) : FnOk P w K mg base CX0 1 f fd ["_law_terms_here"] spLtext := by
  refine F.ok sc_ltext (fun vs H Q E h => ?_) (fun cdv A outer s H vs Q E hr h => ?_)
  · obtain ⟨t, _, _, rfl, _⟩ := h
    rfl
  · obtain ⟨t, us, bs, rfl, ht, rows, tx, q⟩ := h
    refine ⟨_, (pss_cons (ps_if (pt_cmpR (op_eqNil hr) (pv 0) (pe_lst pa_nil) (nomark _)) (pss_one (ps_ret pe_str)) pss_nil)
 (pss_one (ps_ret (pe_join pe_str (pe_lc (own := [("_law_row", 1), ("_law_number", 2)]) (g := (gUnl K 2 (gCons (gName 1) (gCons (gName 2) gNil)))) (tt := tYes) rfl sc_ltext.nd (pi_list (pv 0)) (blkOk_by (N := ["_law_terms_here", "_law_row", "_law_number"]) (sc := defScope s_ltext) (by decide +kernel)) (fun _ _ _ _ _ => (pg_unl rfl (pgs_cons (pg_name (i := 1) sc_ltext.nd rfl (Or.inl rfl)) (pgs_cons (pg_name (i := 2) sc_ltext.nd rfl (Or.inl rfl)) pgs_nil)))) (fun _ _ _ _ _ => pts_nil) (fun _ _ _ _ _ => (pe_joinK (K := K) rfl pe_str (pe_op op_cat (pe_lst (pa_cons (pe_callTy call_str_int (by rfl) TT.str boot_str (pa_cons (pv 2) pa_nil)) pa_nil)) (pv 1))))))))), ?_⟩
    refine ⟨_, rfl, Nat.zero_le _, fun p np => ?_⟩
    have s1 := same_upd (o := .lst []) np
    have ht := s1 _ _ ht
    have rows := rows.same s1
    refine ⟨t, p, us, rfl, rfl, SqL.of ht, SqL.of upd_same, _, rfl, ?_⟩
    generalize hH1 : upd H p (.lst []) = H1 at s1 ht rows
    have lu := rows.1
    by_cases c : bs = []
    · subst c
      have e : us = [] := List.length_eq_zero_iff.mp lu
      subst e
      exact if_pos_of rfl (q H1 s1)
    have cne : us.isEmpty = false := by
      cases us with
      | nil => exact absurd (List.length_eq_zero_iff.mp lu.symm) c
      | cons _ _ => rfl
    refine if_neg_of cne ?_
    have eT : txT bs = Txt.join " + " (bs.map rowT) := if_neg c
    refine ⟨⟨_, rfl⟩, _, rfl, t, rfl, ⟨us, SqL.of ht⟩, fun D nD => lcMap walk_list ((bs.map rowT).map V.str) (by rw [List.length_map, List.length_map, lu]) nD (fun G s => SqL.of (s _ _ ht)) ?_ ?_⟩
    · rintro i x _ G hi s2 hD ⟨rfl, hx⟩
      obtain ⟨b, hb, r, q1, rfl, hr1, hq1⟩ := rows.get hx
      have mem := List.mem_of_getElem? hb
      have hr1 := s2 _ _ hr1
      have hq1 := s2 _ _ hq1
      refine ⟨r, _, rfl, SqL.of hr1, rfl, _, _, rfl, _, _, rfl, rfl, rfl, ⟨_, rfl⟩, ?_⟩
      have l2 := tx.nums b mem
      have fw := tx.few b mem
      refine ⟨_, rfl, b.2, rfl, by omega, (by show 1 ≤ sizeLine; decide), fun b1 nb1 => ⟨_, rfl, ?_⟩⟩
      have g1 := same_upd (o := .lst [V.str (numI b.2)]) nb1
      refine ⟨b1, q1, _, _, rfl, rfl, upd_same, g1 _ _ hq1, by rw [List.length_map, sizeLine_eq]; show 1 + _ ≤ _; omega, fun b2 nb2 => ?_⟩
      have g2 := g1.trans (same_upd (o := .lst ([V.str (numI b.2)] ++ b.1.map V.str)) nb2)
      have e16 := row_parts tx mem
      refine ⟨_, b2, numI b.2 :: b.1, rfl, rfl, .inl (SqL.of upd_same), by omega, ?_⟩
      exact mapEnd nD (by rw [List.length_map, List.length_map]; have := tx.len; omega) (s2.trans g2) (g2 _ _ hD) (map_at (f := V.str) (by rw [List.getElem?_map, hb] <;> rfl))
    · intro G s2 hD
      refine ⟨_, D, bs.map rowT, rfl, rfl, .inl (SqL.of hD), rows_fit tx, ?_⟩
      rw [← eT]
      exact q G (s1.trans s2)
-- part k71t
/-! the law's terms, apart from what stood -/
def U4 : List Str := ["x", "y", "z", "A1b2C3d4E5f6"]
structure TermsOk (bs : FS) : Prop where
  len : bs.length ≤ 5
  st : ∀ b ∈ bs, b.1.Pairwise leN ∧ b.1.length ≤ 3
  nms : ∀ b ∈ bs, ∀ x ∈ b.1, x ∈ U4
  nums : ∀ b ∈ bs, b.2.natAbs ≤ 10 ^ 21
theorem u4_ok : ∀ x ∈ U4, x.length ≤ 20 ∧ PyData.strOk x = true := by decide +kernel
theorem TermsOk.rows {bs : FS} (t : TermsOk bs) : RowsOk bs :=
  ⟨Nat.le_trans t.len (by decide), fun b h => ⟨(t.st b h).1, Nat.le_trans (t.st b h).2 (by decide)⟩, fun b h x hx => u4_ok x (t.nms b h x hx), fun b h => Nat.lt_of_le_of_lt (t.nums b h) (by decide)⟩
/-- a row apart from some objects -/
def RowX (X : Addr → Prop) (H : Hp) (v : V) (b : List Str × Int) : Prop := ∃ r q, v = .ref r ∧ ¬ X r ∧ ¬ X q ∧ H r = some (.lst [.ref q, .int b.2]) ∧ H q = some (.lst (b.1.map V.str))
theorem RowX.but {X : Addr → Prop} {H H' : Hp} {v : V} {b : List Str × Int} (h : RowX X H v b) (k : ∀ z o, ¬ X z → H z = some o → H' z = some o) : RowX X H' v b := by
  obtain ⟨r, q, e, n1, n2, h1, h2⟩ := h
  exact ⟨r, q, e, n1, n2, k _ _ n1 h1, k _ _ n2 h2⟩
theorem RowX.sub {X Y : Addr → Prop} {H : Hp} {v : V} {b : List Str × Int} (h : RowX X H v b) (k : ∀ z, Y z → X z) : RowX Y H v b := by
  obtain ⟨r, q, e, n1, n2, h1, h2⟩ := h
  exact ⟨r, q, e, fun y => n1 (k _ y), fun y => n2 (k _ y), h1, h2⟩
theorem RowsAt.rowX {X : Addr → Prop} {H : Hp} {us : List V} {bs : FS} (h : RowsAt H us bs) (k : ∀ z, X z → H z = none) : AllS (RowX X H) us bs := AllS.mono h fun v b _ ⟨r, q, e, h1, h2⟩ => ⟨r, q, e, (fun x => by rw [k _ x] at h1; cases h1), (fun x => by rw [k _ x] at h2; cases h2), h1, h2⟩
theorem RowX.row {X : Addr → Prop} {H : Hp} {v : V} {b : List Str × Int} (h : RowX X H v b) : RowAt H v b := by
  obtain ⟨r, q, e, n1, n2, h1, h2⟩ := h
  exact ⟨r, q, e, h1, h2⟩
abbrev s_lterms : Stmt := top 15
theorem sc_lterms : FnScope ["_law_pool_here", "_law_names", "_law_terms_here", "_law_k", "_law_row", "_law_count", "_law_factor", "_law_number"] ["_law_pool_here"] (defScope s_lterms) := ⟨rfl, rfl, rfl, by decide +kernel, rfl, by decide +kernel, by decide +kernel⟩
def spLtermsX : Sp := fun vs H Q _ => ∃ (p : Addr) (X : Addr → Prop), vs = [.ref p] ∧ PoolAt H p ∧ (∀ z, X z → ∃ o, H z = some o) ∧ ∀ r us bs H', SameBut p H H' → ¬ X r → H' r = some (.lst us) → AllS (RowX X H') us bs → TermsOk bs → Q (.ref r) H'
theorem ok_ltermsX {f : Addr} {fd : FuncData} (TT : Txt mg) (F : Fun K "_law_terms" "_law_terms" s_lterms f fd) (c_take : Cl P w K mg base CX0 1 "_law_take" spTake) : FnOk P w K mg base CX0 2 f fd ["_law_pool_here"] spLtermsX := by
  refine F.ok sc_lterms (fun vs H Q E h => ?_) (fun cdv A outer s H vs Q E hr h => ?_)
  · obtain ⟨p, _, rfl, _⟩ := h
    rfl
  · obtain ⟨p, X, rfl, pool, hX, q⟩ := h
    have frX : ∀ {G : Hp} {z : Addr}, SameBut p H G → z ≠ p → G z = none → ¬ X z := fun k n e x => by
      obtain ⟨o, ho⟩ := hX _ x
      rw [k _ _ n ho] at e
      cases e
    refine ⟨_, (pss_cons (ps_set (i := 1) sc_lterms.nd rfl (Or.inr rfl) (pe_lst (pa_cons pe_str (pa_cons pe_str (pa_cons pe_str (pa_cons pe_str pa_nil))))))
 (pss_cons (ps_set (i := 2) sc_lterms.nd rfl (Or.inl rfl) (pe_lst pa_nil))
 (pss_cons (ps_for PassesOwn.never rfl (pi_range1 rfl TT.range (pa_cons (pe_cl c_take hr (pa_cons (pv 0) (pa_cons pe_int pa_nil))) pa_nil)) (pg_name (i := 3) sc_lterms.nd rfl (Or.inl rfl)) (pss_cons (ps_setLc (i := 4) (own := [("_law_count", 5)]) (g := (gName 5)) (tt := tYes) rfl sc_lterms.nd rfl rfl (sw_true rfl rfl rfl (by decide +kernel)) (pi_range1 rfl TT.range (pa_cons (pe_cl c_take hr (pa_cons (pv 0) (pa_cons pe_int pa_nil))) pa_nil)) (blkOk_by (N := ["_law_pool_here", "_law_names", "_law_terms_here", "_law_k", "_law_row", "_law_count", "_law_factor", "_law_number"]) (sc := defScope s_lterms) (by decide +kernel)) (fun _ _ _ _ _ => (pg_name (i := 5) sc_lterms.nd rfl (Or.inl rfl))) (fun _ _ _ _ _ => pts_nil) (fun _ _ _ _ _ => (pe_ix (r := rIxL K) (by exact ix_list) (pv 1) (pe_cl c_take (by exact hr) (pa_cons (pv 0) (pa_cons pe_int pa_nil))) (fun _ _ => rfl))))
 (pss_one (ps_expr (pe_bm PySem.F.plainAttrs_list PySem.F.slot_list_append PySem.F.type_list_append mt_append (pv 2) (pa_cons (pe_lst (pa_cons (pe_callB cr_sortedS (by rfl) TT.sorted boot_sorted (pa_cons (pv 4) pa_nil)) (pa_cons (pe_ix ix_list (pe_lst (pa_cons pe_int (pa_cons (pe_un un_neg pe_int) (pa_cons pe_int (pa_cons pe_int (pa_cons (pe_un un_neg pe_int) (pa_cons pe_int (pa_cons pe_int (pa_cons (pe_un un_neg pe_int) (pa_cons pe_int pa_nil)))))))))) (pe_cl c_take hr (pa_cons (pv 0) (pa_cons pe_int pa_nil))) (fun _ _ => rfl)) pa_nil))) pa_nil))))))
 (pss_cons (ps_if (pt_cmpR op_eq (pe_cl c_take hr (pa_cons (pv 0) (pa_cons pe_int pa_nil))) pe_int (nomark _)) (pss_cons (ps_set (i := 6) sc_lterms.nd rfl (Or.inr rfl) (pe_ix ix_list (pe_lst (pa_cons pe_int (pa_cons pe_int (pa_cons pe_int (pa_cons (pe_op op_pow pe_int pe_int) pa_nil))))) (pe_cl c_take hr (pa_cons (pv 0) (pa_cons pe_int pa_nil))) (fun _ _ => rfl)))
 (pss_one (ps_setLc (i := 2) (own := [("_law_row", 4), ("_law_number", 7)]) (g := (gUnl K 2 (gCons (gName 4) (gCons (gName 7) gNil)))) (tt := tYes) rfl sc_lterms.nd rfl rfl (sw_true rfl rfl rfl (by decide +kernel)) (pi_list (pv 2)) (blkOk_by (N := ["_law_pool_here", "_law_names", "_law_terms_here", "_law_k", "_law_row", "_law_count", "_law_factor", "_law_number"]) (sc := defScope s_lterms) (by decide +kernel)) (fun _ _ _ _ _ => (pg_unl rfl (pgs_cons (pg_name (i := 4) sc_lterms.nd rfl (Or.inl rfl)) (pgs_cons (pg_name (i := 7) sc_lterms.nd rfl (Or.inl rfl)) pgs_nil)))) (fun _ _ _ _ _ => pts_nil) (fun _ _ _ _ _ => (pe_lst (pa_cons (pv 4) (pa_cons (pe_op op_mulW (pv 6) (pv 7)) pa_nil))))))) pss_nil)
 (pss_one (ps_ret (pv 2))))))), ?_⟩
    refine ⟨(by show 4 ≤ sizeLine; decide), fun ln nln => ⟨Nat.zero_le _, fun lt nlt => ?_⟩⟩
    have e01 := (same_upd (o := .lst (U4.map V.str)) nln).trans (same_upd (o := .lst []) nlt)
    have nlp : ln ≠ p := pool.new nln
    have ntp : lt ≠ p := (pool.same (same_upd (o := .lst (U4.map V.str)) nln)).new nlt
    have ltX : ¬ X lt := fun x => by
      obtain ⟨o, ho⟩ := hX _ x
      rw [same_upd nln _ _ ho] at nlt
      cases nlt
    have nlt2 : ln ≠ lt := fun z => by
      rw [← z, upd_same] at nlt
      cases nlt
    refine ⟨_, rfl, p, 6, rfl, pool.same e01, by decide, by decide, fun v H1 v0 v1 keep pool1 => ?_⟩
    obtain ⟨n, rfl⟩ := Int.eq_ofNat_of_zero_le v0
    have k1 : SameBut p H H1 := (sbut e01).trans (SameBut.of keep)
    have hln : H1 ln = some (.lst (U4.map V.str)) := by
      rw [keep _ nlp, upd_ne nlt2]
      exact upd_same
    have hlt : H1 lt = some (.lst []) := by
      rw [keep _ ntp]
      exact upd_same
    refine ⟨n, rfl, by omega, by omega, for_it (walk_range0 (n := n)) (fun i σ G => SameBut p H G ∧ PoolAt G p ∧ G ln = some (.lst (U4.map V.str)) ∧ (∃ x3 x4 x5 x6 x7, σ = [some (.ref p), some (.ref ln), some (.ref lt), x3, x4, x5, x6, x7]) ∧ ∃ us bs, G lt = some (.lst us) ∧ AllS (RowX (fun z => z = lt ∨ z = p ∨ X z) G) us bs ∧ bs.length = i ∧ (∀ b ∈ bs, b.1.Pairwise leN ∧ b.1.length ≤ 3) ∧ (∀ b ∈ bs, ∀ x ∈ b.1, x ∈ U4) ∧ ∀ b ∈ bs, b.2.natAbs ≤ 10)
      ⟨k1, pool1, hln, ⟨none, none, none, none, none, rfl⟩, [], [], hlt, AllS.nil, rfl, (fun b h => nomatch h), (fun b h => nomatch h), (fun b h => nomatch h)⟩ (fun _ _ _ _ _ => trivial) ?_ ?_⟩
    · rintro i y σ _ G hi ⟨s2, pool2, hln, ⟨x3, x4, x5, x6, x7, rfl⟩, us, bs, hlt, rows, lb, st, nms, nums⟩ ⟨rfl, rfl⟩
      refine ⟨_, rfl, p, 4, rfl, pool2, by decide, by decide, fun v2 G1 v20 v21 keep2 pool3 => ?_⟩
      obtain ⟨m, rfl⟩ := Int.eq_ofNat_of_zero_le v20
      have k2 : SameBut p G G1 := SameBut.of keep2
      have hln1 := k2 _ _ nlp hln
      refine ⟨m, rfl, by omega, by omega, fun D nD => lc_it (walk_range0 (n := m)) (fun j G2 => SameBut p G1 G2 ∧ PoolAt G2 p ∧ ∃ acc : List Str, G2 D = some (.lst (acc.map V.str)) ∧ (∀ x ∈ acc, x ∈ U4) ∧ acc.length = j) ⟨sbut (same_upd nD), pool3.same (same_upd nD), [], upd_same, (fun x h => nomatch h), rfl⟩ (fun _ _ _ _ => trivial) ?_ ?_⟩
      · rintro j x _ G2 hj ⟨s3, pool4, acc, hD, inU, la⟩ ⟨rfl, rfl⟩
        have nDp : D ≠ p := pool3.new nD
        refine ⟨rfl, _, rfl, _, rfl, p, 4, rfl, pool4, by decide, by decide, fun v3 G3 v30 v31 keep3 pool5 => ?_⟩
        have hln3 : G3 ln = some (.lst (U4.map V.str)) := by rw [keep3 _ nlp]; exact s3 _ _ nlp hln1
        have hD3 : G3 D = some (.lst (acc.map V.str)) := by rw [keep3 _ nDp]; exact hD
        obtain ⟨xv, hx1, hx2⟩ := at_some (xs := U4.map V.str) v30 v31
        obtain ⟨z, hz, rfl⟩ := List.mem_map.mp hx2
        refine ⟨ln, _, _, _, rfl, rfl, SqL.of hln3, hx1, _, hD3, by rw [List.length_map, sizeLine_eq]; omega, ?_⟩
        refine ⟨fun b o hb eb => ?_, ?_, acc ++ [z], ?_, ?_, ?_⟩
        · rw [upd_ne (ne_of_none eb nD), keep3 _ hb]
          exact s3 b o hb eb
        · obtain ⟨a1, a2, a3, ha⟩ := pool5
          exact ⟨a1, a2, a3, by rw [upd_ne nDp.symm]; exact ha⟩
        · rw [upd_same, List.map_append]; rfl
        · intro x hx
          rcases List.mem_append.mp hx with h | h
          · exact inU x h
          · rw [List.mem_singleton.mp h]; exact hz
        · rw [List.length_append, la]; rfl
      rintro G2 ⟨s3, pool4, acc, hD, inU, la⟩
      have k3 : SameBut p G G2 := k2.trans s3
      have hlt2 := k3 _ _ ntp hlt
      have nDp : D ≠ p := pool3.new nD
      have nDl : D ≠ lt := fun z => by
        rw [z, k2 _ _ ntp hlt] at nD
        cases nD
      refine ⟨_, rfl, .inl ⟨rfl, us, SqL.of hlt2⟩, _, rfl, D, acc, rfl, SqL.of hD, by omega, fun ys q1 perm srd nq => ?_⟩
      have ey : ys = srt acc := srt_uniq perm (sortedS_leN srd)
      subst ey
      have k4 := same_upd (o := .lst ((srt acc).map V.str)) nq
      refine ⟨_, rfl, _, rfl, _, rfl, (by show 9 ≤ sizeLine; decide), fun pN npN => ?_⟩
      have k5 := same_upd (o := .lst [.int 1, .int (-1), .int 2, .int 3, .int (-4), .int 6, .int 10, .int (-6), .int 0]) npN
      have k45 := k4.trans k5
      refine ⟨_, rfl, p, 9, rfl, pool4.same k45, by decide, by decide, fun v3 G3 v30 v31 keep3 pool5 => ?_⟩
      have k23 : SameBut p G2 G3 := (sbut k45).trans (SameBut.of keep3)
      have npN2 : pN ≠ p := (pool4.same k4).new npN
      have nqp : q1 ≠ p := pool4.new nq
      have hpN : G3 pN = some (.lst [.int 1, .int (-1), .int 2, .int 3, .int (-4), .int 6, .int 10, .int (-6), .int 0]) := by rw [keep3 _ npN2]; exact upd_same
      have hq3 : G3 q1 = some (.lst ((srt acc).map V.str)) := by
        rw [keep3 _ nqp]
        exact k5 _ _ upd_same
      obtain ⟨xv, hx1, hx2⟩ := at_some (xs := [.int 1, .int (-1), .int 2, .int 3, .int (-4), .int 6, .int 10, .int (-6), .int 0]) v30 v31
      have small : ∃ c : Int, xv = .int c ∧ c.natAbs ≤ 10 := by
        have all : ∀ x ∈ ([.int 1, .int (-1), .int 2, .int 3, .int (-4), .int 6, .int 10, .int (-6), .int 0] : List V), ∃ c : Int, x = .int c ∧ c.natAbs ≤ 10 :=
          allC ⟨_, rfl, by decide⟩ (allC ⟨_, rfl, by decide⟩ (allC ⟨_, rfl, by decide⟩ (allC ⟨_, rfl, by decide⟩ (allC ⟨_, rfl, by decide⟩ (allC ⟨_, rfl, by decide⟩ (allC ⟨_, rfl, by decide⟩ (allC ⟨_, rfl, by decide⟩ (allC ⟨_, rfl, by decide⟩ allN))))))))
        exact all xv hx2
      obtain ⟨c, rfl, hc⟩ := small
      refine ⟨pN, _, _, _, rfl, rfl, SqL.of hpN, hx1, (by show 2 ≤ sizeLine; decide), fun r nr => ?_⟩
      have k6 := same_upd (o := .lst [.ref q1, .int c]) nr
      have nrp : r ≠ p := pool5.new nr
      have hlt3 := k23 _ _ ntp hlt2
      have nrl : r ≠ lt := fun z => by rw [z, hlt3] at nr; cases nr
      have nql : q1 ≠ lt := fun z => by rw [z, hlt2] at nq; cases nq
      have kA : SameBut p G (upd G3 r (.lst [.ref q1, .int c])) := k3.trans (k23.trans (sbut k6))
      refine ⟨lt, us, _, rfl, rfl, k6 _ _ hlt3, by have := rows.1; rw [sizeLine_eq]; omega, ?_⟩
      have rowNew : RowX (fun z => z = lt ∨ z = p ∨ X z) (upd G3 r (.lst [.ref q1, .int c])) (.ref r) (srt acc, c) := ⟨r, q1, rfl, fun z => z.elim nrl fun z => z.elim nrp (frX (s2.trans (k3.trans k23)) nrp nr), fun z => z.elim nql fun z => z.elim nqp (frX (s2.trans k3) nqp nq), upd_same, k6 _ _ hq3⟩
      have rows2 : AllS (RowX (fun z => z = lt ∨ z = p ∨ X z) (upd G3 r (.lst [.ref q1, .int c]))) us bs := rows.mono fun v b _ h => h.but fun z o nz ez => kA z o (fun e => nz (.inr (.inl e))) ez
      refine ⟨fun z o hz ez => ?_, ?_, ?_, ⟨_, _, _, _, _, rfl⟩, us ++ [.ref r], bs ++ [(srt acc, c)], upd_same, ?_, ?_, ?_, ?_, ?_⟩
      · rw [upd_ne (ne_of_none (same_upd nln _ _ ez) nlt)]
        exact kA z o hz (s2 z o hz ez)
      · obtain ⟨a1, a2, a3, ha⟩ := pool5.same k6
        exact ⟨a1, a2, a3, by rw [upd_ne ntp.symm]; exact ha⟩
      · rw [upd_ne nlt2]
        exact kA _ _ nlp hln
      · exact (rows2.snoc rowNew).mono fun v b _ h => h.but fun z o nz ez => by
          rw [upd_ne (fun e => nz (.inl e))]
          exact ez
      · rw [List.length_append, lb]; rfl
      · intro b hb
        rcases List.mem_append.mp hb with h | h
        · exact st b h
        · rw [List.mem_singleton.mp h]
          exact ⟨srt_sorted _, by rw [srt_len]; omega⟩
      · intro b hb x hx
        rcases List.mem_append.mp hb with h | h
        · exact nms b h x hx
        · rw [List.mem_singleton.mp h] at hx
          exact inU x ((srt_perm acc).mem_iff.mp hx)
      · intro b hb
        rcases List.mem_append.mp hb with h | h
        · exact nums b h
        · rw [List.mem_singleton.mp h]
          exact hc
    · rintro σ G ⟨s2, pool2, hln, ⟨x3, x4, x5, x6, x7, rfl⟩, us, bs, hlt, rows, lb, st, nms, nums⟩
      refine ⟨_, rfl, p, 4, rfl, pool2, by decide, by decide, fun v2 G1 v20 v21 keep2 pool3 => ?_⟩
      have rowsA : AllS (RowX (fun z => z = lt ∨ z = p ∨ X z) G1) us bs := rows.mono fun v b _ h => h.but fun z o nz ez => by
        rw [keep2 _ fun e => nz (.inr (.inl e))]
        exact ez
      have hlt1 : G1 lt = some (.lst us) := by rw [keep2 _ ntp]; exact hlt
      have s3 : SameBut p H G1 := s2.trans (SameBut.of keep2)
      refine ⟨rfl, _, rfl, ?_⟩
      by_cases c : v2 = 1
      · refine if_pos_of (decide_eq_true (congrArg V.int c)) ?_
        refine ⟨_, _, rfl, rfl, ⟨by decide, by decide, by decide⟩, (by show 4 ≤ sizeLine; decide), fun pF npF => ?_⟩
        have k1 := same_upd (o := .lst [.int 2, .int 3, .int 6, .int (10 ^ 20)]) npF
        have nFp : pF ≠ p := pool3.new npF
        refine ⟨_, rfl, p, 4, rfl, pool3.same k1, by decide, by decide, fun v3 G3 v30 v31 keep3 pool4 => ?_⟩
        have hF : G3 pF = some (.lst [.int 2, .int 3, .int 6, .int (10 ^ 20)]) := by rw [keep3 _ nFp]; exact upd_same
        have k2 : SameBut p G1 G3 := (sbut k1).trans (SameBut.of keep3)
        obtain ⟨xv, hx1, hx2⟩ := at_some (xs := [.int 2, .int 3, .int 6, .int (10 ^ 20)]) v30 v31
        have small : ∃ c : Int, xv = .int c ∧ c.natAbs ≤ 10 ^ 20 := by
          have all : ∀ x ∈ ([.int 2, .int 3, .int 6, .int (10 ^ 20)] : List V), ∃ c : Int, x = .int c ∧ c.natAbs ≤ 10 ^ 20 :=
            allC ⟨_, rfl, by decide⟩ (allC ⟨_, rfl, by decide⟩ (allC ⟨_, rfl, by decide⟩ (allC ⟨_, rfl, by decide⟩ allN)))
          exact all xv hx2
        obtain ⟨fc, rfl, hc⟩ := small
        have hlt3 := k2 _ _ ntp hlt1
        have rowsB : AllS (RowX (fun z => z = lt ∨ z = p ∨ X z) G3) us bs := rowsA.mono fun v b _ h => h.but fun z o nz ez => k2 z o (fun e => nz (.inr (.inl e))) ez
        refine ⟨pF, _, _, _, rfl, rfl, SqL.of hF, hx1, _, rfl, lt, rfl, ⟨us, SqL.of hlt3⟩, fun D nD => lc_it walk_list (fun i G2 => Same G3 G2 ∧ ∃ us2, G2 D = some (.lst us2) ∧ AllS (RowX (fun z => z = D ∨ X z) G2) us2 ((bs.take i).map fun b => (b.1, fc * b.2))) ⟨same_upd nD, [], upd_same, AllS.nil⟩ (fun i G2 _ h => SqL.of (h.1 _ _ hlt3)) ?_ ?_⟩
        · rintro i x _ G2 hi ⟨g2, us2, hD, rows2⟩ ⟨rfl, hx⟩
          obtain ⟨b, hb, r, q1, rfl, n1, n2, h1, h2⟩ := rowsB.get hx
          have mem := List.mem_of_getElem? hb
          have nqD : q1 ≠ D := ne_of_none h2 nD
          have l2 := rows2.1
          rw [List.length_map, List.length_take] at l2
          refine ⟨r, _, rfl, SqL.of (g2 _ _ h1), rfl, _, _, rfl, _, _, rfl, rfl, rfl, _, rfl, _, rfl, _, rfl, _, _, rfl, rfl, wide_mul (a := 100) (b := 100) (Nat.lt_of_le_of_lt hc (by decide)) (Nat.lt_of_le_of_lt (nums b mem) (by decide)) (by decide) (by decide) (by decide), (by show 2 ≤ sizeLine; decide), fun r2 nr2 => ?_⟩
          have g3 := same_upd (o := .lst [.ref q1, .int (fc * b.2)]) nr2
          have nrD : r2 ≠ D := fun z => by rw [z, hD] at nr2; cases nr2
          have nrX : ¬ X r2 := fun x => by
            obtain ⟨o, ho⟩ := hX _ x
            by_cases ep : r2 = p
            · subst ep
              obtain ⟨a1, a2, a3, ha⟩ := pool4
              rw [g2 _ _ ha] at nr2
              cases nr2
            · rw [g2 _ _ ((s3.trans k2) _ _ ep ho)] at nr2
              cases nr2
          refine ⟨_, g3 _ _ hD, by rw [sizeLine_eq]; omega, fun z o ez => ?_, us2 ++ [.ref r2], upd_same, ?_⟩
          · rw [upd_ne (ne_of_none ez nD)]
            exact g3 _ _ (g2 z o ez)
          · rw [take_snoc hb, List.map_append]
            have rowNew : RowX (fun z => z = D ∨ X z) (upd G2 r2 (.lst [.ref q1, .int (fc * b.2)])) (.ref r2) (b.1, fc * b.2) := ⟨r2, q1, rfl, fun z => z.elim nrD nrX, fun z => z.elim nqD fun x => n2 (.inr (.inr x)), upd_same, g3 _ _ (g2 _ _ h2)⟩
            refine ((rows2.mono fun v b _ h => h.but fun z o nz ez => g3 z o ez).snoc rowNew).mono fun v b _ h => h.but fun z o nz ez => by
              rw [upd_ne fun e => nz (.inl e)]
              exact ez
        · rintro G2 ⟨g2, us2, hD, rows2⟩
          rw [rowsB.1, List.take_length] at rows2
          have mapM : ∀ b' ∈ bs.map (fun b => (b.1, fc * b.2)), ∃ b ∈ bs, b' = (b.1, fc * b.2) := fun b' h => by
            obtain ⟨b, hb, rfl⟩ := List.mem_map.mp h
            exact ⟨b, hb, rfl⟩
          refine ⟨_, rfl, q D us2 _ G2 (s3.trans (k2.trans (sbut g2))) (frX (s3.trans k2) (pool4.new nD) nD) hD (rows2.mono fun v b _ h => h.sub fun z x => .inr x) ⟨by rw [List.length_map]; omega, fun b' h => ?_, fun b' h => ?_, fun b' h => ?_⟩⟩
          all_goals obtain ⟨b, hb, rfl⟩ := mapM b' h
          · exact st b hb
          · exact nms b hb
          · show (fc * b.2).natAbs ≤ _
            rw [Int.natAbs_mul]
            exact Nat.le_trans (Nat.mul_le_mul hc (nums b hb)) (by decide)
      · refine if_neg_of (decide_eq_false fun h => c (V.int.inj h)) ?_
        refine ⟨_, rfl, q lt us bs G1 s3 ltX hlt1 (rowsA.mono fun v b _ h => h.sub fun z x => .inr (.inr x)) ⟨by omega, st, nms, fun b hb => Nat.le_trans (nums b hb) (by decide)⟩⟩
-- part k71g
/-! gathered, apart from what stood -/
def rSortRowsS (K : PySem.W.Frag) : List V → Hp → VK → Prop := fun xs H Q => ∃ (a : Addr) (us : List V) (bs : List (List Str × Int)) (S : V → (List Str × Int) → Prop), xs = [.ref a] ∧ SqL K H a us ∧ AllS S us bs ∧ (∀ v b, S v b → RowAt H v b) ∧
  ∀ p us', H p = none → AllS S us' (bs.mergeSort (PySem.W.dataLe false encR)) → Q (.ref p) (upd H p (.lst us'))
section
open PySem.W PySem.SeqAt
theorem cr_sortRowsS {X : Cx} {K : PySem.W.Frag} {k : Nat} (hK : X.K = K) (hr : Room k X.A) : CallR X (.builtin "sorted") (rSortRowsS K) := by
  subst hK
  intro pins s σ H xs us Q I r h
  obtain ⟨a, ws, bs, S, rfl, hs, rows, hS, q⟩ := h
  rw [Vals.ref1 r]
  obtain ⟨its, rv, hl, hz⟩ := I.list hs
  have hu := hr.un
  have e := each_of (S := S) rv rows.1 rows.2
  have er : EachIs (fun v b => ∃ as, Reads s.heap v (encR b) as) its bs := e.mono fun v b ⟨x, rx, sx⟩ => reads_row I.hok (hS _ _ sx) rx
  refine sorted_data hl.isList e er (AllAlike.of encR_alike) (Sortable.others fun b => ⟨(fun z => nomatch z), (fun xs z => nomatch z)⟩) (by rw [← rows.1]; exact hz) (fun b _ => by have := encR_depth b; omega) fun out hlen eo => ?_
  obtain ⟨us', rv', l', a'⟩ := each_lift eo
  obtain ⟨ep, he'⟩ := PyProof.Rows.sortedAll_at s.heap its (List.toArray out)
  have lm : (bs.mergeSort (dataLe false encR)).length = bs.length := (sortR_perm bs).length_eq
  refine ⟨.ref _, upd H (s.heap.objs.size + 1) (.lst us'), I.laid (t' := s.toks) (fun _ _ => PyProof.Rows.sortedAll_old) (Nat.le_succ _) ⟨by rw [l', lm, ← rows.1]; exact hz, out, ep, rv', he'⟩, rfl, q _ us' (I.hok.fresh (Nat.le_succ _)) ⟨l', a'⟩⟩
end
abbrev s_lgath : Stmt := top 16
theorem sc_lgath : FnScope ["_law_terms_here", "_law_found", "_law_row", "_law_number", "_law_same", "_law_at", "_law_term"] ["_law_terms_here"] (defScope s_lgath) := ⟨rfl, rfl, rfl, by decide +kernel, rfl, by decide +kernel, by decide +kernel⟩
def spLgathX : Sp := fun vs H Q _ => ∃ (t : Addr) (us : List V) (bs : FS) (X : Addr → Prop), vs = [.ref t] ∧ H t = some (.lst us) ∧ AllS (RowX X H) us bs ∧ RowsOk bs ∧ (∀ z, X z → ∃ o, H z = some o) ∧ ∀ r us' H', ¬ X r → H' r = some (.lst us') → AllS (RowX X H') us' (gathT bs) → Same H H' → Q (.ref r) H'
theorem ok_lgathX {f : Addr} {fd : FuncData} (TT : Txt mg) (F : Fun K "_law_gathered" "_law_gathered" s_lgath f fd) : FnOk P w K mg base CX0 1 f fd ["_law_terms_here"] spLgathX := by
  refine F.ok sc_lgath (fun vs H Q E h => ?_) (fun cdv A outer s H vs Q E hr h => ?_)
  · obtain ⟨t, _, _, _, rfl, _⟩ := h
    rfl
  · obtain ⟨t, us, bs, X, rfl, ht, rowsX, ok, hX, q⟩ := h
    have rows : RowsAt H us bs := AllS.mono rowsX fun v b _ h => h.row
    have frX : ∀ {G : Hp} {z : Addr}, Same H G → G z = none → ¬ X z := fun k e x => by
      obtain ⟨o, ho⟩ := hX _ x
      rw [k _ _ ho] at e
      cases e
    refine ⟨_, (pss_cons (ps_set (i := 1) sc_lgath.nd rfl (Or.inr rfl) (pe_lst pa_nil))
 (pss_cons (ps_for PassesOwn.never rfl (pi_list (pv 0)) (pg_unl rfl (pgs_cons (pg_name (i := 2) sc_lgath.nd rfl (Or.inr rfl)) (pgs_cons (pg_name (i := 3) sc_lgath.nd rfl (Or.inl rfl)) pgs_nil))) (pss_cons (ps_setLc (i := 4) (own := [("_law_at", 5)]) (g := (gName 5)) rfl sc_lgath.nd rfl rfl (sw_true rfl rfl rfl (by decide +kernel)) (pi_range1 rfl TT.range (pa_cons (pe_callB call_len_seq (by rfl) TT.len PySem.boot_len (pa_cons (pv 1) pa_nil)) pa_nil)) (blkOk_by (N := ["_law_terms_here", "_law_found", "_law_row", "_law_number", "_law_same", "_law_at", "_law_term"]) (sc := defScope s_lgath) (by decide +kernel)) (fun _ _ _ _ _ => (pg_name (i := 5) sc_lgath.nd rfl (Or.inl rfl))) (fun _ _ _ _ _ => (pts_one (pt_cmpR (r := rEqD K) (op_eqD (by have z := hu64 hr; exact z)) (pe_ix (r := rIxL K) (by exact ix_list) (pe_ix (r := rIxL K) (by exact ix_list) (pv 1) (pv 5) (fun _ _ => rfl)) pe_int (fun _ _ => rfl)) (pv 2) (nomark _)))) (fun _ _ _ _ _ => (pv 5)))
 (pss_one (ps_if (pt_cmpR (op_eqNil hr) (pv 4) (pe_lst pa_nil) (nomark _)) (pss_one (ps_expr (pe_bm PySem.F.plainAttrs_list PySem.F.slot_list_append PySem.F.type_list_append mt_append (pv 1) (pa_cons (pe_lst (pa_cons (pv 2) (pa_cons (pv 3) pa_nil))) pa_nil)))) (pss_one (ps_asg (pe_lst (pa_cons (pv 2) (pa_cons (pe_op op_add (pe_ix ix_list (pe_ix ix_list (pv 1) (pe_ix ix_list (pv 4) pe_int (fun _ _ => rfl)) (fun _ _ => rfl)) pe_int (fun _ _ => rfl)) (pv 3)) pa_nil))) (pg_sub (pv 1) (pe_ix ix_list (pv 4) pe_int (fun _ _ => rfl)) set_list)))))))
 (pss_one (ps_ret (pe_callB (cr_sortRowsS (K := K) rfl hr) (by rfl) TT.sorted boot_sorted (pa_cons (pe_lc (own := [("_law_term", 6)]) (g := (gName 6)) rfl sc_lgath.nd (pi_list (pv 1)) (blkOk_by (N := ["_law_terms_here", "_law_found", "_law_row", "_law_number", "_law_same", "_law_at", "_law_term"]) (sc := defScope s_lgath) (by decide +kernel)) (fun _ _ _ _ _ => (pg_name (i := 6) sc_lgath.nd rfl (Or.inl rfl))) (fun _ _ _ _ _ => (pts_one (pt_cmpR op_ne (pe_ix (r := rIxL K) (by exact ix_list) (pv 6) pe_int (fun _ _ => rfl)) pe_int (nomark _)))) (fun _ _ _ _ _ => (pv 6))) pa_nil)))))), ?_⟩
    refine ⟨Nat.zero_le _, fun l nl => ?_⟩
    have s1 := same_upd (o := .lst []) nl
    have lu := rows.1
    have lok := ok.len
    have acc := fun i => gath_acc (d := 6) (bs.take i) fun b hb => ok.st b (List.mem_of_mem_take hb)
    refine ⟨_, rfl, t, rfl, ⟨us, SqL.of (s1 _ _ ht)⟩, for_it walk_list (fun i σ G => Same H G ∧ ∃ x2 x3 x4 x5 x6 us1, σ = [some (.ref t), some (.ref l), x2, x3, x4, x5, x6] ∧ G l = some (.lst us1) ∧ AllS (RowX (fun z => z = l ∨ X z) G) us1 (gath (bs.take i)))
      ⟨s1, none, none, none, none, none, [], rfl, upd_same, AllS.nil⟩ (fun i σ G _ h => SqL.of (h.1 _ _ ht)) ?_ ?_⟩
    · rintro i y σ G G' hi ⟨s2, x2, x3, x4, x5, x6, us1, rfl, hl, rows1⟩ ⟨hG, hy⟩
      subst hG
      obtain ⟨b, hb, r, q1, rfl, nXr, nXq, hr1, hq1⟩ := rowsX.get hy
      have nq : q1 ≠ l := ne_of_none hq1 nl
      have hr1 := s2 _ _ hr1
      have hq1 := s2 _ _ hq1
      have mem := List.mem_of_getElem? hb
      obtain ⟨sb, fb⟩ := ok.st b mem
      have ac := acc i
      have lF := ac.sz.len
      rw [List.length_take] at lF
      have l1 := rows1.1
      refine ⟨r, _, rfl, SqL.of hr1, rfl, _, _, rfl, _, _, rfl, rfl, ?_⟩
      generalize hF : gath (bs.take i) = F at rows1 ac lF l1
      have next : gath (bs.take (i + 1)) = putS F b.1 ((lkS F b.1).getD 0 + b.2) := by rw [take_snoc hb, gath_snoc, hF]
      refine ⟨_, rfl, l, us1, rfl, .inl (SqL.of hl), us1.length, rfl, by omega, by omega, fun D nD => lcW (walk_range0 (n := us1.length)) (fun j => (((List.range j).filter fun m => decide ((F.map (·.1))[m]? = some b.1)).map fun m : Nat => V.int (m : Int))) nD rfl (fun _ _ => trivial) ?_ ?_⟩
      · rintro j x _ G2 hj g2 hD ⟨rfl, rfl⟩
        have hjF : j < F.length := by rw [← l1]; exact hj
        obtain ⟨v, hv, r2, q2, rfl, n1, n2, h1, h2⟩ := rows1.2 j F[j] (List.getElem?_eq_getElem hjF)
        refine ⟨rfl, _, rfl, _, rfl, l, us1, (j : Int), _, rfl, rfl, SqL.of (g2 _ _ hl), atI_nat hv, r2, _, _, _, rfl, rfl, SqL.of (g2 _ _ h1), rfl, _, rfl, _, _, dp_strs (SqL.of (g2 _ _ h2)), dp_strs (SqL.of (g2 _ _ hq1)), ?_⟩
        have kF : ∃ c ∈ bs, F[j].1 = c.1 := by
          have h := gath_keys (bs.take i) F[j] (by rw [hF]; exact List.getElem_mem hjF)
          obtain ⟨c, hc, e⟩ := h
          exact ⟨c, List.mem_of_mem_take hc, e⟩
        obtain ⟨c, hc, ec⟩ := kF
        refine ⟨shaped_strs (fun z hz => (ok.nms c hc z (by rw [← ec]; exact hz)).2), shaped_strs (fun z hz => (ok.nms b mem z hz).2), _, rfl, ?_⟩
        rw [eqv_strs]
        have hjk : (F.map (·.1))[j]? = some F[j].1 := by rw [List.getElem?_map, List.getElem?_eq_getElem hjF]; rfl
        have few : (((List.range j).filter fun m => decide ((F.map (·.1))[m]? = some b.1)).map fun m : Nat => V.int (m : Int)).length < 1000 := by
          rw [List.length_map]
          refine Nat.lt_of_le_of_lt (List.length_filter_le _ _) ?_
          rw [List.length_range]
          omega
        by_cases c2 : F[j].1 = b.1
        · refine if_pos_of (decide_eq_true c2) ⟨_, rfl, PvM.push nD g2 hD few ?_⟩
          rw [List.range_succ, List.filter_append, List.map_append, List.filter_cons, if_pos (decide_eq_true (by rw [hjk, c2]))]
          rfl
        · refine if_neg_of (decide_eq_false c2) (PvM.skip g2 hD ?_)
          rw [List.range_succ, List.filter_append, List.map_append, List.filter_cons, if_neg (fun z => c2 (by rw [hjk] at z; exact Option.some.inj (of_decide_eq_true z))), List.filter_nil, List.map_nil, List.append_nil]
      · intro G2 g2 hD
        have eD : (((List.range us1.length).filter fun m => decide ((F.map (·.1))[m]? = some b.1)).map fun m : Nat => V.int (m : Int)) = (idxs F b.1).map fun m : Nat => V.int (m : Int) := by
          unfold idxs
          rw [l1]
        rw [eD] at hD
        refine ⟨_, rfl, Nat.zero_le _, fun p np => ?_⟩
        have g3 := g2.trans (same_upd (o := .lst []) np)
        refine ⟨D, p, _, rfl, rfl, SqL.of (same_upd np _ _ hD), SqL.of upd_same, _, rfl, ?_⟩
        have hD := same_upd (o := .lst []) np _ _ hD
        generalize hG3 : upd G2 p (.lst []) = G3 at g3 hD
        have hl := g3 _ _ hl
        have rows1 : AllS (RowX (fun z => z = l ∨ X z) G3) us1 F := rows1.mono fun v b _ r => r.but fun z o _ e => g3 z o e
        cases lk : lkS F b.1 with
        | none =>
          rw [idx_none lk] at hD ⊢
          refine if_pos_of rfl ?_
          refine ⟨_, rfl, .inl ⟨rfl, _, SqL.of hl⟩, _, rfl, _, rfl, (by show 2 ≤ sizeLine; decide), fun p2 np2 => ?_⟩
          have g4 := g3.trans (same_upd (o := .lst [.ref q1, .int b.2]) np2)
          have hl4 := same_upd (o := .lst [.ref q1, .int b.2]) np2 _ _ hl
          have n2l : p2 ≠ l := fun z => by rw [z, hl] at np2; cases np2
          refine ⟨l, us1, _, rfl, rfl, hl4, by rw [sizeLine_eq]; omega, ?_⟩
          have nxt : gath (bs.take (i + 1)) = F ++ [(b.1, b.2)] := by
            rw [next, lk, put_new lk]
            show F ++ [(b.1, 0 + b.2)] = _
            rw [Int.zero_add]
          refine ⟨fun z o ez => ?_, _, _, _, _, _, us1 ++ [.ref p2], rfl, upd_same, ?_⟩
          · rw [upd_ne (ne_of_none ez nl)]
            exact g4 _ _ (s2 _ _ ez)
          · rw [nxt]
            refine AllS.mono (AllS.snoc (rows1.mono fun v b _ r => r.but fun z o _ e => same_upd np2 z o e) (b := (b.1, b.2)) (v := .ref p2) ⟨p2, q1, rfl, (fun z => z.elim n2l (frX (s2.trans g3) np2)), (fun z => z.elim nq nXq), upd_same, g4 _ _ hq1⟩) fun v b _ r => r.but fun z o nz e => by
              rw [upd_ne fun y => nz (.inl y)]
              exact e
        | some c0 =>
          obtain ⟨j, hj, hFj⟩ := idx_some ac.gd.nd lk
          rw [hj] at hD ⊢
          refine if_neg_of rfl ?_
          obtain ⟨v, hv, r2, q2, rfl, n1, n2, h1, h2⟩ := rows1.2 j _ hFj
          refine ⟨_, rfl, _, rfl, _, rfl, D, _, _, _, rfl, rfl, SqL.of hD, rfl, l, us1, (j : Int), _, rfl, rfl, SqL.of hl, atI_nat hv, r2, _, _, _, rfl, rfl, SqL.of h1, rfl, _, rfl, _, _, rfl, rfl, (by show 2 ≤ sizeLine; decide), fun p2 np2 => ?_⟩
          have g4 := g3.trans (same_upd (o := .lst [.ref q1, .int (c0 + b.2)]) np2)
          have hl4 := same_upd (o := .lst [.ref q1, .int (c0 + b.2)]) np2 _ _ hl
          have n2l : p2 ≠ l := fun z => by rw [z, hl] at np2; cases np2
          refine ⟨_, rfl, _, rfl, D, _, _, _, rfl, rfl, SqL.of (same_upd np2 _ _ hD), rfl, l, us1, (j : Int), j, rfl, rfl, hl4, ?_, ?_⟩
          · exact Evl.ixN_nat (by rw [l1]; exact (List.getElem?_eq_some_iff.mp hFj).1)
          have nxt : gath (bs.take (i + 1)) = F.set j (b.1, c0 + b.2) := by
            rw [next, lk, put_set ac.gd.nd hFj]
            rfl
          refine ⟨fun z o ez => ?_, _, _, _, _, _, us1.set j (.ref p2), rfl, upd_same, ?_⟩
          · rw [upd_ne (ne_of_none ez nl)]
            exact g4 _ _ (s2 _ _ ez)
          · rw [nxt]
            refine AllS.mono (AllS.set (rows1.mono fun v b _ r => r.but fun z o _ e => same_upd np2 z o e) (b := (b.1, c0 + b.2)) (v := .ref p2) ⟨p2, q1, rfl, (fun z => z.elim n2l (frX (s2.trans g3) np2)), (fun z => z.elim nq nXq), upd_same, g4 _ _ hq1⟩) fun v b _ r => r.but fun z o nz e => by
              rw [upd_ne fun y => nz (.inl y)]
              exact e
    · rintro σ G ⟨s2, x2, x3, x4, x5, x6, us1, rfl, hl, rows1⟩
      rw [lu, List.take_length] at rows1
      have ac := acc bs.length
      rw [List.take_length] at ac
      have lF := ac.sz.len
      have l1 := rows1.1
      generalize hF : gath bs = F at rows1 ac lF l1
      refine ⟨_, rfl, l, rfl, ⟨us1, SqL.of hl⟩, fun D nD => lc_it walk_list (fun i G2 => Same G G2 ∧ ∃ us2, G2 D = some (.lst us2) ∧ AllS (RowX (fun z => z = l ∨ X z) G) us2 (nzS (F.take i))) ⟨same_upd nD, [], upd_same, AllS.nil⟩ (fun i G2 _ h => SqL.of (h.1 _ _ hl)) ?_ ?_⟩
      · rintro i x _ G2 hi ⟨g2, us2, hD, rows2⟩ ⟨rfl, hx⟩
        obtain ⟨e, he, rw1⟩ := rows1.get hx
        obtain ⟨r, q1, rfl, n1, n2, h1, h2⟩ := id rw1
        have l2 : us2.length ≤ F.length := by
          rw [rows2.1]
          exact Nat.le_trans (List.length_filter_le _ _) (by rw [List.length_take]; omega)
        refine ⟨rfl, _, rfl, r, _, _, _, rfl, rfl, SqL.of (g2 _ _ h1), rfl, ?_⟩
        refine ⟨rfl, _, rfl, ?_⟩
        by_cases c : e.2 = 0
        · refine if_neg_of (by rw [c]; exact congrArg not (decide_eq_true rfl)) ⟨g2, us2, hD, ?_⟩
          rw [nz_skip he c]
          exact rows2
        · refine if_pos_of (by rw [decide_eq_false fun h => c (V.int.inj h)]; rfl) ⟨_, rfl, us2, hD, by rw [sizeLine_eq]; omega, ?_⟩
          refine ⟨fun b o eb => ?_, _, upd_same, ?_⟩
          · rw [upd_ne (ne_of_none eb nD)]
            exact g2 b o eb
          · have hz : nzS (F.take (i + 1)) = nzS (F.take i) ++ [e] := by
              rw [take_snoc he]
              unfold nzS
              rw [List.filter_append, List.filter_cons, if_pos (by rw [decide_eq_false c]; rfl)]
              rfl
            rw [hz]
            exact AllS.snoc rows2 rw1
      · rintro G2 ⟨g2, us2, hD, rows2⟩
        rw [l1, List.take_length] at rows2
        have rowsG : AllS (RowX (fun z => z = l ∨ X z) G2) us2 (nzS F) := rows2.mono fun v b _ r => r.but fun z o _ e => g2 z o e
        refine ⟨D, us2, nzS F, RowX (fun z => z = l ∨ X z) G2, rfl, SqL.of hD, rowsG, fun v b h => h.row, fun p us' np rows' => ?_⟩
        have g3 := same_upd (o := .lst us') np
        have e : gathT bs = canon (nzS F) := by
          unfold gathT
          rw [hF]
        refine q p us' _ (frX (s2.trans g2) np) upd_same ?_ (s2.trans (g2.trans g3))
        rw [e]
        exact rows'.mono fun v b _ h => (h.but fun z o _ e => g3 z o e).sub fun z x => .inr x
-- part mndeg
/-! degrees of Manys; == with a text -/
def spMnEqX (C : Addr) (K : PySem.W.Frag) : Sp := fun vs H Q _ => ∃ (a : Addr) (y : V) (t : String), vs = [.ref a, y] ∧ OthT H y t ∧ PySem.W.kitOne K (.type t) (.ref C) = some false ∧ Q (.bl false) H
theorem ok_mneqX {f C : Addr} {fd : FuncData} (TT : Txt mg) (T : ManyT K mg C) (F : Fun K "__eq__" "Many.__eq__" s_mneq f fd) : FnOk P w K mg base CX0 1 f fd ["self", "other"] (spMnEqX C K) := by
  refine F.ok sc_mneq (fun vs H Q E h => ?_) (fun cdv A outer s H vs Q E hr h => ?_)
  · obtain ⟨a, _, _, rfl, _⟩ := h
    rfl
  · obtain ⟨a, y, t, rfl, ho, kt, q⟩ := h
    refine ⟨_, (pss_one (ps_ret (pe_and (pe_callB call_isi (by rfl) TT.isinstance boot_isinstance (pa_cons (pv 1) (pa_cons (pe_glob (v := .ref C) (by rfl) T.g rfl) pa_nil))) (pe_one (pe_cmpR (op_eqT hr) (pe_fld (pv 0) rfl) (pe_fld (pv 1) rfl) (nomark _)))))), ?_⟩
    cases ho with
    | int i => exact ⟨_, rfl, _, _, _, _, false, rfl, .own C, .base (.int _), kt, _, rfl, if_neg_of rfl q⟩
    | str z => exact ⟨_, rfl, _, _, _, _, false, rfl, .own C, .base (.str _), kt, _, rfl, if_neg_of rfl q⟩
    | lst hb => exact ⟨_, rfl, _, _, _, _, false, rfl, .own C, .base (.lst hb), kt, _, rfl, if_neg_of rfl q⟩
    | tup hb => exact ⟨_, rfl, _, _, _, _, false, rfl, .own C, .base (.tup hb), kt, _, rfl, if_neg_of rfl q⟩
abbrev s_mndeg : Stmt := inClass (top 10) 10
theorem sc_mndeg : FnScope ["self", "names"] ["self"] (defScope s_mndeg) := ⟨rfl, rfl, rfl, by decide +kernel, rfl, by decide +kernel, by decide +kernel⟩
def lensZ (L : FS) : List Int := L.map fun e => ((e.1.length : Nat) : Int)
def spMnDeg (C : Addr) : Sp := fun vs H Q _ => ∃ (a : Addr) (L : FS), vs = [.ref a] ∧ ManyAt C H a L ∧ L.length < 900 ∧ ∀ H', Same H H' → Q (.int (maxDf (lensZ L) (-1))) H'
theorem ok_mndeg {f C : Addr} {fd : FuncData} (TT : Txt mg) (T : ManyT K mg C) (F : Fun K "degree" "Many.degree" s_mndeg f fd) : FnOk P w K mg base CX0 1 f fd ["self"] (spMnDeg C) := by
  refine F.ok sc_mndeg (fun vs H Q E h => ?_) (fun cdv A outer s H vs Q E hr h => ?_)
  · obtain ⟨a, _, rfl, _⟩ := h
    rfl
  · obtain ⟨a, L, rfl, ma, few, q⟩ := h
    obtain ⟨dx, da, h1, h2⟩ := ma.ob
    refine ⟨_, (pss_one (ps_ret (pe_callBK (cr_maxDf (K := K) rfl rfl hr) (by rfl) TT.max boot_max (pa_cons (pe_lock (pe_lc (own := [("names", 1)]) (g := (gName 1)) (tt := tYes) rfl sc_mndeg.nd (pi_keys (pe_fld (pv 0) rfl)) (blkOk_by (N := ["self", "names"]) (sc := defScope s_mndeg) (by decide +kernel)) (fun _ _ _ _ _ => (pg_name (i := 1) sc_mndeg.nd rfl (Or.inl rfl))) (fun _ _ _ _ _ => pts_nil) (fun _ _ _ _ _ => (pe_callB (call_len_seqK (K := K) rfl) (by rfl) TT.len PySem.boot_len (pa_cons (pv 1) pa_nil))))) pa_nil) (pk_cons (pe_un un_neg pe_int) pk_nil)))), ?_⟩
    refine ⟨da, _, h2, trivial, fun od => ?_⟩
    have h1' : upd H da (.frz od (.dT (tmV L))) a = some (.ins C dx (mnF da)) := by
      rw [upd_ne (fun c => by rw [c, h2] at h1; cases h1)]
      exact h1
    refine ⟨_, rfl, a, C, dx, _, _, rfl, h1', T.cl, T.nT, mn_t _, da, od, rfl, .inr ⟨_, upd_same, fun D nD => lcMap walk_keysT ((lensZ L).map V.int) (by rw [List.length_map]; unfold lensZ; rw [List.length_map, tmV_len]) nD (fun G s => s _ _ upd_same) ?_ ?_⟩⟩
    · rintro i x _ G hi s1 hD ⟨rfl, k, v, q1, hk, rfl, hq1⟩
      obtain ⟨e, he, rfl, rfl⟩ := tm_get hk
      rw [kT_V] at hq1
      refine ⟨rfl, _, rfl, q1, _, rfl, .inr (SqT.of hq1), ?_⟩
      refine mapEnd nD (by rw [List.length_map]; unfold lensZ; rw [List.length_map]; omega) s1 hD (map_at (f := V.int) ?_)
      unfold lensZ
      rw [List.getElem?_map, he, List.length_map]
      rfl
    · intro G s1 hD
      have hD2 : upd G da (.dT (tmV L)) D = some (.lst ((lensZ L).map V.int)) := by
        rw [upd_ne (fun c => by rw [c, s1 _ _ upd_same] at hD; cases hD)]
        exact hD
      exact ⟨s1 _ _ upd_same, _, rfl, D, lensZ L, _, rfl, rfl, SqL.of hD2, q _ (lock_same h2 s1)⟩
/-- the greatest of -1 and the lengths -/
theorem maxDf_uniq {ns : List Int} {m : Int} (h0 : ∀ n ∈ ns, 0 ≤ n) (hm : m ∈ -1 :: ns) (h : ∀ y ∈ -1 :: ns, y ≤ m) : maxDf ns (-1) = m := by
  cases ns with
  | nil =>
    rw [List.mem_singleton.mp hm]
    rfl
  | cons n l =>
    have h1 := foldl_max_mem l n
    obtain ⟨h2, h3⟩ := foldl_max_le l n
    have a1 : l.foldl max n ≤ m := h _ (List.mem_cons_of_mem _ h1)
    have a2 : m ≤ l.foldl max n := by
      rcases List.mem_cons.mp hm with rfl | hm
      · have := h0 n List.mem_cons_self
        omega
      rcases List.mem_cons.mp hm with rfl | hm
      · exact h2
      · exact h3 m hm
    show l.foldl max n = m
    omega
theorem lensZ_nn (L : FS) : ∀ n ∈ lensZ L, 0 ≤ n := fun n h => by
  obtain ⟨e, _, rfl⟩ := List.mem_map.mp h
  exact Int.natCast_nonneg _
theorem deg_of {L M : FS} {m : Int} (p : L.Perm M) (hm : m ∈ -1 :: lensZ M) (h : ∀ y ∈ -1 :: lensZ M, y ≤ m) : maxDf (lensZ L) (-1) = m := by
  have pm : (lensZ L).Perm (lensZ M) := p.map _
  exact maxDf_uniq (lensZ_nn L) ((pm.cons (-1)).mem_iff.mpr hm) fun y hy => h y ((pm.cons (-1)).mem_iff.mp hy)
theorem gcds_perm {l m : List Int} (h : l.Perm m) : gcds l = gcds m := by
  have key : ∀ {l m : List Int}, l.Perm m → ∀ g : Nat, l.foldl (fun (g : Nat) (z : Int) => Int.gcd (g : Int) z) g = m.foldl (fun (g : Nat) (z : Int) => Int.gcd (g : Int) z) g := fun {l m} h => by
    induction h with
    | nil => exact fun g => rfl
    | cons a _ ih => exact fun g => ih _
    | swap a b l =>
      intro g
      show l.foldl _ (Int.gcd ((Int.gcd (g : Int) b : Nat) : Int) a) = l.foldl _ (Int.gcd ((Int.gcd (g : Int) a : Nat) : Int) b)
      congr 1
      rw [Int.gcd_assoc, Int.gcd_comm b a, ← Int.gcd_assoc]
    | trans _ _ h1 h2 => exact fun g => (h1 g).trans (h2 g)
  exact key h 0
-- part k71m
/-! the law's polynomial -/
theorem pol_unk (k : List Str) (c : Int) (x : Str) : pol [(k, c)] * pol [([x], 1)] = pol [(k ++ [x], c)] := by
  rw [Pol.mul_mk]
  refine pol_eq.mpr fun m => ?_
  show (if srt (srt (k ++ [x])) = m then c * 1 else 0) + 0 = (if srt (k ++ [x]) = m then c else 0) + 0
  rw [srt_srt, Int.mul_one]
theorem unk_mpP {C : Addr} {H : Hp} {a : Addr} {x : Str} (m : ManyAt C H a [([x], 1)]) : MP C 1 1 1 H a (pol [([x], 1)]) :=
  ⟨_, m, rfl, Nat.le_refl _, (fun e he => by rw [List.mem_singleton.mp he]; exact Nat.le_refl 1), Nat.le_refl _⟩
abbrev s_lmadeM : Stmt := top 18
theorem sc_lmadeM : FnScope ["_law_terms_here", "_law_result", "_law_row", "_law_number", "_law_part", "_law_name"] ["_law_terms_here"] (defScope s_lmadeM) := ⟨rfl, rfl, rfl, by decide +kernel, rfl, by decide +kernel, by decide +kernel⟩
def spLmadeM (C : Addr) : Sp := fun vs H Q _ => ∃ (t : Addr) (us : List V) (bs : FS), vs = [.ref t] ∧ H t = some (.lst us) ∧ RowsAt H us bs ∧ RowsOk bs ∧ ∀ r H', MP C 6 (1 + bs.length) (bs.length * 2 ^ 1200) H' r (pol bs) → Same H H' → Q (.ref r) H'
theorem ok_lmadeM {f C : Addr} {fd : FuncData} (TT : Txt mg) (T : ManyT K mg C) (F : Fun K "_law_made" "_law_made" s_lmadeM f fd) (c_num : Cm P w K mg base 4 C "number" (spMnN C)) (c_unk : Cm P w K mg base 4 C "unknown" (spMnU C)) (c_add : Me P w K mg base 4 C "__add__" (spMnAdd C)) (c_mul : Me P w K mg base 4 C "__mul__" (spMnMul C)) : FnOk P w K mg base CX0 5 f fd ["_law_terms_here"] (spLmadeM C) := by
  refine F.ok sc_lmadeM (fun vs H Q E h => ?_) (fun cdv A outer s H vs Q E hr h => ?_)
  · obtain ⟨t, _, _, rfl, _⟩ := h
    rfl
  · obtain ⟨t, us, bs, rfl, ht, rows, ok, q⟩ := h
    refine ⟨_, (pss_cons (ps_set (i := 1) sc_lmadeM.nd rfl (Or.inl rfl) (pe_cm c_num hr (pe_glob (v := .ref C) (by rfl) T.g rfl) (pa_cons pe_int pa_nil)))
 (pss_cons (ps_for PassesOwn.never rfl (pi_list (pv 0)) (pg_unl rfl (pgs_cons (pg_name (i := 2) sc_lmadeM.nd rfl (Or.inl rfl)) (pgs_cons (pg_name (i := 3) sc_lmadeM.nd rfl (Or.inl rfl)) pgs_nil))) (pss_cons (ps_set (i := 4) sc_lmadeM.nd rfl (Or.inl rfl) (pe_cm c_num hr (pe_glob (v := .ref C) (by rfl) T.g rfl) (pa_cons (pv 3) pa_nil)))
 (pss_cons (ps_for PassesOwn.never rfl (pi_list (pv 2)) (pg_name (i := 5) sc_lmadeM.nd rfl (Or.inl rfl)) (pss_one (ps_set (i := 4) sc_lmadeM.nd rfl (Or.inl rfl) (pe_op (op_own2 c_mul hr T.sf) (pv 4) (pe_cm c_unk hr (pe_glob (v := .ref C) (by rfl) T.g rfl) (pa_cons (pv 5) pa_nil))))))
 (pss_one (ps_set (i := 1) sc_lmadeM.nd rfl (Or.inl rfl) (pe_op (op_own2 c_add hr T.sf) (pv 1) (pv 4)))))))
 (pss_one (ps_ret (pv 1))))), ?_⟩
    have lu := rows.1
    have lok := ok.len
    refine ⟨rfl, 0, rfl, fun z H1 mz s1 => ?_⟩
    have mz : MP C 6 (1 + 0) (0 * 2 ^ 1200) H1 z (pol ([] : FS)) := by
      have m0 := num_mp (B := 0) mz (Nat.le_refl 0)
      have e : Pol.num 0 = pol ([] : FS) := pol_eq.mpr fun m => by
        show (if srt [] = m then (0 : Int) else 0) + 0 = 0
        split <;> rfl
      rw [e] at m0
      exact m0.mono (by decide) (by decide) (by decide)
    refine ⟨_, rfl, t, rfl, ⟨us, SqL.of (s1 _ _ ht)⟩, for_it walk_list (fun i σ G => Same H G ∧ ∃ (r : Addr) (x2 x3 x4 x5 : Option V), σ = [some (.ref t), some (.ref r), x2, x3, x4, x5] ∧ MP C 6 (1 + i) (i * 2 ^ 1200) G r (pol (bs.take i)))
      ⟨s1, z, none, none, none, none, rfl, mz⟩ (fun i σ G _ h => SqL.of (h.1 _ _ ht)) ?_ ?_⟩
    · rintro i y σ G G' hi ⟨s2, r, x2, x3, x4, x5, rfl, mr⟩ ⟨hG, hy⟩
      subst hG
      obtain ⟨b, hb, ra, q1, rfl, hr1, hq1⟩ := (rows.same s2).get hy
      have mem := List.mem_of_getElem? hb
      have nb := ok.nums b mem
      have fb := (ok.st b mem).2
      refine ⟨ra, _, rfl, SqL.of hr1, rfl, _, _, rfl, _, _, rfl, rfl, ?_⟩
      refine ⟨rfl, _, rfl, b.2, rfl, fun pa G1 mp g1 => ?_⟩
      have mp := num_mp (B := 2 ^ 1200) mp (Nat.le_of_lt nb)
      refine ⟨_, rfl, q1, rfl, ⟨_, SqL.of (g1 _ _ hq1)⟩, for_it walk_list (fun j σ G2 => Same G' G2 ∧ ∃ (pj : Addr) (x5 : Option V), σ = [some (.ref t), some (.ref r), some (.ref q1), some (.int b.2), some (.ref pj), x5] ∧ MP C j 1 (2 ^ 1200) G2 pj (pol [(b.1.take j, b.2)]))
        ⟨g1, pa, x5, rfl, mp⟩ (fun j σ G2 _ h => SqL.of (h.1 _ _ hq1)) ?_ ?_⟩
      · rintro j y σ G2 G2' hj ⟨g2, pj, x5, rfl, mj⟩ ⟨hG, hy⟩
        subst hG
        rw [List.getElem?_map] at hy
        obtain ⟨x, hx, rfl⟩ := Option.map_eq_some_iff.mp hy
        rw [List.length_map] at hj
        refine ⟨_, rfl, rfl, _, rfl, x, rfl, fun u G3 mu g3 => ?_⟩
        have mu := unk_mpP mu
        refine useM2 (mj.same g3) mu ⟨pj, u, j, 1, 1, 1, 2 ^ 1200, 1, _, _, rfl, mj.same g3, mu, by omega, by decide, by decide, by decide, fun r3 G4 mr4 g4 => ?_⟩
        rw [pol_unk] at mr4
        refine ⟨g2.trans (g3.trans g4), r3, some (.str x), rfl, ?_⟩
        rw [take_snoc hx]
        exact mr4.mono (Nat.le_refl _) (by decide) (by decide)
      · rintro σ G2 ⟨g2, pj, x5, rfl, mj⟩
        rw [List.length_map, List.take_length] at mj
        have mr := mr.same g2
        refine ⟨_, rfl, _, rfl, useM2 mr mj ⟨r, pj, 6, 1 + i, 1, i * 2 ^ 1200, 2 ^ 1200, _, _, rfl, mr, mj.mono fb (by decide) (Nat.le_refl _), by omega, fun r3 G4 mr4 g4 => ?_⟩⟩
        refine ⟨s2.trans (g2.trans g4), r3, _, _, _, _, rfl, ?_⟩
        rw [Pol.add_mk] at mr4
        rw [take_snoc hb]
        exact mr4.mono (Nat.le_refl _) (Nat.le_refl _) (by rw [Nat.succ_mul]; exact Nat.le_refl _)
    · rintro σ G ⟨s2, r, x2, x3, x4, x5, rfl, mr⟩
      rw [lu, List.take_length] at mr
      exact ⟨_, rfl, q r G mr s2⟩
-- part k71b
/-! the law's common divisor and products -/
abbrev s_lcomm : Stmt := top 20
theorem sc_lcomm : FnScope ["_law_a", "_law_b", "_law_first", "_law_second"] ["_law_a", "_law_b"] (defScope s_lcomm) := ⟨rfl, rfl, rfl, by decide +kernel, rfl, by decide +kernel, by decide +kernel⟩
def spLcomm : Sp := fun vs H Q _ => ∃ (a b : Int), vs = [.int a, .int b] ∧ Q (.int ((Int.gcd a b : Nat) : Int)) H
theorem abs_ifZ (z : Int) : (if z < 0 then -z else z) = ((z.natAbs : Nat) : Int) := by
  split <;> omega
theorem ok_lcomm {f : Addr} {fd : FuncData} (T : Txt mg) (F : Fun K "_law_common" "_law_common" s_lcomm f fd) : FnOk P w K mg base CX0 1 f fd ["_law_a", "_law_b"] spLcomm := by
  refine F.ok sc_lcomm (fun vs H Q E h => ?_) (fun cdv A outer s H vs Q E hr h => ?_)
  · obtain ⟨a, b, rfl, _⟩ := h
    rfl
  · obtain ⟨a, b, rfl, q⟩ := h
    refine ⟨_, (pss_cons (ps_par (i := 2) (j := 3) rfl sc_lcomm.nd rfl rfl (by decide) rfl rfl (pa_cons (pe_callB call_abs (by rfl) T.abs boot_abs (pa_cons (pv 0) pa_nil)) (pa_cons (pe_callB call_abs (by rfl) T.abs boot_abs (pa_cons (pv 1) pa_nil)) pa_nil)) rfl)
 (pss_cons (ps_while PassesOwn.never (pt_cmpR op_gt (pv 3) pe_int (nomark _)) (pss_one (ps_par (i := 2) (j := 3) rfl sc_lcomm.nd rfl rfl (by decide) rfl rfl (pa_cons (pv 3) (pa_cons (pe_op op_mod (pv 2) (pv 3)) pa_nil)) rfl)))
 (pss_one (ps_ret (pv 2))))), ?_⟩
    refine ⟨_, rfl, _, rfl, _, rfl, _, rfl, _, _, rfl, ?_⟩
    rw [abs_ifZ, abs_ifZ]
    refine while_by (fun σ H' => H = H' ∧ ∃ x y : Nat, σ = [some (.int a), some (.int b), some (.int (x : Int)), some (.int (y : Int))] ∧ Nat.gcd x y = Int.gcd a b)
      (fun σ _ => match σ[3]? with | some (some (V.int k)) => k.toNat | _ => 0) ⟨rfl, _, _, rfl, rfl⟩ ?_ ?_
    · rintro σ _ ⟨rfl, x, y, rfl, hg⟩
      refine ⟨_, rfl, _, _, rfl, rfl, _, rfl, ?_⟩
      by_cases c : 0 < y
      · refine if_pos_of (decide_eq_true (by omega)) ?_
        refine ⟨_, rfl, _, rfl, _, rfl, _, _, rfl, rfl, (by show (0 : Int) < y; omega), _, _, rfl, ?_⟩
        refine ⟨⟨rfl, y, x % y, ?_, ?_⟩, ?_⟩
        · rw [Int.natCast_emod]
          rfl
        · rw [← hg, Nat.gcd_comm x y, Nat.gcd_rec y x, Nat.gcd_comm]
        · show ((x : Int) % (y : Int)).toNat < ((y : Int)).toNat
          rw [← Int.natCast_emod]
          have := Nat.mod_lt x c
          omega
      · refine if_neg_of (decide_eq_false (by omega)) ?_
        have z : y = 0 := by omega
        rw [z, Nat.gcd_zero_right] at hg
        rw [← hg] at q
        exact ⟨_, rfl, q⟩
    · rintro σ H1 Q1 Q2 h ⟨v, e1, i, j, e2, e3, k, e4, qq⟩
      exact ⟨v, e1, i, j, e2, e3, k, e4, h _ _ qq⟩
abbrev s_lmult : Stmt := top 19
theorem sc_lmult : FnScope ["_law_first", "_law_second", "_law_terms_here", "_law_row", "_law_number", "_law_more", "_law_factor"] ["_law_first", "_law_second"] (defScope s_lmult) := ⟨rfl, rfl, rfl, by decide +kernel, rfl, by decide +kernel, by decide +kernel⟩
def spLmult : Sp := fun vs H Q _ => ∃ (t0 t1 : Addr) (us0 us1 : List V) (b0 b1 : FS), vs = [.ref t0, .ref t1] ∧ H t0 = some (.lst us0) ∧ RowsAt H us0 b0 ∧ H t1 = some (.lst us1) ∧ RowsAt H us1 b1 ∧ RowsOk (mulS b0 b1) ∧ (∀ b ∈ b0, b.1.length ≤ 6 ∧ b.2.natAbs < 2 ^ 600) ∧ (∀ b ∈ b1, b.1.length ≤ 6 ∧ b.2.natAbs < 2 ^ 600) ∧
  ∀ r us' H', H' r = some (.lst us') → RowsAt H' us' (gathT (mulS b0 b1)) → Same H H' → Q (.ref r) H'
theorem ok_lmult {f : Addr} {fd : FuncData} (TT : Txt mg) (F : Fun K "_law_multiplied" "_law_multiplied" s_lmult f fd) (c_gath : Cl P w K mg base CX0 1 "_law_gathered" spLgathX) : FnOk P w K mg base CX0 2 f fd ["_law_first", "_law_second"] spLmult := by
  refine F.ok sc_lmult (fun vs H Q E h => ?_) (fun cdv A outer s H vs Q E hr h => ?_)
  · obtain ⟨t0, t1, _, _, _, _, rfl, _⟩ := h
    rfl
  · obtain ⟨t0, t1, us0, us1, b0, b1, rfl, h0, rows0, h1, rows1, ok, n0, n1, q⟩ := h
    refine ⟨_, (pss_cons (ps_set (i := 2) sc_lmult.nd rfl (Or.inl rfl) (pe_lst pa_nil))
 (pss_cons (ps_for PassesOwn.never rfl (pi_list (pv 0)) (pg_unl rfl (pgs_cons (pg_name (i := 3) sc_lmult.nd rfl (Or.inl rfl)) (pgs_cons (pg_name (i := 4) sc_lmult.nd rfl (Or.inl rfl)) pgs_nil))) (pss_one (ps_for PassesOwn.never rfl (pi_list (pv 1)) (pg_unl rfl (pgs_cons (pg_name (i := 5) sc_lmult.nd rfl (Or.inl rfl)) (pgs_cons (pg_name (i := 6) sc_lmult.nd rfl (Or.inl rfl)) pgs_nil))) (pss_one (ps_expr (pe_bm PySem.F.plainAttrs_list PySem.F.slot_list_append PySem.F.type_list_append mt_append (pv 2) (pa_cons (pe_lst (pa_cons (pe_callB cr_sortedS (by rfl) TT.sorted boot_sorted (pa_cons (pe_op op_cat (pv 3) (pv 5)) pa_nil)) (pa_cons (pe_op op_mulW (pv 4) (pv 6)) pa_nil))) pa_nil)))))))
 (pss_one (ps_ret (pe_cl c_gath hr (pa_cons (pv 2) pa_nil)))))), ?_⟩
    have lok := ok.len
    rw [mulS_len] at lok
    have l0 := rows0.1
    have l1 := rows1.1
    refine ⟨Nat.zero_le _, fun l nl => ?_⟩
    have s1 := same_upd (o := .lst []) nl
    refine ⟨_, rfl, t0, rfl, ⟨us0, SqL.of (s1 _ _ h0)⟩, for_it walk_list (fun i σ G => Same H G ∧ ∃ (x3 x4 x5 x6 : Option V) (us : List V), σ = [some (.ref t0), some (.ref t1), some (.ref l), x3, x4, x5, x6] ∧ G l = some (.lst us) ∧ RowsN l G us (mulS (b0.take i) b1))
      ⟨s1, none, none, none, none, [], rfl, upd_same, AllS.nil⟩ (fun i σ G _ h => SqL.of (h.1 _ _ h0)) ?_ ?_⟩
    · rintro i y σ G G' hi ⟨s2, x3, x4, x5, x6, us, rfl, hl, rows⟩ ⟨hG, hy⟩
      subst hG
      obtain ⟨b, hb, ra, qa, rfl, hra0, hqa0⟩ := rows0.get hy
      have nql : qa ≠ l := ne_of_none hqa0 nl
      have hra := s2 _ _ hra0
      have hqa := s2 _ _ hqa0
      have mem0 := List.mem_of_getElem? hb
      obtain ⟨f0, m0⟩ := n0 b mem0
      refine ⟨ra, _, rfl, SqL.of hra, rfl, _, _, rfl, _, _, rfl, rfl, ?_⟩
      refine ⟨_, rfl, t1, rfl, ⟨us1, SqL.of (s2 _ _ h1)⟩, for_it walk_list (fun j σ G2 => Same H G2 ∧ ∃ (x5 x6 : Option V) (us : List V), σ = [some (.ref t0), some (.ref t1), some (.ref l), some (.ref qa), some (.int b.2), x5, x6] ∧ G2 l = some (.lst us) ∧ RowsN l G2 us (mulS (b0.take i) b1 ++ mulE b (b1.take j)) ∧ G2 qa = some (.lst (b.1.map V.str)))
        ⟨s2, x5, x6, us, rfl, hl, (by rw [List.take_zero]; show RowsN l _ us (_ ++ []); rw [List.append_nil]; exact rows), hqa⟩ (fun j σ G2 _ h => SqL.of (h.1 _ _ h1)) ?_ ?_⟩
      · rintro j y σ G2 G2' hj ⟨s3, x5, x6, us, rfl, hl, rows, hqa⟩ ⟨hG, hy⟩
        subst hG
        obtain ⟨c, hc, rc, qc, rfl, hrc, hqc⟩ := (rows1.same s3).get hy
        obtain ⟨f1, m1⟩ := n1 c (List.mem_of_getElem? hc)
        have lr := rows.1
        rw [List.length_append, mulS_len, mulE_len, List.length_take, List.length_take] at lr
        have hiB : i < b0.length := by rw [← l0]; exact hi
        have hjB : j < b1.length := by rw [← l1]; exact hj
        have few : us.length < 60 := by
          have := Nat.mul_le_mul_right b1.length (show i + 1 ≤ b0.length from hiB)
          rw [Nat.add_mul, Nat.one_mul] at this
          rw [Nat.min_eq_left (Nat.le_of_lt hiB), Nat.min_eq_left (Nat.le_of_lt hjB)] at lr
          omega
        refine ⟨rc, _, rfl, SqL.of hrc, rfl, _, _, rfl, _, _, rfl, rfl, ?_⟩
        refine ⟨_, rfl, .inl ⟨rfl, us, SqL.of hl⟩, _, rfl, _, rfl, qa, qc, _, _, rfl, rfl, hqa, hqc, by rw [List.length_map, List.length_map, sizeLine_eq]; omega, fun p1 np1 => ?_⟩
        have g1 := same_upd (o := .lst (b.1.map V.str ++ c.1.map V.str)) np1
        refine ⟨p1, b.1 ++ c.1, rfl, SqL.of (by rw [List.map_append]; exact upd_same), by rw [List.length_append]; omega, fun ys q1 perm srd nq1 => ?_⟩
        have ey : ys = srt (b.1 ++ c.1) := srt_uniq perm (sortedS_leN srd)
        subst ey
        have g2 := g1.trans (same_upd (o := .lst ((srt (b.1 ++ c.1)).map V.str)) nq1)
        have hl2 := g2 _ _ hl
        have nq1l : q1 ≠ l := fun z => by rw [z, g1 _ _ hl] at nq1; cases nq1
        refine ⟨_, rfl, _, rfl, _, _, rfl, rfl, wide_mul m0 m1 (by decide) (by decide) (by decide), (by show 2 ≤ sizeLine; decide), fun r nr => ?_⟩
        have g3 := same_upd (o := .lst [.ref q1, .int (b.2 * c.2)]) nr
        have nrl : r ≠ l := fun z => by rw [z, hl2] at nr; cases nr
        refine ⟨l, us, _, rfl, rfl, g3 _ _ hl2, by rw [sizeLine_eq]; omega, ?_⟩
        have g23 := g2.trans g3
        refine ⟨fun z o ez => ?_, _, _, us ++ [.ref r], rfl, upd_same, ?_, ?_⟩
        · rw [upd_ne (ne_of_none ez nl)]
          exact g23 _ _ (s3 z o ez)
        · rw [mulE_snoc b hc, ← List.append_assoc]
          have rowNew : RowN l (upd _ r (.lst [.ref q1, .int (b.2 * c.2)])) (.ref r) (srt (b.1 ++ c.1), b.2 * c.2) := ⟨r, q1, rfl, nrl, nq1l, upd_same, g3 _ _ upd_same⟩
          exact ((rows.mono fun v b _ h => h.same g23).snoc rowNew).mono fun v b _ h => h.upd
        · rw [upd_ne nql]
          exact g23 _ _ hqa
      · rintro σ G2 ⟨s3, x5, x6, us, rfl, hl, rows, hqa⟩
        rw [l1, List.take_length, ← mulS_snoc hb] at rows
        exact ⟨s3, _, _, _, _, us, rfl, hl, rows⟩
    · rintro σ G ⟨s2, x3, x4, x5, x6, us, rfl, hl, rows⟩
      rw [l0, List.take_length] at rows
      refine ⟨_, rfl, l, us, mulS b0 b1, fun _ => False, rfl, hl, rows.rows.rowX (fun z h => h.elim), ok, (fun z h => h.elim), fun r us' H' _ h1 h2 h3 => q r us' H' h1 (h2.mono fun v b _ h => h.row) (s2.trans h3)⟩
-- part k71c
/-! the law's look at a polynomial -/
/-- rows in their order, gathered -/
structure Canon (bs : FS) : Prop where
  tm : Terms bs
  ok : RowsOk bs
  nms : ∀ b ∈ bs, ∀ x ∈ b.1, x ∈ U4
  can : canon bs = bs
theorem Canon.tx {bs : FS} (c : Canon bs) : TxOk bs := ⟨Nat.le_trans c.ok.len (by decide), fun e he => by
    have h2 := c.ok.nums e he
    by_cases z : e.2.natAbs = 0
    · rw [z, Nat.log2_zero]; decide
    · exact Nat.lt_trans ((Nat.log2_lt z).mpr h2) (by decide), fun e he => Nat.le_trans (c.ok.st e he).2 (by decide), fun e he x hx => (c.ok.nms e he x hx).1⟩
theorem evS_dummy : True := trivial
theorem namesN_permK {A B : FS} (h : A.Perm B) (x : Str) : x ∈ namesN A ↔ x ∈ namesN B := by
  unfold namesN
  rw [List.mem_flatMap, List.mem_flatMap]
  exact ⟨fun ⟨e, he, hx⟩ => ⟨e, h.mem_iff.mp he, hx⟩, fun ⟨e, he, hx⟩ => ⟨e, h.mem_iff.mpr he, hx⟩⟩
theorem names_uniqK {ys zs : List Str} {P : Str → Prop} (s1 : ys.Pairwise leN) (n1 : ys.Nodup) (m1 : ∀ k, k ∈ ys ↔ P k) (s2 : zs.Pairwise leN) (n2 : zs.Nodup) (m2 : ∀ k, k ∈ zs ↔ P k) : ys = zs :=
  List.Perm.eq_of_pairwise (fun _ _ _ _ => leN_antisymm) s1 s2 ((List.perm_ext_iff_of_nodup n1 n2).mpr fun k => (m1 k).trans (m2 k).symm)
theorem useEqMP {C : Addr} {H : Hp} {a b : Addr} {d n B e m D : Nat} {p q : Pol} {Q : VK} (ma : MP C d n B H a p) (mb : MP C e m D H b q) (k : Q (.bl (polEq p q)) H) : rOwn2 C (spMnEq C) (.ref a) (.ref b) H Q :=
  useM2 ma mb (by
    obtain ⟨L, ma, rfl, _⟩ := ma
    obtain ⟨M, mb, rfl, _⟩ := mb
    exact ⟨a, b, L, M, rfl, ma, mb, k⟩)
theorem AllS.rev {α : Type} {S : V → α → Prop} {us : List V} {bs : List α} (h : AllS S us bs) : AllS S us.reverse bs.reverse := by
  refine ⟨by rw [List.length_reverse, List.length_reverse, h.1], fun i b hb => ?_⟩
  have hi : i < bs.length := by
    have := (List.getElem?_eq_some_iff.mp hb).1
    rw [List.length_reverse] at this
    exact this
  rw [List.getElem?_reverse hi] at hb
  obtain ⟨v, h1, h2⟩ := h.2 _ b hb
  refine ⟨v, ?_, h2⟩
  rw [List.getElem?_reverse (by rw [h.1]; exact hi), h.1]
  exact h1
abbrev s_lis : Stmt := top 21
theorem sc_lis : FnScope ["_law_told", "_law_terms_here", "_law_listed", "_law_names", "_law_row", "_law_number", "_law_content"] ["_law_told", "_law_terms_here"] (defScope s_lis) := ⟨rfl, rfl, rfl, by decide +kernel, rfl, by decide +kernel, by decide +kernel⟩
def spLis (C : Addr) : Sp := fun vs H Q _ => ∃ (m t : Addr) (us : List V) (bs : FS) (d n B : Nat), vs = [.ref m, .ref t] ∧ MP C d n B H m (pol bs) ∧ H t = some (.lst us) ∧ RowsAt H us bs ∧ Canon bs ∧ ∀ H', Same H H' → Q (.bl true) H'
theorem ok_lis {f C : Addr} {fd : FuncData} (TT : Txt mg) (TM : ManyT K mg C) (F : Fun K "_law_is" "_law_is" s_lis f fd) (c_text : Cl P w K mg base CX0 1 "_law_text" spLtext) (c_comm : Cl P w K mg base CX0 1 "_law_common" spLcomm) (c_made : Cl P w K mg base CX0 5 "_law_made" (spLmadeM C))
    (m_names : Me P w K mg base 1 C "names" (spMnNames C)) (m_deg : Me P w K mg base 1 C "degree" (spMnDeg C)) (m_cont : Me P w K mg base 3 C "content" (spMnCont C)) (m_str : Me P w K mg base 2 C "__str__" (spMnStr C)) (m_eq : Me P w K mg base 1 C "__eq__" (spMnEq C)) : FnOk P w K mg base CX0 6 f fd ["_law_told", "_law_terms_here"] (spLis C) := by
  refine F.ok sc_lis (fun vs H Q E h => ?_) (fun cdv A outer s H vs Q E hr h => ?_)
  · obtain ⟨m, t, _, _, _, _, _, rfl, _⟩ := h
    rfl
  · obtain ⟨m, t, us, bs, d, n, B, rfl, mp, ht, rows, cn, q⟩ := h
    refine ⟨_, (pss_cons (ps_if (pw_or (pt_not (pt_val (pe_callB (C8.call_isC TM.isC) (by rfl) TT.isinstance boot_isinstance (pa_cons (pv 0) (pa_cons (pe_glob (v := .ref C) (by rfl) TM.g rfl) pa_nil))))) (pw_or1 (pt_cmpR op_ne (pe_callTy (cr_strOwn m_str hr) (by rfl) TT.str boot_str (pa_cons (pv 0) pa_nil)) (pe_cl c_text hr (pa_cons (pv 1) pa_nil)) (nomark _)))).pt (pss_one (ps_ret pe_bl)) pss_nil)
 (pss_cons (ps_set (i := 2) sc_lis.nd rfl (Or.inl rfl) (pe_me0 m_names TM.cl hr (pv 0) ))
 (pss_cons (ps_set (i := 3) sc_lis.nd rfl (Or.inl rfl) (pe_lst pa_nil))
 (pss_cons (ps_for PassesOwn.never rfl (pi_list (pv 1)) (pg_unl rfl (pgs_cons (pg_name (i := 4) sc_lis.nd rfl (Or.inl rfl)) (pgs_cons (pg_name (i := 5) sc_lis.nd rfl (Or.inl rfl)) pgs_nil))) (pss_one (ps_set (i := 3) sc_lis.nd rfl (Or.inl rfl) (pe_op op_cat (pv 3) (pv 4)))))
 (pss_cons (ps_if (pw_or (pt_not (pt_val (pe_callB call_isi (by rfl) TT.isinstance boot_isinstance (pa_cons (pv 2) (pa_cons (pe_bltn (v := .ty "list") (by rfl) TT.list boot_list rfl) pa_nil))))) (pw_or1 (pt_cmpR (op_neD (hu64 hr)) (pv 2) (pe_callB (call_sortedX rfl) (by rfl) TT.sorted boot_sorted (pa_cons (pe_callTy (cr_setStrs rfl) (by rfl) TT.set boot_set (pa_cons (pv 3) pa_nil)) pa_nil)) (nomark _)))).pt (pss_one (ps_ret pe_bl)) pss_nil)
 (pss_cons (ps_expr (pe_bm PySem.F.plainAttrs_list PySem.F.slot_list_append PySem.F.type_list_append mt_append (pv 2) (pa_cons pe_str pa_nil)))
 (pss_cons (ps_if (pt_cmpR op_ne (pe_me0 m_deg TM.cl hr (pv 0) ) (pe_callB (cr_max rfl) (by rfl) TT.max boot_max (pa_cons (pe_op op_cat (pe_lst (pa_cons (pe_un un_neg pe_int) pa_nil)) (pe_lc (own := [("_law_row", 4), ("_law_number", 5)]) (g := (gUnl K 2 (gCons (gName 4) (gCons (gName 5) gNil)))) (tt := tYes) rfl sc_lis.nd (pi_list (pv 1)) (blkOk_by (N := ["_law_told", "_law_terms_here", "_law_listed", "_law_names", "_law_row", "_law_number", "_law_content"]) (sc := defScope s_lis) (by decide +kernel)) (fun _ _ _ _ _ => (pg_unl rfl (pgs_cons (pg_name (i := 4) sc_lis.nd rfl (Or.inl rfl)) (pgs_cons (pg_name (i := 5) sc_lis.nd rfl (Or.inl rfl)) pgs_nil)))) (fun _ _ _ _ _ => pts_nil) (fun _ _ _ _ _ => (pe_callB (call_len_seqK (K := K) rfl) (by rfl) TT.len PySem.boot_len (pa_cons (pv 4) pa_nil))))) pa_nil)) (nomark _)) (pss_one (ps_ret pe_bl)) pss_nil)
 (pss_cons (ps_set (i := 6) sc_lis.nd rfl (Or.inl rfl) pe_int)
 (pss_cons (ps_for PassesOwn.never rfl (pi_list (pv 1)) (pg_unl rfl (pgs_cons (pg_name (i := 4) sc_lis.nd rfl (Or.inl rfl)) (pgs_cons (pg_name (i := 5) sc_lis.nd rfl (Or.inl rfl)) pgs_nil))) (pss_one (ps_set (i := 6) sc_lis.nd rfl (Or.inl rfl) (pe_cl c_comm hr (pa_cons (pv 6) (pa_cons (pv 5) pa_nil))))))
 (pss_one (ps_ret (pe_and (pe_cmpR op_eq (pe_me0 m_cont TM.cl hr (pv 0) ) (pv 6) (nomark _)) (pe_one (pe_cmpR (op_eq_own m_eq hr) (pv 0) (pe_cl c_made hr (pa_cons (pe_revL (pv 1)) pa_nil)) (nomark _))))))))))))))), ?_⟩
    obtain ⟨L, ma, pL, zL⟩ := mp
    have pm : L.Perm bs := terms_perm ma.ok cn.tm pL
    obtain ⟨dx, da, hm1, hm2⟩ := ma.ob
    have lu := rows.1
    have lok := cn.ok.len
    have LL : L.length ≤ 60 := by rw [pm.length_eq]; exact lok
    have cc : canon L = bs := (canon_congr ma.ok.gd.nd pm).trans cn.can
    refine ⟨_, rfl, m, dx, _, rfl, hm1, _, rfl, if_neg_of rfl ?_⟩
    refine ⟨_, rfl, m, dx, _, rfl, hm1, m, L, rfl, ma, cn.tx.perm pm, fun H1 s1 => ⟨_, rfl, ?_⟩⟩
    refine ⟨_, rfl, t, us, bs, rfl, s1 _ _ ht, rows.same s1, cn.tx, fun H2 s2 => ?_⟩
    have s02 := s1.trans s2
    refine ⟨rfl, _, rfl, if_neg_of (by rw [cc, decide_eq_true rfl]; rfl) ?_⟩
    have inU : ∀ k ∈ namesN L, k ∈ U4 := fun k hk => by
      obtain ⟨e, he, hx⟩ := List.mem_flatMap.mp ((namesN_permK pm k).mp hk)
      exact cn.nms e he k hx
    refine ⟨_, rfl, m, dx, _, rfl, s02 _ _ hm1, mn_no _ (by decide +kernel), m, L, U4, rfl, ma.same s02, by omega, inU, by decide, fun ln ys H3 nln hln srd ndy mem s3 => ?_⟩
    have s03 := s02.trans s3
    -- the names
    refine ⟨Nat.zero_le _, fun l0 nl0 => ?_⟩
    have g4 := same_upd (o := .lst []) nl0
    have s04 := s03.trans g4
    have hln4 := g4 _ _ hln
    have nfew : ∀ i, (namesN (bs.take i)).length ≤ 360 := fun i => by
      have key : ∀ B : FS, (∀ b ∈ B, b.1.length ≤ 6) → (namesN B).length ≤ B.length * 6 := fun B => by
        induction B with
        | nil => exact fun _ => Nat.zero_le _
        | cons b B ih =>
          intro h
          have h1 := h b List.mem_cons_self
          have h2 := ih fun c hc => h c (List.mem_cons_of_mem _ hc)
          show (b.1 ++ namesN B).length ≤ (B.length + 1) * 6
          rw [List.length_append]
          omega
      have h := key (bs.take i) fun b hb => (cn.ok.st b (List.mem_of_mem_take hb)).2
      rw [List.length_take] at h
      have : min i bs.length * 6 ≤ 60 * 6 := Nat.mul_le_mul_right 6 (by omega)
      omega
    have gl0 : upd H3 l0 (.lst []) l0 = some (.lst []) := upd_same
    refine ⟨_, rfl, t, rfl, ⟨us, SqL.of (s04 _ _ ht)⟩, for_it walk_list (fun i σ G => Same (upd H3 l0 (.lst [])) G ∧ ∃ (l1 : Addr) (x4 x5 x6 : Option V), σ = [some (.ref m), some (.ref t), some (.ref ln), some (.ref l1), x4, x5, x6] ∧ G l1 = some (.lst ((namesN (bs.take i)).map V.str)))
      ⟨Same.refl _, l0, none, none, none, rfl, gl0⟩ (fun i σ G _ h => SqL.of (h.1 _ _ (s04 _ _ ht))) ?_ ?_⟩
    · rintro i y σ G G' hi ⟨g5, l1, x4, x5, x6, rfl, hl1⟩ ⟨hG, hy⟩
      subst hG
      obtain ⟨b, hb, ra, qa, rfl, hra, hqa⟩ := ((rows.same s04).same g5).get hy
      have h6 := nfew i
      have fb := (cn.ok.st b (List.mem_of_getElem? hb)).2
      refine ⟨ra, _, rfl, SqL.of hra, rfl, _, _, rfl, _, _, rfl, rfl, ?_⟩
      refine ⟨_, rfl, _, rfl, l1, qa, _, _, rfl, rfl, hl1, hqa, by rw [List.length_map, List.length_map, sizeLine_eq]; omega, fun p np => ?_⟩
      have g6 := same_upd (o := .lst ((namesN (bs.take i)).map V.str ++ b.1.map V.str)) np
      refine ⟨g5.trans g6, p, _, _, _, rfl, ?_⟩
      rw [namesN_take hb, List.map_append]
      exact upd_same
    rintro σ G5 ⟨g5, l1, x4, x5, x6, rfl, hl1⟩
    rw [lu, List.take_length] at hl1
    have hln5 := g5 _ _ hln4
    refine ⟨_, rfl, _, _, _, _, true, rfl, .ty _, .base (.lst hln5), kit_ty (by decide +kernel), _, rfl, if_neg_of rfl ?_⟩
    have nk := nfew bs.length
    rw [List.take_length] at nk
    refine ⟨_, rfl, _, rfl, l1, namesN bs, rfl, SqL.of hl1, by omega, fun ps c nps hc => ?_⟩
    have c4 := hc U4 fun x hx => inU x ((namesN_permK pm x).mpr hx)
    have c4' : c < 64 := Nat.lt_of_le_of_lt c4 (by decide)
    have g6 := same_upd (o := SetXO P w ps (fun j => decide (j ∈ namesN bs)) c) nps
    refine ⟨ps, _, c, rfl, upd_same, c4', fun ys2 p2 srd2 nd2 mem2 _ np2 => ?_⟩
    have g7 := same_upd (o := .lst (ys2.map V.str)) np2
    have ey : ys = ys2 := names_uniqK srd ndy mem (sortedS_leN srd2) nd2 fun k => (mem2 k).trans ((decide_eq_true_iff).trans (namesN_permK pm k).symm)
    subst ey
    have okN : ∀ z ∈ ys, PyData.strOk z = true := fun z hz => (u4_ok z (inU z ((mem z).mp hz))).2
    refine ⟨_, _, dp_strs (SqL.of ((g6.trans g7) _ _ hln5)), dp_strs (SqL.of upd_same), shaped_strs okN, shaped_strs okN, ?_⟩
    rw [eqv_strs]
    refine ⟨_, rfl, if_neg_of (by rw [decide_eq_true rfl]; rfl) ?_⟩
    have g57 := g5.trans (g6.trans g7)
    have hln7 := (g6.trans g7) _ _ hln5
    have ly : ys.length ≤ 4 := sub_len ndy fun k hk => inU k ((mem k).mp hk)
    refine ⟨_, rfl, .inl ⟨rfl, _, SqL.of hln7⟩, ln, _, _, rfl, rfl, hln7, by rw [List.length_map, sizeLine_eq]; omega, ?_⟩
    -- what stood before the names keeps
    have s28 : Same H2 (upd (upd (upd G5 ps (SetXO P w ps (fun j => decide (j ∈ namesN bs)) c)) p2 (.lst (ys.map V.str))) ln (.lst (ys.map V.str ++ [.str "q"]))) := fun b o eb => by
      rw [upd_ne (ne_of_none eb nln)]
      exact g57 _ _ (g4 _ _ (s3 _ _ eb))
    have s08 := s02.trans s28
    have mn : (mnF da).lookup ("degree" : Str) = none := mn_no _ (by decide +kernel)
    refine ⟨_, rfl, m, dx, _, rfl, s08 _ _ hm1, mn, m, L, rfl, ma.same s08, by omega, fun G9 s9 => ?_⟩
    have s09 := s08.trans s9
    refine ⟨_, rfl, (by show 1 ≤ sizeLine; decide), fun pa npa => ?_⟩
    have ga := same_upd (o := .lst [.int (-1)]) npa
    have s0a := s09.trans ga
    have hpa : upd G9 pa (.lst [.int (-1)]) pa = some (.lst [.int (-1)]) := upd_same
    generalize hGa : upd G9 pa (.lst [.int (-1)]) = Ga at ga s0a hpa ⊢
    refine ⟨_, rfl, t, rfl, ⟨us, SqL.of (s0a _ _ ht)⟩, fun D nD => lcMap walk_list ((lensZ bs).map V.int) (by rw [List.length_map]; unfold lensZ; rw [List.length_map, lu]) nD (fun G s => SqL.of (s _ _ (s0a _ _ ht))) ?_ ?_⟩
    · rintro i x _ G hi s1' hD ⟨rfl, hx⟩
      obtain ⟨b, hb, ra, qa, rfl, hra, hqa⟩ := ((rows.same s0a).same s1').get hx
      refine ⟨ra, _, rfl, SqL.of hra, rfl, _, _, rfl, _, _, rfl, rfl, rfl, _, rfl, qa, _, rfl, .inl (SqL.of hqa), ?_⟩
      refine mapEnd nD (by rw [List.length_map]; unfold lensZ; rw [List.length_map]; omega) s1' hD (map_at (f := V.int) ?_)
      unfold lensZ
      rw [List.getElem?_map, hb, List.length_map]
      rfl
    intro Gb sb hD
    refine ⟨pa, D, _, _, rfl, rfl, sb _ _ hpa, hD, by rw [List.length_map]; unfold lensZ; rw [List.length_map, sizeLine_eq]; show 1 + _ ≤ _; omega, fun pc npc => ?_⟩
    have gc := same_upd (o := .lst ([V.int (-1)] ++ (lensZ bs).map V.int)) npc
    refine ⟨pc, -1 :: lensZ bs, rfl, SqL.of upd_same, Nat.succ_pos _, fun mx hmx1 hmx2 => ?_⟩
    refine ⟨rfl, _, rfl, if_neg_of (by rw [deg_of pm hmx1 hmx2, decide_eq_true rfl]; rfl) ?_⟩
    have s0c := s0a.trans (sb.trans gc)
    generalize hGc : upd Gb pc (.lst ([V.int (-1)] ++ (lensZ bs).map V.int)) = Gc at s0c ⊢
    -- the content
    refine ⟨_, rfl, t, rfl, ⟨us, SqL.of (s0c _ _ ht)⟩, for_it walk_list (fun i σ G => G = Gc ∧ ∃ (x4 x5 : Option V), σ = [some (.ref m), some (.ref t), some (.ref ln), some (.ref l1), x4, x5, some (.int ((gcds ((bs.take i).map (·.2)) : Nat) : Int))])
      ⟨rfl, x4, x5, rfl⟩ (fun i σ G _ h => by rw [h.1]; exact SqL.of (s0c _ _ ht)) ?_ ?_⟩
    · rintro i y σ G G' hi ⟨hH, x4, x5, rfl⟩ ⟨hG, hy⟩
      subst hG
      subst hH
      obtain ⟨b, hb, ra, qa, rfl, hra, hqa⟩ := (rows.same s0c).get hy
      refine ⟨ra, _, rfl, SqL.of hra, rfl, _, _, rfl, _, _, rfl, rfl, _, rfl, _, rfl, _, _, rfl, ?_⟩
      have gt := gcds_take (l := bs.map (·.2)) (i := i) (z := b.2) (by rw [List.getElem?_map, hb]; rfl)
      rw [← List.map_take, ← List.map_take] at gt
      rw [← gt]
      exact ⟨rfl, _, _, rfl⟩
    rintro σ Gd ⟨hH, x4, x5, rfl⟩
    subst hH
    rw [lu, List.take_length]
    refine ⟨_, rfl, m, dx, _, rfl, s0c _ _ hm1, mn_no _ (by decide +kernel), m, L, rfl, ma.same s0c, fun Ge se => ?_⟩
    have s0e := s0c.trans se
    refine ⟨_, rfl, rfl, _, rfl, if_pos_of (by rw [gcds_perm (pm.map (·.2)), decide_eq_true rfl]) ?_⟩
    refine ⟨_, rfl, _, rfl, t, us, rfl, SqL.of (s0e _ _ ht), fun pr npr => ?_⟩
    have gr := same_upd (o := .lst us.reverse) npr
    have s0f := s0e.trans gr
    have okR : RowsOk bs.reverse := ⟨by rw [List.length_reverse]; exact lok, fun b h => cn.ok.st b (List.mem_reverse.mp h), fun b h => cn.ok.nms b (List.mem_reverse.mp h), fun b h => cn.ok.nums b (List.mem_reverse.mp h)⟩
    refine ⟨pr, us.reverse, bs.reverse, rfl, upd_same, AllS.rev (rows.same s0f), okR, fun r Gf mr sf => ?_⟩
    refine useEqMP (d := d) (n := n) (B := B) ⟨L, ma.same (s0f.trans sf), rfl, zL⟩ mr ?_
    rw [polEq_iff.mpr (by rw [pL]; exact pol_eq.mpr (cf_perm (List.reverse_perm bs).symm))]
    exact q Gf (s0f.trans sf)
-- part k71d
/-! the law's rows and their polynomials -/
theorem gathT_memK {bs : FS} {e : List Str × Int} (h : e ∈ gathT bs) : ∃ b ∈ bs, e.1 = b.1 := by
  have h2 : e ∈ nzS (gath bs) := (canon_perm _).mem_iff.mp h
  exact gath_keys bs e (List.mem_filter.mp h2).1
theorem nrm_leK {bs : FS} {B : Nat} (h : ∀ b ∈ bs, b.2.natAbs ≤ B) : nrm bs ≤ bs.length * B := by
  induction bs with
  | nil => exact Nat.zero_le _
  | cons b bs ih =>
    have h1 := h b List.mem_cons_self
    have h2 := ih fun c hc => h c (List.mem_cons_of_mem _ hc)
    show b.2.natAbs + nrm bs ≤ (bs.length + 1) * B
    rw [Nat.add_mul, Nat.one_mul]
    omega
theorem canon_canon {L : FS} (nd : (L.map (·.1)).Nodup) : canon (canon L) = canon L :=
  canon_congr ((canon_perm L).map (·.1) |>.nodup_iff.mpr nd) (canon_perm L)
/-- rows to be gathered -/
structure Raw (bs : FS) : Prop where
  len : bs.length ≤ 60
  st : ∀ b ∈ bs, b.1.Pairwise leN ∧ b.1.length ≤ 6
  nms : ∀ b ∈ bs, ∀ x ∈ b.1, x ∈ U4
  nm : nrm bs < 2 ^ 1200
theorem Raw.ok {bs : FS} (r : Raw bs) : RowsOk bs := ⟨r.len, r.st, fun b h x hx => u4_ok x (r.nms b h x hx), fun b h => Nat.lt_of_le_of_lt (nrm_mem h) r.nm⟩
theorem Raw.canon {bs : FS} (r : Raw bs) : Canon (gathT bs) := by
  have tm := gathT_terms r.st
  have sz := gathT_sz r.st
  have nms : ∀ b ∈ gathT bs, ∀ x ∈ b.1, x ∈ U4 := fun b hb x hx => by
    obtain ⟨c, hc, e⟩ := gathT_memK hb
    rw [e] at hx
    exact r.nms c hc x hx
  refine ⟨tm, ⟨Nat.le_trans sz.len r.len, fun b hb => ⟨tm.gd.st b hb, sz.it b hb⟩, fun b hb x hx => u4_ok x (nms b hb x hx), fun b hb => Nat.lt_of_le_of_lt (nrm_mem hb) (Nat.lt_of_le_of_lt sz.nm r.nm)⟩, nms, ?_⟩
  exact canon_canon (Terms.of (gath_acc bs r.st).gd).gd.nd
/-- the law's three -/
structure SmallC (c : FS) : Prop where
  cn : Canon c
  len : c.length ≤ 5
  nl : ∀ b ∈ c, b.1.length ≤ 3
  nr : nrm c < 2 ^ 300
theorem TermsOk.nrm5 {bs : FS} (t : TermsOk bs) : nrm bs ≤ 5 * 10 ^ 21 := Nat.le_trans (nrm_leK t.nums) (Nat.mul_le_mul_right _ t.len)
theorem TermsOk.raw {bs : FS} (t : TermsOk bs) : Raw bs := ⟨Nat.le_trans t.len (by decide), fun b h => ⟨(t.st b h).1, Nat.le_trans (t.st b h).2 (by decide)⟩, t.nms, Nat.lt_of_le_of_lt t.nrm5 (by decide)⟩
theorem TermsOk.small {bs : FS} (t : TermsOk bs) : SmallC (gathT bs) := by
  have sz := gathT_sz t.st
  exact ⟨t.raw.canon, Nat.le_trans sz.len t.len, fun b hb => sz.it b hb, Nat.lt_of_le_of_lt (Nat.le_trans sz.nm t.nrm5) (by decide)⟩
theorem raw_app {a b : FS} (ha : SmallC a) (hb : Canon b) (lb : b.length ≤ 5) (nb : nrm b < 2 ^ 300) : Raw (a ++ b) := by
  refine ⟨by rw [List.length_append]; have := ha.len; omega, fun x hx => ?_, fun x hx => ?_, ?_⟩
  · rcases List.mem_append.mp hx with h | h
    · exact ha.cn.ok.st x h
    · exact hb.ok.st x h
  · rcases List.mem_append.mp hx with h | h
    · exact ha.cn.nms x h
    · exact hb.nms x h
  · rw [nrm_append]
    have := ha.nr
    have z : 2 ^ 300 + 2 ^ 300 < 2 ^ 1200 := by decide
    omega
theorem raw_neg {a b : FS} (ha : SmallC a) (hb : SmallC b) : Raw (a ++ negS b) := by
  have mem : ∀ x ∈ negS b, ∃ y ∈ b, x = (y.1, -y.2) := fun x hx => by
    obtain ⟨y, hy, rfl⟩ := List.mem_map.mp hx
    exact ⟨y, hy, rfl⟩
  have lb : (negS b).length = b.length := List.length_map _
  refine ⟨by rw [List.length_append, lb]; have := ha.len; have := hb.len; omega, fun x hx => ?_, fun x hx => ?_, ?_⟩
  · rcases List.mem_append.mp hx with h | h
    · exact ha.cn.ok.st x h
    · obtain ⟨y, hy, rfl⟩ := mem x h
      exact hb.cn.ok.st y hy
  · rcases List.mem_append.mp hx with h | h
    · exact ha.cn.nms x h
    · obtain ⟨y, hy, rfl⟩ := mem x h
      exact hb.cn.nms y hy
  · rw [nrm_append, nrm_neg]
    have := ha.nr
    have := hb.nr
    have z : 2 ^ 300 + 2 ^ 300 < 2 ^ 1200 := by decide
    omega
theorem raw_mul {a b : FS} (ha : SmallC a) (hb : SmallC b) : Raw (mulS a b) := by
  have mem : ∀ x ∈ mulS a b, ∃ y ∈ a, ∃ z ∈ b, x = (srt (y.1 ++ z.1), y.2 * z.2) := fun x hx => by
    obtain ⟨y, hy, hx⟩ := List.mem_flatMap.mp hx
    obtain ⟨z, hz, rfl⟩ := List.mem_map.mp hx
    exact ⟨y, hy, z, hz, rfl⟩
  refine ⟨?_, fun x hx => ?_, fun x hx w hw => ?_, ?_⟩
  · rw [mulS_len]
    exact Nat.le_trans (Nat.mul_le_mul ha.len hb.len) (by decide)
  · obtain ⟨y, hy, z, hz, rfl⟩ := mem x hx
    have h1 := ha.nl y hy
    have h2 := hb.nl z hz
    exact ⟨srt_sorted _, by rw [srt_len, List.length_append]; omega⟩
  · obtain ⟨y, hy, z, hz, rfl⟩ := mem x hx
    rcases List.mem_append.mp ((srt_perm _).mem_iff.mp hw) with h | h
    · exact ha.cn.nms y hy w h
    · exact hb.cn.nms z hz w h
  · rw [nrm_mulS]
    exact Nat.lt_of_lt_of_le (Nat.mul_lt_mul'' ha.nr hb.nr) (by decide)
/-- the opposite, sorted -/
theorem canon_neg {b : FS} (hb : SmallC b) : Canon (canon (negS b)) := by
  have tn := neg_terms hb.cn.tm
  have p := canon_perm (negS b)
  have mem : ∀ x ∈ canon (negS b), ∃ y ∈ b, x = (y.1, -y.2) := fun x hx => by
    obtain ⟨y, hy, rfl⟩ := List.mem_map.mp (p.mem_iff.mp hx)
    exact ⟨y, hy, rfl⟩
  refine ⟨⟨⟨(p.map (·.1)).nodup_iff.mpr tn.gd.nd, fun x hx => tn.gd.st x (p.mem_iff.mp hx)⟩, fun x hx => tn.nz x (p.mem_iff.mp hx)⟩, ⟨?_, fun x hx => ?_, fun x hx w hw => ?_, fun x hx => ?_⟩, fun x hx w hw => ?_, canon_canon tn.gd.nd⟩
  · rw [p.length_eq]
    unfold negS
    rw [List.length_map]
    exact hb.cn.ok.len
  all_goals obtain ⟨y, hy, rfl⟩ := mem x hx
  · exact hb.cn.ok.st y hy
  · exact hb.cn.ok.nms y hy w hw
  · show (-y.2).natAbs < _
    rw [Int.natAbs_neg]
    exact hb.cn.ok.nums y hy
  · exact hb.cn.nms y hy w hw
theorem pol_permK {A B : FS} (h : A.Perm B) : pol A = pol B := pol_eq.mpr (cf_perm h)
/-- equal polynomials: equal rows -/
theorem canon_eq {a b : FS} (ha : Canon a) (hb : Canon b) : polEq (pol a) (pol b) = decide (a = b) := by
  by_cases c : a = b
  · rw [c, decide_eq_true rfl]
    exact polEq_iff.mpr rfl
  · rw [decide_eq_false c]
    cases e : polEq (pol a) (pol b) with
    | false => rfl
    | true =>
      have h := text_eq ha.tm hb.tm (polEq_iff.mp e)
      rw [ha.can, hb.can] at h
      exact absurd h c
/-- one unknown alone -/
theorem canon_one {x : Str} (hx : x ∈ U4) : Canon [([x], 1)] := by
  refine ⟨⟨good1 (List.pairwise_singleton _ _) 1, fun e he => by rw [List.mem_singleton.mp he]; exact (by decide : (1 : Int) ≠ 0)⟩, ⟨(by show 1 ≤ 60; decide), fun e he => ?_, fun e he y hy => ?_, fun e he => ?_⟩, fun e he y hy => ?_, List.mergeSort_singleton _⟩
  all_goals rw [List.mem_singleton.mp he] at *
  · exact ⟨List.pairwise_singleton _ _, by show 1 ≤ 6; decide⟩
  · rw [List.mem_singleton.mp hy]; exact u4_ok x hx
  · show (1 : Int).natAbs < _; decide
  · rw [List.mem_singleton.mp hy]; exact hx
theorem unk_ne : polEq (pol [(["x"], 1)]) (pol [(["y"], 1)]) = false := by
  cases e : polEq (pol [(["x"], 1)]) (pol [(["y"], 1)]) with
  | false => rfl
  | true =>
    have h := pol_eq.mp (polEq_iff.mp e) ["x"]
    exact absurd h (by decide +kernel)
/-- rows as data -/
def encRows (bs : FS) : PyData := .list (bs.map encR)
theorem dp_row {K : PySem.W.Frag} {H : Hp} {v : V} {b : List Str × Int} (h : RowAt H v b) : Dp K H v (encR b) := by
  obtain ⟨r, q, rfl, h1, h2⟩ := h
  exact .lst (SqL.of h1) (.cons (dp_strs (SqL.of h2)) (.cons (.int _) .nil))
theorem dp_rowsAll {K : PySem.W.Frag} {H : Hp} : ∀ {us : List V} {bs : FS}, RowsAt H us bs → DpAll K H us (bs.map encR)
  | [], [], _ => .nil
  | [], _ :: _, h => by have := h.1; simp at this
  | _ :: _, [], h => by have := h.1; simp at this
  | u :: us, b :: bs, h => by
    obtain ⟨v, e, r⟩ := h.2 0 b rfl
    cases e
    exact .cons (dp_row r) (dp_rowsAll ⟨by have := h.1; simpa using this, fun i c hc => h.2 (i + 1) c hc⟩)
theorem dp_rows {K : PySem.W.Frag} {H : Hp} {t : Addr} {us : List V} {bs : FS} (ht : H t = some (.lst us)) (h : RowsAt H us bs) : Dp K H (.ref t) (encRows bs) := .lst (SqL.of ht) (dp_rowsAll h)
theorem encR_eqv (a b : List Str × Int) : PyData.eqv (encR a) (encR b) = decide (a = b) := by
  unfold encR
  rw [PyData.eqv, PyData.eqvAll, PyData.eqvAll, PyData.eqvAll, PyData.eqv, eqv_strs]
  obtain ⟨a1, a2⟩ := a
  obtain ⟨b1, b2⟩ := b
  by_cases c1 : a1 = b1
  · by_cases c2 : a2 = b2
    · simp [c1, c2]
    · simp [c1, c2]
  · simp [c1]
theorem rows_eqv : ∀ a b : FS, PyData.eqvAll (a.map encR) (b.map encR) = decide (a = b)
  | [], [] => by rw [List.map_nil, PyData.eqvAll]; rfl
  | [], b :: m => by rw [List.map_nil, List.map_cons, PyData.eqvAll] <;> first | (exact (decide_eq_false (by simp)).symm) | skip
  | a :: l, [] => by rw [List.map_nil, List.map_cons, PyData.eqvAll] <;> first | (exact (decide_eq_false (by simp)).symm) | skip
  | a :: l, b :: m => by
    rw [List.map_cons, List.map_cons, PyData.eqvAll, encR_eqv, rows_eqv l m]
    by_cases c : a = b
    · by_cases d : l = m
      · simp [c, d]
      · simp [c, d]
    · simp [c]
theorem encRows_eqv (a b : FS) : PyData.eqv (encRows a) (encRows b) = decide (a = b) := by
  unfold encRows
  rw [PyData.eqv]
  exact rows_eqv a b
theorem canLay_row {b : List Str × Int} (h : ∀ x ∈ b.1, PyData.strOk x = true) : PyData.canLay0 (encR b) = true := by
  unfold encR
  rw [PyData.canLay0, PyData.canLayAll0, PyData.canLayAll0, PyData.canLayAll0, PyData.canLay0, PyData.canLay0, canLay_strs _ h]
  rfl
theorem canLay_rows : ∀ {bs : FS}, (∀ b ∈ bs, ∀ x ∈ b.1, PyData.strOk x = true) → PyData.canLayAll0 (bs.map encR) = true
  | [], _ => by rw [List.map_nil, PyData.canLayAll0]
  | b :: bs, h => by rw [List.map_cons, PyData.canLayAll0, canLay_row (h b List.mem_cons_self), canLay_rows fun c hc => h c (List.mem_cons_of_mem _ hc)]; rfl
theorem depth_row (b : List Str × Int) : (encR b).depth ≤ 2 := by
  unfold encR
  simp only [PyData.depth, PyData.depthAll, depth_strs]
  decide
theorem depth_rows : ∀ bs : FS, PyData.depthAll (bs.map encR) ≤ 2
  | [] => by rw [List.map_nil, PyData.depthAll]; decide
  | b :: bs => by
    have h1 := depth_row b
    have h2 := depth_rows bs
    rw [List.map_cons, PyData.depthAll]
    omega
theorem shaped_rows {bs : FS} (h : ∀ b ∈ bs, ∀ x ∈ b.1, PyData.strOk x = true) : SeqAt.shaped (encRows bs) = true := by
  have d := depth_rows bs
  unfold SeqAt.shaped encRows
  rw [PyData.canLay0, canLay_rows h, PyData.depth, Bool.true_and]
  exact decide_eq_true (by omega)
/-- a list of rows, apart from some objects -/
def RwT (X : Addr → Prop) (H : Hp) (v : V) (bs : FS) : Prop := ∃ r us, v = .ref r ∧ ¬ X r ∧ H r = some (.lst us) ∧ AllS (RowX X H) us bs
theorem RwT.but {X : Addr → Prop} {H H' : Hp} {v : V} {bs : FS} (h : RwT X H v bs) (k : ∀ z o, ¬ X z → H z = some o → H' z = some o) : RwT X H' v bs := by
  obtain ⟨r, us, e, n, h1, h2⟩ := h
  exact ⟨r, us, e, n, k _ _ n h1, h2.mono fun v b _ h => h.but k⟩
theorem RwT.rows {X : Addr → Prop} {H : Hp} {v : V} {bs : FS} (h : RwT X H v bs) : ∃ r us, v = .ref r ∧ H r = some (.lst us) ∧ RowsAt H us bs := by
  obtain ⟨r, us, e, n, h1, h2⟩ := h
  exact ⟨r, us, e, h1, AllS.mono h2 fun v b _ h => h.row⟩
theorem AllS.app {α : Type} {S : V → α → Prop} {us vs : List V} {bs cs : List α} (h : AllS S us bs) (k : AllS S vs cs) : AllS S (us ++ vs) (bs ++ cs) := by
  refine ⟨by rw [List.length_append, List.length_append, h.1, k.1], fun i c hc => ?_⟩
  by_cases z : i < bs.length
  · rw [List.getElem?_append_left z] at hc
    obtain ⟨u, h1, h2⟩ := h.2 i c hc
    exact ⟨u, by rw [List.getElem?_append_left (by rw [h.1]; exact z)]; exact h1, h2⟩
  · rw [List.getElem?_append_right (by omega)] at hc
    obtain ⟨u, h1, h2⟩ := k.2 _ c hc
    exact ⟨u, by rw [List.getElem?_append_right (by rw [h.1]; omega), h.1]; exact h1, h2⟩
theorem MP.updL {C : Addr} {d n B : Nat} {H : Hp} {a D : Addr} {p : Pol} {acc : List V} {o : HO} (hD : H D = some (.lst acc)) (h : MP C d n B H a p) : MP C d n B (upd H D o) a p := by
  obtain ⟨L, ⟨⟨dy, t, h1, h2⟩, ok⟩, e1, z⟩ := h
  refine ⟨L, ⟨⟨dy, t, ?_, ?_⟩, ok⟩, e1, z⟩
  · rw [upd_ne (fun c => by rw [c, hD] at h1; cases h1)]
    exact h1
  · rw [upd_ne (fun c => by rw [c, hD] at h2; cases h2)]
    exact h2
theorem three_S {α : Type} {S : V → α → Prop} {us : List V} {a b c : α} (h : AllS S us [a, b, c]) : ∃ u v w, us = [u, v, w] ∧ S u a ∧ S v b ∧ S w c := by
  obtain ⟨u, e1, h1⟩ := h.2 0 a rfl
  obtain ⟨v, e2, h2⟩ := h.2 1 b rfl
  obtain ⟨w, e3, h3⟩ := h.2 2 c rfl
  match us, h.1, e1, e2, e3 with
  | [x, y, z], _, e1, e2, e3 =>
    cases e1; cases e2; cases e3
    exact ⟨_, _, _, rfl, h1, h2, h3⟩
/-- a polynomial made of rows -/
def MA (C : Addr) (H : Hp) (v : V) (bs : FS) : Prop := ∃ a, v = .ref a ∧ MP C 6 6 (2 ^ 1203) H a (pol bs)
theorem MA.same {C : Addr} {H H' : Hp} {v : V} {bs : FS} (h : MA C H v bs) (s : Same H H') : MA C H' v bs := by
  obtain ⟨a, e, m⟩ := h
  exact ⟨a, e, m.same s⟩
theorem MA.updL {C : Addr} {H : Hp} {v : V} {bs : FS} {D : Addr} {acc : List V} {o : HO} (hD : H D = some (.lst acc)) (h : MA C H v bs) : MA C (upd H D o) v bs := by
  obtain ⟨a, e, m⟩ := h
  exact ⟨a, e, m.updL hD⟩
-- part law_k71
abbrev s_law : Stmt := top 22
theorem sc_law : FnScope ["_law_script", "_law_lists", "_law_k", "_law_terms_here", "_law_row", "_law_first", "_law_second", "_law_third", "_law_opposite", "_law_number", "_law_turn"] ["_law_script"] (defScope s_law) := ⟨rfl, rfl, rfl, by decide +kernel, rfl, by decide +kernel, by decide +kernel⟩
theorem ok_law {f C : Addr} {fd : FuncData} (T : Txt mg) (TM : ManyT K mg C) (nfS : PySem.W.subIn K (.type "str") (.ref C) = some false) (kS : PySem.W.kitOne K (.type "str") (.ref C) = some false) (F : Fun K "law" "law" s_law f fd) (c_cell : Cl P w K mg base CX0 1 "_law_cell" (spCellL K)) (c_pool : Cl P w K mg base CX0 1 "_law_pool" spPool)
    (c_gath : Cl P w K mg base CX0 1 "_law_gathered" spLgathX) (c_terms : Cl P w K mg base CX0 2 "_law_terms" spLtermsX) (c_made : Cl P w K mg base CX0 5 "_law_made" (spLmadeM C)) (c_mult : Cl P w K mg base CX0 2 "_law_multiplied" spLmult) (c_is : Cl P w K mg base CX0 6 "_law_is" (spLis C))
    (c_num : Cm P w K mg base 4 C "number" (spMnN C)) (c_unk : Cm P w K mg base 4 C "unknown" (spMnU C)) (m_add : Me P w K mg base 4 C "__add__" (spMnAdd C)) (m_sub : Me P w K mg base 5 C "__sub__" (spMnSub C)) (m_neg : Me P w K mg base 4 C "__neg__" (spMnNeg C)) (m_mul : Me P w K mg base 4 C "__mul__" (spMnMul C))
    (m_str : Me P w K mg base 2 C "__str__" (spMnStr C)) (m_eq : Me P w K mg base 1 C "__eq__" (spMnEq C)) (c_eqX : Me P w K mg base 1 C "__eq__" (spMnEqX C K)) : FnOk P w K mg base CX0 8 f fd ["_law_script"] (spLaw K) := by
  refine F.ok sc_law (fun vs H Q E h => ?_) (fun cdv A outer s H vs Q E hr h => ?_)
  · obtain ⟨a, ns, rfl, _⟩ := h
    rfl
  · obtain ⟨l0, ns, rfl, hS, few, q⟩ := h
    refine ⟨_, (pss_cons (ps_setLc (i := 1) (own := [("_law_k", 2)]) (g := (gName 2)) (tt := tYes) rfl sc_law.nd rfl rfl (sw_true rfl rfl rfl (by decide +kernel)) (pi_range1 rfl T.range (pa_cons pe_int pa_nil)) (blkOk_by (N := ["_law_script", "_law_lists", "_law_k", "_law_terms_here", "_law_row", "_law_first", "_law_second", "_law_third", "_law_opposite", "_law_number", "_law_turn"]) (sc := defScope s_law) (by decide +kernel)) (fun _ _ _ _ _ => (pg_name (i := 2) sc_law.nd rfl (Or.inl rfl))) (fun _ _ _ _ _ => pts_nil) (fun _ _ _ _ _ => (pe_cl c_terms (by exact hr) (pa_cons (pe_cl c_pool (by exact hr) (pa_cons (pe_cl c_cell (by exact hr) (pa_cons (pv 0) (pa_cons (pv 2) pa_nil))) pa_nil)) pa_nil))))
 (pss_cons (ps_setLc (i := 3) (own := [("_law_row", 4)]) (g := (gName 4)) (tt := tYes) rfl sc_law.nd rfl rfl (sw_true rfl rfl rfl (by decide +kernel)) (pi_list (pv 1)) (blkOk_by (N := ["_law_script", "_law_lists", "_law_k", "_law_terms_here", "_law_row", "_law_first", "_law_second", "_law_third", "_law_opposite", "_law_number", "_law_turn"]) (sc := defScope s_law) (by decide +kernel)) (fun _ _ _ _ _ => (pg_name (i := 4) sc_law.nd rfl (Or.inl rfl))) (fun _ _ _ _ _ => pts_nil) (fun _ _ _ _ _ => (pe_cl c_gath (by exact hr) (pa_cons (pv 4) pa_nil))))
 (pss_cons (ps_asg (pe_lc (own := [("_law_row", 4)]) (g := (gName 4)) (tt := tYes) rfl sc_law.nd (pi_list (pv 1)) (blkOk_by (N := ["_law_script", "_law_lists", "_law_k", "_law_terms_here", "_law_row", "_law_first", "_law_second", "_law_third", "_law_opposite", "_law_number", "_law_turn"]) (sc := defScope s_law) (by decide +kernel)) (fun _ _ _ _ _ => (pg_name (i := 4) sc_law.nd rfl (Or.inl rfl))) (fun _ _ _ _ _ => pts_nil) (fun _ _ _ _ _ => (pe_cl c_made (by exact hr) (pa_cons (pv 4) pa_nil)))) (pg_unl rfl (pgs_cons (pg_name (i := 5) sc_law.nd rfl (Or.inl rfl)) (pgs_cons (pg_name (i := 6) sc_law.nd rfl (Or.inl rfl)) (pgs_cons (pg_name (i := 7) sc_law.nd rfl (Or.inl rfl)) pgs_nil)))))
 (pss_cons (ps_setLc (i := 8) (own := [("_law_row", 4), ("_law_number", 9)]) (g := (gUnl K 2 (gCons (gName 4) (gCons (gName 9) gNil)))) (tt := tYes) rfl sc_law.nd rfl rfl (sw_true rfl rfl rfl (by decide +kernel)) (pi_list (pe_ix ix_list (pv 3) pe_int (fun _ _ => rfl))) (blkOk_by (N := ["_law_script", "_law_lists", "_law_k", "_law_terms_here", "_law_row", "_law_first", "_law_second", "_law_third", "_law_opposite", "_law_number", "_law_turn"]) (sc := defScope s_law) (by decide +kernel)) (fun _ _ _ _ _ => (pg_unl rfl (pgs_cons (pg_name (i := 4) sc_law.nd rfl (Or.inl rfl)) (pgs_cons (pg_name (i := 9) sc_law.nd rfl (Or.inl rfl)) pgs_nil)))) (fun _ _ _ _ _ => pts_nil) (fun _ _ _ _ _ => (pe_lst (pa_cons (pv 4) (pa_cons (pe_un un_neg (pv 9)) pa_nil)))))
 (pss_cons (ps_for PassesOwn.never rfl (pi_range1 rfl T.range (pa_cons pe_int pa_nil)) (pg_name (i := 10) sc_law.nd rfl (Or.inl rfl)) (pss_cons (ps_if (pt_not (pt_val (pe_cl c_is hr (pa_cons (pv 5) (pa_cons (pe_ix ix_list (pv 3) pe_int (fun _ _ => rfl)) pa_nil))))) (pss_one (ps_ret pe_bl)) pss_nil)
 (pss_cons (ps_if (pt_not (pt_val (pe_cl c_is hr (pa_cons (pe_op (op_own2 m_add hr TM.sf) (pv 5) (pv 6)) (pa_cons (pe_cl c_gath hr (pa_cons (pe_op op_cat (pe_ix ix_list (pv 3) pe_int (fun _ _ => rfl)) (pe_ix ix_list (pv 3) pe_int (fun _ _ => rfl))) pa_nil)) pa_nil))))) (pss_one (ps_ret pe_bl)) pss_nil)
 (pss_cons (ps_if (pt_not (pt_val (pe_cl c_is hr (pa_cons (pe_op (op_own2 m_sub hr TM.sf) (pv 5) (pv 6)) (pa_cons (pe_cl c_gath hr (pa_cons (pe_op op_cat (pe_ix ix_list (pv 3) pe_int (fun _ _ => rfl)) (pv 8)) pa_nil)) pa_nil))))) (pss_one (ps_ret pe_bl)) pss_nil)
 (pss_cons (ps_if (pt_not (pt_val (pe_cl c_is hr (pa_cons (pe_un (un_neg1 m_neg hr) (pv 6)) (pa_cons (pe_callB (cr_sortRows (K := K) rfl hr) (by rfl) T.sorted boot_sorted (pa_cons (pv 8) pa_nil)) pa_nil))))) (pss_one (ps_ret pe_bl)) pss_nil)
 (pss_one (ps_if (pt_not (pt_val (pe_cl c_is hr (pa_cons (pe_op (op_own2 m_mul hr TM.sf) (pv 5) (pv 6)) (pa_cons (pe_cl c_mult hr (pa_cons (pe_ix ix_list (pv 3) pe_int (fun _ _ => rfl)) (pa_cons (pe_ix ix_list (pv 3) pe_int (fun _ _ => rfl)) pa_nil))) pa_nil))))) (pss_one (ps_ret pe_bl)) pss_nil)))))))
 (pss_cons (ps_if (pt_not (pt_cmpR (op_eq_own m_eq hr) (pe_op (op_own2 m_mul hr TM.sf) (pe_op (op_own2 m_add hr TM.sf) (pv 5) (pv 6)) (pv 7)) (pe_op (op_own2 m_add hr TM.sf) (pe_op (op_own2 m_mul hr TM.sf) (pv 5) (pv 7)) (pe_op (op_own2 m_mul hr TM.sf) (pv 6) (pv 7))) (nomark _))) (pss_one (ps_ret pe_bl)) pss_nil)
 (pss_cons (ps_if (pt_not (pt_cmpR (op_eq_own m_eq hr) (pe_op (op_own2 m_mul hr TM.sf) (pv 5) (pv 6)) (pe_op (op_own2 m_mul hr TM.sf) (pv 6) (pv 5)) (nomark _))) (pss_one (ps_ret pe_bl)) pss_nil)
 (pss_cons (ps_if (pw_or (pt_not (pt_cmpR (op_eq_own m_eq hr) (pe_op (op_own2 m_sub hr TM.sf) (pv 5) (pv 5)) (pe_cm c_num hr (pe_glob (v := .ref C) (by rfl) TM.g rfl) (pa_cons pe_int pa_nil)) (nomark _))) (pw_or1 (pt_not (pt_cmpR (op_eq_own m_eq hr) (pe_op (op_own2 m_mul hr TM.sf) (pv 5) (pe_cm c_num hr (pe_glob (v := .ref C) (by rfl) TM.g rfl) (pa_cons pe_int pa_nil))) (pv 5) (nomark _))))).pt (pss_one (ps_ret pe_bl)) pss_nil)
 (pss_cons (ps_if (pt_not (pt_cmpR (op_eq_own m_eq hr) (pe_op (op_own2 m_add hr TM.sf) (pv 5) (pe_op (op_own2 m_add hr TM.sf) (pv 6) (pv 7))) (pe_op (op_own2 m_add hr TM.sf) (pe_op (op_own2 m_add hr TM.sf) (pv 5) (pv 6)) (pv 7)) (nomark _))) (pss_one (ps_ret pe_bl)) pss_nil)
 (pss_cons (ps_if (pw_or (pt_cmpR op_ne (pe_cmpR (op_eq_own m_eq hr) (pv 5) (pv 6) (nomark _)) (pe_cmpR (op_eqD (hu64 hr)) (pe_ix ix_list (pv 3) pe_int (fun _ _ => rfl)) (pe_ix ix_list (pv 3) pe_int (fun _ _ => rfl)) (nomark _)) (nomark _)) (pw_or1 (pt_cmpR (op_eq_ownX c_eqX hr) (pv 5) (pe_callTy (cr_strOwn m_str hr) (by rfl) T.str boot_str (pa_cons (pv 5) pa_nil)) (nomark _)))).pt (pss_one (ps_ret pe_bl)) pss_nil)
 (pss_cons (ps_if (pt_cmpR (op_eq_own m_eq hr) (pe_cm c_unk hr (pe_glob (v := .ref C) (by rfl) TM.g rfl) (pa_cons pe_str pa_nil)) (pe_cm c_unk hr (pe_glob (v := .ref C) (by rfl) TM.g rfl) (pa_cons pe_str pa_nil)) (nomark _)) (pss_one (ps_ret pe_bl)) pss_nil)
 (pss_cons (ps_if (pt_not (pt_val (pe_cl c_is hr (pa_cons (pv 6) (pa_cons (pe_ix ix_list (pv 3) pe_int (fun _ _ => rfl)) pa_nil))))) (pss_one (ps_ret pe_bl)) pss_nil)
 (pss_cons (ps_if (pt_not (pt_val (pe_cl c_is hr (pa_cons (pv 7) (pa_cons (pe_ix ix_list (pv 3) pe_int (fun _ _ => rfl)) pa_nil))))) (pss_one (ps_ret pe_bl)) pss_nil)
 (pss_one (ps_ret (pe_cl c_is hr (pa_cons (pe_cm c_unk hr (pe_glob (v := .ref C) (by rfl) TM.g rfl) (pa_cons pe_str pa_nil)) (pa_cons (pe_lst (pa_cons (pe_lst (pa_cons (pe_lst (pa_cons pe_str pa_nil)) (pa_cons pe_int pa_nil))) pa_nil)) pa_nil)))))))))))))))))), ?_⟩
    -- the three lists
    refine ⟨3, rfl, by decide, by decide, fun D1 nD1 => lc_it (walk_range0 (n := 3)) (fun i G => Same H G ∧ ∃ acc bss, G D1 = some (.lst acc) ∧ AllS (RwT (fun z => z = D1) G) acc bss ∧ bss.length = i ∧ ∀ bs ∈ bss, TermsOk bs) ⟨same_upd nD1, [], [], upd_same, AllS.nil, rfl, fun b h => nomatch h⟩ (fun _ _ _ _ => trivial) ?_ ?_⟩
    · rintro i x _ G hi ⟨s1, acc, bss, hD, all, lb, tok⟩ ⟨rfl, rfl⟩
      refine ⟨rfl, _, rfl, _, rfl, l0, ns, i, rfl, s1.seq hS, fun z => ⟨z, rfl, fun p0 G1 n0 g1 pool0 => ⟨p0, (fun z => z = D1), rfl, pool0, (fun z e => ⟨.lst acc, by have e : z = D1 := e; rw [e]; exact g1 _ _ hD⟩), fun r us bs G2 k2 nXr hr2 rows tk => ?_⟩⟩⟩
      have g2 : Same G G2 := SameBut.same g1 n0 k2
      have la := all.1
      refine ⟨acc, g2 _ _ hD, by rw [sizeLine_eq]; omega, fun b o eb => ?_, acc ++ [.ref r], bss ++ [bs], upd_same, ?_, ?_, ?_⟩
      · rw [upd_ne (ne_of_none eb nD1)]
        exact g2 _ _ (s1 b o eb)
      · exact ((all.mono fun v b _ h => h.but fun z o _ e => g2 z o e).snoc (⟨r, us, rfl, nXr, hr2, rows⟩ : RwT (fun z => z = D1) G2 (.ref r) bs)).mono fun v b _ h => h.but fun z o nz e => by
          rw [upd_ne nz]
          exact e
      · rw [List.length_append, lb]; rfl
      · intro b hb
        rcases List.mem_append.mp hb with h | h
        · exact tok b h
        · rw [List.mem_singleton.mp h]; exact tk
    rintro H1 ⟨s1, acc1, bss, hD1, all1, lb, tok⟩
    obtain ⟨b0, b1, b2, rfl⟩ : ∃ a b c, bss = [a, b, c] := by
      match bss, lb with
      | [a, b, c], _ => exact ⟨a, b, c, rfl⟩
    have t0 := tok b0 (by simp)
    have t1 := tok b1 (by simp)
    have t2 := tok b2 (by simp)
    have la1 := all1.1
    -- gathered
    refine ⟨_, rfl, D1, rfl, ⟨acc1, SqL.of hD1⟩, fun D2 nD2 => lc_it walk_list (fun i G => Same H1 G ∧ ∃ acc, G D2 = some (.lst acc) ∧ AllS (RwT (fun z => z = D2) G) acc (([b0, b1, b2].take i).map gathT)) ⟨same_upd nD2, [], upd_same, AllS.nil⟩ (fun i G _ h => SqL.of (h.1 _ _ hD1)) ?_ ?_⟩
    · rintro i x _ G hi ⟨g1, acc, hD, all⟩ ⟨rfl, hx⟩
      obtain ⟨bs, hbs, rt⟩ := all1.get hx
      obtain ⟨r, us, rfl, hr1, rows⟩ := rt.rows
      have tk := tok bs (List.mem_of_getElem? hbs)
      have la := all.1
      rw [List.length_map, List.length_take] at la
      have rowsX : AllS (RowX (fun z => z = D2) G) us bs := (rows.rowX (X := fun z => z = D2) fun z e => by rw [e]; exact nD2).mono fun v b _ h => h.but fun z o _ e => g1 z o e
      refine ⟨rfl, _, rfl, r, us, bs, (fun z => z = D2), rfl, g1 _ _ hr1, rowsX, tk.rows, (fun z e => ⟨.lst acc, by have e : z = D2 := e; rw [e]; exact hD⟩), fun r2 us2 G2 nXr hr2 rows2 g2 => ?_⟩
      refine ⟨acc, g2 _ _ hD, by rw [sizeLine_eq]; have : [b0, b1, b2].length = 3 := rfl; omega, fun b o eb => ?_, acc ++ [.ref r2], upd_same, ?_⟩
      · rw [upd_ne (ne_of_none eb nD2)]
        exact g2 _ _ (g1 b o eb)
      · have e : ([b0, b1, b2].take (i + 1)).map gathT = ([b0, b1, b2].take i).map gathT ++ [gathT bs] := by
          rw [List.take_add_one, hbs, List.map_append]
          rfl
        rw [e]
        exact ((all.mono fun v b _ h => h.but fun z o _ e => g2 z o e).snoc (⟨r2, us2, rfl, nXr, hr2, rows2⟩ : RwT (fun z => z = D2) G2 (.ref r2) (gathT bs))).mono fun v b _ h => h.but fun z o nz e => by
          rw [upd_ne nz]
          exact e
    rintro H2 ⟨g2, acc2, hD2, all2⟩
    have la3 : acc1.length = 3 := la1
    rw [la3] at all2
    have all2 : AllS (RwT (fun z => z = D2) H2) acc2 [gathT b0, gathT b1, gathT b2] := all2
    -- made
    refine ⟨_, rfl, D1, rfl, ⟨acc1, SqL.of (g2 _ _ hD1)⟩, fun D3 nD3 => lc_it walk_list (fun i G => Same H2 G ∧ ∃ acc, G D3 = some (.lst acc) ∧ AllS (MA C G) acc ([b0, b1, b2].take i)) ⟨same_upd nD3, [], upd_same, AllS.nil⟩ (fun i G _ h => SqL.of (h.1 _ _ (g2 _ _ hD1))) ?_ ?_⟩
    · rintro i x _ G hi ⟨g3, acc, hD, all⟩ ⟨rfl, hx⟩
      obtain ⟨bs, hbs, rt⟩ := all1.get hx
      obtain ⟨r, us, rfl, hr1, rows⟩ := rt.rows
      have tk := tok bs (List.mem_of_getElem? hbs)
      have la := all.1
      rw [List.length_take] at la
      have g23 := g2.trans g3
      refine ⟨rfl, _, rfl, r, us, bs, rfl, g23 _ _ hr1, rows.same g23, tk.rows, fun a G2 ma ga => ?_⟩
      have ltk := tk.len
      have ma : MP C 6 6 (2 ^ 1203) G2 a (pol bs) := ma.mono (Nat.le_refl _) (by omega) (Nat.le_trans (Nat.mul_le_mul_right _ ltk) (by decide))
      refine ⟨acc, ga _ _ hD, by rw [sizeLine_eq]; have : [b0, b1, b2].length = 3 := rfl; omega, fun b o eb => ?_, acc ++ [.ref a], upd_same, ?_⟩
      · rw [upd_ne (ne_of_none eb nD3)]
        exact ga _ _ (g3 b o eb)
      · have e : [b0, b1, b2].take (i + 1) = [b0, b1, b2].take i ++ [bs] := by
          rw [List.take_add_one, hbs]
          rfl
        rw [e]
        exact ((all.mono fun v b _ h => h.same ga).snoc (⟨a, rfl, ma⟩ : MA C G2 (.ref a) bs)).mono fun v b _ h => h.updL (ga _ _ hD)
    rintro H3 ⟨g3, acc3, hD3, all3⟩
    rw [la3] at all3
    have all3 : AllS (MA C H3) acc3 [b0, b1, b2] := all3
    obtain ⟨_, _, _, rfl, ⟨f0, rfl, m0⟩, ⟨f1, rfl, m1⟩, ⟨f2, rfl, m2⟩⟩ := three_S all3
    obtain ⟨_, _, _, rfl, r0, r1, r2⟩ := three_S all2
    obtain ⟨y0, us0, rfl, hy0, rows0⟩ := r0.rows
    obtain ⟨y1, us1, rfl, hy1, rows1⟩ := r1.rows
    obtain ⟨y2, us2, rfl, hy2, rows2⟩ := r2.rows
    have c0 := t0.small
    have c1 := t1.small
    have c2 := t2.small
    rw [← gathT_pol t0.raw.st] at m0
    rw [← gathT_pol t1.raw.st] at m1
    rw [← gathT_pol t2.raw.st] at m2
    generalize hb0 : gathT b0 = a0 at *
    generalize hb1 : gathT b1 = a1 at *
    generalize hb2 : gathT b2 = a2 at *
    refine ⟨D3, _, rfl, SqL.of hD3, rfl, _, _, rfl, _, _, rfl, _, _, rfl, rfl, ?_⟩
    have hD2 := g3 _ _ hD2
    have hy1' := g3 _ _ hy1
    have rows1' := rows1.same g3
    -- the opposite
    refine ⟨_, rfl, D2, _, _, _, rfl, rfl, SqL.of hD2, rfl, y1, rfl, ⟨us1, SqL.of hy1'⟩, fun D4 nD4 => lc_it walk_list (fun i G => Same H3 G ∧ ∃ us, G D4 = some (.lst us) ∧ AllS (RowX (fun z => z = D4) G) us (negS (a1.take i))) ⟨same_upd nD4, [], upd_same, AllS.nil⟩ (fun i G _ h => SqL.of (h.1 _ _ hy1')) ?_ ?_⟩
    · rintro i x _ G hi ⟨g4, us, hD, all⟩ ⟨rfl, hx⟩
      obtain ⟨b, hb, ra, qa, rfl, hra, hqa⟩ := rows1'.get hx
      have nqD : qa ≠ D4 := ne_of_none hqa nD4
      have la := all.1
      unfold negS at la
      rw [List.length_map, List.length_take] at la
      have l5 := c1.len
      refine ⟨ra, _, rfl, SqL.of (g4 _ _ hra), rfl, _, _, rfl, _, _, rfl, rfl, rfl, _, rfl, _, rfl, _, rfl, (by show 2 ≤ sizeLine; decide), fun r nr => ?_⟩
      have g5 := same_upd (o := .lst [.ref qa, .int (-b.2)]) nr
      have nrD : r ≠ D4 := fun z => by rw [z, hD] at nr; cases nr
      refine ⟨us, g5 _ _ hD, by rw [sizeLine_eq]; omega, fun z o ez => ?_, us ++ [.ref r], upd_same, ?_⟩
      · rw [upd_ne (ne_of_none ez nD4)]
        exact g5 _ _ (g4 z o ez)
      · have e : negS (a1.take (i + 1)) = negS (a1.take i) ++ [(b.1, -b.2)] := by
          unfold negS
          rw [take_snoc hb, List.map_append]
          rfl
        rw [e]
        have rowNew : RowX (fun z => z = D4) (upd G r (.lst [.ref qa, .int (-b.2)])) (.ref r) (b.1, -b.2) := ⟨r, qa, rfl, nrD, nqD, upd_same, g5 _ _ (g4 _ _ hqa)⟩
        exact ((all.mono fun v b _ h => h.but fun z o _ e => g5 z o e).snoc rowNew).mono fun v b _ h => h.but fun z o nz e => by
          rw [upd_ne nz]
          exact e
    rintro Hb ⟨g4, usO, hD4, allO⟩
    rw [rows1'.1, List.take_length] at allO
    have rowsO : RowsAt Hb usO (negS a1) := AllS.mono allO fun v b _ h => h.row
    have g34 := g3.trans g4
    have hD2 := g4 _ _ hD2
    have hy0 := g34 _ _ hy0
    have hy1 := g34 _ _ hy1
    have hy2 := g34 _ _ hy2
    have rows0 := rows0.same g34
    have rows1 := rows1.same g34
    have rows2 := rows2.same g34
    have m0 := m0.same g4
    have m1 := m1.same g4
    have m2 := m2.same g4
    have lt2 : ∀ {a : Nat}, a ≤ 2 ^ 1210 → a < 2 ^ 2000 := fun h => Nat.lt_of_le_of_lt h (by decide)
    refine ⟨2, rfl, by decide, by decide, for_it (walk_range0 (n := 2)) (fun i σ G => Same Hb G ∧ ∃ x2 x4 x9 x10, σ = [some (.ref l0), some (.ref D1), x2, some (.ref D2), x4, some (.ref f0), some (.ref f1), some (.ref f2), some (.ref D4), x9, x10]) ⟨Same.refl _, none, none, none, none, rfl⟩ (fun _ _ _ _ _ => trivial) ?_ ?_⟩
    · rintro i y σ _ G hi ⟨s, x2, x4, x9, x10, rfl⟩ ⟨rfl, rfl⟩
      -- first
      refine ⟨_, rfl, _, rfl, D2, _, _, _, rfl, rfl, SqL.of (s _ _ hD2), rfl, f0, y0, us0, a0, 6, 6, 2 ^ 1203, rfl, m0.same s, s _ _ hy0, rows0.same s, c0.cn, fun G1 s1 => ⟨_, rfl, if_neg_of rfl ?_⟩⟩
      have k1 := s.trans s1
      -- first + second
      refine ⟨_, rfl, _, rfl, useM2 (m0.same k1) (m1.same k1) ⟨f0, f1, 6, 6, 6, _, _, _, _, rfl, m0.same k1, m1.same k1, by decide, fun r1 G2 mr1 s2 => ?_⟩⟩
      have k2 := k1.trans s2
      refine ⟨_, rfl, D2, _, _, _, rfl, rfl, SqL.of (k2 _ _ hD2), rfl, _, rfl, D2, _, _, _, rfl, rfl, SqL.of (k2 _ _ hD2), rfl, y0, y1, us0, us1, rfl, rfl, k2 _ _ hy0, k2 _ _ hy1, by rw [rows0.1, rows1.1, sizeLine_eq]; have := c0.len; have := c1.len; omega, fun p np => ?_⟩
      have s3 := same_upd (o := .lst (us0 ++ us1)) np
      have k3 := k2.trans s3
      have rw01 := raw_app c0 c1.cn c1.len c1.nr
      refine ⟨p, us0 ++ us1, a0 ++ a1, fun _ => False, rfl, upd_same, RowsAt.rowX (AllS.app (rows0.same k3) (rows1.same k3)) (fun z h => h.elim), rw01.ok, (fun z h => h.elim), fun r2 u2 G4 _ hr2 rr2 s4 => ?_⟩
      have e01 : pol a0 + pol a1 = pol (gathT (a0 ++ a1)) := by rw [gathT_pol rw01.st, Pol.add_mk]
      rw [e01] at mr1
      refine ⟨r1, r2, u2, _, _, _, _, rfl, mr1.same (s3.trans s4), hr2, AllS.mono rr2 fun v b _ h => h.row, rw01.canon, fun G5 s5 => ⟨_, rfl, if_neg_of rfl ?_⟩⟩
      have k5 := k3.trans (s4.trans s5)
      -- first - second
      refine ⟨_, rfl, _, rfl, useM2 (m0.same k5) (m1.same k5) ⟨f0, f1, 6, 6, 6, _, _, _, _, rfl, m0.same k5, m1.same k5, by decide, fun r1 G6 mr1 s6 => ?_⟩⟩
      have k6 := k5.trans s6
      refine ⟨_, rfl, D2, _, _, _, rfl, rfl, SqL.of (k6 _ _ hD2), rfl, _, rfl, y0, D4, us0, usO, rfl, rfl, k6 _ _ hy0, k6 _ _ hD4, by rw [rows0.1, rowsO.1, sizeLine_eq]; unfold negS; rw [List.length_map]; have := c0.len; have := c1.len; omega, fun p np => ?_⟩
      have s7 := same_upd (o := .lst (us0 ++ usO)) np
      have k7 := k6.trans s7
      have rwN := raw_neg c0 c1
      refine ⟨p, us0 ++ usO, a0 ++ negS a1, fun _ => False, rfl, upd_same, RowsAt.rowX (AllS.app (rows0.same k7) (rowsO.same k7)) (fun z h => h.elim), rwN.ok, (fun z h => h.elim), fun r2 u2 G8 _ hr2 rr2 s8 => ?_⟩
      have eN : pol a0 - pol a1 = pol (gathT (a0 ++ negS a1)) := by
        show pol a0 + -pol a1 = _
        rw [gathT_pol rwN.st, Pol.neg_mk, Pol.add_mk]
      rw [eN] at mr1
      refine ⟨r1, r2, u2, _, _, _, _, rfl, mr1.same (s7.trans s8), hr2, AllS.mono rr2 fun v b _ h => h.row, rwN.canon, fun G9 s9 => ⟨_, rfl, if_neg_of rfl ?_⟩⟩
      have k9 := k7.trans (s8.trans s9)
      -- -second
      refine ⟨_, rfl, useM1 (m1.same k9) ⟨f1, 6, 6, _, _, rfl, m1.same k9, by decide, fun r3 Ga mr3 sa => ?_⟩⟩
      have ka := k9.trans sa
      refine ⟨_, rfl, D4, usO, negS a1, rfl, SqL.of (ka _ _ hD4), rowsO.same ka, fun p2 u3 np2 rr3 => ?_⟩
      have sb := same_upd (o := .lst u3) np2
      have eM : -pol a1 = pol (canon (negS a1)) := by rw [Pol.neg_mk, pol_permK (canon_perm (negS a1))]
      rw [eM] at mr3
      refine ⟨r3, p2, u3, _, _, _, _, rfl, mr3.same sb, upd_same, RowsAt.same rr3 sb, canon_neg c1, fun Gc sc => ⟨_, rfl, if_neg_of rfl ?_⟩⟩
      have kc := ka.trans (sb.trans sc)
      -- first * second
      refine ⟨_, rfl, _, rfl, useM2 (m0.same kc) (m1.same kc) ⟨f0, f1, 6, 6, 6, 6, _, _, _, _, rfl, m0.same kc, m1.same kc, by decide, by decide, lt2 (by decide), lt2 (by decide), fun r4 Gd mr4 sd => ?_⟩⟩
      have kd := kc.trans sd
      have rwM := raw_mul c0 c1
      have bM : ∀ {a : FS}, SmallC a → ∀ b ∈ a, b.1.length ≤ 6 ∧ b.2.natAbs < 2 ^ 600 := fun c b hb => ⟨(c.cn.ok.st b hb).2, Nat.lt_trans (Nat.lt_of_le_of_lt (nrm_mem hb) c.nr) (by decide)⟩
      refine ⟨_, rfl, D2, _, _, _, rfl, rfl, SqL.of (kd _ _ hD2), rfl, _, rfl, D2, _, _, _, rfl, rfl, SqL.of (kd _ _ hD2), rfl, y0, y1, us0, us1, a0, a1, rfl, kd _ _ hy0, rows0.same kd, kd _ _ hy1, rows1.same kd, rwM.ok, bM c0, bM c1, fun r5 u5 Ge hr5 rr5 se => ?_⟩
      have eP : pol a0 * pol a1 = pol (gathT (mulS a0 a1)) := by rw [gathT_pol rwM.st, Pol.mul_mk]
      rw [eP] at mr4
      refine ⟨r4, r5, u5, _, _, _, _, rfl, mr4.same se, hr5, rr5, rwM.canon, fun Gf sf => ⟨_, rfl, if_neg_of rfl ?_⟩⟩
      exact ⟨kd.trans (se.trans sf), _, _, _, _, rfl⟩
    · rintro σ G ⟨s, x2, x4, x9, x10, rfl⟩
      -- the one over the other
      refine ⟨_, rfl, _, rfl, useM2 (m0.same s) (m1.same s) ⟨f0, f1, 6, 6, 6, _, _, _, _, rfl, m0.same s, m1.same s, by decide, fun r1 G1 mr1 s1 => ?_⟩⟩
      have k1 := s.trans s1
      refine ⟨_, rfl, useM2 mr1 (m2.same k1) ⟨r1, f2, 6, 6, 12, 6, _, _, _, _, rfl, mr1, m2.same k1, by decide, by decide, lt2 (by decide), lt2 (by decide), fun r2 G2 mr2 s2 => ?_⟩⟩
      have k2 := k1.trans s2
      refine ⟨_, rfl, _, rfl, useM2 (m0.same k2) (m2.same k2) ⟨f0, f2, 6, 6, 6, 6, _, _, _, _, rfl, m0.same k2, m2.same k2, by decide, by decide, lt2 (by decide), lt2 (by decide), fun r3 G3 mr3 s3 => ?_⟩⟩
      have k3 := k2.trans s3
      refine ⟨_, rfl, _, rfl, useM2 (m1.same k3) (m2.same k3) ⟨f1, f2, 6, 6, 6, 6, _, _, _, _, rfl, m1.same k3, m2.same k3, by decide, by decide, lt2 (by decide), lt2 (by decide), fun r4 G4 mr4 s4 => ?_⟩⟩
      have k4 := k3.trans s4
      refine useM2 (mr3.same s4) mr4 ⟨r3, r4, 12, 36, 36, _, _, _, _, rfl, mr3.same s4, mr4, by decide, fun r5 G5 mr5 s5 => ?_⟩
      have k5 := k4.trans s5
      refine useEqMP (mr2.same ((s3.trans s4).trans s5)) mr5 ?_
      rw [polEq_iff.mpr (by grind)]
      refine ⟨_, rfl, if_neg_of rfl ?_⟩
      -- both ways round
      refine ⟨_, rfl, _, rfl, useM2 (m0.same k5) (m1.same k5) ⟨f0, f1, 6, 6, 6, 6, _, _, _, _, rfl, m0.same k5, m1.same k5, by decide, by decide, lt2 (by decide), lt2 (by decide), fun q1 J1 mq1 t1 => ?_⟩⟩
      have k6 := k5.trans t1
      refine ⟨_, rfl, _, rfl, useM2 (m1.same k6) (m0.same k6) ⟨f1, f0, 6, 6, 6, 6, _, _, _, _, rfl, m1.same k6, m0.same k6, by decide, by decide, lt2 (by decide), lt2 (by decide), fun q2 J2 mq2 t2 => ?_⟩⟩
      have k7 := k6.trans t2
      refine useEqMP (mq1.same t2) mq2 ?_
      rw [polEq_iff.mpr (by grind)]
      refine ⟨_, rfl, if_neg_of rfl ?_⟩
      -- nothing and one
      refine ⟨_, rfl, _, rfl, useM2 (m0.same k7) (m0.same k7) ⟨f0, f0, 6, 6, 6, _, _, _, _, rfl, m0.same k7, m0.same k7, by decide, fun q3 J3 mq3 t3 => ?_⟩⟩
      have k8 := k7.trans t3
      refine ⟨rfl, 0, rfl, fun z J4 mz t4 => ?_⟩
      have k9 := k8.trans t4
      have mz := num_mp (B := 0) mz (Nat.le_refl 0)
      refine useEqMP (mq3.same t4) mz ?_
      have e0 : pol a0 - pol a0 = Pol.num 0 := by
        show pol a0 - pol a0 = (0 : Pol)
        grind
      rw [polEq_iff.mpr e0]
      refine ⟨_, rfl, if_neg_of rfl ?_⟩
      refine ⟨_, rfl, rfl, 1, rfl, fun o J5 mo t5 => ?_⟩
      have ka := k9.trans t5
      have mo := num_mp (B := 1) mo (Nat.le_refl 1)
      refine useM2 (m0.same ka) mo ⟨f0, o, 6, 0, 6, 1, _, _, _, _, rfl, m0.same ka, mo, by decide, by decide, lt2 (by decide), lt2 (by decide), fun q4 J6 mq4 t6 => ?_⟩
      have kb := ka.trans t6
      refine ⟨_, rfl, useEqMP mq4 (m0.same kb) ?_⟩
      have e1 : pol a0 * Pol.num 1 = pol a0 := by
        show pol a0 * (1 : Pol) = pol a0
        grind
      rw [polEq_iff.mpr e1]
      refine ⟨_, rfl, if_neg_of rfl ?_⟩
      -- sums of three
      refine ⟨_, rfl, _, rfl, _, rfl, useM2 (m1.same kb) (m2.same kb) ⟨f1, f2, 6, 6, 6, _, _, _, _, rfl, m1.same kb, m2.same kb, by decide, fun q5 J7 mq5 t7 => ?_⟩⟩
      have kc := kb.trans t7
      refine useM2 (m0.same kc) mq5 ⟨f0, q5, 6, 6, 12, _, _, _, _, rfl, m0.same kc, mq5, by decide, fun q6 J8 mq6 t8 => ?_⟩
      have kd := kc.trans t8
      refine ⟨_, rfl, _, rfl, useM2 (m0.same kd) (m1.same kd) ⟨f0, f1, 6, 6, 6, _, _, _, _, rfl, m0.same kd, m1.same kd, by decide, fun q7 J9 mq7 t9 => ?_⟩⟩
      have ke := kd.trans t9
      refine ⟨_, rfl, useM2 mq7 (m2.same ke) ⟨q7, f2, 6, 12, 6, _, _, _, _, rfl, mq7, m2.same ke, by decide, fun q8 Ja mq8 ta => ?_⟩⟩
      have kf := ke.trans ta
      refine useEqMP (mq6.same (t9.trans ta)) mq8 ?_
      rw [polEq_iff.mpr (by grind)]
      refine ⟨_, rfl, if_neg_of rfl ?_⟩
      -- equal as their rows are
      refine ⟨_, rfl, _, rfl, useEqMP (m0.same kf) (m1.same kf) ?_⟩
      have sn : ∀ {a : FS}, SmallC a → ∀ b ∈ a, ∀ x ∈ b.1, PyData.strOk x = true := fun c b hb x hx => (u4_ok x (c.cn.nms b hb x hx)).2
      refine ⟨_, rfl, D2, _, _, _, rfl, rfl, SqL.of (kf _ _ hD2), rfl, _, rfl, D2, _, _, _, rfl, rfl, SqL.of (kf _ _ hD2), rfl, _, _, dp_rows (kf _ _ hy0) (rows0.same kf), dp_rows (kf _ _ hy1) (rows1.same kf), shaped_rows (sn c0), shaped_rows (sn c1), ?_⟩
      rw [encRows_eqv, canon_eq c0.cn c1.cn]
      refine ⟨rfl, _, rfl, if_neg_of (by rw [decide_eq_true rfl]; rfl) ?_⟩
      -- no text
      obtain ⟨L0, ma0, pL0, z0⟩ := m0.same kf
      have pm0 : L0.Perm a0 := terms_perm ma0.ok c0.cn.tm pL0
      obtain ⟨dx0, da0, ho0, _⟩ := ma0.ob
      refine ⟨_, rfl, _, rfl, f0, dx0, _, rfl, ho0, f0, L0, rfl, ma0, c0.cn.tx.perm pm0, fun Jb tb => ⟨_, rfl, ?_⟩⟩
      have kg := kf.trans tb
      refine ⟨f0, dx0, _, "str", rfl, tb _ _ ho0, .str _, nfS, f0, .str _, "str", rfl, .str _, kS, ?_⟩
      refine ⟨_, rfl, if_neg_of rfl ?_⟩
      -- two unknowns
      refine ⟨rfl, "x", rfl, fun u Jc mu tc => ⟨rfl, "y", rfl, fun v Jd mv td => ?_⟩⟩
      have kh := kg.trans (tc.trans td)
      refine useEqMP ((unk_mpP mu).same td) (unk_mpP mv) ?_
      rw [unk_ne]
      refine ⟨_, rfl, if_neg_of rfl ?_⟩
      -- second, third
      refine ⟨_, rfl, _, rfl, D2, _, _, _, rfl, rfl, SqL.of (kh _ _ hD2), rfl, f1, y1, us1, a1, 6, 6, 2 ^ 1203, rfl, m1.same kh, kh _ _ hy1, rows1.same kh, c1.cn, fun Je te => ⟨_, rfl, if_neg_of rfl ?_⟩⟩
      have ki := kh.trans te
      refine ⟨_, rfl, _, rfl, D2, _, _, _, rfl, rfl, SqL.of (ki _ _ hD2), rfl, f2, y2, us2, a2, 6, 6, 2 ^ 1203, rfl, m2.same ki, ki _ _ hy2, rows2.same ki, c2.cn, fun Jf tf => ⟨_, rfl, if_neg_of rfl ?_⟩⟩
      -- an unknown alone
      refine ⟨rfl, "A1b2C3d4E5f6", rfl, fun u2 Jg mu2 tg => ⟨(by show 1 ≤ sizeLine; decide), fun qn nqn => ⟨(by show 2 ≤ sizeLine; decide), fun rn nrn => ⟨(by show 1 ≤ sizeLine; decide), fun tn ntn => ?_⟩⟩⟩⟩
      have w1 := same_upd (o := .lst [.str "A1b2C3d4E5f6"]) nqn
      have w2 := same_upd (o := .lst [.ref qn, .int 1]) nrn
      have w3 := same_upd (o := .lst [.ref rn]) ntn
      have one : RowsAt (upd (upd (upd Jg qn (.lst [.str "A1b2C3d4E5f6"])) rn (.lst [.ref qn, .int 1])) tn (.lst [.ref rn])) [.ref rn] [(["A1b2C3d4E5f6"], 1)] :=
        AllS.snoc (S := RowAt _) (us := []) (bs := []) AllS.nil ⟨rn, qn, rfl, w3 _ _ upd_same, w3 _ _ (w2 _ _ upd_same)⟩
      exact ⟨u2, tn, [.ref rn], [(["A1b2C3d4E5f6"], 1)], 1, 1, 1, rfl, (unk_mpP mu2).same ((w1.trans w2).trans w3), upd_same, one, canon_one (by decide +kernel), fun Jh _ => q Jh⟩
end
theorem all_mk {P : Program} {w : World} {K : PySem.W.Frag} {h : Heap} {mg : Str → Option Value} {fa : Addr} (X : K.In h) (G : h.Ns mainGlobals mg) (hfa : mg "law" = some (.ref fa))
    {f_common : Addr} {od_common an_common : Option Addr} {sl_common : Array (Option Value)} {oc_common kV_common dc_common pm_common cd_common ct_common : Value}
    {f_comofl : Addr} {od_comofl an_comofl : Option Addr} {sl_comofl : Array (Option Value)} {oc_comofl kV_comofl dc_comofl pm_comofl cd_comofl ct_comofl : Value}
    {f_writ : Addr} {od_writ an_writ : Option Addr} {sl_writ : Array (Option Value)} {oc_writ kV_writ dc_writ pm_writ cd_writ ct_writ : Value}
    {f_pool : Addr} {od_pool an_pool : Option Addr} {sl_pool : Array (Option Value)} {oc_pool kV_pool dc_pool pm_pool cd_pool ct_pool : Value}
    {f_take : Addr} {od_take an_take : Option Addr} {sl_take : Array (Option Value)} {oc_take kV_take dc_take pm_take cd_take ct_take : Value}
    {f_cell : Addr} {od_cell an_cell : Option Addr} {sl_cell : Array (Option Value)} {oc_cell kV_cell dc_cell pm_cell cd_cell ct_cell : Value}
    {f_lterms : Addr} {od_lterms an_lterms : Option Addr} {sl_lterms : Array (Option Value)} {oc_lterms kV_lterms dc_lterms pm_lterms cd_lterms ct_lterms : Value}
    {f_lgath : Addr} {od_lgath an_lgath : Option Addr} {sl_lgath : Array (Option Value)} {oc_lgath kV_lgath dc_lgath pm_lgath cd_lgath ct_lgath : Value}
    {f_ltext : Addr} {od_ltext an_ltext : Option Addr} {sl_ltext : Array (Option Value)} {oc_ltext kV_ltext dc_ltext pm_ltext cd_ltext ct_ltext : Value}
    {f_lmadeM : Addr} {od_lmadeM an_lmadeM : Option Addr} {sl_lmadeM : Array (Option Value)} {oc_lmadeM kV_lmadeM dc_lmadeM pm_lmadeM cd_lmadeM ct_lmadeM : Value}
    {f_lmult : Addr} {od_lmult an_lmult : Option Addr} {sl_lmult : Array (Option Value)} {oc_lmult kV_lmult dc_lmult pm_lmult cd_lmult ct_lmult : Value}
    {f_lcomm : Addr} {od_lcomm an_lcomm : Option Addr} {sl_lcomm : Array (Option Value)} {oc_lcomm kV_lcomm dc_lcomm pm_lcomm cd_lcomm ct_lcomm : Value}
    {f_lis : Addr} {od_lis an_lis : Option Addr} {sl_lis : Array (Option Value)} {oc_lis kV_lis dc_lis pm_lis cd_lis ct_lis : Value}
    {f_law : Addr} {od_law an_law : Option Addr} {sl_law : Array (Option Value)} {oc_law kV_law dc_law pm_law cd_law ct_law : Value}
    {C_mn : Addr}
    {f_mninit : Addr} {od_mninit an_mninit : Option Addr} {sl_mninit : Array (Option Value)} {oc_mninit kV_mninit dc_mninit pm_mninit cd_mninit ct_mninit : Value}
    {f_mnadd : Addr} {od_mnadd an_mnadd : Option Addr} {sl_mnadd : Array (Option Value)} {oc_mnadd kV_mnadd dc_mnadd pm_mnadd cd_mnadd ct_mnadd : Value}
    {f_mnsub : Addr} {od_mnsub an_mnsub : Option Addr} {sl_mnsub : Array (Option Value)} {oc_mnsub kV_mnsub dc_mnsub pm_mnsub cd_mnsub ct_mnsub : Value}
    {f_mnneg : Addr} {od_mnneg an_mnneg : Option Addr} {sl_mnneg : Array (Option Value)} {oc_mnneg kV_mnneg dc_mnneg pm_mnneg cd_mnneg ct_mnneg : Value}
    {f_mnmul : Addr} {od_mnmul an_mnmul : Option Addr} {sl_mnmul : Array (Option Value)} {oc_mnmul kV_mnmul dc_mnmul pm_mnmul cd_mnmul ct_mnmul : Value}
    {f_mneq : Addr} {od_mneq an_mneq : Option Addr} {sl_mneq : Array (Option Value)} {oc_mneq kV_mneq dc_mneq pm_mneq cd_mneq ct_mneq : Value}
    {f_mnstr : Addr} {od_mnstr an_mnstr : Option Addr} {sl_mnstr : Array (Option Value)} {oc_mnstr kV_mnstr dc_mnstr pm_mnstr cd_mnstr ct_mnstr : Value}
    {f_mnnames : Addr} {od_mnnames an_mnnames : Option Addr} {sl_mnnames : Array (Option Value)} {oc_mnnames kV_mnnames dc_mnnames pm_mnnames cd_mnnames ct_mnnames : Value}
    {f_mndeg : Addr} {od_mndeg an_mndeg : Option Addr} {sl_mndeg : Array (Option Value)} {oc_mndeg kV_mndeg dc_mndeg pm_mndeg cd_mndeg ct_mndeg : Value}
    {f_mncont : Addr} {od_mncont an_mncont : Option Addr} {sl_mncont : Array (Option Value)} {oc_mncont kV_mncont dc_mncont pm_mncont cd_mncont ct_mncont : Value}
    {f_mnnum : Addr} {od_mnnum an_mnnum : Option Addr} {sl_mnnum : Array (Option Value)} {oc_mnnum kV_mnnum dc_mnnum pm_mnnum cd_mnnum ct_mnnum : Value}
    {p_mnnum : Addr} {r_mnnum : List Value}
    {f_mnunk : Addr} {od_mnunk an_mnunk : Option Addr} {sl_mnunk : Array (Option Value)} {oc_mnunk kV_mnunk dc_mnunk pm_mnunk cd_mnunk ct_mnunk : Value}
    {p_mnunk : Addr} {r_mnunk : List Value}
    {tB tD : Tok}
    (a_common : PySem.W.nsIn K mainGlobals "common" = some (some (.ref f_common))) (l_common : K.lookup f_common = some ⟨oc_common, od_common, .func (PySem.W.fnOf "common" "common" (defArgs s_common) (defBody s_common) (defScope s_common) .none kV_common dc_common pm_common an_common cd_common ct_common), sl_common⟩) (c_common : PySem.W.codeIn K cd_common "common" = true) (k_common : PySem.W.keepIn K (.ref f_common) = true)
    (a_comofl : PySem.W.nsIn K mainGlobals "common_of" = some (some (.ref f_comofl))) (l_comofl : K.lookup f_comofl = some ⟨oc_comofl, od_comofl, .func (PySem.W.fnOf "common_of" "common_of" (defArgs s_comofl) (defBody s_comofl) (defScope s_comofl) .none kV_comofl dc_comofl pm_comofl an_comofl cd_comofl ct_comofl), sl_comofl⟩) (c_comofl : PySem.W.codeIn K cd_comofl "common_of" = true) (k_comofl : PySem.W.keepIn K (.ref f_comofl) = true)
    (a_writ : PySem.W.nsIn K mainGlobals "written" = some (some (.ref f_writ))) (l_writ : K.lookup f_writ = some ⟨oc_writ, od_writ, .func (PySem.W.fnOf "written" "written" (defArgs s_writ) (defBody s_writ) (defScope s_writ) .none kV_writ dc_writ pm_writ an_writ cd_writ ct_writ), sl_writ⟩) (c_writ : PySem.W.codeIn K cd_writ "written" = true) (k_writ : PySem.W.keepIn K (.ref f_writ) = true)
    (a_pool : PySem.W.nsIn K mainGlobals "_law_pool" = some (some (.ref f_pool))) (l_pool : K.lookup f_pool = some ⟨oc_pool, od_pool, .func (PySem.W.fnOf "_law_pool" "_law_pool" (defArgs s_pool) (defBody s_pool) (defScope s_pool) .none kV_pool dc_pool pm_pool an_pool cd_pool ct_pool), sl_pool⟩) (c_pool : PySem.W.codeIn K cd_pool "_law_pool" = true) (k_pool : PySem.W.keepIn K (.ref f_pool) = true)
    (a_take : PySem.W.nsIn K mainGlobals "_law_take" = some (some (.ref f_take))) (l_take : K.lookup f_take = some ⟨oc_take, od_take, .func (PySem.W.fnOf "_law_take" "_law_take" (defArgs s_take) (defBody s_take) (defScope s_take) .none kV_take dc_take pm_take an_take cd_take ct_take), sl_take⟩) (c_take : PySem.W.codeIn K cd_take "_law_take" = true) (k_take : PySem.W.keepIn K (.ref f_take) = true)
    (a_cell : PySem.W.nsIn K mainGlobals "_law_cell" = some (some (.ref f_cell))) (l_cell : K.lookup f_cell = some ⟨oc_cell, od_cell, .func (PySem.W.fnOf "_law_cell" "_law_cell" (defArgs s_cell) (defBody s_cell) (defScope s_cell) .none kV_cell dc_cell pm_cell an_cell cd_cell ct_cell), sl_cell⟩) (c_cell : PySem.W.codeIn K cd_cell "_law_cell" = true) (k_cell : PySem.W.keepIn K (.ref f_cell) = true)
    (a_lterms : PySem.W.nsIn K mainGlobals "_law_terms" = some (some (.ref f_lterms))) (l_lterms : K.lookup f_lterms = some ⟨oc_lterms, od_lterms, .func (PySem.W.fnOf "_law_terms" "_law_terms" (defArgs s_lterms) (defBody s_lterms) (defScope s_lterms) .none kV_lterms dc_lterms pm_lterms an_lterms cd_lterms ct_lterms), sl_lterms⟩) (c_lterms : PySem.W.codeIn K cd_lterms "_law_terms" = true) (k_lterms : PySem.W.keepIn K (.ref f_lterms) = true)
    (a_lgath : PySem.W.nsIn K mainGlobals "_law_gathered" = some (some (.ref f_lgath))) (l_lgath : K.lookup f_lgath = some ⟨oc_lgath, od_lgath, .func (PySem.W.fnOf "_law_gathered" "_law_gathered" (defArgs s_lgath) (defBody s_lgath) (defScope s_lgath) .none kV_lgath dc_lgath pm_lgath an_lgath cd_lgath ct_lgath), sl_lgath⟩) (c_lgath : PySem.W.codeIn K cd_lgath "_law_gathered" = true) (k_lgath : PySem.W.keepIn K (.ref f_lgath) = true)
    (a_ltext : PySem.W.nsIn K mainGlobals "_law_text" = some (some (.ref f_ltext))) (l_ltext : K.lookup f_ltext = some ⟨oc_ltext, od_ltext, .func (PySem.W.fnOf "_law_text" "_law_text" (defArgs s_ltext) (defBody s_ltext) (defScope s_ltext) .none kV_ltext dc_ltext pm_ltext an_ltext cd_ltext ct_ltext), sl_ltext⟩) (c_ltext : PySem.W.codeIn K cd_ltext "_law_text" = true) (k_ltext : PySem.W.keepIn K (.ref f_ltext) = true)
    (a_lmadeM : PySem.W.nsIn K mainGlobals "_law_made" = some (some (.ref f_lmadeM))) (l_lmadeM : K.lookup f_lmadeM = some ⟨oc_lmadeM, od_lmadeM, .func (PySem.W.fnOf "_law_made" "_law_made" (defArgs s_lmadeM) (defBody s_lmadeM) (defScope s_lmadeM) .none kV_lmadeM dc_lmadeM pm_lmadeM an_lmadeM cd_lmadeM ct_lmadeM), sl_lmadeM⟩) (c_lmadeM : PySem.W.codeIn K cd_lmadeM "_law_made" = true) (k_lmadeM : PySem.W.keepIn K (.ref f_lmadeM) = true)
    (a_lmult : PySem.W.nsIn K mainGlobals "_law_multiplied" = some (some (.ref f_lmult))) (l_lmult : K.lookup f_lmult = some ⟨oc_lmult, od_lmult, .func (PySem.W.fnOf "_law_multiplied" "_law_multiplied" (defArgs s_lmult) (defBody s_lmult) (defScope s_lmult) .none kV_lmult dc_lmult pm_lmult an_lmult cd_lmult ct_lmult), sl_lmult⟩) (c_lmult : PySem.W.codeIn K cd_lmult "_law_multiplied" = true) (k_lmult : PySem.W.keepIn K (.ref f_lmult) = true)
    (a_lcomm : PySem.W.nsIn K mainGlobals "_law_common" = some (some (.ref f_lcomm))) (l_lcomm : K.lookup f_lcomm = some ⟨oc_lcomm, od_lcomm, .func (PySem.W.fnOf "_law_common" "_law_common" (defArgs s_lcomm) (defBody s_lcomm) (defScope s_lcomm) .none kV_lcomm dc_lcomm pm_lcomm an_lcomm cd_lcomm ct_lcomm), sl_lcomm⟩) (c_lcomm : PySem.W.codeIn K cd_lcomm "_law_common" = true) (k_lcomm : PySem.W.keepIn K (.ref f_lcomm) = true)
    (a_lis : PySem.W.nsIn K mainGlobals "_law_is" = some (some (.ref f_lis))) (l_lis : K.lookup f_lis = some ⟨oc_lis, od_lis, .func (PySem.W.fnOf "_law_is" "_law_is" (defArgs s_lis) (defBody s_lis) (defScope s_lis) .none kV_lis dc_lis pm_lis an_lis cd_lis ct_lis), sl_lis⟩) (c_lis : PySem.W.codeIn K cd_lis "_law_is" = true) (k_lis : PySem.W.keepIn K (.ref f_lis) = true)
    (a_law : PySem.W.nsIn K mainGlobals "law" = some (some (.ref f_law))) (l_law : K.lookup f_law = some ⟨oc_law, od_law, .func (PySem.W.fnOf "law" "law" (defArgs s_law) (defBody s_law) (defScope s_law) .none kV_law dc_law pm_law an_law cd_law ct_law), sl_law⟩) (c_law : PySem.W.codeIn K cd_law "law" = true) (k_law : PySem.W.keepIn K (.ref f_law) = true)
    (M_aK : PySem.W.nsIn K mainGlobals "Many" = some (some (.ref C_mn)))
    (M_pg : PySem.W.plainGet K C_mn Str.empty = true)
    (M_hd : PySem.W.hasDictIn K C_mn = true)
    (M_po : PySem.W.plainOver K C_mn = true)
    (M_sa : PySem.W.findIn K (.ref C_mn) "__setattr__" = some (some (.builtin "object.__setattr__")))
    (M_sf : PySem.W.selfFirst K C_mn = true)
    (M_ha : PySem.W.findIn K (.ref C_mn) "__class__" = some (some (.builtin "object.__class__")))
    (M_hn : PySem.W.specialIn K (.builtin "object.__class__") "__get__" = some (some (.builtin "getset_descriptor.__get__")))
    (M_htk : PySem.W.takesIn K (.builtin "object.__class__") = some true)
    (M_hm : PySem.W.mroIn K C_mn (.type "object") = some true)
    (M_mk : PySem.W.makesIn K C_mn = true)
    (M_kp : PySem.W.keepIn K (.ref C_mn) = true)
    (M_no__terms : PySem.W.findIn K (.ref C_mn) "_terms" = some none)
    (M_rd : PySem.W.readsIn K C_mn (.type "type") = true)
    (M_sg : PySem.W.specialIn K (.ref C_mn) "__getattribute__" = some (some (.builtin "type.__getattribute__")))
    (M_nf_str : PySem.W.subIn K (.type "str") (.ref C_mn) = some false)
    (M_ic : PySem.W.isClsIn K C_mn = true)
    (M_ty : PySem.W.typeIn K (.ref C_mn) = some (.type "type"))
    (M_at_mninit : PySem.W.findIn K (.ref C_mn) "__init__" = some (some (.ref f_mninit)))
    (M_fn_mninit : PySem.W.isFn K (.ref f_mninit) = true)
    (M_l_mninit : K.lookup f_mninit = some ⟨oc_mninit, od_mninit, .func (PySem.W.fnOf "__init__" "Many.__init__" (defArgs s_mninit) (defBody s_mninit) (defScope s_mninit) .none kV_mninit dc_mninit pm_mninit an_mninit cd_mninit ct_mninit), sl_mninit⟩)
    (M_c_mninit : PySem.W.codeIn K cd_mninit "Many.__init__" = true)
    (M_k_mninit : PySem.W.keepIn K (.ref f_mninit) = true)
    (M_at_mnadd : PySem.W.findIn K (.ref C_mn) "__add__" = some (some (.ref f_mnadd)))
    (M_fn_mnadd : PySem.W.isFn K (.ref f_mnadd) = true)
    (M_l_mnadd : K.lookup f_mnadd = some ⟨oc_mnadd, od_mnadd, .func (PySem.W.fnOf "__add__" "Many.__add__" (defArgs s_mnadd) (defBody s_mnadd) (defScope s_mnadd) .none kV_mnadd dc_mnadd pm_mnadd an_mnadd cd_mnadd ct_mnadd), sl_mnadd⟩)
    (M_c_mnadd : PySem.W.codeIn K cd_mnadd "Many.__add__" = true)
    (M_k_mnadd : PySem.W.keepIn K (.ref f_mnadd) = true)
    (M_at_mnsub : PySem.W.findIn K (.ref C_mn) "__sub__" = some (some (.ref f_mnsub)))
    (M_fn_mnsub : PySem.W.isFn K (.ref f_mnsub) = true)
    (M_l_mnsub : K.lookup f_mnsub = some ⟨oc_mnsub, od_mnsub, .func (PySem.W.fnOf "__sub__" "Many.__sub__" (defArgs s_mnsub) (defBody s_mnsub) (defScope s_mnsub) .none kV_mnsub dc_mnsub pm_mnsub an_mnsub cd_mnsub ct_mnsub), sl_mnsub⟩)
    (M_c_mnsub : PySem.W.codeIn K cd_mnsub "Many.__sub__" = true)
    (M_k_mnsub : PySem.W.keepIn K (.ref f_mnsub) = true)
    (M_at_mnneg : PySem.W.findIn K (.ref C_mn) "__neg__" = some (some (.ref f_mnneg)))
    (M_fn_mnneg : PySem.W.isFn K (.ref f_mnneg) = true)
    (M_l_mnneg : K.lookup f_mnneg = some ⟨oc_mnneg, od_mnneg, .func (PySem.W.fnOf "__neg__" "Many.__neg__" (defArgs s_mnneg) (defBody s_mnneg) (defScope s_mnneg) .none kV_mnneg dc_mnneg pm_mnneg an_mnneg cd_mnneg ct_mnneg), sl_mnneg⟩)
    (M_c_mnneg : PySem.W.codeIn K cd_mnneg "Many.__neg__" = true)
    (M_k_mnneg : PySem.W.keepIn K (.ref f_mnneg) = true)
    (M_at_mnmul : PySem.W.findIn K (.ref C_mn) "__mul__" = some (some (.ref f_mnmul)))
    (M_fn_mnmul : PySem.W.isFn K (.ref f_mnmul) = true)
    (M_l_mnmul : K.lookup f_mnmul = some ⟨oc_mnmul, od_mnmul, .func (PySem.W.fnOf "__mul__" "Many.__mul__" (defArgs s_mnmul) (defBody s_mnmul) (defScope s_mnmul) .none kV_mnmul dc_mnmul pm_mnmul an_mnmul cd_mnmul ct_mnmul), sl_mnmul⟩)
    (M_c_mnmul : PySem.W.codeIn K cd_mnmul "Many.__mul__" = true)
    (M_k_mnmul : PySem.W.keepIn K (.ref f_mnmul) = true)
    (M_at_mneq : PySem.W.findIn K (.ref C_mn) "__eq__" = some (some (.ref f_mneq)))
    (M_fn_mneq : PySem.W.isFn K (.ref f_mneq) = true)
    (M_l_mneq : K.lookup f_mneq = some ⟨oc_mneq, od_mneq, .func (PySem.W.fnOf "__eq__" "Many.__eq__" (defArgs s_mneq) (defBody s_mneq) (defScope s_mneq) .none kV_mneq dc_mneq pm_mneq an_mneq cd_mneq ct_mneq), sl_mneq⟩)
    (M_c_mneq : PySem.W.codeIn K cd_mneq "Many.__eq__" = true)
    (M_k_mneq : PySem.W.keepIn K (.ref f_mneq) = true)
    (M_at_mnstr : PySem.W.findIn K (.ref C_mn) "__str__" = some (some (.ref f_mnstr)))
    (M_fn_mnstr : PySem.W.isFn K (.ref f_mnstr) = true)
    (M_l_mnstr : K.lookup f_mnstr = some ⟨oc_mnstr, od_mnstr, .func (PySem.W.fnOf "__str__" "Many.__str__" (defArgs s_mnstr) (defBody s_mnstr) (defScope s_mnstr) .none kV_mnstr dc_mnstr pm_mnstr an_mnstr cd_mnstr ct_mnstr), sl_mnstr⟩)
    (M_c_mnstr : PySem.W.codeIn K cd_mnstr "Many.__str__" = true)
    (M_k_mnstr : PySem.W.keepIn K (.ref f_mnstr) = true)
    (M_at_mnnames : PySem.W.findIn K (.ref C_mn) "names" = some (some (.ref f_mnnames)))
    (M_fn_mnnames : PySem.W.isFn K (.ref f_mnnames) = true)
    (M_l_mnnames : K.lookup f_mnnames = some ⟨oc_mnnames, od_mnnames, .func (PySem.W.fnOf "names" "Many.names" (defArgs s_mnnames) (defBody s_mnnames) (defScope s_mnnames) .none kV_mnnames dc_mnnames pm_mnnames an_mnnames cd_mnnames ct_mnnames), sl_mnnames⟩)
    (M_c_mnnames : PySem.W.codeIn K cd_mnnames "Many.names" = true)
    (M_k_mnnames : PySem.W.keepIn K (.ref f_mnnames) = true)
    (M_at_mndeg : PySem.W.findIn K (.ref C_mn) "degree" = some (some (.ref f_mndeg)))
    (M_fn_mndeg : PySem.W.isFn K (.ref f_mndeg) = true)
    (M_l_mndeg : K.lookup f_mndeg = some ⟨oc_mndeg, od_mndeg, .func (PySem.W.fnOf "degree" "Many.degree" (defArgs s_mndeg) (defBody s_mndeg) (defScope s_mndeg) .none kV_mndeg dc_mndeg pm_mndeg an_mndeg cd_mndeg ct_mndeg), sl_mndeg⟩)
    (M_c_mndeg : PySem.W.codeIn K cd_mndeg "Many.degree" = true)
    (M_k_mndeg : PySem.W.keepIn K (.ref f_mndeg) = true)
    (M_at_mncont : PySem.W.findIn K (.ref C_mn) "content" = some (some (.ref f_mncont)))
    (M_fn_mncont : PySem.W.isFn K (.ref f_mncont) = true)
    (M_l_mncont : K.lookup f_mncont = some ⟨oc_mncont, od_mncont, .func (PySem.W.fnOf "content" "Many.content" (defArgs s_mncont) (defBody s_mncont) (defScope s_mncont) .none kV_mncont dc_mncont pm_mncont an_mncont cd_mncont ct_mncont), sl_mncont⟩)
    (M_c_mncont : PySem.W.codeIn K cd_mncont "Many.content" = true)
    (M_k_mncont : PySem.W.keepIn K (.ref f_mncont) = true)
    (M_at_mnnum : PySem.W.findCls K (.ref C_mn) (.type "type") "number" = some (.get (.builtin "classmethod.__get__") (.ref p_mnnum) .none (.ref C_mn)))
    (M_rc_mnnum : PySem.W.recIn K p_mnnum "classmethod" = some (.ref f_mnnum :: r_mnnum))
    (M_fi_mnnum : PySem.W.fnIn K f_mnnum = true)
    (M_l_mnnum : K.lookup f_mnnum = some ⟨oc_mnnum, od_mnnum, .func (PySem.W.fnOf "number" "Many.number" (defArgs s_mnnum) (defBody s_mnnum) (defScope s_mnnum) .none kV_mnnum dc_mnnum pm_mnnum an_mnnum cd_mnnum ct_mnnum), sl_mnnum⟩)
    (M_c_mnnum : PySem.W.codeIn K cd_mnnum "Many.number" = true)
    (M_k_mnnum : PySem.W.keepIn K (.ref f_mnnum) = true)
    (M_at_mnunk : PySem.W.findCls K (.ref C_mn) (.type "type") "unknown" = some (.get (.builtin "classmethod.__get__") (.ref p_mnunk) .none (.ref C_mn)))
    (M_rc_mnunk : PySem.W.recIn K p_mnunk "classmethod" = some (.ref f_mnunk :: r_mnunk))
    (M_fi_mnunk : PySem.W.fnIn K f_mnunk = true)
    (M_l_mnunk : K.lookup f_mnunk = some ⟨oc_mnunk, od_mnunk, .func (PySem.W.fnOf "unknown" "Many.unknown" (defArgs s_mnunk) (defBody s_mnunk) (defScope s_mnunk) .none kV_mnunk dc_mnunk pm_mnunk an_mnunk cd_mnunk ct_mnunk), sl_mnunk⟩)
    (M_c_mnunk : PySem.W.codeIn K cd_mnunk "Many.unknown" = true)
    (M_k_mnunk : PySem.W.keepIn K (.ref f_mnunk) = true)
    (z_int : PySem.W.nsIn K mainGlobals "int" = some none)
    (z_len : PySem.W.nsIn K mainGlobals "len" = some none)
    (z_abs : PySem.W.nsIn K mainGlobals "abs" = some none)
    (z_isinstance : PySem.W.nsIn K mainGlobals "isinstance" = some none)
    (z_bool : PySem.W.nsIn K mainGlobals "bool" = some none)
    (z_tuple : PySem.W.nsIn K mainGlobals "tuple" = some none)
    (z_list : PySem.W.nsIn K mainGlobals "list" = some none)
    (z_str : PySem.W.nsIn K mainGlobals "str" = some none)
    (z_range : PySem.W.nsIn K mainGlobals "range" = some none)
    (z_max : PySem.W.nsIn K mainGlobals "max" = some none)
    (z_min : PySem.W.nsIn K mainGlobals "min" = some none)
    (z_sorted : PySem.W.nsIn K mainGlobals "sorted" = some none)
    (z_set : PySem.W.nsIn K mainGlobals "set" = some none)
    (z_divmod : PySem.W.nsIn K mainGlobals "divmod" = some none)
    (g_gcd : PySem.W.nsIn K mainGlobals "gcd" = some (some (.builtin "math.gcd")))
    (g__BLOCK : PySem.W.nsIn K mainGlobals "_BLOCK" = some (some (.int 1000000000000000000 tB)))
    (g__BLOCK_DIGITS : PySem.W.nsIn K mainGlobals "_BLOCK_DIGITS" = some (some (.int 18 tD))) :
    ∃ fd : FuncData, (∀ (s : Shared) (v : Value), BindsTo s fd ⟨[v], []⟩ [("_law_script", v)]) ∧ ∀ base : Heap, K.In base → base.Ns mainGlobals mg → FnOk P w K mg base CX0 8 fa fd ["_law_script"] (spLaw K) := by
  have e := hfa.symm.trans (PySem.W.mg_of X G a_law)
  cases e
  have T : Txt mg := ⟨PySem.W.mg_none_of X G z_int, PySem.W.mg_none_of X G z_len, PySem.W.mg_none_of X G z_abs, PySem.W.mg_none_of X G z_isinstance, PySem.W.mg_none_of X G z_bool, PySem.W.mg_none_of X G z_tuple, PySem.W.mg_none_of X G z_list, PySem.W.mg_none_of X G z_str, PySem.W.mg_none_of X G z_range, PySem.W.mg_none_of X G z_max, PySem.W.mg_none_of X G z_min, PySem.W.mg_none_of X G z_sorted, PySem.W.mg_none_of X G z_set⟩
  have n_divmod := PySem.W.mg_none_of X G z_divmod
  have TM : ManyT K mg C_mn := ⟨PySem.W.mg_of X G M_aK, ⟨M_pg, M_hd, M_po, M_sa⟩, M_no__terms, M_sf, ⟨⟨M_pg, M_hd, M_po, M_sa⟩, M_ha, M_hn, M_htk, M_hm, if_pos (beq_self_eq_true _)⟩⟩
  have F_mninit := fun_mk (st := s_mninit) M_l_mninit M_c_mninit M_k_mninit
  have b_mninit := F_mninit.binds (ps := ["self", "terms"]) fun _ _ _ _ _ _ us hl => match us, hl with | [_, _], _ => rfl
  have F_mnadd := fun_mk (st := s_mnadd) M_l_mnadd M_c_mnadd M_k_mnadd
  have b_mnadd := F_mnadd.binds (ps := ["self", "other"]) fun _ _ _ _ _ _ us hl => match us, hl with | [_, _], _ => rfl
  have M_mnadd : Meth K C_mn "__add__" f_mnadd := ⟨M_at_mnadd, M_fn_mnadd, M_k_mnadd⟩
  have F_mnsub := fun_mk (st := s_mnsub) M_l_mnsub M_c_mnsub M_k_mnsub
  have b_mnsub := F_mnsub.binds (ps := ["self", "other"]) fun _ _ _ _ _ _ us hl => match us, hl with | [_, _], _ => rfl
  have M_mnsub : Meth K C_mn "__sub__" f_mnsub := ⟨M_at_mnsub, M_fn_mnsub, M_k_mnsub⟩
  have F_mnneg := fun_mk (st := s_mnneg) M_l_mnneg M_c_mnneg M_k_mnneg
  have b_mnneg := F_mnneg.binds (ps := ["self"]) fun _ _ _ _ _ _ us hl => match us, hl with | [_], _ => rfl
  have M_mnneg : Meth K C_mn "__neg__" f_mnneg := ⟨M_at_mnneg, M_fn_mnneg, M_k_mnneg⟩
  have F_mnmul := fun_mk (st := s_mnmul) M_l_mnmul M_c_mnmul M_k_mnmul
  have b_mnmul := F_mnmul.binds (ps := ["self", "other"]) fun _ _ _ _ _ _ us hl => match us, hl with | [_, _], _ => rfl
  have M_mnmul : Meth K C_mn "__mul__" f_mnmul := ⟨M_at_mnmul, M_fn_mnmul, M_k_mnmul⟩
  have F_mneq := fun_mk (st := s_mneq) M_l_mneq M_c_mneq M_k_mneq
  have b_mneq := F_mneq.binds (ps := ["self", "other"]) fun _ _ _ _ _ _ us hl => match us, hl with | [_, _], _ => rfl
  have M_mneq : Meth K C_mn "__eq__" f_mneq := ⟨M_at_mneq, M_fn_mneq, M_k_mneq⟩
  have F_mnstr := fun_mk (st := s_mnstr) M_l_mnstr M_c_mnstr M_k_mnstr
  have b_mnstr := F_mnstr.binds (ps := ["self"]) fun _ _ _ _ _ _ us hl => match us, hl with | [_], _ => rfl
  have M_mnstr : Meth K C_mn "__str__" f_mnstr := ⟨M_at_mnstr, M_fn_mnstr, M_k_mnstr⟩
  have F_mnnames := fun_mk (st := s_mnnames) M_l_mnnames M_c_mnnames M_k_mnnames
  have b_mnnames := F_mnnames.binds (ps := ["self"]) fun _ _ _ _ _ _ us hl => match us, hl with | [_], _ => rfl
  have M_mnnames : Meth K C_mn "names" f_mnnames := ⟨M_at_mnnames, M_fn_mnnames, M_k_mnnames⟩
  have F_mndeg := fun_mk (st := s_mndeg) M_l_mndeg M_c_mndeg M_k_mndeg
  have b_mndeg := F_mndeg.binds (ps := ["self"]) fun _ _ _ _ _ _ us hl => match us, hl with | [_], _ => rfl
  have M_mndeg : Meth K C_mn "degree" f_mndeg := ⟨M_at_mndeg, M_fn_mndeg, M_k_mndeg⟩
  have F_mncont := fun_mk (st := s_mncont) M_l_mncont M_c_mncont M_k_mncont
  have b_mncont := F_mncont.binds (ps := ["self"]) fun _ _ _ _ _ _ us hl => match us, hl with | [_], _ => rfl
  have M_mncont : Meth K C_mn "content" f_mncont := ⟨M_at_mncont, M_fn_mncont, M_k_mncont⟩
  have F_mnnum := fun_mk (st := s_mnnum) M_l_mnnum M_c_mnnum M_k_mnnum
  have b_mnnum := F_mnnum.binds (ps := ["cls", "n"]) fun _ _ _ _ _ _ us hl => match us, hl with | [_, _], _ => rfl
  have M_mnnum : ClX.CMet K C_mn (.type "type") "number" p_mnnum f_mnnum := ⟨M_at_mnnum, ⟨_, M_rc_mnnum⟩, M_fi_mnnum⟩
  have F_mnunk := fun_mk (st := s_mnunk) M_l_mnunk M_c_mnunk M_k_mnunk
  have b_mnunk := F_mnunk.binds (ps := ["cls", "name"]) fun _ _ _ _ _ _ us hl => match us, hl with | [_, _], _ => rfl
  have M_mnunk : ClX.CMet K C_mn (.type "type") "unknown" p_mnunk f_mnunk := ⟨M_at_mnunk, ⟨_, M_rc_mnunk⟩, M_fi_mnunk⟩
  have CM : ClX.CRead K C_mn (.type "type") := ⟨M_rd, M_sg⟩
  have F_common := fun_mk (st := s_common) l_common c_common k_common
  have b_common := F_common.binds (ps := ["a", "b"]) fun _ _ _ _ _ _ us hl => match us, hl with | [_, _], _ => rfl
  have F_comofl := fun_mk (st := s_comofl) l_comofl c_comofl k_comofl
  have b_comofl := F_comofl.binds (ps := ["numbers"]) fun _ _ _ _ _ _ us hl => match us, hl with | [_], _ => rfl
  have F_writ := fun_mk (st := s_writ) l_writ c_writ k_writ
  have b_writ := F_writ.binds (ps := ["n"]) fun _ _ _ _ _ _ us hl => match us, hl with | [_], _ => rfl
  have F_pool := fun_mk (st := s_pool) l_pool c_pool k_pool
  have b_pool := F_pool.binds (ps := ["_law_cell_here"]) fun _ _ _ _ _ _ us hl => match us, hl with | [_], _ => rfl
  have F_take := fun_mk (st := s_take) l_take c_take k_take
  have b_take := F_take.binds (ps := ["_law_pool_here", "_law_limit"]) fun _ _ _ _ _ _ us hl => match us, hl with | [_, _], _ => rfl
  have F_cell := fun_mk (st := s_cell) l_cell c_cell k_cell
  have b_cell := F_cell.binds (ps := ["_law_script", "_law_k"]) fun _ _ _ _ _ _ us hl => match us, hl with | [_, _], _ => rfl
  have F_lterms := fun_mk (st := s_lterms) l_lterms c_lterms k_lterms
  have b_lterms := F_lterms.binds (ps := ["_law_pool_here"]) fun _ _ _ _ _ _ us hl => match us, hl with | [_], _ => rfl
  have F_lgath := fun_mk (st := s_lgath) l_lgath c_lgath k_lgath
  have b_lgath := F_lgath.binds (ps := ["_law_terms_here"]) fun _ _ _ _ _ _ us hl => match us, hl with | [_], _ => rfl
  have F_ltext := fun_mk (st := s_ltext) l_ltext c_ltext k_ltext
  have b_ltext := F_ltext.binds (ps := ["_law_terms_here"]) fun _ _ _ _ _ _ us hl => match us, hl with | [_], _ => rfl
  have F_lmadeM := fun_mk (st := s_lmadeM) l_lmadeM c_lmadeM k_lmadeM
  have b_lmadeM := F_lmadeM.binds (ps := ["_law_terms_here"]) fun _ _ _ _ _ _ us hl => match us, hl with | [_], _ => rfl
  have F_lmult := fun_mk (st := s_lmult) l_lmult c_lmult k_lmult
  have b_lmult := F_lmult.binds (ps := ["_law_first", "_law_second"]) fun _ _ _ _ _ _ us hl => match us, hl with | [_, _], _ => rfl
  have F_lcomm := fun_mk (st := s_lcomm) l_lcomm c_lcomm k_lcomm
  have b_lcomm := F_lcomm.binds (ps := ["_law_a", "_law_b"]) fun _ _ _ _ _ _ us hl => match us, hl with | [_, _], _ => rfl
  have F_lis := fun_mk (st := s_lis) l_lis c_lis k_lis
  have b_lis := F_lis.binds (ps := ["_law_told", "_law_terms_here"]) fun _ _ _ _ _ _ us hl => match us, hl with | [_, _], _ => rfl
  have F_law := fun_mk (st := s_law) l_law c_law k_law
  have m_gcd := PySem.W.mg_of X G g_gcd
  have m__BLOCK := PySem.W.mg_of X G g__BLOCK
  have m__BLOCK_DIGITS := PySem.W.mg_of X G g__BLOCK_DIGITS
  refine ⟨PySem.W.fnOf "law" "law" (defArgs s_law) (defBody s_law) (defScope s_law) .none kV_law dc_law pm_law an_law cd_law ct_law, fun s v => .of_eq rfl, fun base _ _ => ?_⟩
  have d_common : Cl P w K mg base CX0 1 "common" spCommon := ⟨_, _, _, ok_common m_gcd F_common, PySem.W.mg_of X G a_common, k_common, b_common⟩
  have d_comofl : Cl P w K mg base CX0 2 "common_of" (spComofL K) := ⟨_, _, _, ok_comofl F_comofl d_common, PySem.W.mg_of X G a_comofl, k_comofl, b_comofl⟩
  have d_writ : Cl P w K mg base CX0 1 "written" spWrit := ⟨_, _, _, ok_writ T m__BLOCK m__BLOCK_DIGITS n_divmod F_writ, PySem.W.mg_of X G a_writ, k_writ, b_writ⟩
  have d_pool : Cl P w K mg base CX0 1 "_law_pool" spPool := ⟨_, _, _, ok_pool F_pool, PySem.W.mg_of X G a_pool, k_pool, b_pool⟩
  have d_take : Cl P w K mg base CX0 1 "_law_take" spTake := ⟨_, _, _, ok_take T F_take, PySem.W.mg_of X G a_take, k_take, b_take⟩
  have d_cell : Cl P w K mg base CX0 1 "_law_cell" (spCellL K) := ⟨_, _, _, ok_cell T F_cell, PySem.W.mg_of X G a_cell, k_cell, b_cell⟩
  have d_lterms : Cl P w K mg base CX0 2 "_law_terms" spLtermsX := ⟨_, _, _, ok_ltermsX T F_lterms d_take, PySem.W.mg_of X G a_lterms, k_lterms, b_lterms⟩
  have d_lgath : Cl P w K mg base CX0 1 "_law_gathered" spLgathX := ⟨_, _, _, ok_lgathX T F_lgath, PySem.W.mg_of X G a_lgath, k_lgath, b_lgath⟩
  have d_ltext : Cl P w K mg base CX0 1 "_law_text" spLtext := ⟨_, _, _, ok_ltext T F_ltext, PySem.W.mg_of X G a_ltext, k_ltext, b_ltext⟩
  have d_lmult : Cl P w K mg base CX0 2 "_law_multiplied" spLmult := ⟨_, _, _, ok_lmult T F_lmult d_lgath, PySem.W.mg_of X G a_lmult, k_lmult, b_lmult⟩
  have d_lcomm : Cl P w K mg base CX0 1 "_law_common" spLcomm := ⟨_, _, _, ok_lcomm T F_lcomm, PySem.W.mg_of X G a_lcomm, k_lcomm, b_lcomm⟩
  have c_mi : Ma P w K mg base 2 C_mn (spMnI C_mn) := ⟨_, _, _, ⟨M_mk, M_at_mninit, M_fn_mninit, M_kp⟩, ok_mninit TM F_mninit, b_mninit⟩
  have m_mnnum : Cm P w K mg base 4 C_mn "number" (spMnN C_mn) := ⟨_, _, _, _, _, CM, M_mnnum, ok_mnnum TM F_mnnum c_mi, b_mnnum⟩
  have m_mnunk : Cm P w K mg base 4 C_mn "unknown" (spMnU C_mn) := ⟨_, _, _, _, _, CM, M_mnunk, ok_mnunk TM F_mnunk c_mi, b_mnunk⟩
  have m_mneq : Me P w K mg base 1 C_mn "__eq__" (spMnEq C_mn) := ⟨_, _, _, M_mneq, ok_mneq T TM F_mneq, b_mneq⟩
  have m_mneqX : Me P w K mg base 1 C_mn "__eq__" (spMnEqX C_mn K) := ⟨_, _, _, M_mneq, ok_mneqX T TM F_mneq, b_mneq⟩
  have m_mnadd : Me P w K mg base 4 C_mn "__add__" (spMnAdd C_mn) := ⟨_, _, _, M_mnadd, ok_mnadd TM F_mnadd c_mi, b_mnadd⟩
  have m_mnneg : Me P w K mg base 4 C_mn "__neg__" (spMnNeg C_mn) := ⟨_, _, _, M_mnneg, ok_mnneg TM F_mnneg c_mi, b_mnneg⟩
  have m_mnsub : Me P w K mg base 5 C_mn "__sub__" (spMnSub C_mn) := ⟨_, _, _, M_mnsub, ok_mnsub TM F_mnsub m_mnadd m_mnneg, b_mnsub⟩
  have m_mnmul : Me P w K mg base 4 C_mn "__mul__" (spMnMul C_mn) := ⟨_, _, _, M_mnmul, ok_mnmul T TM F_mnmul c_mi, b_mnmul⟩
  have m_mnnames : Me P w K mg base 1 C_mn "names" (spMnNames C_mn) := ⟨_, _, _, M_mnnames, ok_mnnames T TM F_mnnames, b_mnnames⟩
  have m_mnstr : Me P w K mg base 2 C_mn "__str__" (spMnStr C_mn) := ⟨_, _, _, M_mnstr, ok_mnstr T TM F_mnstr d_writ, b_mnstr⟩
  have m_mndeg : Me P w K mg base 1 C_mn "degree" (spMnDeg C_mn) := ⟨_, _, _, M_mndeg, ok_mndeg T TM F_mndeg, b_mndeg⟩
  have m_mncont : Me P w K mg base 3 C_mn "content" (spMnCont C_mn) := ⟨_, _, _, M_mncont, ok_mncont T TM F_mncont d_comofl, b_mncont⟩
  have d_lmadeM : Cl P w K mg base CX0 5 "_law_made" (spLmadeM C_mn) := ⟨_, _, _, ok_lmadeM T TM F_lmadeM m_mnnum m_mnunk m_mnadd m_mnmul, PySem.W.mg_of X G a_lmadeM, k_lmadeM, b_lmadeM⟩
  have d_lis : Cl P w K mg base CX0 6 "_law_is" (spLis C_mn) := ⟨_, _, _, ok_lis T TM F_lis d_ltext d_lcomm d_lmadeM m_mnnames m_mndeg m_mncont m_mnstr m_mneq, PySem.W.mg_of X G a_lis, k_lis, b_lis⟩
  exact ok_law T TM M_nf_str (kit_ownF M_ic M_ty M_nf_str) F_law d_cell d_pool d_lgath d_lterms d_lmadeM d_lmult d_lis m_mnnum m_mnunk m_mnadd m_mnsub m_mnneg m_mnmul m_mnstr m_mneq m_mneqX
theorem walk {l : PySem.W.OpenLaw} {q : Program} {loose : List Str} {XP : (Str → Option Value) → Heap → Prop} {YP : World → Heap → Prop} {d : DefRec} {K : Params → PySem.W.Frag} (hn : l.most = some 63) (hdf : d.params.defaults = [])
    (hY : ∀ (w : World) (h : Heap), YP w h → (K w.params).In h)
    (F : ∀ (w : World) (mg : Str → Option Value) (fa : Addr) (h : Heap), (K w.params).In h → h.Ns mainGlobals mg → mg d.name = some (.ref fa) →
      ∃ fd : FuncData, (∀ (s : Shared) (u : Value), BindsTo s fd ⟨[u], []⟩ [("_law_script", u)]) ∧ ∀ base : Heap, (K w.params).In base → base.Ns mainGlobals mg → FnOk l.prog w (K w.params) mg base CX0 8 fa fd ["_law_script"] (spLaw (K w.params))) :
    PySem.W.WalkO q loose XP YP l.row.toRowW d [] (fun f vs => PySem.call f vs) :=
  L2.walk_of (n := 63) (k := 8) (x := "_law_script") (CX := fun _ => CX0) (sp := fun w => spLaw (K w.params)) hn (by decide) hdf ⟨rfl, by decide, by decide⟩ hY F (fun _ _ a ns hl _ hS => ⟨a, ns, rfl, hS, hl, fun _ => rfl⟩) fun _ _ _ _ _ z => z
end My
open PySem PySem.W PyProof.Rows
set_option maxRecDepth 100000 in
set_option maxHeartbeats 0 in
theorem PySem.Challenge.cw_everyfield_k71_polynomials_by_terms_holds : PySem.Challenge.rw_everyfield_k71_polynomials_by_terms.Holds := by
  w_on; o_law; k_head; (case hw => w_witness2)
  k_fill
  refine My.walk (l := PySem.Challenge.rw_everyfield_k71_polynomials_by_terms) rfl rfl (fun w h Y => PySem.W.kIn_of Y) ?F
  case F =>
    intro w mg fa h KX G hmg
    refine' My.all_mk KX G hmg ?a_common ?l_common ?c_common ?k_common ?a_comofl ?l_comofl ?c_comofl ?k_comofl ?a_writ ?l_writ ?c_writ ?k_writ ?a_pool ?l_pool ?c_pool ?k_pool ?a_take ?l_take ?c_take ?k_take ?a_cell ?l_cell ?c_cell ?k_cell ?a_lterms ?l_lterms ?c_lterms ?k_lterms ?a_lgath ?l_lgath ?c_lgath ?k_lgath ?a_ltext ?l_ltext ?c_ltext ?k_ltext ?a_lmadeM ?l_lmadeM ?c_lmadeM ?k_lmadeM ?a_lmult ?l_lmult ?c_lmult ?k_lmult ?a_lcomm ?l_lcomm ?c_lcomm ?k_lcomm ?a_lis ?l_lis ?c_lis ?k_lis ?a_law ?l_law ?c_law ?k_law ?M_aK ?M_pg ?M_hd ?M_po ?M_sa ?M_sf ?M_ha ?M_hn ?M_htk ?M_hm ?M_mk ?M_kp ?M_no__terms ?M_rd ?M_sg ?M_nf_str ?M_ic ?M_ty ?M_at_mninit ?M_fn_mninit ?M_l_mninit ?M_c_mninit ?M_k_mninit ?M_at_mnadd ?M_fn_mnadd ?M_l_mnadd ?M_c_mnadd ?M_k_mnadd ?M_at_mnsub ?M_fn_mnsub ?M_l_mnsub ?M_c_mnsub ?M_k_mnsub ?M_at_mnneg ?M_fn_mnneg ?M_l_mnneg ?M_c_mnneg ?M_k_mnneg ?M_at_mnmul ?M_fn_mnmul ?M_l_mnmul ?M_c_mnmul ?M_k_mnmul ?M_at_mneq ?M_fn_mneq ?M_l_mneq ?M_c_mneq ?M_k_mneq ?M_at_mnstr ?M_fn_mnstr ?M_l_mnstr ?M_c_mnstr ?M_k_mnstr ?M_at_mnnames ?M_fn_mnnames ?M_l_mnnames ?M_c_mnnames ?M_k_mnnames ?M_at_mndeg ?M_fn_mndeg ?M_l_mndeg ?M_c_mndeg ?M_k_mndeg ?M_at_mncont ?M_fn_mncont ?M_l_mncont ?M_c_mncont ?M_k_mncont ?M_at_mnnum ?M_rc_mnnum ?M_fi_mnnum ?M_l_mnnum ?M_c_mnnum ?M_k_mnnum ?M_at_mnunk ?M_rc_mnunk ?M_fi_mnunk ?M_l_mnunk ?M_c_mnunk ?M_k_mnunk ?z_int ?z_len ?z_abs ?z_isinstance ?z_bool ?z_tuple ?z_list ?z_str ?z_range ?z_max ?z_min ?z_sorted ?z_set ?z_divmod ?g_gcd ?g__BLOCK ?g__BLOCK_DIGITS
    (case a_common => k_is)
    (case l_common => k_is)
    (case c_common => k_is)
    (case k_common => k_is)
    (case a_comofl => k_is)
    (case l_comofl => k_is)
    (case c_comofl => k_is)
    (case k_comofl => k_is)
    (case a_writ => k_is)
    (case l_writ => k_is)
    (case c_writ => k_is)
    (case k_writ => k_is)
    (case a_pool => k_is)
    (case l_pool => k_is)
    (case c_pool => k_is)
    (case k_pool => k_is)
    (case a_take => k_is)
    (case l_take => k_is)
    (case c_take => k_is)
    (case k_take => k_is)
    (case a_cell => k_is)
    (case l_cell => k_is)
    (case c_cell => k_is)
    (case k_cell => k_is)
    (case a_lterms => k_is)
    (case l_lterms => k_is)
    (case c_lterms => k_is)
    (case k_lterms => k_is)
    (case a_lgath => k_is)
    (case l_lgath => k_is)
    (case c_lgath => k_is)
    (case k_lgath => k_is)
    (case a_ltext => k_is)
    (case l_ltext => k_is)
    (case c_ltext => k_is)
    (case k_ltext => k_is)
    (case a_lmadeM => k_is)
    (case l_lmadeM => k_is)
    (case c_lmadeM => k_is)
    (case k_lmadeM => k_is)
    (case a_lmult => k_is)
    (case l_lmult => k_is)
    (case c_lmult => k_is)
    (case k_lmult => k_is)
    (case a_lcomm => k_is)
    (case l_lcomm => k_is)
    (case c_lcomm => k_is)
    (case k_lcomm => k_is)
    (case a_lis => k_is)
    (case l_lis => k_is)
    (case c_lis => k_is)
    (case k_lis => k_is)
    (case a_law => k_is)
    (case l_law => k_is)
    (case c_law => k_is)
    (case k_law => k_is)
    (case M_aK => k_is)
    (case M_pg => k_is)
    (case M_hd => k_is)
    (case M_po => k_is)
    (case M_sa => k_is)
    (case M_sf => k_is)
    (case M_ha => k_is)
    (case M_hn => k_is)
    (case M_htk => k_is)
    (case M_hm => k_is)
    (case M_mk => k_is)
    (case M_kp => k_is)
    (case M_no__terms => k_is)
    (case M_rd => k_is)
    (case M_sg => k_is)
    (case M_nf_str => k_is)
    (case M_ic => k_is)
    (case M_ty => k_is)
    (case M_at_mninit => k_is)
    (case M_fn_mninit => k_is)
    (case M_l_mninit => k_is)
    (case M_c_mninit => k_is)
    (case M_k_mninit => k_is)
    (case M_at_mnadd => k_is)
    (case M_fn_mnadd => k_is)
    (case M_l_mnadd => k_is)
    (case M_c_mnadd => k_is)
    (case M_k_mnadd => k_is)
    (case M_at_mnsub => k_is)
    (case M_fn_mnsub => k_is)
    (case M_l_mnsub => k_is)
    (case M_c_mnsub => k_is)
    (case M_k_mnsub => k_is)
    (case M_at_mnneg => k_is)
    (case M_fn_mnneg => k_is)
    (case M_l_mnneg => k_is)
    (case M_c_mnneg => k_is)
    (case M_k_mnneg => k_is)
    (case M_at_mnmul => k_is)
    (case M_fn_mnmul => k_is)
    (case M_l_mnmul => k_is)
    (case M_c_mnmul => k_is)
    (case M_k_mnmul => k_is)
    (case M_at_mneq => k_is)
    (case M_fn_mneq => k_is)
    (case M_l_mneq => k_is)
    (case M_c_mneq => k_is)
    (case M_k_mneq => k_is)
    (case M_at_mnstr => k_is)
    (case M_fn_mnstr => k_is)
    (case M_l_mnstr => k_is)
    (case M_c_mnstr => k_is)
    (case M_k_mnstr => k_is)
    (case M_at_mnnames => k_is)
    (case M_fn_mnnames => k_is)
    (case M_l_mnnames => k_is)
    (case M_c_mnnames => k_is)
    (case M_k_mnnames => k_is)
    (case M_at_mndeg => k_is)
    (case M_fn_mndeg => k_is)
    (case M_l_mndeg => k_is)
    (case M_c_mndeg => k_is)
    (case M_k_mndeg => k_is)
    (case M_at_mncont => k_is)
    (case M_fn_mncont => k_is)
    (case M_l_mncont => k_is)
    (case M_c_mncont => k_is)
    (case M_k_mncont => k_is)
    (case M_at_mnnum => k_is)
    (case M_rc_mnnum => k_is)
    (case M_fi_mnnum => k_is)
    (case M_l_mnnum => k_is)
    (case M_c_mnnum => k_is)
    (case M_k_mnnum => k_is)
    (case M_at_mnunk => k_is)
    (case M_rc_mnunk => k_is)
    (case M_fi_mnunk => k_is)
    (case M_l_mnunk => k_is)
    (case M_c_mnunk => k_is)
    (case M_k_mnunk => k_is)
    (case z_int => k_is)
    (case z_len => k_is)
    (case z_abs => k_is)
    (case z_isinstance => k_is)
    (case z_bool => k_is)
    (case z_tuple => k_is)
    (case z_list => k_is)
    (case z_str => k_is)
    (case z_range => k_is)
    (case z_max => k_is)
    (case z_min => k_is)
    (case z_sorted => k_is)
    (case z_set => k_is)
    (case z_divmod => k_is)
    (case g_gcd => k_is)
    (case g__BLOCK => k_is)
    (case g__BLOCK_DIGITS => k_is)
