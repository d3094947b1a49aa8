import PyProof.Rows.All
import Wide.All
import OpenK.AllK
import Wide.FinOn
import PyProof.NoPylong
import Flt.Len
import HandS.ForMost
import HandS.ForExc
import HandS.Wide
import HandS.Gcd
import HandS.IsInst
import HandS.Evl
import HandS.Flow
import HandS.Iter
import HandS.ExcInit
import HandS.ExcField
import HandS.ExcCtx
import HandS.HotCalls
import HandS.ExcInitHot
import HandS.TupLe
import HandS.TupAny
import HandS.Conv
import HandS.Strs
import HandS.SetFor
import HandS.Zip
import HandS.Star
import HandS.ClsMeth
import HandS.Codes
import HandS.SlotsOwn
import HandS.Walk
import HandS.StrMore
import HandS.FStr
import HandS.FStrTup
import HandS.Style
import HandS.TryMany
import HandS.ExcIs
import HandS.Rev
import HandS.ListEq
import HandS.Small
import KE.GoesMore
import KE.GoesEnum
import PyProof.Draws
import Flt.RightSqrt
import HandS.NoneIn
import HandS.Defaults
import KE.KDictZip
import HandS.CallSlots
import HandS.DictTup
import HandS.DictComp
import HandS.Dict
import KE.KDictDisplayH
import KE.KEqNest
import KE.KDictList
import HandS.TupAny
import HandS.SetBool
import HandS.SetKeys
import HandS.More
import KE.KUnpackStar
import HandS.HeadHook3
import HandS.CallLocal
import HandS.ReplaceLit
import PySem.Challenge.RW_everyfield_k86_texts_of_the_ruler
set_option Elab.async false
set_option linter.all false
set_option maxRecDepth 100000
set_option maxHeartbeats 4000000
set_option exponentiation.threshold 20000
namespace My
open PySem PySem.Spec PyProof.Rows L2
def top (i : Nat) : Stmt := PySem.Challenge.pw_everyfield_k86_texts_of_the_ruler.main.body.getD i (.Pass ⟨0, 0, 0, 0⟩)
-- part prime_math
def Pr (n : Int) : Prop := 2 ≤ n ∧ ∀ m : Int, 2 ≤ m → m < n → ¬ m ∣ n
noncomputable def prB (n : Int) : Bool := @decide (Pr n) (Classical.propDecidable _)
theorem prB_true {n : Int} (h : Pr n) : prB n = true := by unfold prB; exact @decide_eq_true _ (Classical.propDecidable _) h
theorem prB_false {n : Int} (h : ¬ Pr n) : prB n = false := by unfold prB; exact @decide_eq_false _ (Classical.propDecidable _) h
theorem prB_iff {n : Int} : prB n = true ↔ Pr n := by unfold prB; exact @decide_eq_true_iff _ (Classical.propDecidable _)
/-- r is the least divisor of n from 2 on -/
structure Least (n r : Int) : Prop where
  two : 2 ≤ r
  dvd : r ∣ n
  min : ∀ m : Int, 2 ≤ m → m < r → ¬ m ∣ n
theorem Least.le {n r : Int} (h : Least n r) (hn : 2 ≤ n) : r ≤ n := Int.le_of_dvd (by omega) h.dvd
theorem Least.pr {n r : Int} (h : Least n r) : Pr r := ⟨h.two, fun m h1 h2 h3 => h.min m h1 h2 (Int.dvd_trans h3 h.dvd)⟩
theorem Least.uniq {n r r' : Int} (h : Least n r) (h' : Least n r') : r = r' := by
  rcases Int.lt_trichotomy r r' with c | c | c
  · exact absurd h.dvd (h'.min r h.two c)
  · exact c
  · exact absurd h'.dvd (h.min r' h'.two c)
theorem Least.self {n r : Int} (h : Least n r) (hn : 2 ≤ n) : r = n ↔ Pr n := by
  constructor
  · intro e
    rw [e] at h
    exact h.pr
  · intro p
    have := h.le hn
    by_cases c : r = n
    · exact c
    · exact absurd h.dvd (p.2 r h.two (by omega))
/-- a proper divisor: one at most the root -/
theorem small_div {n m s : Int} (hn : 2 ≤ n) (h2 : 2 ≤ m) (hm : m < n) (hd : m ∣ n) (hs0 : 0 ≤ s) (hs : n < (s + 1) * (s + 1)) : ∃ d : Int, 2 ≤ d ∧ d ≤ s ∧ d ≤ m ∧ d ∣ n := by
  obtain ⟨k, e⟩ := hd
  have hk : 2 ≤ k := by
    rcases Int.lt_trichotomy k 1 with c | c | c
    · have : m * k ≤ m * 0 := Int.mul_le_mul_of_nonneg_left (by omega) (by omega)
      omega
    · subst c
      omega
    · omega
  by_cases c : m ≤ s
  · exact ⟨m, h2, c, Int.le_refl _, ⟨k, e⟩⟩
  · refine ⟨k, hk, ?_, ?_, ⟨m, by rw [e, Int.mul_comm]⟩⟩
    · by_cases c2 : k ≤ s
      · exact c2
      · have : (s + 1) * (s + 1) ≤ m * k := Int.mul_le_mul (by omega) (by omega) (by omega) (by omega)
        omega
    · by_cases c2 : k ≤ m
      · exact c2
      · have c3 : k ≤ s := by
          by_cases c4 : k ≤ s
          · exact c4
          · have : (s + 1) * (s + 1) ≤ m * k := Int.mul_le_mul (by omega) (by omega) (by omega) (by omega)
            omega
        omega
/-- the trial over the odd ints: what is left at its end -/
theorem least_of_odd {n s : Int} (hn : 2 ≤ n) (h2 : ¬ (2 : Int) ∣ n) (hs0 : 0 ≤ s) (hs : n < (s + 1) * (s + 1)) (h : ∀ i : Nat, 3 + (i : Int) * 2 ≤ s → ¬ (3 + (i : Int) * 2) ∣ n) : Least n n := by
  refine ⟨hn, Int.dvd_refl n, fun m h1 hm hd => ?_⟩
  obtain ⟨d, d2, ds, _, dn⟩ := small_div hn h1 hm hd hs0 hs
  have odd : d % 2 = 1 := by
    have := Int.emod_two_eq d
    rcases this with e | e
    · exact absurd (Int.dvd_trans (Int.dvd_of_emod_eq_zero e) dn) h2
    · exact e
  have e : d = 3 + ((((d - 3) / 2).toNat : Nat) : Int) * 2 := by omega
  exact h ((d - 3) / 2).toNat (by omega) (e ▸ dn)
theorem least_at {n : Int} {i : Nat} (h2 : ¬ (2 : Int) ∣ n) (hd : (3 + (i : Int) * 2) ∣ n) (h : ∀ j : Nat, j < i → ¬ (3 + (j : Int) * 2) ∣ n) : Least n (3 + (i : Int) * 2) := by
  refine ⟨by omega, hd, fun m h1 hm hdv => ?_⟩
  have odd : m % 2 = 1 := by
    have := Int.emod_two_eq m
    rcases this with e | e
    · exact absurd (Int.dvd_trans (Int.dvd_of_emod_eq_zero e) hdv) h2
    · exact e
  have e : m = 3 + ((((m - 3) / 2).toNat : Nat) : Int) * 2 := by omega
  exact h ((m - 3) / 2).toNat (by omega) (e ▸ hdv)
theorem least_two {n : Int} (h : (2 : Int) ∣ n) : Least n 2 := ⟨by omega, h, fun m h1 h2 => by omega⟩
/-- every int from 2 on has a least divisor -/
theorem least_ex {n : Int} (hn : 2 ≤ n) : ∃ r, Least n r := by
  have key : ∀ (k : Nat) (r : Int), n - r ≤ k → 2 ≤ r → r ≤ n → (∀ m : Int, 2 ≤ m → m < r → ¬ m ∣ n) → ∃ r, Least n r := by
    intro k
    induction k with
    | zero =>
      intro r h1 h2 h3 h4
      have : r = n := by omega
      subst this
      exact ⟨r, h2, Int.dvd_refl r, h4⟩
    | succ k ih =>
      intro r h1 h2 h3 h4
      by_cases c : r ∣ n
      · exact ⟨r, h2, c, h4⟩
      · by_cases e : r = n
        · exact absurd (e ▸ Int.dvd_refl r) c
        · refine ih (r + 1) (by omega) (by omega) (by omega) fun m hm1 hm2 => ?_
          by_cases e2 : m = r
          · rw [e2]
            exact c
          · exact h4 m hm1 (by omega)
  exact key (n - 2).toNat 2 (by omega) (by omega) hn (fun m h1 h2 => by omega)
/-- a check of a prime by trial, for the kernel -/
def trial (n : Nat) : Nat → Nat → Bool
  | 0, _ => false
  | f + 1, k => if n < k * k then true else if n % k = 0 then false else trial n f (k + 1)
theorem trial_ok {n : Nat} (hn : 2 ≤ n) : ∀ (f k : Nat), 2 ≤ k → (∀ m : Nat, 2 ≤ m → m < k → ¬ m ∣ n) → trial n f k = true → Pr (n : Int) := by
  intro f
  induction f with
  | zero => intro k _ _ h; exact absurd h (by simp [trial])
  | succ f ih =>
    intro k hk hm h
    unfold trial at h
    by_cases c : n < k * k
    · refine ⟨by omega, fun m h1 h2 h3 => ?_⟩
      obtain ⟨d, d2, ds, _, dn⟩ := small_div (n := n) (s := (k : Int) - 1) (by omega) h1 h2 h3 (by omega) (by
        rw [Int.sub_add_cancel]
        exact_mod_cast c)
      refine hm d.toNat (by omega) (by omega) ?_
      have : ((d.toNat : Nat) : Int) ∣ (n : Int) := by rw [Int.toNat_of_nonneg (by omega)]; exact dn
      exact Int.natCast_dvd_natCast.mp this
    · rw [if_neg c] at h
      by_cases c2 : n % k = 0
      · rw [if_pos c2] at h
        exact absurd h (by simp)
      · rw [if_neg c2] at h
        refine ih (k + 1) (by omega) (fun m h1 h2 h3 => ?_) h
        by_cases e : m = k
        · subst e
          exact c2 (Nat.mod_eq_zero_of_dvd h3)
        · exact hm m h1 (by omega) h3
theorem pr_of_trial {n : Nat} (f : Nat) (h : (decide (2 ≤ n) && trial n f 2) = true) : Pr (n : Int) := by
  rw [Bool.and_eq_true] at h
  exact trial_ok (of_decide_eq_true h.1) f 2 (by omega) (fun m h1 h2 => by omega) h.2
theorem pr_10007 : Pr 10007 := pr_of_trial (n := 10007) 200 (by decide +kernel)
-- part fact_math
/-- a prime divides a factor -/
theorem pr_mul {q a b : Int} (hq : Pr q) (h : q ∣ a * b) : q ∣ a ∨ q ∣ b := by
  by_cases c : q ∣ a
  · exact .inl c
  · refine .inr ?_
    have hco : Nat.Coprime q.natAbs a.natAbs := by
      have g1 : Nat.gcd q.natAbs a.natAbs ∣ q.natAbs := Nat.gcd_dvd_left _ _
      have g2 : Nat.gcd q.natAbs a.natAbs ∣ a.natAbs := Nat.gcd_dvd_right _ _
      have hq2 := hq.1
      generalize hg : Nat.gcd q.natAbs a.natAbs = g at *
      have gi : (g : Int) ∣ q := Int.natAbs_dvd_natAbs.mp (by rw [Int.natAbs_natCast]; exact g1)
      have ga : (g : Int) ∣ a := Int.natAbs_dvd_natAbs.mp (by rw [Int.natAbs_natCast]; exact g2)
      have gpos : 0 < g := by
        rcases Nat.eq_zero_or_pos g with z | z
        · rw [z] at gi
          have := Int.zero_dvd.mp gi
          omega
        · exact z
      have gle : (g : Int) ≤ q := Int.le_of_dvd (by omega) gi
      by_cases g1' : g = 1
      · unfold Nat.Coprime
        rw [hg, g1']
      · by_cases g2' : (g : Int) = q
        · rw [g2'] at ga
          exact absurd ga c
        · exact absurd gi (hq.2 g (by omega) (by omega))
    have h2 : q.natAbs ∣ a.natAbs * b.natAbs := by
      rw [← Int.natAbs_mul]
      exact Int.natAbs_dvd_natAbs.mpr h
    exact Int.natAbs_dvd_natAbs.mp (Nat.Coprime.dvd_of_dvd_mul_left hco h2)
theorem pr_dvd_pr {p q : Int} (hp : Pr p) (hq : Pr q) (h : q ∣ p) : q = p := by
  have := Int.le_of_dvd (by have := hp.1; omega) h
  by_cases c : q = p
  · exact c
  · exact absurd h (hp.2 q hq.1 (by omega))
/-- l tells the primes that divide n, ascending -/
def PD (n : Int) (l : List Int) : Prop := l.Pairwise (· < ·) ∧ ∀ q, q ∈ l ↔ Pr q ∧ q ∣ n
theorem sorted_uniq : ∀ {l m : List Int}, l.Pairwise (· < ·) → m.Pairwise (· < ·) → (∀ q, q ∈ l ↔ q ∈ m) → l = m
  | [], [], _, _, _ => rfl
  | [], b :: m, _, _, h => absurd ((h b).mpr List.mem_cons_self) (by simp)
  | a :: l, [], _, _, h => absurd ((h a).mp List.mem_cons_self) (by simp)
  | a :: l, b :: m, hl, hm, h => by
    rw [List.pairwise_cons] at hl hm
    have hab : a = b := by
      rcases List.mem_cons.mp ((h a).mp List.mem_cons_self) with e | e
      · exact e
      · rcases List.mem_cons.mp ((h b).mpr List.mem_cons_self) with e2 | e2
        · exact e2.symm
        · have := hm.1 a e
          have := hl.1 b e2
          omega
    subst hab
    rw [sorted_uniq hl.2 hm.2 fun q => ?_]
    constructor
    · intro hq
      have := hl.1 q hq
      rcases List.mem_cons.mp ((h q).mp (List.mem_cons_of_mem _ hq)) with e | e
      · omega
      · exact e
    · intro hq
      have := hm.1 q hq
      rcases List.mem_cons.mp ((h q).mpr (List.mem_cons_of_mem _ hq)) with e | e
      · omega
      · exact e
theorem PD.uniq {n : Int} {l m : List Int} (h : PD n l) (h' : PD n m) : l = m := sorted_uniq h.1 h'.1 fun q => (h.2 q).trans (h'.2 q).symm
/-- what holds between two turns: fs found, r left of n; every prime of r is at least d, those found are less -/
structure Fac (n : Int) (fs : List Int) (r d : Int) : Prop where
  pos : 1 ≤ r
  dv : r ∣ n
  asc : fs.Pairwise (· < ·)
  low : ∀ f ∈ fs, f < d
  mem : ∀ f ∈ fs, Pr f ∧ f ∣ n
  all : ∀ q, Pr q → q ∣ n → q ∣ r ∨ q ∈ fs
  up : ∀ q, Pr q → q ∣ r → d ≤ q
  len : (2 : Int) ^ fs.length * r ≤ n
theorem fac0 {n : Int} (hn : 1 ≤ n) : Fac n [] n 2 := ⟨hn, Int.dvd_refl n, List.Pairwise.nil, (fun _ h => nomatch h), (fun _ h => nomatch h), (fun q _ h => .inl h), (fun q h _ => h.1), by show (2 : Int) ^ 0 * n ≤ n; omega⟩
/-- within the inner loop: r0 at its start, p taken out -/
structure Tak (r0 p r : Int) : Prop where
  pos : 1 ≤ r
  dv : r ∣ r0
  keep : ∀ q, Pr q → q ∣ r0 → q ∣ r ∨ q = p
  half : r = r0 ∨ 2 * r ≤ r0
theorem tak0 {r0 p : Int} (h : 1 ≤ r0) : Tak r0 p r0 := ⟨h, Int.dvd_refl _, fun q _ h => .inl h, .inl rfl⟩
theorem tak_step {r0 p r : Int} (hp : Pr p) (h : Tak r0 p r) (hd : p ∣ r) : Tak r0 p (r / p) ∧ r / p < r := by
  have hp2 := hp.1
  have hpos := h.pos
  obtain ⟨k, e⟩ := hd
  have ek : r / p = k := by rw [e, Int.mul_ediv_cancel_left _ (by omega)]
  rw [ek]
  have k1 : 1 ≤ k := by
    by_cases c : 1 ≤ k
    · exact c
    · have : p * k ≤ p * 0 := Int.mul_le_mul_of_nonneg_left (by omega) (by omega)
      omega
  have k2 : 2 * k ≤ r := by
    have : 2 * k ≤ p * k := Int.mul_le_mul_of_nonneg_right hp2 (by omega)
    omega
  refine ⟨⟨k1, Int.dvd_trans ⟨p, by rw [e, Int.mul_comm]⟩ h.dv, fun q hq hd => ?_, .inr ?_⟩, by omega⟩
  · rcases h.keep q hq hd with c | c
    · rw [e] at c
      rcases pr_mul hq c with c2 | c2
      · exact .inr (pr_dvd_pr hp hq c2)
      · exact .inl c2
    · exact .inr c
  · rcases h.half with c | c <;> omega
/-- behind the inner loop -/
theorem fac_step {n : Int} {fs : List Int} {r0 d p r : Int} (F : Fac n fs r0 d) (hp : Pr p) (hd : p ∣ r0) (T : Tak r0 p r) (hn : ¬ p ∣ r) (hmin : ∀ q, Pr q → q ∣ r0 → p ≤ q) : Fac n (fs ++ [p]) r (p + 1) ∧ r < r0 := by
  have hr : 2 * r ≤ r0 := T.half.resolve_left fun e => hn (e ▸ hd)
  have hdp : d ≤ p := F.up p hp hd
  refine ⟨⟨T.pos, Int.dvd_trans T.dv F.dv, ?_, ?_, ?_, ?_, ?_, ?_⟩, by have := T.pos; omega⟩
  · rw [List.pairwise_append]
    refine ⟨F.asc, List.pairwise_singleton _ _, fun a ha b hb => ?_⟩
    rw [List.mem_singleton.mp hb]
    have := F.low a ha
    omega
  · intro f hf
    rcases List.mem_append.mp hf with h | h
    · have := F.low f h
      omega
    · rw [List.mem_singleton.mp h]
      omega
  · intro f hf
    rcases List.mem_append.mp hf with h | h
    · exact F.mem f h
    · rw [List.mem_singleton.mp h]
      exact ⟨hp, Int.dvd_trans hd F.dv⟩
  · intro q hq h
    rcases F.all q hq h with c | c
    · rcases T.keep q hq c with c2 | c2
      · exact .inl c2
      · exact .inr (List.mem_append_right _ (by rw [c2]; exact List.mem_singleton.mpr rfl))
    · exact .inr (List.mem_append_left _ c)
  · intro q hq h
    have h1 := hmin q hq (Int.dvd_trans h T.dv)
    by_cases c : q = p
    · exact absurd (c ▸ h) hn
    · omega
  · rw [List.length_append]
    show (2 : Int) ^ (fs.length + 1) * r ≤ n
    rw [Int.pow_succ, Int.mul_assoc]
    have h1 : (2 : Int) ^ fs.length * (2 * r) ≤ 2 ^ fs.length * r0 := Int.mul_le_mul_of_nonneg_left hr (Int.pow_nonneg (by decide))
    have := F.len
    omega
theorem fac_end {n : Int} {fs : List Int} {d : Int} (F : Fac n fs 1 d) : PD n fs := by
  refine ⟨F.asc, fun q => ⟨F.mem q, fun ⟨h1, h2⟩ => (F.all q h1 h2).resolve_left fun c => ?_⟩⟩
  have := Int.le_of_dvd (by decide) c
  have := h1.1
  omega
theorem fac_len {n : Int} {fs : List Int} {r d : Int} (F : Fac n fs r d) (hn : n < 2 ^ 62) : fs.length < 62 := by
  by_cases c : fs.length < 62
  · exact c
  · have h1 : (2 : Int) ^ 62 ≤ 2 ^ fs.length := by
      have : (2 : Nat) ^ 62 ≤ 2 ^ fs.length := Nat.pow_le_pow_right (by decide) (by omega)
      have h2 := Int.ofNat_le.mpr this
      rw [Int.natCast_pow, Int.natCast_pow] at h2
      exact h2
    have h2 : (2 : Int) ^ fs.length * 1 ≤ 2 ^ fs.length * r := Int.mul_le_mul_of_nonneg_left F.pos (Int.pow_nonneg (by decide))
    have := F.len
    omega
theorem fac_up {n : Int} {fs : List Int} {r d : Int} (F : Fac n fs r d) (h : ¬ d ∣ r) : Fac n fs r (d + 1) := by
  refine ⟨F.pos, F.dv, F.asc, fun f hf => by have := F.low f hf; omega, F.mem, F.all, fun q h1 h2 => ?_, F.len⟩
  have := F.up q h1 h2
  by_cases c : q = d
  · exact absurd (c ▸ h2) h
  · omega
/-- d divides what is left: it is a prime -/
theorem fac_pr {n : Int} {fs : List Int} {r d : Int} (F : Fac n fs r d) (h2 : 2 ≤ d) (h : d ∣ r) : Pr d := by
  obtain ⟨q, hq⟩ := least_ex h2
  have h1 := F.up q hq.pr (Int.dvd_trans hq.dvd h)
  have := hq.le h2
  have e : q = d := by omega
  exact e ▸ hq.pr
/-- d * d above what is left: that is a prime -/
theorem fac_jump {n : Int} {fs : List Int} {r d : Int} (F : Fac n fs r d) (h2 : 2 ≤ d) (hr : 1 < r) (h : r < d * d) : Pr r ∧ ∀ q, Pr q → q ∣ r → r ≤ q := by
  have hp : Pr r := by
    refine ⟨by omega, fun m h1 h3 h4 => ?_⟩
    obtain ⟨e, e2, es, _, en⟩ := small_div (n := r) (s := d - 1) (by omega) h1 h3 h4 (by omega) (by rw [Int.sub_add_cancel]; exact h)
    obtain ⟨q, hq⟩ := least_ex e2
    have := F.up q hq.pr (Int.dvd_trans hq.dvd en)
    have := hq.le e2
    omega
  exact ⟨hp, fun q hq hd => by have := pr_dvd_pr hp hq hd; omega⟩
-- part trim
/-! rows without zeros at the end -/
def tsz (l : List Int) : Nat → Nat
  | 0 => 0
  | k + 1 => if l.getD k 0 = 0 then tsz l k else k + 1
def trim (l : List Int) : List Int := l.take (tsz l l.length)
/-- the last one is not 0 -/
def Trim (l : List Int) : Prop := ∀ k, l.length = k + 1 → l.getD k 0 ≠ 0
theorem tsz_le (l : List Int) : ∀ k, tsz l k ≤ k
  | 0 => Nat.le_refl _
  | k + 1 => by
    unfold tsz
    split
    · exact Nat.le_succ_of_le (tsz_le l k)
    · exact Nat.le_refl _
theorem tsz_zero (l : List Int) : ∀ k i, tsz l k ≤ i → i < k → l.getD i 0 = 0
  | 0, i, _, h => absurd h (Nat.not_lt_zero i)
  | k + 1, i, h1, h2 => by
    unfold tsz at h1
    split at h1
    · rename_i c
      by_cases e : i = k
      · rw [e]
        exact c
      · exact tsz_zero l k i h1 (by omega)
    · omega
theorem tsz_last (l : List Int) : ∀ k n, tsz l k = n + 1 → l.getD n 0 ≠ 0
  | 0, n, h => by cases h
  | k + 1, n, h => by
    unfold tsz at h
    split at h
    · exact tsz_last l k n h
    · rename_i c
      cases h
      exact c
theorem getD_of {l : List Int} {i : Nat} {z : Int} (h : l[i]? = some z) : l.getD i 0 = z := by
  rw [List.getD_eq_getElem?_getD, h] <;> rfl
theorem getD_ge {l : List Int} {i : Nat} (h : l.length ≤ i) : l.getD i 0 = 0 := by
  rw [List.getD_eq_getElem?_getD, List.getElem?_eq_none h] <;> rfl
theorem getD_at {l : List Int} {i : Nat} (h : i < l.length) : l[i]? = some (l.getD i 0) := by
  rw [List.getD_eq_getElem?_getD, List.getElem?_eq_getElem h] <;> rfl
theorem getD_take (l : List Int) (n i : Nat) : (l.take n).getD i 0 = if i < n then l.getD i 0 else 0 := by
  rw [List.getD_eq_getElem?_getD, List.getElem?_take]
  split
  · rw [List.getD_eq_getElem?_getD]
  · rfl
theorem getD_map {f : Int → Int} (h0 : f 0 = 0) (l : List Int) (i : Nat) : (l.map f).getD i 0 = f (l.getD i 0) := by
  rw [List.getD_eq_getElem?_getD, List.getD_eq_getElem?_getD, List.getElem?_map]
  cases l[i]? with
  | none => exact h0.symm
  | some z => rfl
theorem getD_app0 (l : List Int) (k i : Nat) : (l ++ List.replicate k 0).getD i 0 = l.getD i 0 := by
  rw [List.getD_eq_getElem?_getD, List.getD_eq_getElem?_getD]
  by_cases c : i < l.length
  · rw [List.getElem?_append_left c]
  · rw [List.getElem?_append_right (by omega), List.getElem?_eq_none (show l.length ≤ i by omega), List.getElem?_replicate]
    split <;> rfl
theorem trim_len (l : List Int) : (trim l).length = tsz l l.length := by
  unfold trim
  rw [List.length_take]
  have := tsz_le l l.length
  omega
theorem trim_few (l : List Int) : (trim l).length ≤ l.length := by
  rw [trim_len]
  exact tsz_le l l.length
theorem trim_mem {l : List Int} {z : Int} (h : z ∈ trim l) : z ∈ l := List.mem_of_mem_take h
theorem trim_get (l : List Int) (i : Nat) : (trim l).getD i 0 = l.getD i 0 := by
  unfold trim
  rw [getD_take]
  split
  · rfl
  · rename_i c
    by_cases d : i < l.length
    · exact (tsz_zero l l.length i (by omega) d).symm
    · exact (getD_ge (by omega)).symm
theorem trim_trim (l : List Int) : Trim (trim l) := fun k h => by
  rw [trim_len] at h
  rw [trim_get]
  exact tsz_last l l.length k h
theorem Trim.ext {a b : List Int} (ha : Trim a) (hb : Trim b) (h : ∀ i, a.getD i 0 = b.getD i 0) : a = b := by
  have hl : a.length = b.length := by
    rcases Nat.lt_trichotomy a.length b.length with c | c | c
    · obtain ⟨k, hk⟩ : ∃ k, b.length = k + 1 := ⟨b.length - 1, by omega⟩
      have := hb k hk
      rw [← h k, getD_ge (by omega)] at this
      exact absurd rfl this
    · exact c
    · obtain ⟨k, hk⟩ : ∃ k, a.length = k + 1 := ⟨a.length - 1, by omega⟩
      have := ha k hk
      rw [h k, getD_ge (by omega)] at this
      exact absurd rfl this
  refine List.ext_getElem? fun i => ?_
  by_cases c : i < a.length
  · rw [getD_at c, getD_at (by omega), h i]
  · rw [List.getElem?_eq_none (by omega), List.getElem?_eq_none (by omega)]
theorem trim_ext {a b : List Int} (h : ∀ i, a.getD i 0 = b.getD i 0) : trim a = trim b :=
  (trim_trim a).ext (trim_trim b) fun i => by rw [trim_get, trim_get, h i]
theorem trim_of {l : List Int} (h : Trim l) : trim l = l := (trim_trim l).ext h fun i => trim_get l i
theorem trim_nil : trim [] = [] := rfl
theorem Trim.nil : Trim [] := fun k h => by cases h
theorem Trim.map {l : List Int} {f : Int → Int} (h : Trim l) (h0 : f 0 = 0) (hf : ∀ z, f z = 0 → z = 0) : Trim (l.map f) := fun k hk => by
  rw [List.length_map] at hk
  rw [getD_map h0]
  exact fun e => h k hk (hf _ e)
/-- sums and differences by places -/
theorem getD_zip {f : Int → Int → Int} (a b : List Int) (hl : a.length = b.length) (h0 : f 0 0 = 0) (i : Nat) : (List.zipWith f a b).getD i 0 = f (a.getD i 0) (b.getD i 0) := by
  rw [List.getD_eq_getElem?_getD, List.getElem?_zipWith]
  by_cases c : i < a.length
  · rw [getD_at c, getD_at (show i < b.length by omega)] <;> rfl
  · rw [List.getElem?_eq_none (by omega), List.getElem?_eq_none (show b.length ≤ i by omega), getD_ge (by omega), getD_ge (show b.length ≤ i by omega), h0] <;> rfl
def rngN (n : Nat) (f : Nat → Int) : List Int := (List.range n).map f
theorem rngN_len (n : Nat) (f : Nat → Int) : (rngN n f).length = n := by
  unfold rngN
  rw [List.length_map, List.length_range]
theorem rngN_at {n : Nat} {f : Nat → Int} {i : Nat} (h : i < n) : (rngN n f)[i]? = some (f i) := by
  unfold rngN
  rw [List.getElem?_map, List.getElem?_range h] <;> rfl
theorem rngN_get (n : Nat) (f : Nat → Int) (i : Nat) : (rngN n f).getD i 0 = if i < n then f i else 0 := by
  split
  · rename_i c
    exact getD_of (rngN_at c)
  · rename_i c
    exact getD_ge (by rw [rngN_len]; omega)
/-- the polynomial's rows: sum (sign s), product -/
def pplus (s : Int) (a b : List Int) : List Int := trim (rngN (max a.length b.length) fun i => a.getD i 0 + s * b.getD i 0)
theorem pplus_get (s : Int) (a b : List Int) (i : Nat) : (pplus s a b).getD i 0 = a.getD i 0 + s * b.getD i 0 := by
  unfold pplus
  rw [trim_get, rngN_get]
  split
  · rfl
  · rw [getD_ge (show a.length ≤ i by omega), getD_ge (show b.length ≤ i by omega)]
    simp
/-- the sum of f below n -/
def sumN (f : Nat → Int) : Nat → Int
  | 0 => 0
  | n + 1 => sumN f n + f n
theorem sumN_congr {f g : Nat → Int} : ∀ n, (∀ i, i < n → f i = g i) → sumN f n = sumN g n
  | 0, _ => rfl
  | n + 1, h => by
    unfold sumN
    rw [sumN_congr n fun i hi => h i (by omega), h n (by omega)]
theorem sumN_zero (n : Nat) : sumN (fun _ => 0) n = 0 := by
  induction n with
  | zero => rfl
  | succ n ih => unfold sumN; rw [ih]; rfl
theorem sumN_more {f : Nat → Int} {n : Nat} : ∀ m, (∀ i, n ≤ i → f i = 0) → n ≤ m → sumN f m = sumN f n
  | 0, _, h => by rw [show n = 0 by omega]
  | m + 1, h0, h => by
    by_cases e : n = m + 1
    · rw [e]
    · show sumN f m + f m = sumN f n
      rw [sumN_more m h0 (by omega), h0 m (by omega), Int.add_zero]
/-- the coefficient at k of the product -/
def cnv (a b : List Int) (k : Nat) : Int := sumN (fun i => a.getD i 0 * (if i ≤ k then b.getD (k - i) 0 else 0)) a.length
def pmul (a b : List Int) : List Int := trim (rngN (a.length + b.length) (cnv a b))
theorem cnv_far {a b : List Int} {k : Nat} (h : a.length + b.length ≤ k + 1) : cnv a b k = 0 := by
  unfold cnv
  rw [sumN_congr (g := fun _ => 0) _ fun i hi => ?_, sumN_zero]
  split
  · rw [getD_ge (show b.length ≤ k - i by omega), Int.mul_zero]
  · rw [Int.mul_zero]
theorem pmul_get (a b : List Int) (k : Nat) : (pmul a b).getD k 0 = cnv a b k := by
  unfold pmul
  rw [trim_get, rngN_get]
  split
  · rfl
  · exact (cnv_far (by omega)).symm
/-- the value at x -/
def pev : List Int → Int → Int
  | [], _ => 0
  | c :: l, x => c + x * pev l x
theorem pev_trim (l : List Int) (x : Int) : pev (trim l) x = pev l x := by
  unfold trim
  have key : ∀ (l : List Int) (n : Nat), (∀ i, n ≤ i → l.getD i 0 = 0) → pev (l.take n) x = pev l x := fun l => by
    induction l with
    | nil => intro n _; rw [List.take_nil]
    | cons c l ih =>
      intro n h
      cases n with
      | zero =>
        have hc : c = 0 := h 0 (Nat.le_refl _)
        have hl := ih 0 fun i _ => h (i + 1) (Nat.zero_le _)
        rw [List.take_zero] at hl ⊢
        show 0 = c + x * pev l x
        rw [← hl, hc]
        show (0 : Int) = 0 + x * 0
        rw [Int.mul_zero] <;> rfl
      | succ n =>
        rw [List.take_succ_cons]
        show c + x * pev (l.take n) x = c + x * pev l x
        rw [ih n fun i hi => h (i + 1) (by omega)]
  refine key l _ fun i hi => ?_
  by_cases c : i < l.length
  · exact tsz_zero l _ i hi c
  · exact getD_ge (by omega)
theorem pev_drop {l : List Int} {i : Nat} {c : Int} (h : l[i]? = some c) (x : Int) : pev (l.drop i) x = c + x * pev (l.drop (i + 1)) x := by
  have hi := (List.getElem?_eq_some_iff.mp h).1
  rw [List.drop_eq_getElem_cons hi]
  rw [List.getElem?_eq_getElem hi] at h
  cases h
  rfl
/-- the value, term by term -/
theorem pev_take {l : List Int} {i : Nat} {c : Int} (h : l[i]? = some c) (x : Int) : pev (l.take (i + 1)) x = pev (l.take i) x + c * x ^ i := by
  induction l generalizing i with
  | nil => cases h
  | cons d l ih =>
    cases i with
    | zero =>
      cases h
      rw [List.take_succ_cons, List.take_zero, List.take_zero]
      show c + x * 0 = 0 + c * x ^ 0
      simp
    | succ i =>
      have := ih (i := i) h
      rw [List.take_succ_cons, List.take_succ_cons]
      show d + x * pev (l.take (i + 1)) x = d + x * pev (l.take i) x + c * x ^ (i + 1)
      rw [this, Int.mul_add, Int.pow_succ]
      have e : x * (c * x ^ i) = c * (x ^ i * x) := by rw [Int.mul_left_comm, Int.mul_comm x]
      rw [e]
      omega
-- part gauss
/-! contents: the lemma of Gauss; derivatives -/
/-- the greatest common divisor of a row -/
def cont (l : List Int) : Nat := l.foldl (fun (g : Nat) (z : Int) => Int.gcd (g : Int) z) 0
theorem cont_go (l : List Int) : ∀ g : Nat, (∀ z ∈ l, ((l.foldl (fun (g : Nat) (z : Int) => Int.gcd (g : Int) z) g : Nat) : Int) ∣ z) ∧ ((l.foldl (fun (g : Nat) (z : Int) => Int.gcd (g : Int) z) g : Nat) : Int) ∣ (g : Int) ∧
    ∀ d : Int, d ∣ (g : Int) → (∀ z ∈ l, d ∣ z) → d ∣ ((l.foldl (fun (g : Nat) (z : Int) => Int.gcd (g : Int) z) g : Nat) : Int) := by
  induction l with
  | nil => exact fun g => ⟨fun z h => (nomatch h), Int.dvd_refl _, fun d h _ => h⟩
  | cons c l ih =>
    intro g
    obtain ⟨h1, h2, h3⟩ := ih (Int.gcd (g : Int) c)
    rw [List.foldl_cons]
    refine ⟨fun z hz => ?_, Int.dvd_trans h2 (Int.gcd_dvd_left _ _), fun d hg hd => h3 d (Int.dvd_coe_gcd hg (hd c List.mem_cons_self)) fun z hz => hd z (List.mem_cons_of_mem _ hz)⟩
    rcases List.mem_cons.mp hz with rfl | h
    · exact Int.dvd_trans h2 (Int.gcd_dvd_right _ _)
    · exact h1 z h
theorem cont_dvd {l : List Int} {z : Int} (h : z ∈ l) : ((cont l : Nat) : Int) ∣ z := (cont_go l 0).1 z h
theorem dvd_cont {l : List Int} {d : Int} (h : ∀ z ∈ l, d ∣ z) : d ∣ ((cont l : Nat) : Int) := (cont_go l 0).2.2 d (Int.dvd_zero d) h
theorem cont_get {l : List Int} (i : Nat) : ((cont l : Nat) : Int) ∣ l.getD i 0 := by
  by_cases c : i < l.length
  · exact cont_dvd (List.mem_of_getElem? (getD_at c))
  · rw [getD_ge (by omega)]
    exact Int.dvd_zero _
theorem dvd_cont_get {l : List Int} {d : Int} (h : ∀ i, d ∣ l.getD i 0) : d ∣ ((cont l : Nat) : Int) := dvd_cont fun z hz => by
  obtain ⟨i, hi⟩ := List.mem_iff_getElem?.mp hz
  have := h i
  rw [getD_of hi] at this
  exact this
theorem nat_antisymm {a b : Nat} (h1 : (a : Int) ∣ (b : Int)) (h2 : (b : Int) ∣ (a : Int)) : a = b := Nat.dvd_antisymm (Int.ofNat_dvd.mp h1) (Int.ofNat_dvd.mp h2)
/-- rows with the same places have the same content -/
theorem cont_ext {l m : List Int} (h : ∀ i, l.getD i 0 = m.getD i 0) : cont l = cont m :=
  nat_antisymm (dvd_cont_get fun i => by rw [← h i]; exact cont_get i) (dvd_cont_get fun i => by rw [h i]; exact cont_get i)
theorem cont_trim (l : List Int) : cont (trim l) = cont l := cont_ext fun i => trim_get l i
theorem cont_zero {l : List Int} (h : cont l = 0) (i : Nat) : l.getD i 0 = 0 := by
  have := cont_get (l := l) i
  rw [h] at this
  exact Int.zero_dvd.mp this
theorem cont_nil {l : List Int} (ht : Trim l) (h : cont l = 0) : l = [] := ht.ext Trim.nil fun i => by rw [cont_zero h i, getD_ge (Nat.zero_le _)]
/-- the row with its content taken out -/
def pprim (l : List Int) : List Int := l.map fun z => z / ((cont l : Nat) : Int)
theorem pprim_get (l : List Int) (i : Nat) : (pprim l).getD i 0 = l.getD i 0 / ((cont l : Nat) : Int) := getD_map (f := fun z => z / ((cont l : Nat) : Int)) (Int.zero_ediv _) l i
theorem pprim_mul (l : List Int) (i : Nat) : (pprim l).getD i 0 * ((cont l : Nat) : Int) = l.getD i 0 := by
  rw [pprim_get]
  exact Int.ediv_mul_cancel (cont_get i)
theorem cont_scale {l m : List Int} {c : Nat} (h : ∀ i, m.getD i 0 = l.getD i 0 * (c : Int)) : cont m = cont l * c := by
  refine nat_antisymm ?_ ?_
  · by_cases c0 : c = 0
    · subst c0
      rw [Nat.mul_zero]
      exact Int.dvd_zero _
    · -- m's content is a multiple of c
      have h1 : (c : Int) ∣ ((cont m : Nat) : Int) := dvd_cont_get fun i => by rw [h i]; exact Int.dvd_mul_left _ _
      obtain ⟨k, hk⟩ := h1
      rw [hk, Int.natCast_mul, Int.mul_comm]
      refine Int.mul_dvd_mul_right (c : Int) (dvd_cont_get fun i => ?_)
      have := cont_get (l := m) i
      rw [hk, h i, Int.mul_comm (l.getD i 0)] at this
      exact Int.dvd_of_mul_dvd_mul_left (by omega) this
  · refine dvd_cont_get fun i => ?_
    rw [h i, Int.natCast_mul]
    exact Int.mul_dvd_mul_right _ (cont_get i)
theorem cont_pprim {l : List Int} (h : cont l ≠ 0) : cont (pprim l) = 1 := by
  have := cont_scale (l := pprim l) (m := l) (c := cont l) fun i => (pprim_mul l i).symm
  have h2 : cont (pprim l) * cont l = 1 * cont l := by rw [Nat.one_mul]; exact this.symm
  exact Nat.eq_of_mul_eq_mul_right (Nat.pos_of_ne_zero h) h2
theorem pprim_trim {l : List Int} (h : Trim l) : Trim (pprim l) := fun k hk => by
  have hk' : l.length = k + 1 := by
    unfold pprim at hk
    rw [List.length_map] at hk
    exact hk
  have h1 := h k hk'
  intro e
  have := pprim_mul l k
  rw [e, Int.zero_mul] at this
  exact h1 this.symm
/-! sums -/
theorem sumN_add (f g : Nat → Int) : ∀ n, sumN (fun i => f i + g i) n = sumN f n + sumN g n
  | 0 => rfl
  | n + 1 => by
    show sumN (fun i => f i + g i) n + (f n + g n) = sumN f n + f n + (sumN g n + g n)
    rw [sumN_add f g n]
    omega
theorem sumN_mul (c : Int) (f : Nat → Int) : ∀ n, sumN (fun i => c * f i) n = c * sumN f n
  | 0 => by show 0 = c * 0; rw [Int.mul_zero]
  | n + 1 => by
    show sumN (fun i => c * f i) n + c * f n = c * (sumN f n + f n)
    rw [sumN_mul c f n, Int.mul_add]
theorem sumN_head (f : Nat → Int) : ∀ n, sumN f (n + 1) = f 0 + sumN (fun i => f (i + 1)) n
  | 0 => by show 0 + f 0 = f 0 + 0; omega
  | n + 1 => by
    have := sumN_head f n
    show sumN f (n + 1) + f (n + 1) = f 0 + (sumN (fun i => f (i + 1)) n + f (n + 1))
    rw [this]
    omega
/-- the coefficient, in full -/
theorem cnv_eq (a b : List Int) (k : Nat) : cnv a b k = sumN (fun i => a.getD i 0 * b.getD (k - i) 0) (k + 1) := by
  have e : ∀ n, a.length ≤ n → sumN (fun i => a.getD i 0 * (if i ≤ k then b.getD (k - i) 0 else 0)) n = cnv a b k := fun n hn =>
    sumN_more n (fun i hi => by rw [getD_ge hi, Int.zero_mul]) hn
  have e2 : ∀ n, k + 1 ≤ n → sumN (fun i => a.getD i 0 * (if i ≤ k then b.getD (k - i) 0 else 0)) n = sumN (fun i => a.getD i 0 * (if i ≤ k then b.getD (k - i) 0 else 0)) (k + 1) := fun n hn =>
    sumN_more n (fun i hi => by rw [if_neg (by omega), Int.mul_zero]) hn
  rw [← e (a.length + k + 1) (by omega), e2 (a.length + k + 1) (by omega)]
  exact sumN_congr _ fun i hi => by rw [if_pos (by omega)]
theorem sumN_dvd {p : Int} {f : Nat → Int} : ∀ n, (∀ i, i < n → p ∣ f i) → p ∣ sumN f n
  | 0, _ => Int.dvd_zero p
  | n + 1, h => Int.dvd_add (sumN_dvd n fun i hi => h i (by omega)) (h n (by omega))
theorem sumN_but {p : Int} {f : Nat → Int} {j : Nat} : ∀ n, j < n → (∀ i, i < n → i ≠ j → p ∣ f i) → p ∣ sumN f n → p ∣ f j
  | 0, h, _, _ => absurd h (Nat.not_lt_zero j)
  | n + 1, hj, h, hd => by
    have hd' : p ∣ sumN f n + f n := hd
    by_cases e : j = n
    · subst e
      exact (Int.dvd_iff_dvd_of_dvd_add hd').mp (sumN_dvd j fun i hi => h i (by omega) (by omega))
    · refine sumN_but n (by omega) (fun i hi => h i (by omega)) ?_
      exact (Int.dvd_iff_dvd_of_dvd_add hd').mpr (h n (by omega) (by omega))
/-- the first place that a prime does not divide -/
theorem first_not {p : Int} {f : Nat → Int} : ∀ n, ¬ p ∣ f n → ∃ i, ¬ p ∣ f i ∧ ∀ j, j < i → p ∣ f j := by
  intro n
  induction n using Nat.strongRecOn with
  | ind n ih =>
    intro h
    by_cases c : ∃ m, m < n ∧ ¬ p ∣ f m
    · obtain ⟨m, hm, hd⟩ := c
      exact ih m hm hd
    · exact ⟨n, h, fun j hj => Classical.byContradiction fun hd => c ⟨j, hj, hd⟩⟩
theorem gauss_one {a b : List Int} {p : Int} (hp : Pr p) (ha : ∃ i, ¬ p ∣ a.getD i 0) (hb : ∃ i, ¬ p ∣ b.getD i 0) : ∃ k, ¬ p ∣ cnv a b k := by
  obtain ⟨i0, h0⟩ := ha
  obtain ⟨j0, g0⟩ := hb
  obtain ⟨i, hi, mi⟩ := first_not (f := fun i => a.getD i 0) i0 h0
  obtain ⟨j, hj, mj⟩ := first_not (f := fun i => b.getD i 0) j0 g0
  refine ⟨i + j, fun hd => ?_⟩
  rw [cnv_eq] at hd
  have := sumN_but (j := i) (i + j + 1) (by omega) (fun s hs hne => ?_) hd
  · have e : i + j - i = j := by omega
    rw [e] at this
    rcases pr_mul hp this with h | h
    · exact hi h
    · exact hj h
  · by_cases c : s < i
    · exact Int.dvd_mul_of_dvd_left (mi s c)
    · exact Int.dvd_mul_of_dvd_right (mj (i + j - s) (by omega))
theorem prime_of {n : Nat} (h : n ≠ 1) : ∃ p : Int, Pr p ∧ p ∣ (n : Int) := by
  by_cases c : n = 0
  · subst c
    exact ⟨2, ⟨by decide, fun m h1 h2 => by omega⟩, Int.dvd_zero _⟩
  · obtain ⟨r, hr⟩ := least_ex (n := (n : Int)) (by omega)
    exact ⟨r, hr.pr, hr.dvd⟩
theorem cont_one_prime {l : List Int} (h : cont l = 1) {p : Int} (hp : Pr p) : ∃ i, ¬ p ∣ l.getD i 0 := Classical.byContradiction fun hn => by
  have hall : ∀ i, p ∣ l.getD i 0 := fun i => Classical.byContradiction fun hd => hn ⟨i, hd⟩
  have := dvd_cont_get hall
  rw [h] at this
  have := Int.le_of_dvd (by decide) this
  have := hp.1
  omega
theorem gauss_prim {a b : List Int} (ha : cont a = 1) (hb : cont b = 1) : cont (pmul a b) = 1 := Classical.byContradiction fun hn => by
  obtain ⟨p, hp, hd⟩ := prime_of hn
  obtain ⟨k, hk⟩ := gauss_one hp (cont_one_prime ha hp) (cont_one_prime hb hp)
  exact hk (by rw [← pmul_get]; exact Int.dvd_trans hd (cont_get k))
theorem cnv_scale (a b : List Int) (k : Nat) : cnv a b k = cnv (pprim a) (pprim b) k * ((cont a * cont b : Nat) : Int) := by
  rw [cnv_eq, cnv_eq, Int.mul_comm, ← sumN_mul]
  refine sumN_congr _ fun i _ => ?_
  rw [← pprim_mul a i, ← pprim_mul b (k - i), Int.natCast_mul]
  generalize (pprim a).getD i 0 = x
  generalize (pprim b).getD (k - i) 0 = y
  rw [Int.mul_assoc, Int.mul_left_comm _ y, ← Int.mul_assoc x y, Int.mul_comm (x * y)]
theorem gauss (a b : List Int) : cont (pmul a b) = cont a * cont b := by
  by_cases ha : cont a = 0
  · rw [ha, Nat.zero_mul]
    refine nat_antisymm (Int.dvd_zero _) (dvd_cont_get fun k => ?_)
    rw [pmul_get, cnv_eq]
    exact sumN_dvd _ fun i _ => by rw [cont_zero ha, Int.zero_mul]; exact Int.dvd_zero _
  · by_cases hb : cont b = 0
    · rw [hb, Nat.mul_zero]
      refine nat_antisymm (Int.dvd_zero _) (dvd_cont_get fun k => ?_)
      rw [pmul_get, cnv_eq]
      exact sumN_dvd _ fun i _ => by rw [cont_zero hb, Int.mul_zero]; exact Int.dvd_zero _
    · have := cont_scale (l := pmul (pprim a) (pprim b)) (m := pmul a b) (c := cont a * cont b) fun i => by rw [pmul_get, pmul_get]; exact cnv_scale a b i
      rw [gauss_prim (cont_pprim ha) (cont_pprim hb), Nat.one_mul] at this
      exact this
/-- the derivative -/
def pdrv (l : List Int) : List Int := trim (rngN (l.length - 1) fun k => ((k : Int) + 1) * l.getD (k + 1) 0)
theorem pdrv_get (l : List Int) (k : Nat) : (pdrv l).getD k 0 = ((k : Int) + 1) * l.getD (k + 1) 0 := by
  unfold pdrv
  rw [trim_get, rngN_get]
  split
  · rfl
  · rw [getD_ge (show l.length ≤ k + 1 by omega), Int.mul_zero]
theorem pdrv_mul (a b : List Int) : pdrv (pmul a b) = pplus 1 (pmul (pdrv a) b) (pmul a (pdrv b)) := by
  have t1 : Trim (pdrv (pmul a b)) := trim_trim _
  have t2 : Trim (pplus 1 (pmul (pdrv a) b) (pmul a (pdrv b))) := trim_trim _
  refine t1.ext t2 fun k => ?_
  rw [pdrv_get, pplus_get, pmul_get, pmul_get, pmul_get, cnv_eq, cnv_eq, cnv_eq, Int.one_mul, ← sumN_mul]
  have e1 : sumN (fun i => ((k : Int) + 1) * (a.getD i 0 * b.getD (k + 1 - i) 0)) (k + 1 + 1) =
      sumN (fun i => (i : Int) * (a.getD i 0 * b.getD (k + 1 - i) 0)) (k + 1 + 1) + sumN (fun i => ((k + 1 - i : Nat) : Int) * (a.getD i 0 * b.getD (k + 1 - i) 0)) (k + 1 + 1) := by
    rw [← sumN_add]
    refine sumN_congr _ fun i hi => ?_
    rw [← Int.add_mul]
    congr 1
    omega
  have e2 : sumN (fun i => (i : Int) * (a.getD i 0 * b.getD (k + 1 - i) 0)) (k + 1 + 1) = sumN (fun i => (pdrv a).getD i 0 * b.getD (k - i) 0) (k + 1) := by
    rw [sumN_head]
    show ((0 : Nat) : Int) * _ + _ = _
    rw [show ((0 : Nat) : Int) = 0 from rfl, Int.zero_mul, Int.zero_add]
    refine sumN_congr _ fun i hi => ?_
    rw [pdrv_get, show k + 1 - (i + 1) = k - i by omega, Int.mul_assoc, Int.natCast_add] <;> rfl
  have e3 : sumN (fun i => ((k + 1 - i : Nat) : Int) * (a.getD i 0 * b.getD (k + 1 - i) 0)) (k + 1 + 1) = sumN (fun i => a.getD i 0 * (pdrv b).getD (k - i) 0) (k + 1) := by
    show sumN (fun i => ((k + 1 - i : Nat) : Int) * (a.getD i 0 * b.getD (k + 1 - i) 0)) (k + 1) + ((k + 1 - (k + 1) : Nat) : Int) * _ = _
    rw [Nat.sub_self, show ((0 : Nat) : Int) = 0 from rfl, Int.zero_mul, Int.add_zero]
    refine sumN_congr _ fun i hi => ?_
    rw [pdrv_get, show k - i + 1 = k + 1 - i by omega, Int.mul_left_comm]
    congr 2
    omega
  rw [e1, e2, e3]
theorem pmul_const {l : List Int} {c : Int} : pmul l (trim [c]) = trim (l.map (· * c)) := by
  have t1 : Trim (pmul l (trim [c])) := trim_trim _
  refine t1.ext (trim_trim _) fun k => ?_
  rw [pmul_get, trim_get, getD_map (f := (· * c)) (Int.zero_mul c), cnv_eq]
  show sumN _ k + l.getD k 0 * (trim [c]).getD (k - k) 0 = _
  rw [sumN_congr (g := fun _ => 0) k fun i hi => ?_, sumN_zero, Int.zero_add, trim_get, Nat.sub_self]
  · rfl
  · rw [trim_get, getD_ge (l := [c]) (by show 1 ≤ k - i; omega), Int.mul_zero]
theorem pprim_whole {l : List Int} (h : Trim l) : pmul (pprim l) (trim [((cont l : Nat) : Int)]) = l := by
  have t1 : Trim (pmul (pprim l) (trim [((cont l : Nat) : Int)])) := trim_trim _
  refine t1.ext h fun k => ?_
  rw [pmul_const, trim_get, getD_map (f := (· * ((cont l : Nat) : Int))) (Int.zero_mul _)]
  exact pprim_mul l k
theorem pdrv_trim (l : List Int) : pdrv (trim l) = pdrv l := by
  have t1 : Trim (pdrv (trim l)) := trim_trim _
  have t2 : Trim (pdrv l) := trim_trim _
  exact t1.ext t2 fun k => by rw [pdrv_get, pdrv_get, trim_get]
theorem pprim_zero {l : List Int} (ht : Trim l) (h : cont l = 0) : l = [] ∧ pprim l = [] := by
  have := cont_nil ht h
  subst this
  exact ⟨rfl, rfl⟩
-- part euclid
/-- floor division: the rest is smaller and has the divisor's sign -/
theorem fd_parts (d r : Int) (hr : r ≠ 0) : ∃ m : Int, d - d.fdiv r * r = m ∧ m.natAbs < r.natAbs ∧ ((0 ≤ r ∧ 0 ≤ m) ∨ (r ≤ 0 ∧ m ≤ 0)) ∧ (d.fdiv r).natAbs ≤ d.natAbs ∧
    (((0 ≤ d ∧ 0 ≤ r) ∨ (d ≤ 0 ∧ r ≤ 0)) → d.natAbs = (d.fdiv r).natAbs * r.natAbs + m.natAbs) := by
  have key : ∀ d r : Int, 0 < r → ∃ m : Int, d - d.fdiv r * r = m ∧ m.natAbs < r.natAbs ∧ 0 ≤ m ∧ (d.fdiv r).natAbs ≤ d.natAbs ∧ (0 ≤ d → d.natAbs = (d.fdiv r).natAbs * r.natAbs + m.natAbs) := by
    intro d r h
    rw [Int.fdiv_eq_ediv_of_nonneg d (by omega)]
    have e := Int.mul_ediv_add_emod d r
    have e1 := Int.emod_nonneg d (show r ≠ 0 by omega)
    have e2 := Int.emod_lt_of_pos d h
    have e3 : d / r * r = r * (d / r) := Int.mul_comm _ _
    refine ⟨d % r, by omega, by omega, e1, Int.natAbs_ediv_le_natAbs d r, fun hd => ?_⟩
    have e4 : 0 ≤ d / r := Int.ediv_nonneg hd (by omega)
    have e5 : ((d / r).natAbs * r.natAbs : Nat) = (d / r * r).natAbs := (Int.natAbs_mul _ _).symm
    have e6 : 0 ≤ d / r * r := Int.mul_nonneg e4 (by omega)
    rw [e5]
    omega
  by_cases h : 0 < r
  · obtain ⟨m, h1, h2, h3, h4, h5⟩ := key d r h
    exact ⟨m, h1, h2, .inl ⟨by omega, h3⟩, h4, fun hh => h5 (by omega)⟩
  · obtain ⟨m, h1, h2, h3, h4, h5⟩ := key (-d) (-r) (by omega)
    rw [Int.neg_fdiv_neg] at h1 h4 h5
    have e : d.fdiv r * -r = -(d.fdiv r * r) := Int.mul_neg _ _
    refine ⟨-m, by omega, by omega, .inr ⟨by omega, by omega⟩, by omega, fun hh => ?_⟩
    have h6 := h5 (by omega)
    have e2 : (-r).natAbs = r.natAbs := by omega
    have e3 : (-d).natAbs = d.natAbs := by omega
    have e4 : (-m).natAbs = m.natAbs := by omega
    rw [e2, e3] at h6
    rw [e4]
    exact h6
/-- what holds between two turns -/
structure Euc (a b d r u u' : Int) : Prop where
  g : d.gcd r = a.gcd b
  c1 : ∃ v, d = u * a + v * b
  c2 : ∃ v, r = u' * a + v * b
  bd : d.natAbs ≤ a.natAbs + b.natAbs
  br : r.natAbs ≤ a.natAbs + b.natAbs
  bu : u.natAbs ≤ b.natAbs + 1
  bu' : u'.natAbs ≤ b.natAbs
  way : (u' = 0 ∧ u = 1 ∧ r = b) ∨ (((0 ≤ d ∧ 0 ≤ r) ∨ (d ≤ 0 ∧ r ≤ 0)) ∧ d ≠ 0 ∧ d.natAbs * u'.natAbs + r.natAbs * u.natAbs ≤ b.natAbs)
theorem euc0 (a b : Int) : Euc a b a b 1 0 := ⟨rfl, ⟨0, by omega⟩, ⟨1, by omega⟩, by omega, by omega, by omega, by omega, .inl ⟨rfl, rfl, rfl⟩⟩
theorem euc_step {a b d r u u' : Int} (h : Euc a b d r u u') (hr : r ≠ 0) :
    Euc a b r (d - d.fdiv r * r) u' (u - d.fdiv r * u') ∧ (d - d.fdiv r * r).natAbs < r.natAbs := by
  obtain ⟨m, e, hm, hs, hq, hd⟩ := fd_parts d r hr
  obtain ⟨v1, c1⟩ := h.c1
  obtain ⟨v2, c2⟩ := h.c2
  generalize hqq : d.fdiv r = q at *
  rw [e]
  have hg : r.gcd m = a.gcd b := by
    rw [← e, Int.gcd_sub_mul_right_right, Int.gcd_comm, h.g]
  have hc2 : ∃ v, m = (u - q * u') * a + v * b := by
    refine ⟨v1 - q * v2, ?_⟩
    rw [← e, Int.sub_mul, Int.sub_mul, Int.mul_assoc, Int.mul_assoc]
    have : q * r = q * (u' * a) + q * (v2 * b) := by rw [← Int.mul_add, ← c2]
    omega
  -- the bounds
  have hw : r.natAbs * (u - q * u').natAbs + m.natAbs * u'.natAbs ≤ b.natAbs := by
    rcases h.way with ⟨z1, z2, z3⟩ | ⟨s, z1, z2⟩
    · subst z1
      subst z2
      subst z3
      rw [Int.mul_zero]
      simp
    · have hd' := hd s
      have t1 : (u - q * u').natAbs ≤ u.natAbs + q.natAbs * u'.natAbs := by
        have := Int.natAbs_sub_le u (q * u')
        rw [Int.natAbs_mul] at this
        exact this
      have t2 := Nat.mul_le_mul_left r.natAbs t1
      rw [hd', Nat.add_mul] at z2
      rw [Nat.mul_add] at t2
      have t3 : r.natAbs * (q.natAbs * u'.natAbs) = q.natAbs * r.natAbs * u'.natAbs := by
        rw [← Nat.mul_assoc, Nat.mul_comm r.natAbs]
      omega
  have hrn : 1 ≤ r.natAbs := by omega
  have hu2 : (u - q * u').natAbs ≤ b.natAbs := by
    have := Nat.mul_le_mul_right (u - q * u').natAbs hrn
    omega
  exact ⟨⟨hg, ⟨v2, c2⟩, hc2, h.br, by have := h.br; omega, by have := h.bu'; omega, hu2, .inr ⟨hs, hr, hw⟩⟩, hm⟩
/-- the end -/
theorem euc_end {a b d u u' : Int} (h : Euc a b d 0 u u') : d.natAbs = a.gcd b := by
  have := h.g
  rwa [Int.gcd_zero_right] at this
theorem euc_last {a b d u v : Int} (hb : b ≠ 0) (c : d = u * a + v * b) : (d - u * a).fdiv b = v := by
  have : d - u * a = v * b := by omega
  rw [this, Int.mul_fdiv_cancel _ hb]
theorem natAbs_le_mul {v b : Int} (hb : b ≠ 0) : v.natAbs ≤ (v * b).natAbs := by
  rw [Int.natAbs_mul]
  exact Nat.le_mul_of_pos_right _ (by omega)

structure Cl (P : Program) (w : World) (K : PySem.W.Frag) (mg : Str → Option Value) (base : Heap) (CX : CXT) (k : Nat) (x : Str) (sp : Sp) : Prop where
  ex : ∃ (f : Addr) (fd : FuncData) (ps : List Str), FnOk P w K mg base CX k f fd ps sp ∧ mg x = some (.ref f) ∧ PySem.W.keepIn K (.ref f) = true ∧ Binds K fd ps []
theorem pe_cl {X : Cx} {k j : Nat} {x : Str} {sp : Sp} {p pos : Pos} {e : Expr} {es : List Expr} {t : TA} (c : Cl X.prog X.w X.K X.mg X.base CX0 k x sp) (hr : Room j X.A) (ha : PA X (e :: es) t) (hk : k ≤ j := by decide) (hg : Gl X x := by rfl)
    (hdb : (x == ("__debug__" : Str)) = false := by decide) (he : starEach (e :: es) X.env = (false, eval e X.env) :: starEach es X.env := by rfl) (hpl : (backTo pos (starEach es X.env)).any (·.1) = false := by rfl) :
    PE X (.Call (.Name x p) (e :: es) [] pos) (tCall sp [] E0 t) := by
  obtain ⟨f, fd, ps, F, hm, kp, b⟩ := c.ex
  exact pe_call F (hr.mono hk) hg hm kp b .nil pass0 ha hdb he hpl
structure Txt (mg : Str → Option Value) : Prop where
  int : mg "int" = none
  len : mg "len" = none
  abs : mg "abs" = none
  isinstance : mg "isinstance" = none
  bool : mg "bool" = none
  tuple : mg "tuple" = none
  list : mg "list" = none
  str : mg "str" = none
  range : mg "range" = none
  max : mg "max" = none
  min : mg "min" = none
  sorted : mg "sorted" = none
  set : mg "set" = none
theorem if_pos_of {c : Bool} {A B : Prop} (hc : c = true) (h : A) : if c = true then A else B := by
  rw [if_pos hc]
  exact h
theorem if_neg_of {c : Bool} {A B : Prop} (hc : c = false) (h : B) : if c = true then A else B := by
  rw [hc, if_neg Bool.false_ne_true]
  exact h
theorem same_upd {H : Hp} {p : Addr} {o : HO} (h : H p = none) : Same H (upd H p o) := fun b u e => by
  rw [upd_ne (ne_of_none e h)]
  exact e
/-- a call of a def that may raise, where it doesn't -/
theorem pe_cl0 {X : Cx} {k j : Nat} {x : Str} {sp : Sp} {p pos : Pos} {e : Expr} {es : List Expr} {t : TA} (c : Cl X.prog X.w X.K X.mg X.base (L2.CX X.prog X.w) k x sp) (hr : Room j X.A) (ha : PA X (e :: es) t) (hk : k ≤ j := by decide) (hg : Gl X x := by rfl)
    (hdb : (x == ("__debug__" : Str)) = false := by decide) (he : starEach (e :: es) X.env = (false, eval e X.env) :: starEach es X.env := by rfl) (hpl : (backTo pos (starEach es X.env)).any (·.1) = false := by rfl) :
    PE X (.Call (.Name x p) (e :: es) [] pos) (tCall sp [] E0 t) := by
  obtain ⟨f, fd, ps, F, hm, kp, b⟩ := c.ex
  exact pe_call F (hr.mono hk) hg hm kp b .nil passL ha hdb he hpl
/-- a call of a def that may raise, in a def or try that takes it -/
theorem pe_clX {X : Cx} {W : WX} {k j : Nat} {x : Str} {sp : Sp} {p pos : Pos} {e : Expr} {es : List Expr} {t : TA} (c : Cl X.prog X.w X.K X.mg X.base (L2.CX X.prog X.w) k x sp) (hr : Room j X.A) (tk : Takes X W) (ha : PA X (e :: es) t) (hk : k ≤ j := by decide) (hg : Gl X x := by rfl)
    (hdb : (x == ("__debug__" : Str)) = false := by decide) (he : starEach (e :: es) X.env = (false, eval e X.env) :: starEach es X.env := by rfl) (hpl : (backTo pos (starEach es X.env)).any (·.1) = false := by rfl) :
    PE X (.Call (.Name x p) (e :: es) [] pos) (tCallS sp (WE W) t) := by
  obtain ⟨f, fd, ps, F, hm, kp, b⟩ := c.ex
  exact pe_callS F (hr.mono hk) hg hm kp b (fun σ => passAt tk σ) ha hdb he hpl
/-- FieldError, and what its __init__ is -/
structure FErr (K : PySem.W.Frag) (mg : Str → Option Value) (C : Addr) : Prop where
  g : mg "FieldError" = some (.ref C)
  rd : PySem.W.readsIn K C (.type "type") = true
  ga : PySem.W.specialIn K (.ref C) "__getattribute__" = some (some (.builtin "type.__getattribute__"))
  fi : PySem.W.findCls K (.ref C) (.type "type") "__init__" = some (.val (.builtin "ValueError.__init__"))
theorem pe_feinit {X : Cx} {CF : Addr} {e : Expr} {es : List Expr} {ta : TA} {p1 p2 pos : Pos} {pl : Sem Bool} (F : FErr X.K X.mg CF) (ha : PA X (e :: es) ta) (hg : Gl X "FieldError" := by rfl)
    (hc : eval (.Call (.Attribute (.Name "FieldError" p1) "__init__" p2) (e :: es) [] pos) X.env = (do
      let ov ← eval (.Name "FieldError" p1) X.env
      standAt p2.atName
      let (f, first) ← holding [ov] (getMethod ov "__init__" pl)
      callWith pos f first (backTo pos (starEach (e :: es) X.env)) (backToKw pos (keywordEach [] X.env))) := by rfl)
    (he : starEach (e :: es) X.env = (false, eval e X.env) :: starEach es X.env := by rfl) (hpl : (backTo pos (starEach es X.env)).any (·.1) = false := by rfl) :
    PE X (.Call (.Attribute (.Name "FieldError" p1) "__init__" p2) (e :: es) [] pos) (tVeI X.K ta) := by
  refine ⟨fun pins s σ H Q I h => ?_⟩
  refine PySem.W.methodCall_KW (ld_glob I hg F.g ?_ (by decide)) hc
  refine PySem.W.method_cls I.kIn F.ga (PySem.W.cls_value I.kIn F.rd F.fi (by decide +kernel) ?_)
  show wpAny _ _ (callWith pos (Value.builtin "ValueError.__init__") [] (backTo pos (starEach (e :: es) X.env)) []) _ _ _
  refine PyProof.Rows.callWith_method1 (thn (ha.run pos pins _ σ H _ (I.tok _) h) fun us s1 ⟨vs, H1, I1, r1, a, C, ws, ev, hl, T, ea, q⟩ => ?_) he hpl
  subst ev
  cases r1 with
  | @cons _ u0 _ ur ra rw' =>
    obtain rfl : u0 = Value.ref a := ra
    have hlen : ur.length ≤ sizeLine := by
      rw [← Paired.length rw', sizeLine_eq]
      omega
    exact oinit_ok T I1 ea hlen fun s' J => ⟨.non, H1, J, rfl, q⟩
/-- an own error class with one attribute, and its __init__ by its promise -/
def spInit (C : Addr) (fld : Str) : Sp := fun vs H Q _ => ∃ (a : Addr) (v : V), vs = [.ref a, v] ∧ H a = some (exo a C none) ∧
  ∀ d, H d = none → d ≠ a → Q .non (upd (upd H d (exd d [(fld, v)])) a (exo a C (some d)))
structure ErrC (K : PySem.W.Frag) (mg : Str → Option Value) (nm fld : Str) (C fI : Addr) : Prop where
  g : mg nm = some (.ref C)
  oex : OexC K C
  no : PySem.W.findIn K (.ref C) fld = some none
  iC : PySem.W.findIn K (.ref C) "__init__" = some (some (.ref fI))
  tI : PySem.W.typeIn K (.ref fI) = some (.type "function")
  xf : XfC K C
  te : PySem.W.exmOne K (.ref C) (.ref C) = some true
structure Er (P : Program) (w : World) (K : PySem.W.Frag) (mg : Str → Option Value) (base : Heap) (nm fld : Str) (C : Addr) : Prop where
  ex : ∃ (fI : Addr) (fd : FuncData) (ps : List Str), ErrC K mg nm fld C fI ∧ FnOk P w K mg base CX0 1 fI fd ps (spInit C fld) ∧ Binds K fd ps []
theorem Er.c {P : Program} {w : World} {K : PySem.W.Frag} {mg : Str → Option Value} {base : Heap} {nm fld : Str} {C : Addr} (e : Er P w K mg base nm fld C) : ∃ fI, ErrC K mg nm fld C fI := by
  obtain ⟨fI, _, _, T, _⟩ := e.ex
  exact ⟨fI, T⟩
theorem exm_me {K : PySem.W.Frag} {S : Addr} (h1 : PySem.W.subIn K (.ref S) (.type "BaseException") = some true) (h2 : PySem.W.isClsIn K S = true) (h3 : PySem.W.typeIn K (.ref S) = some (.type "type")) (h4 : PySem.W.subIn K (.ref S) (.ref S) = some true) :
    PySem.W.exmOne K (.ref S) (.ref S) = some true := by
  have e1 : (PySem.W.subIn K (.ref S) (.type "BaseException") == some true) = true := by rw [h1] <;> rfl
  have h2' : (PySem.W.clsIn K S).isSome = true := h2
  have e2 : ((PySem.W.clsIn K S).isSome && PySem.W.typeIn K (.ref S) == some (.type "type")) = true := by rw [h2', h3] <;> rfl
  unfold PySem.W.exmOne
  rw [if_pos e1]
  show (if ((PySem.W.clsIn K S).isSome && PySem.W.typeIn K (.ref S) == some (.type "type")) = true then PySem.W.subIn K (.ref S) (.ref S) else none) = some true
  rw [if_pos e2]
  exact h4
/-- raise C(v): the argument, then what C's own __init__ asks (mk1 answers it) -/
theorem ps_raise1 {X : Cx} {W : WX} {x fld : Str} {C : Addr} {j : Nat} {e : Expr} {ta : TA} {p pos pos' : Pos} (c : Er X.prog X.w X.K X.mg X.base x fld C) (hr : Room j X.A) (tk : Takes X W) (ha : PA X [e] ta) (hj : 2 ≤ j := by decide) (hcalm : X.calm = true := by rfl) (hg : Gl X x := by rfl)
    (hdb : (x == ("__debug__" : Str)) = false := by decide) (he : starEach [e] X.env = (false, eval e X.env) :: starEach [] X.env := by rfl) (hpl : (backTo pos (starEach [] X.env)).any (·.1) = false := by rfl) :
    PS X (.Raise (some (.Call (.Name x p) [e] [] pos)) none pos') (fun _ σ H => tMkO C (spInit C fld) [] ta σ H fun cls d H' => W cls d σ H') := by
  obtain ⟨fI, fd, ps, T, F, b⟩ := c.ex
  exact ps_raise hcalm tk (pmk_oex (X := X) (p := p) (pos := pos) T.oex T.iC T.tI F (hr.mono hj) b .nil (fun _ _ _ _ _ _ _ h => h.elim) hg T.g ha hdb he hpl)
theorem mk1 {C : Addr} {fld : Str} {v : V} {H1 : Hp} {Q : XK} (k : ∀ d H2, Same H1 H2 → H1 d = none → H2 d = some (.xd [(fld, v)]) → Q (.ref C) (some d) H2) :
    ([v] : List V).length ≤ 1000 ∧ ∀ a, H1 a = none → spInit C fld (.ref a :: ([v] ++ [])) (upd H1 a (exo a C none))
      (fun u H2 => u = .non ∧ ∃ (d : Addr) (fs : List (Str × V)), H2 a = some (exo a C (some d)) ∧ H2 d = some (exd d fs) ∧ H1 d = none ∧ Q (.ref C) (some d) (upd (del H2 a) d (.xd fs))) (fun _ _ _ => False) := by
  refine ⟨(by show 1 ≤ 1000; decide), fun a ha => ⟨a, v, rfl, upd_same, fun d hd hda => ⟨rfl, d, [(fld, v)], upd_same, ?_, ?_, ?_⟩⟩⟩
  · rw [upd_ne hda, upd_same]
  · rw [upd_ne hda] at hd
    exact hd
  · rw [upd_ne hda] at hd
    refine k d _ (fun b o e => ?_) hd upd_same
    have hba := ne_of_none e ha
    have hbd := ne_of_none e hd
    rw [upd_ne hbd, del_ne hba, upd_ne hba, upd_ne hbd, upd_ne hba]
    exact e
/-! the same for exceptions whose context is None -/
theorem passN {X : Cx} : Passes (L2N.CX X.prog X.w) X E0 := fun _ _ _ _ _ _ _ ⟨_, _, _, _, _, _, _, _, _, _, _, _, z⟩ => z.elim
theorem takes0N {X : Cx} : L2N.Takes X (fun _ _ _ _ => False) := fun _ _ ⟨_, _, _, _, _, _, _, _, _, _, _, _, _, _, _, _, z⟩ => z.elim
theorem okN {P : Program} {w : World} {K : PySem.W.Frag} {mg : Str → Option Value} {base : Heap} {x qual : Str} {st : Stmt} {f : Addr} {fd : FuncData} {N ps : List Str} {k : Nat} {sp : Sp} (F : Fun K x qual st f fd) (S : FnScope N ps (defScope st)) (len : ∀ vs H Q E, sp vs H Q E → vs.length = ps.length)
    (body : ∀ (cdv : Value) (A : Around) (outer : List Env) (s : Shared) (H : Hp) (vs : List V) (Q : VK) (E : XK), Room k (A.deeper (envOfC qual (defScope st) s.heap.objs.size f cdv)) → sp vs H Q E →
      ∃ t, PSs (cxOf (L2N.CX P w) P w K mg base N qual (defScope st) f cdv A outer s H E) (defBody st) t ∧ t { nx := fun _ H' => Q .non H', rt := Q } (start N vs) H) : FnOk P w K mg base (L2N.CX P w) (k + 1) f fd ps sp := by
  obtain ⟨oc, od, kV, doc, pm, an, cdv, ct, osl, rfl, lk, hcd⟩ := F.ex
  exact fn_of lk hcd S len fun A outer s H vs Q E hr h => body cdv A outer s H vs Q E hr h
/-- a call of such a def, where it doesn't raise -/
theorem pe_clN0 {X : Cx} {k j : Nat} {x : Str} {sp : Sp} {p pos : Pos} {e : Expr} {es : List Expr} {t : TA} (c : Cl X.prog X.w X.K X.mg X.base (L2N.CX X.prog X.w) k x sp) (hr : Room j X.A) (ha : PA X (e :: es) t) (hk : k ≤ j := by decide) (hg : Gl X x := by rfl)
    (hdb : (x == ("__debug__" : Str)) = false := by decide) (he : starEach (e :: es) X.env = (false, eval e X.env) :: starEach es X.env := by rfl) (hpl : (backTo pos (starEach es X.env)).any (·.1) = false := by rfl) :
    PE X (.Call (.Name x p) (e :: es) [] pos) (tCall sp [] E0 t) := by
  obtain ⟨f, fd, ps, F, hm, kp, b⟩ := c.ex
  exact pe_call F (hr.mono hk) hg hm kp b .nil passN ha hdb he hpl
theorem pe_clNX {X : Cx} {W : WX} {k j : Nat} {x : Str} {sp : Sp} {p pos : Pos} {e : Expr} {es : List Expr} {t : TA} (c : Cl X.prog X.w X.K X.mg X.base (L2N.CX X.prog X.w) k x sp) (hr : Room j X.A) (tk : L2N.Takes X W) (ha : PA X (e :: es) t) (hk : k ≤ j := by decide) (hg : Gl X x := by rfl)
    (hdb : (x == ("__debug__" : Str)) = false := by decide) (he : starEach (e :: es) X.env = (false, eval e X.env) :: starEach es X.env := by rfl) (hpl : (backTo pos (starEach es X.env)).any (·.1) = false := by rfl) :
    PE X (.Call (.Name x p) (e :: es) [] pos) (tCallS sp (WE W) t) := by
  obtain ⟨f, fd, ps, F, hm, kp, b⟩ := c.ex
  exact pe_callS F (hr.mono hk) hg hm kp b (fun σ => L2N.passAt tk σ) ha hdb he hpl
theorem pmk_oexN {X : Cx} {e : Expr} {es : List Expr} {ta : TA} {p pos : Pos} {x : Str} {C fI : Addr} {k : Nat} {fd : FuncData} {ps : List Str} {sp : Sp} {ds : List Value} {dvs : List V} (T : OexC X.K C) (iC : PySem.W.findIn X.K (.ref C) "__init__" = some (some (.ref fI))) (tI : PySem.W.typeIn X.K (.ref fI) = some (.type "function"))
    (F1 : FnOk X.prog X.w X.K X.mg X.base CX0 k fI fd ps sp) (hr : Room (k + 1) X.A) (hb : Binds X.K fd ps ds) (hd : Vals dvs ds) (hg : Gl X x) (hm : X.mg x = some (.ref C)) (ha : PA X (e :: es) ta)
    (hdb : (x == ("__debug__" : Str)) = false) (he : starEach (e :: es) X.env = (false, eval e X.env) :: starEach es X.env) (hpl : (backTo pos (starEach es X.env)).any (·.1) = false) :
    L2N.PMk X (.Call (.Name x p) (e :: es) [] pos) (tMkO C sp dvs ta) := by
  intro pins s σ H Q I h
  obtain ⟨nm, q, N, bs, bm, sn, sub, ab, col, dd, k0, k1, k2, k3, k5, hC, hbm⟩ := T.cls
  refine wpAny_Call_Name_kw (ld_glob I hg hm ?_ hdb)
  refine PySem.W.callWith_K (h₀ := X.base) I.ok.mod.kin T.kC (thn (ha.run pos pins s σ H _ I h) fun us st got => ?_) he hpl
  obtain ⟨vs, G1, I1, r1, hz, q1⟩ := got
  refine ⟨I1.kIn, ?_⟩
  show wpAny _ _ (call (.ref C) us) _ _ _
  obtain ⟨hp, g, dr, tk, os⟩ := st
  generalize ex : hp.objs.size + 1 = x1 at *
  have le1 : hp.objs.size ≤ x1 := by omega
  have sp1 := q1 x1 (I1.hok.fresh le1)
  have old : ∀ b o, hp.get? b = some o → ((hp.push (PySem.W.kdv_tup us)).push (PySem.HandSPX.excO C hp.objs.size)).get? b = some o := fun b o z =>
    Heap.get?_push_of_some _ (Heap.get?_push_of_some _ z)
  have new1 : ((hp.push (PySem.W.kdv_tup us)).push (PySem.HandSPX.excO C hp.objs.size)).get? x1 = some (PySem.HandSPX.excO C hp.objs.size) := by
    subst ex
    heap_get
  have I2 := I1.laid (t' := tk) (a := x1) (o := exo x1 C none) old le1 (exo_ok new1)
  have rel : Vals (V.ref x1 :: (vs ++ dvs)) (Value.ref x1 :: (us ++ ds)) := .cons rfl (r1.append hd)
  have few : us.length ≤ sizeLine := by
    have := Paired.length r1
    rw [sizeLine_eq]
    omega
  have many : (Value.ref x1 :: us ++ ds).length = ps.length := by
    have z := rel.length
    rw [F1.len _ _ _ _ sp1] at z
    exact z.symm
  have run := F1.run _ X.stack _ _ ⟨Value.ref x1 :: us, []⟩ (Value.ref x1 :: (us ++ ds)) _ _ (fun _ _ _ => False) (hr.make C us []) (I2.env0.make C us []) (hb _ (Value.ref x1 :: us) I2.kIn many) rel sp1
  refine wpAny_call (PySem.HandSPX.call_own F.excBase_ValueError (fun Y => PySem.HandSPX.refsVE_contains Y bm hbm) (I1.kIn _ _ hC) (PySem.W.looks_findIn I1.kIn iC) (fun self => PySem.W.bind_fn I1.kIn self tI) few ?_)
  subst ex
  refine codeAny_mono run fun r s' back => ?_
  cases r with
  | error er => exact False.elim back
  | ok fl =>
    cases fl with
    | ret u =>
      obtain ⟨v, H2, os2, bare2, un2, hok2, rv, ev, d, fs, ea, ed, hd1, q2⟩ := back
      subst ev
      obtain ⟨h2, g2, d2, t2, os'⟩ := s'
      obtain ⟨t0, G, J, kG, ge, hoe, na⟩ := mk_end0 (d2 := d2) (t2 := t2) I1 le1 old un2 hok2 os2 bare2 ea ed hd1
      exact ⟨rv, _, _, _, ⟨G, g2, d2, t2, os'⟩, _, .ref C, some d, rfl, J, kG, ge, hoe, ⟨rfl, rfl, fun vs z => by cases z; rfl⟩, rfl, rfl, na, rfl, bare2, raises_own T.exC T.tyC, q2⟩
    | next => exact False.elim back
    | brk => exact False.elim back
    | cont => exact False.elim back
theorem ps_raise1N {X : Cx} {W : WX} {x fld : Str} {C : Addr} {j : Nat} {e : Expr} {ta : TA} {p pos pos' : Pos} (c : Er X.prog X.w X.K X.mg X.base x fld C) (hr : Room j X.A) (tk : L2N.Takes X W) (ha : PA X [e] ta) (hj : 2 ≤ j := by decide) (hcalm : X.calm = true := by rfl) (hg : Gl X x := by rfl)
    (hdb : (x == ("__debug__" : Str)) = false := by decide) (he : starEach [e] X.env = (false, eval e X.env) :: starEach [] X.env := by rfl) (hpl : (backTo pos (starEach [] X.env)).any (·.1) = false := by rfl) :
    PS X (.Raise (some (.Call (.Name x p) [e] [] pos)) none pos') (fun _ σ H => tMkO C (spInit C fld) [] ta σ H fun cls d H' => W cls d σ H') := by
  obtain ⟨fI, fd, ps, T, F, b⟩ := c.ex
  exact L2N.ps_raise hcalm tk (pmk_oexN (X := X) (p := p) (pos := pos) T.oex T.iC T.tI F (hr.mono hj) b .nil hg T.g ha hdb he hpl)
section
variable {P : Program} {w : World} {K : PySem.W.Frag} {mg : Str → Option Value} {base : Heap}
-- part divm
/-! division with rest in a prime characteristic -/
def prem (p : Int) (l : List Int) : List Int := trim (l.map (· % p))
theorem prem_get (p : Int) (l : List Int) (i : Nat) : (prem p l).getD i 0 = l.getD i 0 % p := by
  unfold prem
  rw [trim_get]
  exact getD_map (f := fun z => z % p) (Int.zero_emod p) l i
theorem prem_bd {p : Int} (hp : 0 < p) {l : List Int} : ∀ z ∈ prem p l, 0 ≤ z ∧ z < p := fun z hz => by
  obtain ⟨y, _, rfl⟩ := List.mem_map.mp (trim_mem hz)
  exact ⟨Int.emod_nonneg _ (by omega), Int.emod_lt_of_pos _ hp⟩
theorem prem_few (p : Int) (l : List Int) : (prem p l).length ≤ l.length := by
  have := trim_few (l.map (· % p))
  rw [List.length_map] at this
  exact this
theorem trim_short {l : List Int} {n : Nat} (ht : Trim l) (h : ∀ i, n ≤ i → l.getD i 0 = 0) : l.length ≤ n := by
  by_cases c : l.length ≤ n
  · exact c
  · exact absurd (h (l.length - 1) (by omega)) (ht (l.length - 1) (by omega))
theorem cnv_nil (d : List Int) (k : Nat) : cnv [] d k = 0 := rfl
theorem cnv_add (a b d : List Int) (k : Nat) : cnv (pplus 1 a b) d k = cnv a d k + cnv b d k := by
  rw [cnv_eq, cnv_eq, cnv_eq, ← sumN_add]
  refine sumN_congr _ fun i _ => ?_
  rw [pplus_get, Int.one_mul, Int.add_mul]
def trm (c : Int) (e : Nat) : List Int := trim (List.replicate e 0 ++ [c])
theorem trm_get (c : Int) (e i : Nat) : (trm c e).getD i 0 = if i = e then c else 0 := by
  unfold trm
  rw [trim_get]
  by_cases h : i < e
  · rw [if_neg (by omega), List.getD_eq_getElem?_getD, List.getElem?_append_left (by rw [List.length_replicate]; exact h), List.getElem?_replicate, if_pos h]
    rfl
  · rw [List.getD_eq_getElem?_getD, List.getElem?_append_right (by rw [List.length_replicate]; omega), List.length_replicate]
    by_cases h2 : i = e
    · rw [if_pos h2, show i - e = 0 by omega]
      rfl
    · rw [if_neg h2, List.getElem?_eq_none (by show [c].length ≤ i - e; show 1 ≤ i - e; omega)]
      rfl
theorem sumN_one {e : Nat} {v : Nat → Int} : ∀ n, sumN (fun i => if i = e then v i else 0) n = if e < n then v e else 0
  | 0 => by rw [if_neg (by omega)]; rfl
  | n + 1 => by
    show sumN (fun i => if i = e then v i else 0) n + (if n = e then v n else 0) = _
    rw [sumN_one n]
    by_cases h : n = e
    · rw [if_neg (by omega), if_pos h, if_pos (by omega), h, Int.zero_add]
    · by_cases h2 : e < n
      · rw [if_pos h2, if_neg h, if_pos (by omega), Int.add_zero]
      · rw [if_neg h2, if_neg h, if_neg (by omega)]
        rfl
theorem cnv_term (c : Int) (e : Nat) (d : List Int) (k : Nat) : cnv (trm c e) d k = if e ≤ k then c * d.getD (k - e) 0 else 0 := by
  rw [cnv_eq]
  have h := sumN_one (e := e) (v := fun i => c * d.getD (k - i) 0) (k + 1)
  rw [sumN_congr (g := fun i => if i = e then c * d.getD (k - i) 0 else 0) _ fun i _ => by
    rw [trm_get]
    split
    · rfl
    · exact Int.zero_mul _, h]
  by_cases hk : e ≤ k
  · rw [if_pos hk, if_pos (by omega)]
  · rw [if_neg hk, if_neg (by omega)]
theorem dvd_eq {p a b : Int} (h : p ∣ a) (e : a = b) : p ∣ b := e ▸ h
structure DivS (p : Int) (first d q r : List Int) : Prop where
  rt : Trim r
  rb : ∀ z ∈ r, 0 ≤ z ∧ z < p
  eq : ∀ i, p ∣ first.getD i 0 - cnv q d i - r.getD i 0
theorem div0 {p : Int} (hp : 0 < p) (first d : List Int) : DivS p first d [] (prem p first) := by
  refine ⟨trim_trim _, prem_bd hp, fun i => ?_⟩
  rw [prem_get, cnv_nil, Int.sub_zero]
  exact Int.dvd_self_sub_emod
theorem div_step {p : Int} {first d q r : List Int} {b : Int} (hp : 0 < p) (h : DivS p first d q r) (len : d.length ≤ r.length) (dn : 0 < d.length) (hb : p ∣ b * d.getD (d.length - 1) 0 - 1) {c : Int} {e : Nat} (hc : c = r.getD (r.length - 1) 0 * b) (he : e = r.length - d.length) :
    DivS p first d (pplus 1 q (trm c e)) (prem p (pplus (-1) r (pmul (trm c e) d))) ∧ (prem p (pplus (-1) r (pmul (trm c e) d))).length < r.length := by
  have g : ∀ i, (prem p (pplus (-1) r (pmul (trm c e) d))).getD i 0 = (r.getD i 0 + -1 * cnv (trm c e) d i) % p := fun i => by rw [prem_get, pplus_get, pmul_get]
  refine ⟨⟨trim_trim _, prem_bd hp, fun i => ?_⟩, ?_⟩
  · rw [g, cnv_add]
    have h1 := h.eq i
    have h2 : p ∣ (r.getD i 0 + -1 * cnv (trm c e) d i) - (r.getD i 0 + -1 * cnv (trm c e) d i) % p := Int.dvd_self_sub_emod
    have := Int.dvd_add h1 h2
    exact dvd_eq this (by omega)
  · have : (prem p (pplus (-1) r (pmul (trm c e) d))).length ≤ r.length - 1 := by
      refine trim_short (trim_trim _) fun i hi => ?_
      rw [g, cnv_term, if_pos (by omega)]
      by_cases c1 : r.length ≤ i
      · rw [getD_ge c1, getD_ge (show d.length ≤ i - e by omega), Int.mul_zero]
        exact Int.zero_emod _
      · have e1 : i = r.length - 1 := by omega
        rw [e1, show r.length - 1 - e = d.length - 1 by omega, hc]
        refine Int.emod_eq_zero_of_dvd ?_
        obtain ⟨k, hk⟩ := hb
        refine ⟨-(r.getD (r.length - 1) 0 * k), ?_⟩
        have : b * d.getD (d.length - 1) 0 = p * k + 1 := by omega
        rw [Int.mul_assoc, this, Int.mul_add, Int.mul_one, Int.mul_neg, ← Int.mul_assoc, ← Int.mul_assoc, Int.mul_comm p]
        omega
    omega
/-- what is told fits -/
theorem sumN_sub_dvd {p : Int} {f g : Nat → Int} (hf : ∀ j, p ∣ f j - g j) : ∀ n, p ∣ sumN f n - sumN g n
  | 0 => ⟨0, by rw [Int.mul_zero] <;> rfl⟩
  | n + 1 => by
    refine dvd_eq (Int.dvd_add (sumN_sub_dvd hf n) (hf n)) ?_
    show sumN f n - sumN g n + (f n - g n) = sumN f n + f n - (sumN g n + g n)
    omega
theorem rem_swap (p x y : Int) : p ∣ x * (y % p) - x % p * y := by
  have a1 := Int.emod_add_mul_ediv x p
  have a2 := Int.emod_add_mul_ediv y p
  have b1 : x * (y % p) = x * y - x * (p * (y / p)) := by rw [← Int.mul_sub]; congr 1; omega
  have b2 : x % p * y = x * y - p * (x / p) * y := by rw [← Int.sub_mul]; congr 1; omega
  refine ⟨x / p * y - x * (y / p), ?_⟩
  rw [b1, b2, Int.mul_sub, Int.mul_left_comm x p (y / p), Int.mul_assoc]
  omega
theorem cnv_swap (p : Int) (q second : List Int) (i : Nat) : p ∣ cnv q (prem p second) i - cnv (prem p q) second i := by
  rw [cnv_eq, cnv_eq]
  refine sumN_sub_dvd (fun j => ?_) _
  rw [prem_get, prem_get]
  exact rem_swap _ _ _
theorem div_fits {p : Int} {first second q r : List Int} (h : DivS p first (prem p second) q r) : prem p (pplus 1 (pmul (prem p q) second) r) = prem p first := by
  refine Trim.ext (show Trim (prem p _) from trim_trim _) (show Trim (prem p first) from trim_trim _) fun i => ?_
  rw [prem_get, prem_get, pplus_get, pmul_get, Int.one_mul]
  have h3 := Int.dvd_neg.mpr (Int.dvd_add (h.eq i) (cnv_swap p q second i))
  refine Int.emod_eq_emod_iff_emod_sub_eq_zero.mpr (Int.emod_eq_zero_of_dvd (dvd_eq h3 ?_))
  omega
/-- the reciprocal -/
theorem gcd_one {n p : Int} (hp : Pr p) (h0 : 0 < n) (h1 : n < p) : n.gcd p = 1 := by
  have d1 : ((n.gcd p : Nat) : Int) ∣ n := Int.gcd_dvd_left ..
  have d2 : ((n.gcd p : Nat) : Int) ∣ p := Int.gcd_dvd_right ..
  have le := Int.le_of_dvd h0 d1
  by_cases c : 2 ≤ ((n.gcd p : Nat) : Int)
  · exact absurd d2 (hp.2 _ c (by omega))
  · have : (n.gcd p) ≠ 0 := fun e => by
      rw [e] at d1
      have := Int.zero_dvd.mp d1
      omega
    omega
theorem recip_ok {n p u v : Int} (h : u * n + v * p = 1) (hp : 0 < p) : p ∣ (u % p) * n - 1 := by
  have a1 := Int.emod_add_mul_ediv u p
  have b2 : u % p * n = u * n - p * (u / p) * n := by rw [← Int.sub_mul]; congr 1; omega
  refine ⟨-v - u / p * n, ?_⟩
  rw [b2, Int.mul_sub, Int.mul_neg, Int.mul_comm p v, Int.mul_assoc]
  omega
-- part gen2
/-- an isinstance of an int -/
theorem isi_int {K : PySem.W.Frag} {i : Int} {T : String} {b : Bool} {H : Hp} {Q : VK} (h : kitB "int" T = some b) (q : Q (.bl b) H) : rIsi K [.int i, .ty T] H Q :=
  ⟨_, _, _, _, b, rfl, .ty T, .base (.int i), kit_ty h, q⟩
theorem isi_tup {K : PySem.W.Frag} {a : Addr} {xs : List V} {T : String} {b : Bool} {H : Hp} {Q : VK} (ha : H a = some (.tup xs)) (h : kitB "tuple" T = some b) (q : Q (.bl b) H) : rIsi K [.ref a, .ty T] H Q :=
  ⟨_, _, _, _, b, rfl, .ty T, .base (.tup ha), kit_ty h, q⟩
theorem isi_bl {K : PySem.W.Frag} {x : Bool} {T : String} {b : Bool} {H : Hp} {Q : VK} (h : kitB "bool" T = some b) (q : Q (.bl b) H) : rIsi K [.bl x, .ty T] H Q :=
  ⟨_, _, _, _, b, rfl, .ty T, .base (.bl x), kit_ty h, q⟩
theorem isi_lst {K : PySem.W.Frag} {a : Addr} {xs : List V} {T : String} {b : Bool} {H : Hp} {Q : VK} (ha : H a = some (.lst xs)) (h : kitB "list" T = some b) (q : Q (.bl b) H) : rIsi K [.ref a, .ty T] H Q :=
  ⟨_, _, _, _, b, rfl, .ty T, .base (.lst ha), kit_ty h, q⟩
/-- the law's own promise -/
def spLaw (K : PySem.W.Frag) : Sp := fun vs H Q _ => ∃ (a : Addr) (ns : List Int), vs = [.ref a] ∧ SqL K H a (ns.map V.int) ∧ ns.length ≤ 63 ∧ ∀ H', Q (.bl true) H'
/-- a test by an own truth -/
theorem pt_own {X : Cx} {a : Expr} {ta : TE} {r : V → Hp → (Bool → Hp → Prop) → Prop} (ha : PE X a ta) (hr : TruR X r) (he : ∀ whole, isTrue a X.env whole = (do let v ← whole; standAt a.pos; holding [v] (truthy v)) := by intro _; rfl) :
    PT X a (fun σ H Q => ta σ H fun x H' => r x H' Q) :=
  ⟨fun pins s σ H Q I h => isTrue_plain (thn (ha.run pins s σ H _ I h) fun v s1 ⟨x, H1, I1, r1, q1⟩ => hr pins s1 σ H1 x v Q I1 r1 q1) (he _)⟩
-- part errgr
/-! own errors whose __init__ keeps any promise; errors without arguments -/
structure ErG (P : Program) (w : World) (K : PySem.W.Frag) (mg : Str → Option Value) (base : Heap) (nm : Str) (C : Addr) (sp : Sp) : Prop where
  ex : ∃ (fI : Addr) (fd : FuncData) (ps : List Str), mg nm = some (.ref C) ∧ OexC K C ∧ PySem.W.findIn K (.ref C) "__init__" = some (some (.ref fI)) ∧ PySem.W.typeIn K (.ref fI) = some (.type "function") ∧ FnOk P w K mg base CX0 1 fI fd ps sp ∧ Binds K fd ps []
theorem ps_raiseG {X : Cx} {W : WX} {x : Str} {C : Addr} {sp : Sp} {j : Nat} {e : Expr} {es : List Expr} {ta : TA} {p pos pos' : Pos} (c : ErG X.prog X.w X.K X.mg X.base x C sp) (hr : Room j X.A) (tk : L2N.Takes X W) (ha : PA X (e :: es) ta) (hj : 2 ≤ j := by decide) (hcalm : X.calm = true := by rfl) (hg : Gl X x := by rfl)
    (hdb : (x == ("__debug__" : Str)) = false := by decide) (he : starEach (e :: es) X.env = (false, eval e X.env) :: starEach es X.env := by rfl) (hpl : (backTo pos (starEach es X.env)).any (·.1) = false := by rfl) :
    PS X (.Raise (some (.Call (.Name x p) (e :: es) [] pos)) none pos') (fun _ σ H => tMkO C sp [] ta σ H fun cls d H' => W cls d σ H') := by
  obtain ⟨fI, fd, ps, g, T, iC, tI, F, b⟩ := c.ex
  exact L2N.ps_raise hcalm tk (pmk_oexN (X := X) (p := p) (pos := pos) T iC tI F (hr.mono hj) b .nil hg g ha hdb he hpl)
-- part errz
/-- the exception is let go; it has no dict -/
theorem let_go {X : Cx} {pins : List (Addr × Obj)} {σ : L2.St} {H1 H2 : Hp} {hp hp2 h2 : Heap} {g1 g2 : Array GenState} {d1 d2 : Drawn} {t1 t2 : Nat} {os1 os2 : OsState} {a C : Addr} (I1 : Inv X pins σ H1 ⟨hp, g1, d1, t1, os1⟩)
    (ha : hp.objs.size ≤ a) (k : ∀ b o, hp.get? b = some o → hp2.get? b = some o) (un : Un (frs X.stack) [] (upd H1 a (exo a C none)) H2 hp2 h2) (hok : HOk X.prog X.w H2 h2) (ho : os2 = os1) (hb : AllBare g2) (ea : H2 a = some (exo a C none)) :
    ∃ (t0 : Addr) (G : Heap), Inv X pins σ (del H2 a) ⟨G, g2, d2, t2, os2⟩ ∧ (∀ b o, G.get? b = some o → h2.get? b = some o) ∧ G.get? a = none ∧
      h2.get? a = some ({ cls := .ref C, dict := none, data := .fields #[.ref t0, .none, .none, .none, .bool false, .none] } : Obj) ∧ del H2 a a = none := by
  obtain ⟨t0, stands⟩ := exo_at hok ea
  have n1 : H1 a = none := I1.hok.fresh ha
  obtain ⟨G, same, gone⟩ := restrict h2 fun b => decide (b ≠ a)
  have at_ : ∀ b, b ≠ a → G.get? b = h2.get? b := fun b q => same b (decide_eq_true q)
  have no : G.get? a = none := gone a (by simp)
  have old : ∀ {b : Addr} {o : Obj}, hp.get? b = some o → b ≠ a := fun {b o} z => Nat.ne_of_lt (Nat.lt_of_lt_of_le (Heap.lt_size z) ha)
  have un1 : ∀ {b : Addr}, b ≠ a → H1 b = none → upd H1 a (exo a C none) b = none := fun {b} q n => by
    rw [upd_ne q]
    exact n
  have U : Un (frs X.stack) [] H1 (del H2 a) hp G := {
    keep := fun b o z n f x => by
      rw [at_ b (old z)]
      exact un.keep b o (k b o z) (un1 (old z) n) f x
    slot := fun b o z n f x => by
      rw [at_ b (old z)]
      exact un.slot b o (k b o z) (un1 (old z) n) f x
    free := fun b o z n x => by
      rw [del_ne (old z)]
      exact un.free b o (k b o z) (un1 (old z) n) x
    there := fun b o z x => by
      rw [at_ b (old z)]
      exact un.there b o (k b o z) x
    tups := fun b xs z => by
      have q := ne_of_none z n1
      rw [del_ne q]
      exact un.tups b xs (by rw [upd_ne q]; exact z)
    frzs := fun b o v z => by
      have q := ne_of_none z n1
      rw [del_ne q]
      exact un.frzs b o v (by rw [upd_ne q]; exact z)
    tbls := fun b ps z => by
      have q := ne_of_none z n1
      rw [del_ne q]
      exact un.tbls b ps (by rw [upd_ne q]; exact z) }
  have good : HOk X.prog X.w (del H2 a) G := fun b o z => by
    have q : b ≠ a := fun e => by
      rw [e, del_same] at z
      cases z
    rw [del_ne q] at z
    have far : ∀ {c : Addr}, H2 c = some (.own b) → c ≠ a := fun {c} y => at_ne ea y exo_own
    exact (hok b o z).stay (fun c v hc y => by
        have q2 : c ≠ a := by
          rcases hc with hc | hc
          · rw [hc]
            exact q
          · exact far hc
        rw [at_ c q2]
        exact y)
      (fun c y => by rw [del_ne (far y)]; exact y) (fun c xs y => by rw [del_ne (at_ne ea y exo_tup)]; exact y)
  refine ⟨t0, G, I1.call' (ch := []) ho U good hb (fun b z => absurd z (by simp)), fun b o z => ?_, no, stands, del_same⟩
  by_cases q : b = a
  · rw [q, no] at z
    cases z
  · exact (at_ b q).symm.trans z
/-- C(), C's own __init__ gives it no field -/
def tMkZ (C : Addr) (sp : Sp) : L2.St → Hp → XK → Prop := fun _ H Q => ∀ a, H a = none → sp [.ref a] (upd H a (exo a C none)) (fun v H2 => v = .non ∧ H2 a = some (exo a C none) ∧ Q (.ref C) none (del H2 a)) (fun _ _ _ => False)
theorem pmk_z {X : Cx} {p pos : Pos} {x : Str} {C : Addr} {sp : Sp} {j : Nat} (c : ErG X.prog X.w X.K X.mg X.base x C sp) (hr : Room j X.A) (hj : 2 ≤ j) (hg : Gl X x) (hdb : (x == ("__debug__" : Str)) = false) : L2N.PMk X (.Call (.Name x p) [] [] pos) (tMkZ C sp) := by
  obtain ⟨fI, fd, ps, hm, T, iC, tI, F1, b⟩ := c.ex
  intro pins s σ H Q I h
  obtain ⟨nm, q, N, bs, bm, sn, sub, ab, col, dd, k0, k1, k2, k3, k5, hC, hbm⟩ := T.cls
  refine wpAny_Call_Name_kw (ld_glob I hg hm ?_ hdb)
  refine PySem.W.callWith_K0 I.kIn T.kC ?_
  obtain ⟨hp, g, dr, tk, os⟩ := s
  generalize ex : hp.objs.size + 1 = x1 at *
  have le1 : hp.objs.size ≤ x1 := by omega
  have sp1 := h x1 (I.hok.fresh le1)
  have old : ∀ b o, hp.get? b = some o → ((hp.push (PySem.W.kdv_tup [])).push (PySem.HandSPX.excO C hp.objs.size)).get? b = some o := fun b o z =>
    Heap.get?_push_of_some _ (Heap.get?_push_of_some _ z)
  have new1 : ((hp.push (PySem.W.kdv_tup [])).push (PySem.HandSPX.excO C hp.objs.size)).get? x1 = some (PySem.HandSPX.excO C hp.objs.size) := by
    subst ex
    heap_get
  have I2 := I.laid (t' := tk) (a := x1) (o := exo x1 C none) old le1 (exo_ok new1)
  have many : ([Value.ref x1] : List Value).length = ps.length := F1.len _ _ _ _ sp1
  have bound := b _ [Value.ref x1] I2.kIn (by rw [List.append_nil]; exact many)
  rw [List.append_nil] at bound
  have run := F1.run _ X.stack _ _ ⟨[Value.ref x1], []⟩ [Value.ref x1] [V.ref x1] _ (fun _ _ _ => False) ((hr.mono hj).make C [] []) (I2.env0.make C [] []) bound (.cons rfl .nil) sp1
  refine wpAny_call (PySem.HandSPX.call_own F.excBase_ValueError (fun Y => PySem.HandSPX.refsVE_contains Y bm hbm) (I.kIn _ _ hC) (PySem.W.looks_findIn I.kIn iC) (fun self => PySem.W.bind_fn I.kIn self tI) (Nat.zero_le _) ?_)
  subst ex
  refine codeAny_mono run fun r s' back => ?_
  cases r with
  | error er => exact False.elim back
  | ok fl =>
    cases fl with
    | ret u =>
      obtain ⟨v, H2, os2, bare2, un2, hok2, rv, ev, ea, q2⟩ := back
      subst ev
      obtain ⟨h2, g2, d2, t2, os'⟩ := s'
      obtain ⟨t0, G, J, kG, ge, hoe, na⟩ := let_go (d2 := d2) (t2 := t2) I le1 old un2 hok2 os2 bare2 ea
      exact ⟨rv, _, _, _, ⟨G, g2, d2, t2, os'⟩, _, .ref C, none, rfl, J, kG, ge, hoe, ⟨rfl, rfl, fun vs z => by cases z; rfl⟩, rfl, rfl, na, rfl, bare2, raises_own T.exC T.tyC, q2⟩
    | next => exact False.elim back
    | brk => exact False.elim back
    | cont => exact False.elim back
theorem ps_raiseZ {X : Cx} {W : WX} {x : Str} {C : Addr} {sp : Sp} {j : Nat} {p pos pos' : Pos} (c : ErG X.prog X.w X.K X.mg X.base x C sp) (hr : Room j X.A) (tk : L2N.Takes X W) (hj : 2 ≤ j := by decide) (hcalm : X.calm = true := by rfl) (hg : Gl X x := by rfl) (hdb : (x == ("__debug__" : Str)) = false := by decide) :
    PS X (.Raise (some (.Call (.Name x p) [] [] pos)) none pos') (fun _ σ H => tMkZ C sp σ H fun cls d H' => W cls d σ H') :=
  L2N.ps_raise hcalm tk (pmk_z c hr hj hg hdb)
/-- no field -/
def spInit0 (C : Addr) : Sp := fun vs H Q _ => ∃ a : Addr, vs = [.ref a] ∧ H a = some (exo a C none) ∧ Q .non H
theorem mk0 {C : Addr} {σ : L2.St} {H1 : Hp} {Q : XK} (k : ∀ H2, Same H1 H2 → Q (.ref C) none H2) : tMkZ C (spInit0 C) σ H1 Q := fun a ha => ⟨a, rfl, upd_same, rfl, upd_same, k _ fun b o e => by
  have hba := ne_of_none e ha
  rw [del_ne hba, upd_ne hba]
  exact e⟩
-- part pool
/-- a pool: three values -/
def PoolAt (H : Hp) (p : Addr) : Prop := ∃ (c n : Int) (b : Bool), H p = some (.lst [.int c, .int n, .bl b])
def spPool : Sp := fun vs H Q _ => ∃ c : Int, vs = [.int c] ∧ ∀ p H', H p = none → Same H H' → PoolAt H' p → Q (.ref p) H'
-- part cell

abbrev s_cell : Stmt := top 39
theorem sc_cell : FnScope ["_law_script", "_law_k"] ["_law_script", "_law_k"] (defScope s_cell) := ⟨rfl, rfl, rfl, by decide +kernel, rfl, by decide +kernel, by decide +kernel⟩
def spCellL (K : PySem.W.Frag) : Sp := fun vs H Q _ => ∃ (a : Addr) (ns : List Int) (k : Nat), vs = [.ref a, .int (k : Int)] ∧ SqL K H a (ns.map V.int) ∧ ∀ v, Q (.int v) H
theorem ok_cell {f : Addr} {fd : FuncData} (T : Txt mg) (F : Fun K "_law_cell" "_law_cell" s_cell f fd) : FnOk P w K mg base CX0 1 f fd ["_law_script", "_law_k"] (spCellL K) := by
  refine F.ok sc_cell (fun vs H Q E h => ?_) (fun cdv A outer s H vs Q E hr h => ?_)
  · obtain ⟨a, ns, k, rfl, _⟩ := h
    rfl
  · obtain ⟨a, ns, k, rfl, hS, q⟩ := h
    refine ⟨_, (pss_cons (ps_if (pt_cmpR op_lt (pv 1) (pe_callB call_len_seq (by rfl) T.len PySem.boot_len (pa_cons (pv 0) pa_nil)) (nomark _)) (pss_one (ps_ret (pe_ix ix_list (pv 0) (pv 1) (fun _ _ => rfl)))) pss_nil)
 (pss_one (ps_ret pe_int))), ?_⟩
    refine ⟨_, rfl, _, rfl, a, _, rfl, .inl hS, _, _, rfl, rfl, _, rfl, ?_⟩
    rw [List.length_map]
    by_cases c : k < ns.length
    · refine if_pos_of (decide_eq_true (by omega)) ?_
      refine ⟨_, rfl, _, rfl, a, _, _, .int ns[k], rfl, rfl, hS, atI_nat (by rw [List.getElem?_map, List.getElem?_eq_getElem c]; rfl), ?_⟩
      exact q _
    · refine if_neg_of (decide_eq_false (by omega)) ?_
      exact q _
-- part maps
/-! comprehensions and loops whose turns leave what stood before as it was -/
/-- the list that a comprehension makes: f i behind i turns -/
def PvM (H1 : Hp) (D : Addr) (f : Nat → List V) (i : Nat) (H : Hp) : Prop := Same H1 H ∧ H D = some (.lst (f i))
theorem PvM.zero {H1 : Hp} {D : Addr} {f : Nat → List V} (hD : H1 D = none) (h0 : f 0 = []) : PvM H1 D f 0 (upd H1 D (.lst [])) := ⟨same_upd hD, by rw [h0]; exact upd_same⟩
theorem PvM.push {H1 H4 : Hp} {D : Addr} {f : Nat → List V} {i : Nat} {y : V} (hD : H1 D = none) (s : Same H1 H4) (hd : H4 D = some (.lst (f i))) (few : (f i).length < 1000) (hf : f (i + 1) = f i ++ [y]) :
    ∃ acc, H4 D = some (.lst acc) ∧ acc.length < sizeLine ∧ PvM H1 D f (i + 1) (upd H4 D (.lst (acc ++ [y]))) :=
  ⟨f i, hd, small1000 (by omega), fun b o eb => by
    rw [upd_ne (ne_of_none eb hD)]
    exact s b o eb, by rw [hf]; exact upd_same⟩
theorem PvM.skip {H1 H4 : Hp} {D : Addr} {f : Nat → List V} {i : Nat} (s : Same H1 H4) (hd : H4 D = some (.lst (f i))) (hf : f (i + 1) = f i) : PvM H1 D f (i + 1) H4 := ⟨s, by rw [hf]; exact hd⟩
section
variable {J : It} {n : Nat} {G : Hp → Prop} {Y : Nat → Hp → V → Hp → Prop}
theorem lcW (w : Walk J n G Y) {g : TG} {tt : TT} {te : TE} {vs : List Nat} {σ : L2.St} {H1 : Hp} {D : Addr} {Qd : Hp → Prop} (f : Nat → List V) (hD : H1 D = none) (h0 : f 0 = []) (hG : ∀ H, Same H1 H → G H)
    (hs : ∀ i x H H', i < n → Same H1 H → H D = some (.lst (f i)) → Y i H x H' → g x (wipe σ vs) H' fun σ2 H2 => wipe σ2 vs = wipe σ vs ∧ tt σ2 H2 fun b H3 =>
      if b = true then te σ2 H3 fun y H4 => ∃ acc, H4 D = some (.lst acc) ∧ acc.length < sizeLine ∧ PvM H1 D f (i + 1) (upd H4 D (.lst (acc ++ [y]))) else PvM H1 D f (i + 1) H3) (hd : ∀ H, Same H1 H → H D = some (.lst (f n)) → Qd H) :
    ∃ W : Nat → Nat → Hp → Prop, (∃ m, W 0 m (upd H1 D (.lst []))) ∧ ∀ i m H, W i m H →
      (J.stop i H ∧ Qd H) ∨ (J.go i H ∧ ∃ Nx : Hp → Prop, (∀ H', Nx H' → ∃ m', m' < m ∧ W (i + 1) m' H') ∧ ∀ x H', J.yld i H x H' → g x (wipe σ vs) H' fun σ2 H2 => wipe σ2 vs = wipe σ vs ∧ tt σ2 H2 fun b H3 =>
        if b = true then te σ2 H3 fun y H4 => ∃ acc, H4 D = some (.lst acc) ∧ acc.length < sizeLine ∧ Nx (upd H4 D (.lst (acc ++ [y]))) else Nx H3) :=
  lc_it w (PvM H1 D f) (PvM.zero hD h0) (fun _ H _ h => hG H h.1) (fun i x H H' hi h y => hs i x H H' hi h.1 h.2 y) fun H h => hd H h.1 h.2
end
/-- the first i of a row -/
abbrev tkV (l : List V) (i : Nat) : List V := l.take i
theorem tkV_succ {l : List V} {i : Nat} {y : V} (h : l[i]? = some y) : tkV l (i + 1) = tkV l i ++ [y] := by
  show l.take (i + 1) = l.take i ++ [y]
  rw [List.take_add_one, h]
  rfl
theorem tkV_len (l : List V) (i : Nat) : (tkV l i).length ≤ l.length := by
  show (l.take i).length ≤ l.length
  rw [List.length_take]
  omega
theorem tkV_all (l : List V) : tkV l l.length = l := List.take_length
/-- the turn of a map ends -/
theorem mapEnd {H1 H4 : Hp} {D : Addr} {ys : List V} {i : Nat} {y : V} (hD : H1 D = none) (few : ys.length < 1000) (s : Same H1 H4) (hd : H4 D = some (.lst (tkV ys i))) (hy : ys[i]? = some y) :
    ∃ acc, H4 D = some (.lst acc) ∧ acc.length < sizeLine ∧ PvM H1 D (tkV ys) (i + 1) (upd H4 D (.lst (acc ++ [y]))) :=
  PvM.push hD s hd (Nat.lt_of_le_of_lt (tkV_len ys i) few) (tkV_succ hy)
theorem map_at {α : Type} {f : α → V} {l : List α} {i : Nat} {z : α} (h : l[i]? = some z) : (l.map f)[i]? = some (f z) := by
  rw [List.getElem?_map, h]
  rfl
theorem pow_small {z : Int} {n m : Nat} (h : z.natAbs < 2 ^ n) (hnm : n ≤ m) : z.natAbs < 2 ^ m := Nat.lt_of_lt_of_le h (Nat.pow_le_pow_right (by decide) hnm)
theorem flat_rep {α : Type} (x : α) : ∀ m : Nat, (List.replicate m [x]).flatten = List.replicate m x
  | 0 => rfl
  | m + 1 => by rw [List.replicate_succ, List.flatten_cons, flat_rep x m, List.replicate_succ, List.singleton_append]
/-- len of a list or tuple, the frame named -/
def rLenS (K : PySem.W.Frag) : List V → Hp → VK → Prop := fun xs H Q => ∃ p ys, xs = [V.ref p] ∧ (SqL K H p ys ∨ SqT K H p ys) ∧ Q (V.int (ys.length : Int)) H
theorem call_len_seqK {X : Cx} {K : PySem.W.Frag} (hK : X.K = K) : CallR X (.builtin "len") (rLenS K) := by
  subst hK
  exact call_len_seq
/-- o.f, the frame named -/
theorem pe_fldK {X : Cx} {K : PySem.W.Frag} {e : Expr} {f : Str} {pos : Pos} {ta : TE} (hK : X.K = K) (he : PE X e ta) (hb : attributeBase e f X.env (eval e X.env) = eval e X.env) : PE X (.Attribute e f pos) (tFld K ta f) := by
  subst hK
  exact pe_fld he hb
/-- range(n): 0, 1, .. -/
theorem walk_range0 {n : Nat} : Walk (Itr 0 n) n (fun _ => True) (YFn fun i => .int (i : Int)) :=
  walk_range.mono (fun _ _ => trivial) fun i H x H' _ _ y => ⟨y.1, y.2.trans (congrArg V.int (Int.zero_add _))⟩
section
variable {J : It} {n : Nat} {G : Hp → Prop} {Y : Nat → Hp → V → Hp → Prop}
/-- a comprehension that makes the row ys -/
theorem lcMap (w : Walk J n G Y) {g : TG} {tt : TT} {te : TE} {vs : List Nat} {σ : L2.St} {H1 : Hp} {D : Addr} {Qd : Hp → Prop} (ys : List V) (hl : ys.length = n) (hD : H1 D = none) (hG : ∀ H, Same H1 H → G H)
    (hs : ∀ i x H H', i < n → Same H1 H → H D = some (.lst (tkV ys i)) → Y i H x H' → g x (wipe σ vs) H' fun σ2 H2 => wipe σ2 vs = wipe σ vs ∧ tt σ2 H2 fun b H3 =>
      if b = true then te σ2 H3 fun y H4 => ∃ acc, H4 D = some (.lst acc) ∧ acc.length < sizeLine ∧ PvM H1 D (tkV ys) (i + 1) (upd H4 D (.lst (acc ++ [y]))) else PvM H1 D (tkV ys) (i + 1) H3) (hd : ∀ H, Same H1 H → H D = some (.lst ys) → Qd H) :
    ∃ W : Nat → Nat → Hp → Prop, (∃ m, W 0 m (upd H1 D (.lst []))) ∧ ∀ i m H, W i m H →
      (J.stop i H ∧ Qd H) ∨ (J.go i H ∧ ∃ Nx : Hp → Prop, (∀ H', Nx H' → ∃ m', m' < m ∧ W (i + 1) m' H') ∧ ∀ x H', J.yld i H x H' → g x (wipe σ vs) H' fun σ2 H2 => wipe σ2 vs = wipe σ vs ∧ tt σ2 H2 fun b H3 =>
        if b = true then te σ2 H3 fun y H4 => ∃ acc, H4 D = some (.lst acc) ∧ acc.length < sizeLine ∧ Nx (upd H4 D (.lst (acc ++ [y]))) else Nx H3) :=
  lcW w (tkV ys) hD rfl hG hs fun H s h => hd H s (by rw [h, ← hl, tkV_all])
end
-- part menu
theorem allN {R : V → Prop} : ∀ x ∈ ([] : List V), R x := fun _ h => nomatch h
theorem allC {R : V → Prop} {a : V} {l : List V} (h : R a) (t : ∀ x ∈ l, R x) : ∀ x ∈ a :: l, R x := fun x hx => by
  rcases List.mem_cons.mp hx with e | e
  · rw [e]
    exact h
  · exact t x e
/-- an item at an open place in bounds -/
theorem at_some {xs : List V} {v : Int} (h0 : 0 ≤ v) (h1 : v < xs.length) : ∃ x, atI xs v = some x ∧ x ∈ xs := by
  have hv : ((v.toNat : Nat) : Int) = v := Int.toNat_of_nonneg h0
  have hl : v.toNat < xs.length := by omega
  have z : atI xs ((v.toNat : Nat) : Int) = some xs[v.toNat] := atI_nat (List.getElem?_eq_getElem hl)
  rw [hv] at z
  exact ⟨xs[v.toNat], z, List.getElem_mem hl⟩
def SameBut (p : Addr) (H H' : Hp) : Prop := ∀ b o, b ≠ p → H b = some o → H' b = some o
theorem SameBut.of {p : Addr} {H H' : Hp} (e : ∀ q, q ≠ p → H' q = H q) : SameBut p H H' := fun b o hb h => by
  rw [e b hb]
  exact h
theorem SameBut.trans {p : Addr} {H H1 H2 : Hp} (a : SameBut p H H1) (b : SameBut p H1 H2) : SameBut p H H2 := fun c o hc h => b c o hc (a c o hc h)
theorem sbut {p : Addr} {H H' : Hp} (s : Same H H') : SameBut p H H' := fun b o _ h => s b o h
/-- what was tracked ahead of the pool -/
theorem SameBut.same {p : Addr} {H0 H H' : Hp} (s : Same H0 H) (np : H0 p = none) (e : SameBut p H H') : Same H0 H' := fun b o h => e b o (ne_of_none h np) (s b o h)
theorem PoolAt.same {H H' : Hp} {p : Addr} (h : PoolAt H p) (s : Same H H') : PoolAt H' p := by
  obtain ⟨x, y, z, e⟩ := h
  exact ⟨x, y, z, s _ _ e⟩
theorem PoolAt.new {H : Hp} {p a : Addr} (h : PoolAt H p) (n : H a = none) : a ≠ p := fun e => by
  obtain ⟨x, y, z, q⟩ := h
  rw [e, q] at n
  cases n
-- part eqints
theorem eqvAll_ints : ∀ l m : List Int, PyData.eqvAll (l.map PyData.int) (m.map PyData.int) = decide (l = m)
  | [], [] => by rw [List.map_nil, PyData.eqvAll]; rfl
  | [], b :: m => by rw [List.map_nil, List.map_cons, PyData.eqvAll] <;> first | (exact (decide_eq_false (by simp)).symm) | skip
  | a :: l, [] => by rw [List.map_nil, List.map_cons, PyData.eqvAll] <;> first | (exact (decide_eq_false (by simp)).symm) | skip
  | a :: l, b :: m => by
    rw [List.map_cons, List.map_cons, PyData.eqvAll, PyData.eqv, eqvAll_ints l m]
    by_cases c : a = b
    · subst c
      by_cases c2 : l = m
      · subst c2
        simp
      · simp [c2]
    · simp [c]
theorem eqv_ints (l m : List Int) : PyData.eqv (.list (l.map PyData.int)) (.list (m.map PyData.int)) = decide (l = m) := by
  rw [PyData.eqv]
  exact eqvAll_ints l m
theorem eqv_intsT (l m : List Int) : PyData.eqv (.tuple (l.map PyData.int)) (.tuple (m.map PyData.int)) = decide (l = m) := by
  rw [PyData.eqv]
  exact eqvAll_ints l m
theorem canLay_ints : ∀ l : List Int, PyData.canLayAll0 (l.map PyData.int) = true
  | [] => by rw [List.map_nil, PyData.canLayAll0]
  | a :: l => by rw [List.map_cons, PyData.canLayAll0, PyData.canLay0, canLay_ints l]; rfl
theorem depth_ints : ∀ l : List Int, PyData.depthAll (l.map PyData.int) = 0
  | [] => by rw [List.map_nil, PyData.depthAll]
  | a :: l => by rw [List.map_cons, PyData.depthAll, PyData.depth, depth_ints l]; rfl
theorem shaped_ints (l : List Int) : SeqAt.shaped (.list (l.map PyData.int)) = true := by
  unfold SeqAt.shaped
  rw [PyData.canLay0, canLay_ints, PyData.depth, depth_ints]
  rfl
theorem shaped_intsT (l : List Int) : SeqAt.shaped (.tuple (l.map PyData.int)) = true := by
  unfold SeqAt.shaped
  rw [PyData.canLay0, canLay_ints, PyData.depth, depth_ints]
  rfl
theorem dpAll_ints {K : PySem.W.Frag} {H : Hp} : ∀ l : List Int, DpAll K H (l.map V.int) (l.map PyData.int)
  | [] => .nil
  | a :: l => .cons (.int a) (dpAll_ints l)
theorem dp_lst {K : PySem.W.Frag} {H : Hp} {a : Addr} {l : List Int} (h : SqL K H a (l.map V.int)) : Dp K H (.ref a) (.list (l.map PyData.int)) := .lst h (dpAll_ints l)
theorem dp_tup {K : PySem.W.Frag} {H : Hp} {a : Addr} {l : List Int} (h : SqT K H a (l.map V.int)) : Dp K H (.ref a) (.tuple (l.map PyData.int)) := .tup h (dpAll_ints l)
theorem hu64 {k : Nat} {A : Around} (hr : Room k A) : A.units + 64 < cLine := by
  have := hr.un
  omega
theorem item_int {l : List Int} {i : Nat} {y : V} (h : (l.map V.int)[i]? = some y) : ∃ z : Int, y = .int z ∧ l[i]? = some z := by
  rw [List.getElem?_map] at h
  cases e : l[i]? with
  | none =>
    rw [e] at h
    cases h
  | some z =>
    rw [e] at h
    exact ⟨z, (Option.some.inj h).symm, rfl⟩
-- part setints
/-! set(xs) of a list of ints; the walk of the list, as for a tuple -/
/-- the empty set as it is made -/
def set0 (w : World) : Obj := { cls := .type "set", dict := none, data := .set #[] 0 (.fresh 0 0 (!w.params.followText "set-order")) }
open PySem.Calls in
theorem set_of_list {P : Program} {w : World} {A : Around} {E : Value → Shared → Prop} {s : Shared} {l : Addr} {items : Array Value} (ns : List Int) {Q : Value → Shared → Prop} (hh : A.handled = none)
    (hl : s.heap.IsList l items) (hit : IntsAre items.toList ns) (hb : ns.length + 1 < scanBound)
    (h : ∀ (h' : Heap) (tk c : Nat), SetR w h' s.heap.objs.size (fun j => decide (j ∈ ns)) c → c ≤ ns.length → (∀ b o, s.heap.get? b = some o → h'.get? b = some o) →
      Q (.ref s.heap.objs.size) { s with heap := h', toks := tk }) :
    wpAny (model P w) A (call (.type "set") [.ref l]) Q E s := by
  have size_eq : items.size = ns.length := by
    have z := IntsAre.length hit
    rwa [Array.length_toList] at z
  obtain ⟨c, tl, hmro⟩ := F.called_set.mro
  have made_set := F.called_set.made
  have sub_set := F.called_set.sub
  refine wpAny_call (codeAny_of_tree ?_)
  show wpAny _ _ (callAny (.type "set") _) _ _ _
  refine wpAny_pure ⟨Code.quiet_builtin _ (by decide +kernel), codeAny_builtin F.entry_type_call ?_⟩
  rw [Around.under_plain (weight_type_call_type "set" [.ref l] []) rfl]
  have not_type := F.called_set.notType
  have can_create := F.called_set.canCreate
  have type_call := F.typeCall_set_1 (.ref l)
  repeat (any_goals (first | assumption | wp_step))
  refine codeAny_mono (code_set_led1 (.ref l) (E := E) (Q₁ := fun obj st => obj = .ref s.heap.objs.size ∧ st = { s with heap := s.heap.push (set0 w) }) ⟨rfl, rfl⟩) fun r st hr => ?_
  cases r with
  | error e => exact hr
  | ok fl =>
    cases fl with
    | ret obj =>
      obtain ⟨rfl, rfl⟩ := hr
      have at_set : (s.heap.push (set0 w)).get? s.heap.objs.size = some (set0 w) := Heap.get?_push_size _ rfl
      have is_set : Shared.TypeIs { s with heap := s.heap.push (set0 w) } (.ref s.heap.objs.size) "set" := ⟨_, at_set, rfl⟩
      have init_look := F.called_set.init.lookup
      have init_bind := F.called_set.init.bind (.ref s.heap.objs.size)
      repeat (any_goals (first | assumption | wp_step))
      refine codeAny_mono (codeAny_call_builtin (R := wants (fun r t => r = .none ∧ ∃ h' tk c, t = { s with heap := h', toks := tk } ∧ SetR w h' s.heap.objs.size (fun j => decide (j ∈ ns)) c ∧
        c ≤ ns.length ∧ (∀ b o, s.heap.get? b = some o → h'.get? b = some o)) E) F.called_set.init.plain F.entry_set_init (check_set_init_1 is_set ?_)) fun r₂ s₂ hr₂ => ?_
      · obtain ⟨ol, hol, hcl, nl, hdl⟩ := hl
        obtain ⟨ocls, odict, odata, oslots⟩ := ol
        simp only at hcl hdl
        subst hcl
        subst hdl
        have hol' : (s.heap.push (set0 w)).get? l = some { cls := .type "list", dict := odict, data := .seq items nl, slots := oslots } := Heap.get?_push_of_some _ hol
        have no_set := F.sub_list_set
        have no_frozen := F.sub_list_frozenset
        have no_dict : (Value.type "list" == Value.type "dict") = false := by decide
        have list1 : (s.heap.push (set0 w)).IsList l items := ⟨_, hol', rfl, nl, rfl⟩
        unfold Builtin.«set.__init__» noKeywords Builtin.Frozenset.updateFrom
        generalize iter_is : pyIter = PI
        wp_walk
        subst iter_is
        refine wpAny_pyIter_list list1 ?_
        refine wpAny_bind (wpAny_runValue ?_)
        have l_old : l < s.heap.objs.size := Heap.lt_size hol
        have calm3 : A.in1.in1.in1.handled = none := by simp [hh]
        have next_is : (s.heap.push (set0 w)).objs.size = s.heap.objs.size + 1 := Heap.size_push ..
        have l_ne : l ≠ (s.heap.push (set0 w)).objs.size := by
          rw [next_is]
          exact Nat.ne_of_lt (Nat.lt_succ_of_lt l_old)
        have off : s.heap.objs.size ∉ [(s.heap.push (set0 w)).objs.size, l] := by
          rw [next_is]
          simp only [List.mem_cons, List.not_mem_nil, or_false, not_or]
          exact ⟨Nat.ne_of_lt (Nat.lt_succ_self _), Nat.ne_of_gt l_old⟩
        have vals : ∀ (i : Nat) (v : Value), items[i]? = some v → ∃ k t, ns[i]? = some k ∧ v = .int k t := fun i v hv => by
          have lt : i < ns.length := by
            rw [← size_eq]
            exact (Array.getElem?_eq_some_iff.mp hv).1
          obtain ⟨t, e⟩ := IntsAre.int_at hit i v (by rw [Array.getElem?_toList]; exact hv)
          refine ⟨ns[i], t, List.getElem?_eq_getElem lt, ?_⟩
          rw [e, List.getD_eq_getElem?_getD, List.getElem?_eq_getElem lt] <;> rfl
        refine set_update_ints ((Walks.list calm3 _ l l_ne items).toS) s.heap.objs.size off ns size_eq hb vals (items.size - 0) 0 _ (by omega) (Nat.zero_le _) ⟨⟨_, Heap.get?_push_size _ rfl, rfl, rfl⟩, (list1.push _)⟩ ?start ?done
        case start =>
          refine ⟨0, Nat.le_refl 0, setR_new_at ?_⟩
          exact Heap.get?_push_of_some _ at_set
        case done =>
          intro s' c' hm hc' hS'
          obtain ⟨h', g2, d', tk', os'⟩ := s'
          have eg : g2 = s.gens := hm.gens
          have ed : d' = s.drawn := hm.drawn
          have eo : os' = s.os := hm.os
          subst eg
          subst ed
          subst eo
          show wpAny _ _ _ _ _ _
          refine wpAny_pure ?_
          show wpAny _ _ (ret Value.none) _ _ _
          rw [size_eq] at hc'
          refine wpAny_pure ⟨rfl, h', tk', c', rfl, hS', hc', fun b o e => ?_⟩
          have old := Heap.lt_size e
          refine hm.heap b o ?_ (Heap.get?_push_of_some _ (Heap.get?_push_of_some _ e))
          rw [next_is]
          simp only [List.mem_cons, List.not_mem_nil, or_false, not_or]
          exact ⟨Nat.ne_of_lt old, Nat.ne_of_lt (Nat.lt_succ_of_lt old)⟩
      · cases r₂ with
        | error e => exact hr₂
        | ok fl₂ =>
          cases fl₂ with
          | ret r =>
            obtain ⟨rfl, h', tk, c', rfl, hS', hc', hk'⟩ := hr₂
            repeat (any_goals (first | assumption | wp_step))
            exact h _ _ _ hS' hc' hk'
          | _ => exact hr₂.elim
    | _ => exact hr.elim
/-- set(xs): xs a list or a tuple of ints -/
def rSetInts (K : PySem.W.Frag) (w : World) : List V → Hp → VK → Prop := fun xs H Q => ∃ (a : Addr) (ns : List Int), xs = [.ref a] ∧ (SqL K H a (ns.map V.int) ∨ SqT K H a (ns.map V.int)) ∧ ns.length ≤ 1000 ∧
  ∀ p c, H p = none → c ≤ ns.length → Q (.ref p) (upd H p (SetO w p (fun j => decide (j ∈ ns)) c))
theorem cr_setInts {X : Cx} (hc : X.calm = true) : CallR X (.type "set") (rSetInts X.K X.w) := by
  intro pins s σ H vs us Q I r h
  obtain ⟨a, ns, rfl, hq, hl, q⟩ := h
  cases r with
  | cons r1 r2 =>
    cases r2
    cases r1
    have few : ns.length + 1 < scanBound := by unfold scanBound; omega
    have fresh : H s.heap.objs.size = none := I.hok.fresh (Nat.le_refl _)
    have fin : ∀ (h' : Heap) (tk c : Nat), SetR X.w h' s.heap.objs.size (fun j => decide (j ∈ ns)) c → c ≤ ns.length → (∀ b o, s.heap.get? b = some o → h'.get? b = some o) →
        EP X pins σ Q (.ref s.heap.objs.size) { s with heap := h', toks := tk } := fun h' tk c hS hle keep =>
      ⟨.ref s.heap.objs.size, upd H s.heap.objs.size (SetO X.w s.heap.objs.size (fun j => decide (j ∈ ns)) c), I.laid (t' := tk) keep (Nat.le_refl _) (setO_new hS), rfl, q _ _ fresh hle⟩
    rcases hq with hq | hq
    · obtain ⟨its, r, pl, hz⟩ := I.list hq
      exact set_of_list ns (I.ok.hd hc) pl.isList (by simpa using RZ.intsAre_vals r) few fin
    · obtain ⟨its, r, pl, hz⟩ := I.tuple hq
      exact call_set_tupI ns (I.ok.hd hc) pl (by simpa using RZ.intsAre_vals r) few fin
-- part draws
abbrev s_draws : Stmt := top 40
theorem sc_draws : FnScope ["_law_cell_here", "_law_sizes", "_law_drawn", "_law_left", "_law_at", "_law_mixed"] ["_law_cell_here", "_law_sizes"] (defScope s_draws) := ⟨rfl, rfl, rfl, by decide +kernel, rfl, by decide +kernel, by decide +kernel⟩
/-- numbers drawn below their sizes -/
def Drawn (zs ds : List Int) : Prop := ds.length = zs.length ∧ ∀ (i : Nat) (d z : Int), ds[i]? = some d → zs[i]? = some z → 0 ≤ d ∧ d < z
def spDraws (K : PySem.W.Frag) : Sp := fun vs H Q _ => ∃ (c : Int) (s : Addr) (zs : List Int), vs = [.int c, .ref s] ∧ SqL K H s (zs.map V.int) ∧ zs.length < 100 ∧ (∀ z ∈ zs, 0 < z ∧ z.natAbs < 2 ^ 300) ∧
  ∀ p ds H', H p = none → Drawn zs ds → Same H H' → H' p = some (.lst (ds.map V.int)) → Q (.ref p) H'
theorem mix_small2 (z : Int) : -(2 ^ 64) < z % 2147483647 ∧ z % 2147483647 < 2 ^ 64 := by
  have h1 := Int.emod_nonneg z (show (2147483647 : Int) ≠ 0 by decide)
  have h2 := Int.emod_lt_of_pos z (show (0 : Int) < 2147483647 by decide)
  omega
theorem ok_draws {f : Addr} {fd : FuncData} (T : Txt mg) (F : Fun K "_law_draws" "_law_draws" s_draws f fd) : FnOk P w K mg base CX0 1 f fd ["_law_cell_here", "_law_sizes"] (spDraws K) := by
  refine F.ok sc_draws (fun vs H Q E h => ?_) (fun cdv A outer s H vs Q E hr h => ?_)
  · obtain ⟨c, s, zs, rfl, _⟩ := h
    rfl
  · obtain ⟨c, s, zs, rfl, hS, few, hz, q⟩ := h
    refine ⟨_, (pss_cons (ps_set (i := 2) sc_draws.nd rfl (Or.inl rfl) (pe_lst pa_nil))
 (pss_cons (ps_set (i := 3) sc_draws.nd rfl (Or.inl rfl) (pe_callB call_abs (by rfl) T.abs boot_abs (pa_cons (pv 0) pa_nil)))
 (pss_cons (ps_for PassesOwn.never rfl (pi_range1 rfl T.range (pa_cons (pe_callB call_len_seq (by rfl) T.len PySem.boot_len (pa_cons (pv 1) pa_nil)) pa_nil)) (pg_name (i := 4) sc_draws.nd rfl (Or.inl rfl)) (pss_one (ps_if (pt_cmpR op_ge (pe_callB call_abs (by rfl) T.abs boot_abs (pa_cons (pv 0) pa_nil)) (pe_op op_pow pe_int pe_int) (nomark _)) (pss_cons (ps_expr (pe_bm PySem.F.plainAttrs_list PySem.F.slot_list_append PySem.F.type_list_append mt_append (pv 2) (pa_cons (pe_op op_mod (pe_callTy call_int1 (by rfl) T.int boot_int (pa_cons (pv 3) pa_nil)) (pe_ix ix_list (pv 1) (pv 4) (fun _ _ => rfl))) pa_nil)))
 (pss_one (ps_set (i := 3) sc_draws.nd rfl (Or.inl rfl) (pe_op op_fdivW (pv 3) (pe_ix ix_list (pv 1) (pv 4) (fun _ _ => rfl)))))) (pss_cons (ps_set (i := 5) sc_draws.nd rfl (Or.inl rfl) (pe_op op_mod (pe_callTy call_int1 (by rfl) T.int boot_int (pa_cons (pe_op op_mul (pe_op op_add (pe_op op_add (pv 3) (pe_op op_mul pe_int (pv 4))) pe_int) pe_int) pa_nil)) pe_int))
 (pss_cons (ps_set (i := 5) sc_draws.nd rfl (Or.inl rfl) (pe_op op_mod (pe_callTy call_int1 (by rfl) T.int boot_int (pa_cons (pe_op op_add (pe_op op_add (pe_op op_mul (pe_op op_mul (pv 5) (pv 5)) pe_int) (pe_op op_mul pe_int (pv 4))) (pv 5)) pa_nil)) pe_int))
 (pss_one (ps_expr (pe_bm PySem.F.plainAttrs_list PySem.F.slot_list_append PySem.F.type_list_append mt_append (pv 2) (pa_cons (pe_op op_mod (pe_op op_fdivW (pv 5) pe_int) (pe_ix ix_list (pv 1) (pv 4) (fun _ _ => rfl))) pa_nil)))))))))
 (pss_one (ps_ret (pv 2)))))), ?_⟩
    refine ⟨(by show 0 ≤ sizeLine; decide), fun D nD => ⟨_, rfl, _, rfl, ?_⟩⟩
    have g1 := same_upd (o := .lst []) nD
    refine ⟨_, rfl, s, _, rfl, .inl (g1.seq hS), _, rfl, (by rw [List.length_map]; omega), (by rw [List.length_map]; omega), ?_⟩
    refine for_range (lo := 0) (n := _) (fun i σ H' => ∃ (ds : List Int) (left : Int) (x4 x5 : Option V), σ = [some (.int c), some (.ref s), some (.ref D), some (.int left), x4, x5] ∧ Same H H' ∧ H' D = some (.lst (ds.map V.int)) ∧ ds.length = i ∧
        ∀ (j : Nat) (d z : Int), ds[j]? = some d → zs[j]? = some z → 0 ≤ d ∧ d < z) ⟨[], _, none, none, rfl, g1, upd_same, rfl, fun j d z h => by cases h⟩ ?_ ?_
    · rintro i σ H' hi ⟨ds, left, x4, x5, rfl, s1, hD, hl, hds⟩
      have hi : i < zs.length := by
        have hi' : i < (zs.map V.int).length := by simpa using hi
        rwa [List.length_map] at hi'
      have hzi : zs[i]? = some zs[i] := List.getElem?_eq_getElem hi
      obtain ⟨zp, zb⟩ := hz _ (List.mem_of_getElem? hzi)
      generalize ez : zs[i] = z at hzi zp zb
      have at_z : atI (zs.map V.int) (0 + (i : Int)) = some (V.int z) := by
        rw [Int.zero_add]
        exact atI_nat (map_at hzi)
      have more : ∀ d : Int, 0 ≤ d → d < z → ∀ (j : Nat) (d' z' : Int), (ds ++ [d])[j]? = some d' → zs[j]? = some z' → 0 ≤ d' ∧ d' < z' := fun d h0 h1 j d' z' hd' hz' => by
        by_cases c : j < ds.length
        · rw [List.getElem?_append_left c] at hd'
          exact hds j d' z' hd' hz'
        · rw [List.getElem?_append_right (by omega)] at hd'
          have e : j = i := by
            by_cases e : j - ds.length = 0
            · omega
            · rw [List.getElem?_eq_none (by show 1 ≤ j - ds.length; omega)] at hd'
              cases hd'
          subst e
          rw [hl, Nat.sub_self] at hd'
          cases hd'
          rw [hzi] at hz'
          cases hz'
          exact ⟨h0, h1⟩
      have fin : ∀ (d left : Int) (x4 x5 : Option V), 0 ≤ d → d < z → ∃ (ds' : List Int) (left' : Int) (y4 y5 : Option V), [some (.int c), some (.ref s), some (.ref D), some (.int left), x4, x5] = [some (.int c), some (.ref s), some (.ref D), some (.int left'), y4, y5] ∧
          Same H (upd H' D (.lst (ds.map V.int ++ [.int d]))) ∧ (upd H' D (.lst (ds.map V.int ++ [.int d]))) D = some (.lst (ds'.map V.int)) ∧ ds'.length = i + 1 ∧ ∀ (j : Nat) (d z : Int), ds'[j]? = some d → zs[j]? = some z → 0 ≤ d ∧ d < z := fun d left x4 x5 h0 h1 =>
        ⟨ds ++ [d], left, x4, x5, rfl, fun b o eb => by
          rw [upd_ne (ne_of_none eb nD)]
          exact s1 b o eb, by rw [List.map_append]; exact upd_same, by rw [List.length_append, hl]; rfl, more d h0 h1⟩
      have few2 : (ds.map V.int).length < sizeLine := by rw [List.length_map]; exact small1000 (by omega)
      refine ⟨_, rfl, _, rfl, _, _, rfl, rfl, ⟨by decide, by decide, by decide⟩, _, _, rfl, rfl, _, rfl, ?_⟩
      by_cases c1 : (10 : Int) ^ 18 ≤ if c < 0 then -c else c
      · refine if_pos_of (decide_eq_true c1) ?_
        refine ⟨_, rfl, .inl ⟨rfl, _, SqL.of hD⟩, _, rfl, .inl ⟨_, rfl, _, rfl, _, rfl, s, _, _, _, rfl, rfl, s1.seq hS, at_z, _, _, rfl, rfl, zp, D, _, _, rfl, rfl, hD, few2, ?_⟩⟩
        have s2 : Same H (upd H' D (.lst (ds.map V.int ++ [.int (left % z)]))) := fun b o eb => by
          rw [upd_ne (ne_of_none eb nD)]
          exact s1 b o eb
        refine ⟨_, rfl, _, rfl, _, rfl, s, _, _, _, rfl, rfl, s2.seq hS, at_z, _, _, rfl, rfl, ⟨zp, PySem.Flt.log2_lt_of (by decide) (pow_small zb (by decide))⟩, ?_⟩
        exact fin _ _ _ _ (Int.emod_nonneg _ (by omega)) (Int.emod_lt_of_pos _ zp)
      · refine if_neg_of (decide_eq_false c1) ?_
        refine ⟨_, rfl, _, rfl, _, _, rfl, rfl, .inl ⟨by decide, by decide⟩, _, _, rfl, rfl, _, _, rfl, rfl, _, _, rfl, rfl, .inr ⟨by decide, by decide⟩, .inl ⟨_, rfl, _, _, rfl, rfl, (by show (0 : Int) < 2147483647; decide), ?_⟩⟩
        refine ⟨_, rfl, _, rfl, _, _, rfl, rfl, .inl (mix_small2 _), _, _, rfl, rfl, .inr ⟨by decide, by decide⟩, _, rfl, _, _, rfl, rfl, .inl ⟨by decide, by decide⟩, _, _, rfl, rfl, _, rfl, _, _, rfl, rfl, .inl ⟨_, rfl, _, _, rfl, rfl, (by show (0 : Int) < 2147483629; decide), ?_⟩⟩
        refine ⟨_, rfl, .inl ⟨rfl, _, SqL.of hD⟩, _, rfl, _, _, rfl, rfl, ⟨by decide, by decide⟩, _, rfl, _, rfl, s, _, _, _, rfl, rfl, s1.seq hS, at_z, _, _, rfl, rfl, zp, D, _, _, rfl, rfl, hD, few2, ?_⟩
        exact fin _ _ _ _ (Int.emod_nonneg _ (by omega)) (Int.emod_lt_of_pos _ zp)
    · rintro σ H' ⟨ds, left, x4, x5, rfl, s1, hD, hl, hds⟩
      have hl' : ds.length = zs.length := by simpa using hl
      exact ⟨_, rfl, q D ds H' nD ⟨hl', hds⟩ s1 hD⟩
-- part ownops
/-! operators of an own class -/
/-- a method of the class at C, by its promise -/
structure Me (P : Program) (w : World) (K : PySem.W.Frag) (mg : Str → Option Value) (base : Heap) (k : Nat) (C : Addr) (m : Str) (sp : Sp) : Prop where
  ex : ∃ (f : Addr) (fd : FuncData) (ps : List Str), Meth K C m f ∧ FnOk P w K mg base CX0 k f fd ps sp ∧ Binds K fd ps []
section
variable {X : Cx} {C : Addr} {m : Str} {sp : Sp} {k j : Nat}
theorem inst_of {pins : List (Addr × Obj)} {σ : L2.St} {H : Hp} {s : Shared} {a dx : Addr} {fs : List (Str × V)} (I : Inv X pins σ H s) (e : H a = some (.ins C dx fs)) : ∃ ox od, PySem.W.InstAt s.heap a ox C od := by
  obtain ⟨mA, O, _⟩ := ins_get I.hok e
  obtain ⟨od, J, _⟩ := O.look
  exact ⟨_, _, J⟩
/-- x op y of two instances -/
def rOwn2 (C : Addr) (sp : Sp) : R2 := fun x y H Q => ∃ a b dx dy fs gs, x = .ref a ∧ y = .ref b ∧ H a = some (.ins C dx fs) ∧ H b = some (.ins C dy gs) ∧ sp [x, y] H Q E0
theorem op_own2 {op : Operator} (c : Me X.prog X.w X.K X.mg X.base k C m sp) (hr : Room j X.A) (sf : PySem.W.selfFirst X.K C = true) (hm : PySem.dunder op.info.2 = m := by decide +kernel) (hk : k ≤ j := by decide) : OpR X (binaryOp op) (rOwn2 C sp) := by
  obtain ⟨f, fd, ps, M, F, b⟩ := c.ex
  intro pins s σ H x y v u Q I rx ry h
  obtain ⟨a, b', dx, dy, fs, gs, rfl, rfl, ha, hb, q⟩ := h
  cases (show v = Value.ref a from rx)
  cases (show u = Value.ref b' from ry)
  obtain ⟨ox, od, J⟩ := inst_of I ha
  obtain ⟨oy, od', J'⟩ := inst_of I hb
  obtain ⟨mm, hF⟩ := I.fr
  refine PySem.W.binop_K hF I.ok.mod.kin J J'.type sf (by rw [hm]; exact M.at_) M.fn ?_
  refine wpAny_mono (run_fn (us := [.ref a, .ref b']) (vs := [.ref a, .ref b']) F (hr.mono hk) b .nil pass0 I (.cons rfl (.cons rfl .nil)) q) (fun u' s' z => ?_) fun _ _ x => x
  obtain ⟨z', H', I', rz, qz⟩ := z
  exact SlX.cmpback rz ⟨z', H', I', rz, qz⟩
/-- op x of an instance -/
def rOwn1 (C : Addr) (sp : Sp) : V → Hp → VK → Prop := fun x H Q => ∃ a dx fs, x = .ref a ∧ H a = some (.ins C dx fs) ∧ sp [x] H Q E0
theorem un_inv1 (c : Me X.prog X.w X.K X.mg X.base k C "__invert__" sp) (hr : Room j X.A) (hk : k ≤ j := by decide) : UnR X (unaryOp .Invert) (rOwn1 C sp) := by
  obtain ⟨f, fd, ps, M, F, b⟩ := c.ex
  intro pins s σ H x v Q I rx h
  obtain ⟨a, dx, fs, rfl, ha, q⟩ := h
  cases (show v = Value.ref a from rx)
  obtain ⟨ox, od, J⟩ := inst_of I ha
  obtain ⟨mm, hF⟩ := I.fr
  exact PySem.W.ksp_inv hF I.ok.mod.kin J M.at_ M.fn (run_fn (us := [.ref a]) (vs := [.ref a]) F (hr.mono hk) b .nil pass0 I (.cons rfl .nil) q)
theorem un_neg1 (c : Me X.prog X.w X.K X.mg X.base k C "__neg__" sp) (hr : Room j X.A) (hk : k ≤ j := by decide) : UnR X (unaryOp .USub) (rOwn1 C sp) := by
  obtain ⟨f, fd, ps, M, F, b⟩ := c.ex
  intro pins s σ H x v Q I rx h
  obtain ⟨a, dx, fs, rfl, ha, q⟩ := h
  cases (show v = Value.ref a from rx)
  obtain ⟨ox, od, J⟩ := inst_of I ha
  obtain ⟨mm, hF⟩ := I.fr
  exact PySem.W.ksp_neg hF I.ok.mod.kin J M.at_ M.fn (run_fn (us := [.ref a]) (vs := [.ref a]) F (hr.mono hk) b .nil pass0 I (.cons rfl .nil) q)
/-- x in y, y an instance: the answer a bool -/
def rOwnIn (neg : Bool) (C : Addr) (sp : Sp) : R2 := fun x y H Q => ∃ b dx fs, y = .ref b ∧ H b = some (.ins C dx fs) ∧ sp [y, x] H (fun v H' => ∃ c : Bool, v = .bl c ∧ Q (.bl (if neg then !c else c)) H') E0
theorem op_in_own (c : Me X.prog X.w X.K X.mg X.base k C "__contains__" sp) (hr : Room j X.A) (hk : k ≤ j := by decide) : OpR X (compareOp .In) (rOwnIn false C sp) := by
  obtain ⟨f, fd, ps, M, F, b⟩ := c.ex
  intro pins s σ H x y v u Q I rx ry h
  obtain ⟨a, dx, fs, rfl, ha, q⟩ := h
  cases (show u = Value.ref a from ry)
  obtain ⟨ox, od, J⟩ := inst_of I ha
  obtain ⟨mm, hF⟩ := I.fr
  refine PySem.W.in_K hF I.ok.mod.kin J M.at_ M.fn (wpAny_mono (run_fn (us := [.ref a, v]) (vs := [.ref a, x]) F (hr.mono hk) b .nil pass0 I (.cons rfl (.cons rx .nil)) q) (fun u' s' z => ?_) fun _ _ x => x)
  obtain ⟨z', H', I', rz, d, ez, qz⟩ := z
  subst ez
  cases (show u' = Value.bool d from rz)
  exact wpAny_truthy_bool ⟨.bl d, H', I', rfl, qz⟩
theorem op_notIn_own (c : Me X.prog X.w X.K X.mg X.base k C "__contains__" sp) (hr : Room j X.A) (hk : k ≤ j := by decide) : OpR X (compareOp .NotIn) (rOwnIn true C sp) := by
  obtain ⟨f, fd, ps, M, F, b⟩ := c.ex
  intro pins s σ H x y v u Q I rx ry h
  obtain ⟨a, dx, fs, rfl, ha, q⟩ := h
  cases (show u = Value.ref a from ry)
  obtain ⟨ox, od, J⟩ := inst_of I ha
  obtain ⟨mm, hF⟩ := I.fr
  refine PySem.W.notIn_K hF I.ok.mod.kin J M.at_ M.fn (wpAny_mono (run_fn (us := [.ref a, v]) (vs := [.ref a, x]) F (hr.mono hk) b .nil pass0 I (.cons rfl (.cons rx .nil)) q) (fun u' s' z => ?_) fun _ _ x => x)
  obtain ⟨z', H', I', rz, d, ez, qz⟩ := z
  subst ez
  cases (show u' = Value.bool d from rz)
  exact wpAny_truthy_bool ⟨.bl (!d), H', I', rfl, qz⟩
/-- x == y of two instances -/
theorem op_eq_own (c : Me X.prog X.w X.K X.mg X.base k C "__eq__" sp) (hr : Room j X.A) (hk : k ≤ j := by decide) : OpR X (compareOp .Eq) (rOwn2 C sp) := by
  obtain ⟨f, fd, ps, M, F, b⟩ := c.ex
  intro pins s σ H x y v u Q I rx ry h
  obtain ⟨a, b', dx, dy, fs, gs, rfl, rfl, ha, hb, q⟩ := h
  cases (show v = Value.ref a from rx)
  cases (show u = Value.ref b' from ry)
  obtain ⟨ox, od, J⟩ := inst_of I ha
  obtain ⟨oy, od', J'⟩ := inst_of I hb
  obtain ⟨mm, hF⟩ := I.fr
  show wpAny _ _ (richCompare .Eq (.ref a) (.ref b')) _ _ _
  refine PySem.W.cmp_K (op := .Eq) (tb := .ref C) hr.units0 hF I.ok.mod.kin J J'.type (by unfold PySem.W.notFirst; simp) M.at_ M.fn ?_
  refine wpAny_mono (run_fn (us := [.ref a, .ref b']) (vs := [.ref a, .ref b']) F (hr.mono hk) b .nil pass0 I (.cons rfl (.cons rfl .nil)) q) (fun u' s' z => ?_) fun _ _ x => x
  obtain ⟨z', H', I', rz, qz⟩ := z
  exact SlX.cmpback rz ⟨z', H', I', rz, qz⟩
/-- the truth of an instance, by its __bool__ -/
def rTruOwn (C : Addr) (sp : Sp) : V → Hp → (Bool → Hp → Prop) → Prop := fun x H Q => ∃ a dx fs, x = .ref a ∧ H a = some (.ins C dx fs) ∧ sp [x] H (fun v H' => ∃ c : Bool, v = .bl c ∧ Q c H') E0
theorem tru_own (c : Me X.prog X.w X.K X.mg X.base k C "__bool__" sp) (hr : Room j X.A) (hk : k ≤ j := by decide) : TruR X (rTruOwn C sp) := by
  obtain ⟨f, fd, ps, M, F, b⟩ := c.ex
  intro pins s σ H x v Q I rx h
  obtain ⟨a, dx, fs, rfl, ha, q⟩ := h
  cases (show v = Value.ref a from rx)
  obtain ⟨ox, od, J⟩ := inst_of I ha
  obtain ⟨mm, hF⟩ := I.fr
  refine PySem.W.truthy_K hF I.ok.mod.kin J M.at_ M.fn (wpAny_mono (run_fn (us := [.ref a]) (vs := [.ref a]) F (hr.mono hk) b .nil pass0 I (.cons rfl .nil) q) (fun u' s' z => ?_) fun _ _ x => x)
  obtain ⟨z', H', I', rz, d, ez, qz⟩ := z
  subst ez
  cases (show u' = Value.bool d from rz)
  exact ⟨H', I', qz⟩
end
/-- a class that makes instances, its __init__ by its promise (it may raise, and here doesn't) -/
structure Ma (P : Program) (w : World) (K : PySem.W.Frag) (mg : Str → Option Value) (base : Heap) (k : Nat) (C : Addr) (sp : Sp) : Prop where
  ex : ∃ (f : Addr) (fd : FuncData) (ps : List Str), Mk K C f ∧ FnOk P w K mg base (L2N.CX P w) k f fd ps sp ∧ Binds K fd ps []
section
variable {X : Cx} {C : Addr} {x : Str} {sp : Sp} {k j i : Nat} {p pos : Pos} {e : Expr} {es : List Expr} {t : TA}
theorem pe_ma (c : Ma X.prog X.w X.K X.mg X.base k C sp) (hr : Room j X.A) (hm : X.mg x = some (.ref C)) (ha : PA X (e :: es) t) (hk : k + 1 ≤ j := by decide) (hg : Gl X x := by rfl)
    (hdb : (x == ("__debug__" : Str)) = false := by decide) (he : starEach (e :: es) X.env = (false, eval e X.env) :: starEach es X.env := by rfl) (hpl : (backTo pos (starEach es X.env)).any (·.1) = false := by rfl) :
    PE X (.Call (.Name x p) (e :: es) [] pos) (tMake C sp [] E0 t) := by
  obtain ⟨f, fd, ps, M, F, b⟩ := c.ex
  exact pe_make M F (hr.mono hk) hg hm b .nil passN ha hdb he hpl
/-- cls(..), cls a parameter that holds the class -/
def tMakeL (i : Nat) (C : Addr) (sp : Sp) (t : TA) : TE := fun σ H Q => σ[i]? = some (some (.ref C)) ∧ tMake C sp [] E0 t σ H Q
theorem pe_maL (c : Ma X.prog X.w X.K X.mg X.base k C sp) (hr : Room j X.A) (hN : X.N[i]? = some x) (ha : PA X (e :: es) t) (hk : k + 1 ≤ j := by decide)
    (hv : Vis X.env.scope x := by first | exact Or.inl rfl | exact Or.inr (Or.inl rfl) | exact Or.inr (Or.inr rfl))
    (hdb : (x == ("__debug__" : Str)) = false := by decide) (hcd : (x == ("__classdict__" : Str)) = false := by decide)
    (he : starEach (e :: es) X.env = (false, eval e X.env) :: starEach es X.env := by rfl) (hpl : (backTo pos (starEach es X.env)).any (·.1) = false := by rfl) :
    PE X (.Call (.Name x p) (e :: es) [] pos) (tMakeL i C sp t) := by
  obtain ⟨f, fd, ps, M, F, b⟩ := c.ex
  refine ⟨fun pins s σ H Q I h => ?_⟩
  obtain ⟨at_i, rest⟩ := h
  refine wpAny_Call_Name_kw (thn ((pe_var (pos := p) hN hv hdb hcd).run pins s σ H (fun v G => v = .ref C ∧ G = H) I ⟨.ref C, at_i, rfl, rfl⟩) fun u s1 ⟨v, G, I1, r1, e1, e2⟩ => ?_)
  subst e1
  subst e2
  cases r1
  refine PySem.W.callWith_K (h₀ := X.base) I.ok.mod.kin M.kp (thn (ha.run pos pins s1 σ _ _ I1 rest) fun us s2 ⟨vs, G2, I2, r, q⟩ => ⟨I2.kIn, ?_⟩) he hpl
  exact run_make M F (hr.mono hk) b .nil passN I2 r q
end
-- part ownops2
/-! bool(x) and x == y, where y is no instance; classmethods by FnR; C(..) in a try -/
section
variable {X : Cx} {C : Addr} {m : Str} {sp : Sp} {k j : Nat}
/-- bool(x) of an instance -/
def rBoolOwn (C : Addr) (sp : Sp) : List V → Hp → VK → Prop := fun xs H Q => ∃ a dx fs, xs = [.ref a] ∧ H a = some (.ins C dx fs) ∧ sp [.ref a] H (fun v H' => ∃ c : Bool, v = .bl c ∧ Q (.bl c) H') E0
theorem new_bool_any {prog : Program} {w : World} (x : Value) : MeetsIn prog w (Builtin.«bool.__new__» ⟨[.type "bool", x], []⟩)
    (fun A R s => wpAny (model prog w) A.in1 (truthy x) (fun b s1 => R (.ok (.ret (.bool b))) s1) (fun e s1 => R (.error e) s1) s) :=
  .of_wp fun A R s h => by
    have no_bool := F.conv_sub_bool
    unfold Builtin.«bool.__new__»
    generalize same : truthy = TX
    wp_walk
    subst same
    refine wpAny_mono h (fun b s1 hR => ?_) fun _ _ z => z
    exact wpAny_pure ⟨_, rfl, hR⟩
theorem cr_boolOwn (c : Me X.prog X.w X.K X.mg X.base k C "__bool__" sp) (hr : Room j X.A) (hk : k + 2 ≤ j := by decide) : CallR X (.type "bool") (rBoolOwn C sp) := by
  obtain ⟨f, fd, ps, M, F, b⟩ := c.ex
  intro pins s σ H xs us Q I r h
  obtain ⟨a, dx, fs, rfl, ha, q⟩ := h
  obtain rfl := Vals.ref1 r
  obtain ⟨ox, od, J⟩ := inst_of I ha
  obtain ⟨mm, hF⟩ := I.fr
  have many : ([Value.ref a] : List Value).length = ps.length := F.len [.ref a] _ _ _ q
  have bound := b s [.ref a] I.kIn (by rw [List.append_nil]; exact many)
  rw [List.append_nil] at bound
  refine callType_newIn PySem.F.called_bool PySem.F.newNe_bool (PySem.F.typeCall_bool_1 _) (PySem.F.newCall_bool_1 _) (fun obj => PySem.F.args_object_init_2 obj _) PySem.F.entry_bool_new (new_bool_any _) ?_
  refine PySem.W.truthy_K hF I.ok.mod.kin J M.at_ M.fn (wpAny_call (codeAny_mono (F.run _ X.stack s H ⟨[.ref a], []⟩ [.ref a] [.ref a] _ E0 ((hr.mono hk).in1.in1) (I.env0.in1.in1) bound (.cons rfl .nil) q) fun r s' hq => ?_))
  cases r with
  | error e => exact False.elim hq
  | ok fl =>
    cases fl with
    | ret u =>
      obtain ⟨z', H', I', rz, d, ez, qz⟩ := I.after hq
      subst ez
      cases (show u = Value.bool d from rz)
      exact ⟨rfl, .bl d, H', I', rfl, qz⟩
    | next => exact False.elim hq
    | brk => exact False.elim hq
    | cont => exact False.elim hq
/-- x == y, y a tuple -/
def rOwnT (C : Addr) (sp : Sp) : R2 := fun x y H Q => ∃ a b dx fs zs, x = .ref a ∧ y = .ref b ∧ H a = some (.ins C dx fs) ∧ H b = some (.tup zs) ∧ sp [x, y] H Q E0
theorem op_eq_ownT (c : Me X.prog X.w X.K X.mg X.base k C "__eq__" sp) (hr : Room j X.A) (nf : PySem.W.subIn X.K (.type "tuple") (.ref C) = some false) (hk : k ≤ j := by decide) : OpR X (compareOp .Eq) (rOwnT C sp) := by
  obtain ⟨f, fd, ps, M, F, b⟩ := c.ex
  intro pins s σ H x y v u Q I rx ry h
  obtain ⟨a, b', dx, fs, zs, rfl, rfl, ha, hb, q⟩ := h
  cases (show v = Value.ref a from rx)
  cases (show u = Value.ref b' from ry)
  obtain ⟨ox, od, J⟩ := inst_of I ha
  obtain ⟨_, _, _, o, h1, h2, _⟩ := (show ObjOk X.prog X.w H s.heap b' (.tup zs) from I.hok b' _ hb)
  obtain ⟨mm, hF⟩ := I.fr
  show wpAny _ _ (richCompare .Eq (.ref a) (.ref b')) _ _ _
  refine PySem.W.cmp_K (op := .Eq) (tb := .type "tuple") hr.units0 hF I.ok.mod.kin J (fun A Q E s k q => wpAny_typeOf_ref (k _ _ h1) (by rw [h2]; exact q)) (by unfold PySem.W.notFirst; rw [nf]; simp) M.at_ M.fn ?_
  refine wpAny_mono (run_fn (us := [.ref a, .ref b']) (vs := [.ref a, .ref b']) F (hr.mono hk) b .nil pass0 I (.cons rfl (.cons rfl .nil)) q) (fun u' s' z => ?_) fun _ _ x => x
  obtain ⟨z', H', I', rz, qz⟩ := z
  exact SlX.cmpback rz ⟨z', H', I', rz, qz⟩
end
/-- a classmethod by what its call does -/
structure CmR (P : Program) (w : World) (K : PySem.W.Frag) (mg : Str → Option Value) (base : Heap) (k : Nat) (C : Addr) (m : Str) (sp : Sp) : Prop where
  ex : ∃ (mc : Value) (p g : Addr), ClX.CRead K C mc ∧ ClX.CMet K C mc m p g ∧ FnR P w K mg base CX0 k g sp
theorem pe_cmR {X : Cx} {C : Addr} {m : Str} {sp : Sp} {k j : Nat} {o e : Expr} {es : List Expr} {ta : TE} {t : TA} {apos pos : Pos} {pl : Sem Bool} (c : CmR X.prog X.w X.K X.mg X.base k C m sp) (hr : Room j X.A) (he : PE X o ta) (ha : PA X (e :: es) t) (hk : k ≤ j := by decide)
    (hst : starEach (e :: es) X.env = (false, eval e X.env) :: starEach es X.env := by rfl) (hpl : (backTo pos (starEach es X.env)).any (·.1) = false := by rfl)
    (ht : eval (.Call (.Attribute o m apos) (e :: es) [] pos) X.env = (do
      let got ← eval o X.env
      standAt apos.atName
      let (fn, fst) ← holding [got] (getMethod got m pl)
      callWith pos fn fst (backTo pos (starEach (e :: es) X.env)) (backToKw pos (keywordEach [] X.env))) := by rfl) :
    PE X (.Call (.Attribute o m apos) (e :: es) [] pos) (ClX.tCMeth C sp E0 ta t) := by
  obtain ⟨mc, p, g, r, c, F⟩ := c.ex
  exact ClX.pe_cmeth he r c F (hr.mono hk) pass0 ha hst hpl ht
theorem pe_cmR0 {X : Cx} {C : Addr} {m : Str} {sp : Sp} {k j : Nat} {o : Expr} {ta : TE} {apos pos : Pos} {pl : Sem Bool} (c : CmR X.prog X.w X.K X.mg X.base k C m sp) (hr : Room j X.A) (he : PE X o ta) (hk : k ≤ j := by decide)
    (ht : eval (.Call (.Attribute o m apos) [] [] pos) X.env = (do
      let got ← eval o X.env
      standAt apos.atName
      let (fn, fst) ← holding [got] (getMethod got m pl)
      callWith pos fn fst (backTo pos (starEach [] X.env)) (backToKw pos (keywordEach [] X.env))) := by rfl) :
    PE X (.Call (.Attribute o m apos) [] [] pos) (ClX.tCMeth C sp E0 ta tNil) := by
  obtain ⟨mc, p, g, r, c, F⟩ := c.ex
  refine ⟨fun pins s σ H Q I h => ?_⟩
  refine PySem.W.methodCall_KW (pl := pl) (thn (he.run pins s σ H _ I h) fun u s1 ⟨x, H1, I1, rx, ex, q⟩ => ?_) ht
  subst ex
  obtain rfl : u = Value.ref C := rx
  refine ClX.getmethcm_ok I1 r c fun s2 I2 => ?_
  have hq := ClX.pin_at I2
  show wpAny _ _ (callWith pos (Value.ref s1.heap.objs.size) [] (backTo pos (starEach [] X.env)) []) _ _ _
  refine PySem.W.callWith_M0 (K := X.K) (g := g) (self := .ref C) ?_ c.fi ?_
  · exact ⟨hq, I2.kIn⟩
  · exact ClX.run_cm (us := []) (vs := []) F (hr.mono hk) pass0 I2 .nil q
/-- C(..) whose __init__ may raise, in a try that takes it -/
def tMakeS (C : Addr) (sp : Sp) (E : L2.St → XK) (t : TA) : TE := fun σ H Q => tMake C sp [] (E σ) t σ H Q
theorem pe_maX {X : Cx} {W : WX} {C : Addr} {x : Str} {sp : Sp} {k j : Nat} {p pos : Pos} {e : Expr} {es : List Expr} {t : TA} (c : Ma X.prog X.w X.K X.mg X.base k C sp) (hr : Room j X.A) (tk : L2N.Takes X W) (hm : X.mg x = some (.ref C)) (ha : PA X (e :: es) t) (hk : k + 1 ≤ j := by decide) (hg : Gl X x := by rfl)
    (hdb : (x == ("__debug__" : Str)) = false := by decide) (he : starEach (e :: es) X.env = (false, eval e X.env) :: starEach es X.env := by rfl) (hpl : (backTo pos (starEach es X.env)).any (·.1) = false := by rfl) :
    PE X (.Call (.Name x p) (e :: es) [] pos) (tMakeS C sp (WE W) t) := by
  obtain ⟨f, fd, ps, M, F, b⟩ := c.ex
  refine ⟨fun pins s σ H Q I h => ?_⟩
  refine wpAny_Call_Name_kw (ld_glob I hg hm ?_ hdb)
  refine PySem.W.callWith_K (h₀ := X.base) I.ok.mod.kin M.kp (thn (ha.run pos pins s σ H _ I h) fun us s1 ⟨vs, H1, I1, r, q⟩ => ⟨I1.kIn, ?_⟩) he hpl
  generalize ez : s1.heap.objs.size = z
  have le0 : s1.heap.objs.size ≤ z := by rw [ez]; exact Nat.le_refl z
  have asks := q (z + 1) z (I1.hok.fresh (Nat.le_succ_of_le le0)) (I1.hok.fresh le0) (Nat.ne_of_lt (Nat.lt_succ_self z))
  have laid := Inv.made (C := C) I1
  rw [ez] at laid
  have rel : Vals (V.ref (z + 1) :: vs) (Value.ref (z + 1) :: us) := .cons rfl r
  rw [List.append_nil] at asks
  have many : (Value.ref (z + 1) :: us).length = ps.length := by
    rw [← rel.length]
    exact F.len _ _ _ _ asks
  have bound := b _ (Value.ref (z + 1) :: us) laid.kIn (by rw [List.append_nil]; exact many)
  rw [List.append_nil] at bound
  have runs := F.run _ X.stack _ _ ⟨Value.ref (z + 1) :: us, []⟩ (Value.ref (z + 1) :: us) _ _ (WE W σ) ((hr.mono hk).make C us []) (laid.env0.make C us []) bound rel asks
  subst ez
  refine wpAny_call (make_map (f := f) I1.kIn M.makes M.init (beq_iff_eq.mp M.fn) (codeAny_mono runs fun r' s' back => ?_))
  cases r' with
  | error er => exact L2N.passAt tk σ pins _ _ er s' laid back
  | ok fl =>
    cases fl with
    | ret u =>
      obtain ⟨v, H', I3, rv, ev, q3⟩ := laid.after back
      subst ev
      cases (show u = Value.none from rv)
      exact ⟨rfl, .ref _, H', I3, rfl, q3⟩
    | next => exact False.elim back
    | brk => exact False.elim back
    | cont => exact False.elim back
theorem kit_ownF {C : Addr} {U : String} (h2 : PySem.W.isClsIn K C = true) (h3 : PySem.W.typeIn K (.ref C) = some (.type "type")) (h : PySem.W.subIn K (.type U) (.ref C) = some false) : PySem.W.kitOne K (.type U) (.ref C) = some false := by
  have h2' : (PySem.W.clsIn K C).isSome = true := h2
  have e2 : ((PySem.W.clsIn K C).isSome && PySem.W.typeIn K (.ref C) == some (.type "type")) = true := by rw [h2', h3] <;> rfl
  unfold PySem.W.kitOne
  rw [if_neg (by simp)]
  show (if ((PySem.W.clsIn K C).isSome && PySem.W.typeIn K (.ref C) == some (.type "type")) = true then PySem.W.subIn K (.type U) (.ref C) else none) = some false
  rw [if_pos e2]
  exact h
-- part clsm
/-- a call of a classmethod without arguments -/
structure Cm (P : Program) (w : World) (K : PySem.W.Frag) (mg : Str → Option Value) (base : Heap) (k : Nat) (C : Addr) (m : Str) (sp : Sp) : Prop where
  ex : ∃ (mc : Value) (p g : Addr) (fd : FuncData) (ps : List Str), ClX.CRead K C mc ∧ ClX.CMet K C mc m p g ∧ FnOk P w K mg base CX0 k g fd ps sp ∧ Binds K fd ps []
theorem fnR_of {P : Program} {w : World} {K : PySem.W.Frag} {mg : Str → Option Value} {base : Heap} {CX : CXT} {k : Nat} {f : Addr} {fd : FuncData} {ps : List Str} {sp : Sp} (F : FnOk P w K mg base CX k f fd ps sp) (b : Binds K fd ps []) : FnR P w K mg base CX k f sp :=
  fun A outer s H us vs Q E hr e0 r h => by
    have hl : us.length = ps.length := by
      rw [← r.length]
      exact F.len _ _ _ _ h
    have z := b s us (e0.mod.kin.keeps fun b o e => (e0.bs b o e).1) (by rw [List.append_nil]; exact hl)
    rw [List.append_nil] at z
    exact F.run A outer s H ⟨us, []⟩ us vs Q E hr e0 z r h
theorem pe_cm {X : Cx} {C : Addr} {m : Str} {sp : Sp} {k j : Nat} {o e : Expr} {es : List Expr} {ta : TE} {t : TA} {apos pos : Pos} {pl : Sem Bool} (c : Cm X.prog X.w X.K X.mg X.base k C m sp) (hr : Room j X.A) (he : PE X o ta) (ha : PA X (e :: es) t) (hk : k ≤ j := by decide)
    (hst : starEach (e :: es) X.env = (false, eval e X.env) :: starEach es X.env := by rfl) (hpl : (backTo pos (starEach es X.env)).any (·.1) = false := by rfl)
    (ht : eval (.Call (.Attribute o m apos) (e :: es) [] pos) X.env = (do
      let got ← eval o X.env
      standAt apos.atName
      let (fn, fst) ← holding [got] (getMethod got m pl)
      callWith pos fn fst (backTo pos (starEach (e :: es) X.env)) (backToKw pos (keywordEach [] X.env))) := by rfl) :
    PE X (.Call (.Attribute o m apos) (e :: es) [] pos) (ClX.tCMeth C sp E0 ta t) := by
  obtain ⟨mc, p, g, fd, ps, r, c, F, b⟩ := c.ex
  exact ClX.pe_cmeth he r c (fnR_of F b) (hr.mono hk) pass0 ha hst hpl ht
theorem pe_cm0 {X : Cx} {C : Addr} {m : Str} {sp : Sp} {k j : Nat} {o : Expr} {ta : TE} {apos pos : Pos} {pl : Sem Bool} (c : Cm X.prog X.w X.K X.mg X.base k C m sp) (hr : Room j X.A) (he : PE X o ta) (hk : k ≤ j := by decide)
    (ht : eval (.Call (.Attribute o m apos) [] [] pos) X.env = (do
      let got ← eval o X.env
      standAt apos.atName
      let (fn, fst) ← holding [got] (getMethod got m pl)
      callWith pos fn fst (backTo pos (starEach [] X.env)) (backToKw pos (keywordEach [] X.env))) := by rfl) :
    PE X (.Call (.Attribute o m apos) [] [] pos) (ClX.tCMeth C sp E0 ta tNil) := by
  obtain ⟨mc, p, g, fd, ps, r, c, F, b⟩ := c.ex
  refine ⟨fun pins s σ H Q I h => ?_⟩
  refine PySem.W.methodCall_KW (pl := pl) (thn (he.run pins s σ H _ I h) fun u s1 ⟨x, H1, I1, rx, ex, q⟩ => ?_) ht
  subst ex
  obtain rfl : u = Value.ref C := rx
  have notin : X.base.get? s1.heap.objs.size = none := by
    cases z : X.base.get? s1.heap.objs.size with
    | none => rfl
    | some o => exact absurd (Heap.lt_size (I1.bk _ o z)) (Nat.lt_irrefl _)
  refine ClX.getmethcm_ok I1 r c fun s2 I2 => ?_
  have hq := ClX.pin_at I2
  have hL : s1.heap.objs.size ≠ X.env.locals := (I2.pin (s1.heap.objs.size, PySem.W.methodObj (.ref g) (.ref C)) (List.mem_append_right _ List.mem_cons_self)).2.2.1
  show wpAny _ _ (callWith pos (Value.ref s1.heap.objs.size) [] (backTo pos (starEach [] X.env)) []) _ _ _
  refine PySem.W.callWith_M0 (K := X.K) (g := g) (self := .ref C) ?_ c.fi ?_
  · exact ⟨hq, I2.kIn⟩
  · have z := ClX.run_cm (us := []) (vs := []) (fnR_of F b) (hr.mono hk) pass0 I2 .nil q
    exact z
-- part meths
/-! o.m(..) of an own class, by its promise -/
section
variable {X : Cx} {C : Addr} {m : Str} {sp : Sp} {k j : Nat} {o e : Expr} {es : List Expr} {ta : TE} {t : TA} {apos pos : Pos} {pl : Sem Bool}
theorem pe_me0 (c : Me X.prog X.w X.K X.mg X.base k C m sp) (cl : Cls X.K C) (hr : Room j X.A) (he : PE X o ta) (hk : k ≤ j := by decide)
    (ht : eval (.Call (.Attribute o m apos) [] [] pos) X.env = (do
      let ov ← eval o X.env
      standAt apos.atName
      let (f, first) ← holding [ov] (getMethod ov m pl)
      callWith pos f first (backTo pos (starEach [] X.env)) (backToKw pos (keywordEach [] X.env))) := by rfl) :
    PE X (.Call (.Attribute o m apos) [] [] pos) (tMeth C m sp [] E0 ta tNil) := by
  obtain ⟨f, fd, ps, M, F, b⟩ := c.ex
  exact pe_meth0 he cl M F (hr.mono hk) b .nil pass0 ht
theorem pe_me (c : Me X.prog X.w X.K X.mg X.base k C m sp) (cl : Cls X.K C) (hr : Room j X.A) (he : PE X o ta) (ha : PA X (e :: es) t) (hk : k ≤ j := by decide)
    (hst : starEach (e :: es) X.env = (false, eval e X.env) :: starEach es X.env := by rfl) (hpl : (backTo pos (starEach es X.env)).any (·.1) = false := by rfl)
    (ht : eval (.Call (.Attribute o m apos) (e :: es) [] pos) X.env = (do
      let ov ← eval o X.env
      standAt apos.atName
      let (f, first) ← holding [ov] (getMethod ov m pl)
      callWith pos f first (backTo pos (starEach (e :: es) X.env)) (backToKw pos (keywordEach [] X.env))) := by rfl) :
    PE X (.Call (.Attribute o m apos) (e :: es) [] pos) (tMeth C m sp [] E0 ta t) := by
  obtain ⟨f, fd, ps, M, F, b⟩ := c.ex
  exact pe_meth he cl M F (hr.mono hk) b .nil pass0 ha hst hpl ht
end
/-- a class whose instances are called, by the promise of its __call__ -/
structure Co (P : Program) (w : World) (K : PySem.W.Frag) (mg : Str → Option Value) (base : Heap) (k : Nat) (C : Addr) (sp : Sp) : Prop where
  ex : ∃ g, StX.CallO K C g ∧ FnR P w K mg base CX0 k g sp
def tCallI (C : Addr) (sp : Sp) (tf : TE) (t : TA) : TE := fun σ H Q => tf σ H fun y H1 => ∃ a, y = V.ref a ∧ t σ H1 fun vs H2 => ((∃ dx vs, SlX.Slt H2 a C dx vs) ∨ ∃ dx fs, H2 a = some (.ins C dx fs)) ∧ sp (V.ref a :: vs) H2 Q E0
theorem pe_inst {X : Cx} {C : Addr} {sp : Sp} {k j : Nat} {fe e : Expr} {es : List Expr} {tf : TE} {t : TA} {pos : Pos} (c : Co X.prog X.w X.K X.mg X.base k C sp) (hr : Room j X.A) (hf : PE X fe tf) (ha : PA X (e :: es) t) (hk : k ≤ j := by decide)
    (ht : eval (.Call fe (e :: es) [] pos) X.env = (do callWith pos (← eval fe X.env) [] (backTo pos (starEach (e :: es) X.env)) (backToKw pos (keywordEach [] X.env))) := by rfl)
    (he : starEach (e :: es) X.env = (false, eval e X.env) :: starEach es X.env := by rfl) (hpl : (backTo pos (starEach es X.env)).any (·.1) = false := by rfl) :
    PE X (.Call fe (e :: es) [] pos) (tCallI C sp tf t) := by
  obtain ⟨g, c, F⟩ := c.ex
  exact StX.pe_callO hf c F (hr.mono hk) pass0 ha ht he hpl
-- part objs
/-! comprehensions that make lists of objects -/
/-- what a heap but for D holds -/
def But (D : Addr) (H H' : Hp) : Prop := ∀ b o, b ≠ D → H b = some o → H' b = some o
theorem But.upd {D : Addr} {H : Hp} {o : HO} : But D H (upd H D o) := fun b u hb e => by
  rw [upd_ne hb]
  exact e
theorem But.of {D : Addr} {H H' : Hp} (s : Same H H') : But D H H' := fun b o _ e => s b o e
theorem sqT_but {K : PySem.W.Frag} {D q : Addr} {H H' : Hp} {xs : List V} (h : SqT K H q xs) (ne : q ≠ D) (k : But D H H') : SqT K H' q xs := by
  rcases h with (h | ⟨o, h⟩) | h
  · exact .inl (.inl (k _ _ ne h))
  · exact .inl (.inr ⟨o, k _ _ ne h⟩)
  · exact .inr h
theorem sqL_but {K : PySem.W.Frag} {D q : Addr} {H H' : Hp} {xs : List V} (h : SqL K H q xs) (ne : q ≠ D) (k : But D H H') : SqL K H' q xs := by
  rcases h with (h | ⟨o, h⟩) | h
  · exact .inl (.inl (k _ _ ne h))
  · exact .inl (.inr ⟨o, k _ _ ne h⟩)
  · exact .inr h
/-- what is told of the j-th object stands while only D changes -/
def Stab (D : Addr) (R : Nat → V → Hp → Prop) : Prop := ∀ j v H H', R j v H → v ≠ .ref D → But D H H' → R j v H'
def PvO (H1 : Hp) (D : Addr) (R : Nat → V → Hp → Prop) (i : Nat) (H : Hp) : Prop := Same H1 H ∧ ∃ acc, H D = some (.lst acc) ∧ acc.length = i ∧ ∀ j v, acc[j]? = some v → v ≠ .ref D ∧ R j v H
theorem objEnd {H1 H H4 : Hp} {D : Addr} {R : Nat → V → Hp → Prop} {i : Nat} {y : V} (st : Stab D R) (hD : H1 D = none) (p : PvO H1 D R i H) (s4 : Same H H4) (few : i < 1000) (ny : y ≠ .ref D) (ry : R i y H4) :
    ∃ acc, H4 D = some (.lst acc) ∧ acc.length < sizeLine ∧ PvO H1 D R (i + 1) (upd H4 D (.lst (acc ++ [y]))) := by
  obtain ⟨s, acc, ha, hl, hr⟩ := p
  refine ⟨acc, s4 _ _ ha, small1000 (by omega), fun b o eb => ?_, acc ++ [y], upd_same, ?_, fun j v hv => ?_⟩
  · rw [upd_ne (ne_of_none eb hD)]
    exact s4 b o (s b o eb)
  · rw [List.length_append, hl]
    rfl
  · by_cases c : j < acc.length
    · rw [List.getElem?_append_left c] at hv
      obtain ⟨nv, rv⟩ := hr j v hv
      exact ⟨nv, st j v _ _ (st j v _ _ rv nv (But.of s4)) nv But.upd⟩
    · rw [List.getElem?_append_right (by omega)] at hv
      have e : j = i := by
        by_cases e : j - acc.length = 0
        · omega
        · rw [List.getElem?_eq_none (by show 1 ≤ j - acc.length; omega)] at hv
          cases hv
      subst e
      rw [hl, Nat.sub_self] at hv
      cases hv
      exact ⟨ny, st j y _ _ ry ny But.upd⟩
section
variable {J : It} {n : Nat} {G : Hp → Prop} {Y : Nat → Hp → V → Hp → Prop}
theorem lcObj (w : Walk J n G Y) {g : TG} {tt : TT} {te : TE} {vs : List Nat} {σ : L2.St} {H1 : Hp} {D : Addr} {Qd : Hp → Prop} (R : Nat → V → Hp → Prop) (hD : H1 D = none) (hG : ∀ H, Same H1 H → G H)
    (hs : ∀ i x H H', i < n → PvO H1 D R i H → Y i H x H' → g x (wipe σ vs) H' fun σ2 H2 => wipe σ2 vs = wipe σ vs ∧ tt σ2 H2 fun b H3 =>
      if b = true then te σ2 H3 fun y H4 => ∃ acc, H4 D = some (.lst acc) ∧ acc.length < sizeLine ∧ PvO H1 D R (i + 1) (upd H4 D (.lst (acc ++ [y]))) else PvO H1 D R (i + 1) H3)
    (hd : ∀ H acc, Same H1 H → H D = some (.lst acc) → acc.length = n → (∀ j v, acc[j]? = some v → v ≠ .ref D ∧ R j v H) → Qd H) :
    ∃ W : Nat → Nat → Hp → Prop, (∃ m, W 0 m (upd H1 D (.lst []))) ∧ ∀ i m H, W i m H →
      (J.stop i H ∧ Qd H) ∨ (J.go i H ∧ ∃ Nx : Hp → Prop, (∀ H', Nx H' → ∃ m', m' < m ∧ W (i + 1) m' H') ∧ ∀ x H', J.yld i H x H' → g x (wipe σ vs) H' fun σ2 H2 => wipe σ2 vs = wipe σ vs ∧ tt σ2 H2 fun b H3 =>
        if b = true then te σ2 H3 fun y H4 => ∃ acc, H4 D = some (.lst acc) ∧ acc.length < sizeLine ∧ Nx (upd H4 D (.lst (acc ++ [y]))) else Nx H3) :=
  lc_it w (PvO H1 D R) ⟨same_upd hD, [], upd_same, rfl, fun j v h => by cases h⟩ (fun _ H _ h => hG H h.1) hs fun H h => by
    obtain ⟨s, acc, a, b, c⟩ := h
    exact hd H acc s a b c
end
/-- the j-th is a list of ints, a tuple of ints -/
def RL (w : Nat) (f : Nat → Nat → Int) : Nat → V → Hp → Prop := fun i v H => ∃ q, v = .ref q ∧ H q = some (.lst ((rngN w (f i)).map V.int))
def RT (g : Nat → List Int) : Nat → V → Hp → Prop := fun i v H => ∃ q, v = .ref q ∧ H q = some (.tup ((g i).map V.int))
theorem stab_RL {w : Nat} {f : Nat → Nat → Int} {D : Addr} : Stab D (RL w f) := fun j v H H' h nv k => by
  obtain ⟨q, rfl, h⟩ := h
  exact ⟨q, rfl, k _ _ (fun e => nv (by rw [e])) h⟩
theorem stab_RT {g : Nat → List Int} {D : Addr} : Stab D (RT g) := fun j v H H' h nv k => by
  obtain ⟨q, rfl, h⟩ := h
  exact ⟨q, rfl, k _ _ (fun e => nv (by rw [e])) h⟩
/-- an address that stands is no new one -/
theorem ref_ne {H : Hp} {q D : Addr} {o : HO} (hq : H q = none) (hD : H D = some o) : V.ref q ≠ V.ref D := fun e => by
  have := V.ref.inj e
  rw [this, hD] at hq
  cases hq
theorem pe_tupleOfK {X : Cx} {K : PySem.W.Frag} {p pos : Pos} {a : Expr} {ta : TE} (hK : X.K = K) (hg : Gl X "tuple") (hm : X.mg "tuple" = none) (ha : PE X a ta)
    (na : starEach [a] X.env = (false, eval a X.env) :: starEach [] X.env := by rfl) : PE X (.Call (.Name "tuple" p) [a] [] pos) (tThen ta (kTup K)) := by
  subst hK
  exact pe_tupleOf hg hm ha na
theorem ref_ne2 {H : Hp} {q D : Addr} {xs ys : List V} (hq : H q = some (.tup xs)) (hD : H D = some (.lst ys)) : V.ref q ≠ V.ref D := fun e => by
  have := V.ref.inj e
  rw [this, hD] at hq
  cases hq
/-! walks, the frame named -/
section
variable {X : Cx} {K : PySem.W.Frag} {e e2 : Expr} {te : TE} {ta : TA} {tg : Expr} {p pos tpos : Pos} {elts : List Expr} {kk : Nat}
theorem pi_listK (hK : X.K = K) (he : PE X e te) : PI X tg e (iList K te) := by
  subst hK
  exact pi_list he
theorem pi_tupK (hK : X.K = K) (he : PE X e te) : PI X tg e (iTup K te) := by
  subst hK
  exact pi_tup he
theorem pi_zipAK (hK : X.K = K) (hg : Gl X "zip") (hm : X.mg "zip" = none) (ha : PA X [e, e2] ta)
    (hs : starEach [e, e2] X.env = (false, eval e X.env) :: starEach [e2] X.env := by rfl) (hpl : (backTo pos (starEach [e2] X.env)).any (·.1) = false := by rfl) :
    PI X (.Tuple elts kk tpos) (.Call (.Name "zip" p) [e, e2] [] pos) (RZ.iZipA K ta) := by
  subst hK
  exact RZ.pi_zipA hg hm ha hs hpl
end
theorem walk_zipT {K : PySem.W.Frag} {a b : Addr} {xs ys : List V} {n : Nat} (hn : n = min xs.length ys.length) : Walk (RZ.ItzT K a b) n (fun H => SqT K H a xs ∧ SqT K H b ys) (YPair (fun i => xs[i]?) (fun i => ys[i]?)) := by
  subst hn
  refine ⟨fun i _ hi q => ?_, fun _ q => ⟨xs, ys, q.1, q.2, by omega⟩, fun i H v H' _ q y => ?_⟩
  · have h1 : i < xs.length := by omega
    have h2 : i < ys.length := by omega
    exact ⟨xs, ys, xs[i], ys[i], q.1, q.2, by simp [h1], by simp [h2]⟩
  · obtain ⟨T, x, z, h1, h2, h3, h4, h5⟩ := y
    exact ⟨T, x, z, h1, h2, h3, h4 xs q.1, h5 ys q.2⟩
-- part prime_prog
def rIsqrt : List V → Hp → VK → Prop := fun vs H Q => ∃ a : Int, vs = [.int a] ∧ 0 ≤ a ∧ a < 2 ^ 64 ∧ ∀ r : Int, 0 ≤ r → r * r ≤ a → a < (r + 1) * (r + 1) → Q (.int r) H
theorem cr_isqrt {X : Cx} : CallR X (.builtin "math.isqrt") rIsqrt := by
  intro pins s σ H vs us Q I r h
  obtain ⟨a, rfl, h0, h1, q⟩ := h
  cases r with
  | cons r1 r2 =>
    cases r2
    obtain ⟨t, rfl⟩ := r1
    obtain ⟨s1, s2⟩ := Float64.isqrt_spec a.toNat
    refine PySem.W.mg_isqrt h0 h1 ⟨.int _, H, I.tok _, ⟨_, rfl⟩, q _ (Int.natCast_nonneg _) ?_ ?_⟩
    · have : ((Float64.isqrt a.toNat * Float64.isqrt a.toNat : Nat) : Int) ≤ ((a.toNat : Nat) : Int) := Int.ofNat_le.mpr s1
      rw [Int.natCast_mul, Int.toNat_of_nonneg h0] at this
      exact this
    · have : ((a.toNat : Nat) : Int) < (((Float64.isqrt a.toNat + 1) * (Float64.isqrt a.toNat + 1) : Nat) : Int) := Int.ofNat_lt.mpr s2
      rw [Int.natCast_mul, Int.natCast_add, Int.toNat_of_nonneg h0] at this
      exact this
abbrev s_least : Stmt := top 12
theorem sc_least : FnScope ["n", "d"] ["n"] (defScope s_least) := ⟨rfl, rfl, rfl, by decide +kernel, rfl, by decide +kernel, by decide +kernel⟩
def spLeast : Sp := fun vs H Q _ => ∃ n : Int, vs = [.int n] ∧ 2 ≤ n ∧ n < 2 ^ 62 ∧ ∀ r, Least n r → Q (.int r) H
theorem rgc_two {j : Int} (h0 : 0 ≤ j) (h1 : j < 2 ^ 62) : RgC 3 j 2 (if 3 < j then ((j - 3 - 1) / 2 + 1).toNat else 0) := by
  refine ⟨by decide, by decide, ?_, ?_⟩
  · unfold Builtin.Range.small Builtin.Range.rangeSize
    simp only [Builtin.Range.rangeFitsLong, Bool.and_eq_true, Bool.or_eq_true, decide_eq_true_eq, beq_iff_eq, show ((2 : Int) > 0) by decide, if_true]
    split <;> omega
  · unfold Builtin.Range.rangeSize
    rw [if_pos (by decide)]
    split <;> omega
theorem root_lt {r n : Int} (h0 : 0 ≤ r) (h : r * r ≤ n) (hn : n < 2 ^ 62) : r + 1 < 2 ^ 62 := by
  by_cases c : r < 2 ^ 32
  · omega
  · have : (2 ^ 32 : Int) * 2 ^ 32 ≤ r * r := Int.mul_le_mul (by omega) (by omega) (by decide) h0
    omega
theorem ok_least {f : Addr} {fd : FuncData} (T : Txt mg) (hsq : mg "isqrt" = some (.builtin "math.isqrt")) (F : Fun K "_least_divisor" "_least_divisor" s_least f fd) : FnOk P w K mg base CX0 1 f fd ["n"] spLeast := by
  refine F.ok sc_least (fun vs H Q E h => ?_) (fun cdv A outer s H vs Q E hr h => ?_)
  · obtain ⟨n, rfl, _⟩ := h
    rfl
  · obtain ⟨n, rfl, h2, hb, q⟩ := h
    refine ⟨_, (pss_cons (ps_if (pt_cmpR op_eq (pe_op op_mod (pv 0) pe_int) pe_int (nomark _)) (pss_one (ps_ret pe_int)) pss_nil)
 (pss_cons (ps_for PassesOwn.never rfl (pi_range3 rfl T.range (pa_cons pe_int (pa_cons (pe_op op_add (pe_callBfun cr_isqrt (by rfl) hsq (pa_cons (pv 0) pa_nil)) pe_int) (pa_cons pe_int pa_nil)))) (pg_name (i := 1) sc_least.nd rfl (Or.inl rfl)) (pss_one (ps_if (pt_cmpR op_eq (pe_op op_mod (pv 0) (pv 1)) pe_int (nomark _)) (pss_one (ps_ret (pv 1))) pss_nil)))
 (pss_one (ps_ret (pv 0))))), ?_⟩
    refine ⟨_, rfl, _, _, rfl, rfl, (by show (0 : Int) < 2; decide), rfl, _, rfl, ?_⟩
    by_cases c : (2 : Int) ∣ n
    · refine if_pos_of (decide_eq_true (congrArg V.int (Int.emod_eq_zero_of_dvd c))) ?_
      exact q _ (least_two c)
    · refine if_neg_of (decide_eq_false fun e => c (Int.dvd_of_emod_eq_zero (V.int.inj e))) ?_
      refine ⟨_, rfl, n, rfl, by omega, by omega, fun r r0 r1 r2 => ⟨_, _, rfl, rfl, 3, r + 1, 2, _, rfl, rgc_two (by omega) (root_lt r0 r1 hb), ?_⟩⟩
      refine for_rangeC (lo := 3) (c := 2) (fun i σ H' => H' = H ∧ ∃ x, σ = [some (.int n), x] ∧ ∀ j : Nat, j < i → ¬ (3 + (j : Int) * 2) ∣ n) ⟨rfl, _, rfl, fun j hj => absurd hj (Nat.not_lt_zero j)⟩ ?_ ?_
      · rintro i σ _ hi ⟨rfl, x, rfl, hx⟩
        refine ⟨_, rfl, _, rfl, _, _, rfl, rfl, (by show (0 : Int) < 3 + ((i : Nat) : Int) * 2; omega), rfl, _, rfl, ?_⟩
        by_cases c3 : (3 + (i : Int) * 2) ∣ n
        · refine if_pos_of (decide_eq_true (congrArg V.int (Int.emod_eq_zero_of_dvd c3))) ?_
          exact ⟨_, rfl, q _ (least_at c c3 hx)⟩
        · refine if_neg_of (decide_eq_false fun e => c3 (Int.dvd_of_emod_eq_zero (V.int.inj e))) ?_
          refine ⟨rfl, _, rfl, fun j hj => ?_⟩
          by_cases e : j = i
          · rw [e]
            exact c3
          · exact hx j (by omega)
      · rintro σ _ ⟨rfl, x, rfl, hx⟩
        refine ⟨_, rfl, q _ (least_of_odd h2 c r0 r2 fun i hi => hx i ?_)⟩
        split <;> omega
abbrev s_prime : Stmt := top 13
theorem sc_prime : FnScope ["n"] ["n"] (defScope s_prime) := ⟨rfl, rfl, rfl, by decide +kernel, rfl, by decide +kernel, by decide +kernel⟩
def spPrime : Sp := fun vs H Q _ => ∃ n : Int, vs = [.int n] ∧ n < 2 ^ 62 ∧ Q (.bl (prB n)) H
theorem ok_prime {f : Addr} {fd : FuncData} (F : Fun K "is_prime" "is_prime" s_prime f fd) (c_least : Cl P w K mg base CX0 1 "_least_divisor" spLeast) : FnOk P w K mg base CX0 2 f fd ["n"] spPrime := by
  refine F.ok sc_prime (fun vs H Q E h => ?_) (fun cdv A outer s H vs Q E hr h => ?_)
  · obtain ⟨n, rfl, _⟩ := h
    rfl
  · obtain ⟨n, rfl, hb, q⟩ := h
    refine ⟨_, (pss_one (ps_ret (pe_and (pe_cmpR op_gt (pv 0) pe_int (nomark _)) (pe_one (pe_cmpR op_eq (pe_cl c_least hr (pa_cons (pv 0) pa_nil)) (pv 0) (nomark _)))))), ?_⟩
    refine ⟨_, rfl, _, _, rfl, rfl, _, rfl, ?_⟩
    by_cases c : 1 < n
    · refine if_pos_of (decide_eq_true c) ?_
      refine ⟨_, rfl, n, rfl, by omega, hb, fun r hl => ⟨_, rfl, rfl, ?_⟩⟩
      have e : decide (V.int r = V.int n) = prB n := by
        by_cases p : Pr n
        · rw [prB_true p, (hl.self (by omega)).mpr p]
          exact decide_eq_true rfl
        · rw [prB_false p]
          exact decide_eq_false fun e => p ((hl.self (by omega)).mp (V.int.inj e))
      show Q (.bl (decide (V.int r = V.int n))) H
      rw [e]
      exact q
    · refine if_neg_of (decide_eq_false c) ?_
      have e : prB n = false := prB_false fun p => c (by have := p.1; omega)
      rw [e] at q
      exact q
-- part ibc
abbrev s_ibc : Stmt := inClass (top 5) 0
theorem sc_ibc : FnScope ["self", "p"] ["self", "p"] (defScope s_ibc) := ⟨rfl, rfl, rfl, by decide +kernel, rfl, by decide +kernel, by decide +kernel⟩
theorem ok_ibc {f C CF : Addr} {fd : FuncData} (TF : FErr K mg CF) (hC : OexC K C) (hno : PySem.W.findIn K (.ref C) "p" = some none) (F : Fun K "__init__" "BadCharacteristic.__init__" s_ibc f fd) : FnOk P w K mg base CX0 1 f fd ["self", "p"] (spInit C "p") := by
  refine F.ok sc_ibc (fun vs H Q E h => ?_) (fun cdv A outer s H vs Q E hr h => ?_)
  · obtain ⟨a, v, rfl, _⟩ := h
    rfl
  · obtain ⟨a, v, rfl, ha, q⟩ := h
    refine ⟨_, (pss_cons (ps_expr (pe_feinit TF (pa_cons (pv 0) (pa_cons pe_str pa_nil))))
 (pss_one (ps_ost (pv 0) (pv 1)))), ?_⟩
    refine ⟨_, rfl, a, C, _, rfl, (by show 1 ≤ 1000; decide), hC, ha, ?_⟩
    exact ⟨_, rfl, _, rfl, a, C, rfl, hC, hno, .inl ⟨ha, fun dx hn hne => q dx hn hne⟩⟩
-- part divs
abbrev s_ibn : Stmt := inClass (top 4) 0
theorem sc_ibn : FnScope ["self", "n"] ["self", "n"] (defScope s_ibn) := ⟨rfl, rfl, rfl, by decide +kernel, rfl, by decide +kernel, by decide +kernel⟩
theorem ok_ibn {f C CF : Addr} {fd : FuncData} (TF : FErr K mg CF) (hC : OexC K C) (hno : PySem.W.findIn K (.ref C) "n" = some none) (F : Fun K "__init__" "BadNumber.__init__" s_ibn f fd) : FnOk P w K mg base CX0 1 f fd ["self", "n"] (spInit C "n") := by
  refine F.ok sc_ibn (fun vs H Q E h => ?_) (fun cdv A outer s H vs Q E hr h => ?_)
  · obtain ⟨a, v, rfl, _⟩ := h
    rfl
  · obtain ⟨a, v, rfl, ha, q⟩ := h
    refine ⟨_, (pss_cons (ps_expr (pe_feinit TF (pa_cons (pv 0) (pa_cons pe_str pa_nil))))
 (pss_one (ps_ost (pv 0) (pv 1)))), ?_⟩
    refine ⟨_, rfl, a, C, _, rfl, (by show 1 ≤ 1000; decide), hC, ha, ?_⟩
    exact ⟨_, rfl, _, rfl, a, C, rfl, hC, hno, .inl ⟨ha, fun dx hn hne => q dx hn hne⟩⟩
abbrev s_divs : Stmt := top 14
theorem sc_divs : FnScope ["n", "found", "rest", "p"] ["n"] (defScope s_divs) := ⟨rfl, rfl, rfl, by decide +kernel, rfl, by decide +kernel, by decide +kernel⟩
def absI (n : Int) : Int := if n < 0 then -n else n
def spDivs (C : Addr) : Sp := fun vs H Q E => ∃ n : Int, vs = [.int n] ∧ absI n < 2 ^ 62 ∧ (n = 0 → ∀ d H', Same H H' → H' d = some (.xd [("n", .int n)]) → E (.ref C) (some d) H') ∧
  (n ≠ 0 → ∀ (l : List Int) (a : Addr) (H' : Hp), PD (absI n) l → l.length < 62 → (2 : Int) ^ l.length ≤ absI n → Same H H' → H a = none → H' a = some (.lst (l.map V.int)) → Q (.ref a) H')
theorem ok_divs {f C : Addr} {fd : FuncData} (T : Txt mg) (F : Fun K "prime_divisors" "prime_divisors" s_divs f fd) (c_least : Cl P w K mg base CX0 1 "_least_divisor" spLeast) (x_bn : Er P w K mg base "BadNumber" "n" C) : FnOk P w K mg base (L2N.CX P w) 3 f fd ["n"] (spDivs C) := by
  refine okN F sc_divs (fun vs H Q E h => ?_) (fun cdv A outer s H vs Q E hr h => ?_)
  · obtain ⟨n, rfl, _⟩ := h
    rfl
  · obtain ⟨n, rfl, hb, e0, q⟩ := h
    refine ⟨_, (pss_cons (ps_if (pt_cmpR op_eq (pv 0) pe_int (nomark _)) (pss_one (ps_raise1N x_bn hr (L2N.takes_of rfl rfl rfl rfl) (pa_cons (pv 0) pa_nil))) pss_nil)
 (pss_cons (ps_set (i := 1) sc_divs.nd rfl (Or.inl rfl) (pe_lst pa_nil))
 (pss_cons (ps_set (i := 2) sc_divs.nd rfl (Or.inl rfl) (pe_callB call_abs (by rfl) T.abs boot_abs (pa_cons (pv 0) pa_nil)))
 (pss_cons (ps_while (passes_of rfl) (pt_cmpR op_gt (pv 2) pe_int (nomark _)) (pss_cons (ps_set (i := 3) sc_divs.nd rfl (Or.inl rfl) (pe_cl c_least hr (pa_cons (pv 2) pa_nil)))
 (pss_cons (ps_expr (pe_bm PySem.F.plainAttrs_list PySem.F.slot_list_append PySem.F.type_list_append mt_append (pv 1) (pa_cons (pv 3) pa_nil)))
 (pss_one (ps_while (passes_of rfl) (pt_cmpR op_eq (pe_op op_mod (pv 2) (pv 3)) pe_int (nomark _)) (pss_one (ps_set (i := 2) sc_divs.nd rfl (Or.inl rfl) (pe_op op_fdivW (pv 2) (pv 3)))))))))
 (pss_one (ps_ret (pv 1))))))), ?_⟩
    refine ⟨_, rfl, rfl, _, rfl, ?_⟩
    by_cases c : n = 0
    · refine if_pos_of (by simp [c]) ?_
      refine ⟨_, rfl, ?_⟩
      exact mk1 fun d H2 s _ hd => e0 c d H2 s hd
    · refine if_neg_of (by simp [c]) ?_
      refine ⟨(by show 0 ≤ sizeLine; decide), fun a ha => ⟨_, rfl, _, rfl, ?_⟩⟩
      have hN : 1 ≤ absI n := by unfold absI; split <;> omega
      have q' := q c
      generalize hM : absI n = m at *
      have hM' : (if n < 0 then -n else n) = m := hM
      refine while_by (fun σ H' => ∃ (fs : List Int) (r d : Int) (x : Option V), σ = [some (.int n), some (.ref a), some (.int r), x] ∧ Fac m fs r d ∧ H' a = some (.lst (fs.map V.int)) ∧ Same H H') (fun σ _ => match σ[2]? with | some (some (V.int r)) => r.toNat | _ => 0)
        ⟨[], m, 2, none, by rw [← hM'] <;> rfl, fac0 hN, upd_same, same_upd ha⟩ ?_ ?_
      · rintro σ H1 ⟨fs, r, d, x, rfl, I, ha1, s1⟩
        have hrm : r ≤ m := Int.le_of_dvd (by omega) I.dv
        refine ⟨_, rfl, _, _, rfl, rfl, _, rfl, ?_⟩
        by_cases c1 : 1 < r
        · refine if_pos_of (decide_eq_true c1) ?_
          refine ⟨_, rfl, r, rfl, by omega, by omega, fun p hp => ?_⟩
          have pp := hp.pr
          have p2 := pp.1
          have pr := hp.le (by omega)
          refine ⟨_, rfl, .inl ⟨rfl, _, SqL.of ha1⟩, _, rfl, a, _, _, rfl, rfl, ha1, (by rw [List.length_map]; exact small1000 (by have := fac_len I hb; omega)), ?_⟩
          refine while_by (fun σ H' => H' = upd H1 a (.lst ((fs ++ [p]).map V.int)) ∧ ∃ r' : Int, σ = [some (.int n), some (.ref a), some (.int r'), some (.int p)] ∧ Tak r p r') (fun σ _ => match σ[2]? with | some (some (V.int r)) => r.toNat | _ => 0)
            ⟨by rw [List.map_append] <;> rfl, r, rfl, tak0 (by omega)⟩ ?_ ?_
          · rintro σ _ ⟨rfl, r', rfl, J⟩
            have jp := J.pos
            refine ⟨_, rfl, _, rfl, _, _, rfl, rfl, (by show 0 < p; omega), rfl, _, rfl, ?_⟩
            by_cases c2 : p ∣ r'
            · refine if_pos_of (decide_eq_true (congrArg V.int (Int.emod_eq_zero_of_dvd c2))) ?_
              have st := tak_step pp J c2
              refine ⟨_, rfl, _, rfl, _, _, rfl, rfl, ⟨by omega, PySem.Flt.log2_lt_of (by decide) (show p.natAbs < 2 ^ 9000 from Nat.lt_of_lt_of_le (show p.natAbs < 2 ^ 62 by omega) (Nat.pow_le_pow_right (by decide) (by decide)))⟩, ⟨rfl, r' / p, rfl, st.1⟩, ?_⟩
              have := st.1.pos
              show (r' / p).toNat < r'.toNat
              omega
            · refine if_neg_of (decide_eq_false fun e => c2 (Int.dvd_of_emod_eq_zero (V.int.inj e))) ?_
              have st := fac_step I pp hp.dvd J c2 fun q hq hd => by
                by_cases z : q < p
                · exact absurd hd (hp.min q hq.1 z)
                · omega
              refine ⟨⟨fs ++ [p], r', p + 1, _, rfl, st.1, upd_same, fun b o e => ?_⟩, ?_⟩
              · rw [upd_ne (ne_of_none e ha)]
                exact s1 b o e
              · show r'.toNat < r.toNat
                have := st.2
                omega
          · rintro σ H1 Q1 Q2 h ⟨v, e1, v2, e2, i, j, e3, e4, hc, e5, k, e6, qq⟩
            exact ⟨v, e1, v2, e2, i, j, e3, e4, hc, e5, k, e6, h _ _ qq⟩
        · refine if_neg_of (decide_eq_false c1) ?_
          have hr1 : r = 1 := by have := I.pos; omega
          subst hr1
          exact ⟨_, rfl, q' fs a H1 (fac_end I) (fac_len I hb) (by have := I.len; omega) s1 ha ha1⟩
      · rintro σ H1 Q1 Q2 h ⟨v, e1, i, j, e3, e4, k, e6, qq⟩
        exact ⟨v, e1, i, j, e3, e4, k, e6, h _ _ qq⟩
/-- within an except suite: of 1 and -1 -/
def spDivs1 : Sp := fun vs H Q _ => ∃ n : Int, vs = [.int n] ∧ (n = 1 ∨ n = -1) ∧ ∀ a H', Same H H' → H a = none → H' a = some (.lst []) → Q (.ref a) H'
theorem hot_divs {f : Addr} {fd : FuncData} (T : Txt mg) (F : Fun K "prime_divisors" "prime_divisors" s_divs f fd) : L2H.FnH P w K mg base CX0 1 f fd ["n"] spDivs1 := by
  obtain ⟨oc, od, kV, doc, pm, an, cdv, ct, osl, rfl, lk, hcd⟩ := F.ex
  refine L2H.fn_ofH lk hcd sc_divs (fun vs H Q E h => ?_) fun A outer s H vs Q E p hot hr h => ?_
  · obtain ⟨n, rfl, _⟩ := h
    rfl
  · obtain ⟨n, rfl, hn, q⟩ := h
    refine ⟨_, (pss_cons (ps_if (pt_cmpR op_eq (pv 0) pe_int (nomark _)) pss_never pss_nil)
      (pss_cons (ps_set (i := 1) sc_divs.nd rfl (Or.inl rfl) (pe_lst pa_nil))
      (pss_cons (ps_set (i := 2) sc_divs.nd rfl (Or.inl rfl) (pe_callB call_abs (by rfl) T.abs boot_abs (pa_cons (pv 0) pa_nil)))
      (pss_cons (ps_while (passes_of rfl) (pt_cmpR op_gt (pv 2) pe_int (nomark _)) pss_never) (pss_one (ps_ret (pv 1))))))), ?_⟩
    refine ⟨_, rfl, rfl, _, rfl, if_neg_of (decide_eq_false fun e => by have := V.int.inj e; omega) ?_⟩
    refine ⟨(by show 0 ≤ sizeLine; decide), fun a ha => ⟨_, rfl, _, rfl, ?_⟩⟩
    have h1 : (if n < 0 then -n else n) = 1 := by split <;> omega
    refine while_by (fun σ H' => σ = [some (.int n), some (.ref a), some (.int 1), none] ∧ H' = upd H a (.lst [])) (fun _ _ => 0) ⟨by rw [← h1] <;> rfl, rfl⟩ ?_ ?_
    · rintro σ _ ⟨rfl, rfl⟩
      refine ⟨_, rfl, _, _, rfl, rfl, _, rfl, if_neg_of rfl ?_⟩
      exact ⟨_, rfl, q a _ (same_upd ha) ha upd_same⟩
    · rintro σ H1 Q1 Q2 h ⟨v, e1, i, j, e3, e4, k, e6, qq⟩
      exact ⟨v, e1, i, j, e3, e4, k, e6, h _ _ qq⟩
-- part lpf
theorem pr_of_trials {n k : Int} (hn : 2 ≤ n) (hk : 2 ≤ k) (hs : n < k * k) (hm : ∀ m : Int, 2 ≤ m → m < k → ¬ m ∣ n) : Pr n := by
  refine ⟨hn, fun m h1 h2 h3 => ?_⟩
  obtain ⟨d, d2, ds, _, dn⟩ := small_div (n := n) (s := k - 1) hn h1 h2 h3 (by omega) (by rw [Int.sub_add_cancel]; exact hs)
  exact hm d d2 (by omega) dn
theorem root_le {k n : Int} (hk : 2 ≤ k) (h : k * k ≤ n) : k < n ∧ 2 * k ≤ n := by
  have : 2 * k ≤ k * k := Int.mul_le_mul_of_nonneg_right hk (by omega)
  omega
-- part chars1
open PySem.Sem (wp) in
theorem meets_bool_tup (l : Addr) (items : Array Value) (fit : (items.size : Int) < 2 ^ 63) :
    Meets (Builtin.«bool.__new__» ⟨[.type "bool", .ref l], []⟩) (fun _ R s => IsTup s.heap l items ∧ R (.ok (.ret (.bool (!items.isEmpty)))) { s with toks := s.toks + 1 + 1 }) :=
  Meets.of_wp fun prog w A R s hs => by
    obtain ⟨hl, hs⟩ := hs
    obtain ⟨hp, g, d, tk, os⟩ := s
    have no_bool := F.conv_sub_bool
    repeat (any_goals (first | assumption | (with_reducible refine truthy_tuple hl fit ?_) | wp_step))
    all_goals first | exact ⟨_, rfl, hs⟩ | exact hs | skip
/-- bool(x): a bool, or a tuple -/
def rBoolT (K : PySem.W.Frag) : List V → Hp → VK → Prop := fun xs H Q => (∃ k, xs = [.bl k] ∧ Q (.bl k) H) ∨ ∃ (a : Addr) (zs : List V), xs = [.ref a] ∧ SqT K H a zs ∧ Q (.bl (!zs.isEmpty)) H
theorem cr_boolT {X : Cx} : CallR X (.type "bool") (rBoolT X.K) := by
  intro pins s σ H xs us Q I r h
  rcases h with ⟨k, rfl, q⟩ | ⟨a, zs, rfl, hq, q⟩
  · exact call_bool1 pins s σ H _ us Q I r (.inr ⟨k, rfl, q⟩)
  · obtain rfl := Vals.ref1 r
    obtain ⟨its, rv, pl, hz⟩ := I.tuple hq
    have hl := line63
    have hlen := rv.length
    have e : its.toArray.isEmpty = zs.isEmpty := by
      cases zs with
      | nil =>
        cases rv
        rfl
      | cons z zs =>
        cases rv
        rfl
    refine call_bool_1 (meets_bool_tup a its.toArray (by simp only [List.size_toArray]; omega)) ⟨pl, rfl, ?_⟩
    exact ⟨.bl (!zs.isEmpty), H, I.tok _, by rw [e]; rfl, q⟩
-- part chars2
theorem chE : ¬ (("endless" : Str) = "primes") := by decide +kernel
/-- the attributes, in the order in which __init__ stores them -/
def chF (e : Bool) (t : Addr) : List (Str × V) := putF "primes" (.ref t) (putF "endless" (.bl e) [])
theorem chF_e (e : Bool) (t : Addr) : (chF e t).lookup ("endless" : Str) = some (.bl e) := by
  unfold chF
  rw [lookup_putF, if_neg chE, lookup_putF, if_pos rfl]
theorem chF_p (e : Bool) (t : Addr) : (chF e t).lookup ("primes" : Str) = some (.ref t) := by
  unfold chF
  rw [lookup_putF, if_pos rfl]
theorem chF_no (e : Bool) (t : Addr) {m : Str} (h1 : ¬ m = "primes") (h2 : ¬ m = "endless") : (chF e t).lookup m = none := by
  unfold chF
  rw [lookup_putF, if_neg h1, lookup_putF, if_neg h2]
  all_goals rfl
/-- a set of characteristics stands at a -/
structure CharsAt (C : Addr) (H : Hp) (a : Addr) (e : Bool) (l : List Int) : Prop where
  ob : ∃ dx t, H a = some (.ins C dx (chF e t)) ∧ H t = some (.tup (l.map V.int))
  srt : l.Pairwise (· < ·)
  prm : ∀ q ∈ l, Pr q ∧ q < 2 ^ 62
theorem CharsAt.same {C : Addr} {H H' : Hp} {a : Addr} {e : Bool} {l : List Int} (h : CharsAt C H a e l) (s : Same H H') : CharsAt C H' a e l := by
  obtain ⟨dx, t, h1, h2⟩ := h.ob
  exact ⟨⟨dx, t, s _ _ h1, s _ _ h2⟩, h.srt, h.prm⟩
/-- is p in the set -/
def memB (e : Bool) (l : List Int) (p : Int) : Bool := if e = true then !decide (p ∈ l) else decide (p ∈ l)
/-- what is told of the class -/
structure ChT (K : PySem.W.Frag) (mg : Str → Option Value) (C : Addr) : Prop where
  g : mg "Chars" = some (.ref C)
  cl : Cls K C
  nE : NoAttr K C "endless"
  nP : NoAttr K C "primes"
  sf : PySem.W.selfFirst K C = true
  isC : C8.InsC K C
abbrev s_cinit : Stmt := inClass (top 26) 0
theorem sc_cinit : FnScope ["self", "endless", "primes", "p"] ["self", "endless", "primes"] (defScope s_cinit) := ⟨rfl, rfl, rfl, by decide +kernel, rfl, by decide +kernel, by decide +kernel⟩
def spCI (C CB : Addr) (tup : Bool) (K : PySem.W.Frag) : Sp := fun vs H Q E => ∃ (x dx a : Addr) (e : Bool) (ns : List Int), vs = [.ref x, .bl e, .ref a] ∧ H x = some (.ins C dx []) ∧ (if tup = true then SqT K H a (ns.map V.int) else SqL K H a (ns.map V.int)) ∧
  (∀ q ∈ ns, q < 2 ^ 62) ∧ ns.length < 64 ∧
  ((∀ q ∈ ns, Pr q) → ∀ (l : List Int) (H' : Hp), (∀ q, q ∈ l ↔ q ∈ ns) → l.length ≤ ns.length → CharsAt C H' x e l → (∀ b o, H b = some o → b ≠ x → H' b = some o) → Q .non H') ∧
  (∀ (i : Nat) (b : Int), ns[i]? = some b → ¬ Pr b → (∀ (j : Nat) (q : Int), j < i → ns[j]? = some q → Pr q) → ∀ d H', Same H H' → H' d = some (.xd [("p", .int b)]) → E (.ref CB) (some d) H')
theorem cinit_end {C CB : Addr} {mg : Str → Option Value} {K : PySem.W.Frag} (T : ChT K mg C) {H : Hp} {x dx a : Addr} {e : Bool} {ns : List Int} {Q : VK} {y3 : Option V} (hx : H x = some (.ins C dx [])) (hS : SqL K H a (ns.map V.int) ∨ SqT K H a (ns.map V.int)) (few : ns.length < 64) (hp : ∀ q ∈ ns, Pr q ∧ q < 2 ^ 62)
    (q : ∀ (l : List Int) (H' : Hp), (∀ q, q ∈ l ↔ q ∈ ns) → l.length ≤ ns.length → CharsAt C H' x e l → (∀ b o, H b = some o → b ≠ x → H' b = some o) → Q .non H') :
    tSeq (sFld K (tVar 0) (tVar 1) "endless") (sFld K (tVar 0) (tThen (tCB (rSortedSet w) (tCons (tCB (rSetInts K w) (tCons (tVar 2) tNil)) tNil)) (kTup K)) "primes") { nx := fun _ H' => Q .non H', rt := Q } [some (.ref x), some (.bl e), some (.ref a), y3] H := by
  have hxa : x ≠ a ∨ True := .inr trivial
  refine ⟨_, rfl, _, rfl, x, C, dx, [], rfl, hx, T.cl, T.nE, (by show 0 < 1000; decide), ?_⟩
  have hS1 : SqL K (upd H x (.ins C dx (putF "endless" (.bl e) []))) a (ns.map V.int) ∨ SqT K (upd H x (.ins C dx (putF "endless" (.bl e) []))) a (ns.map V.int) := by
    rcases hS with h | h
    · refine .inl ?_
      rcases h with h | h
      · rcases h with h | ⟨o, h⟩
        · exact .inl (.inl (by rw [upd_ne (fun z => by rw [z, hx] at h; cases h)]; exact h))
        · exact .inl (.inr ⟨o, by rw [upd_ne (fun z => by rw [z, hx] at h; cases h)]; exact h⟩)
      · exact .inr h
    · refine .inr ?_
      rcases h with h | h
      · rcases h with h | ⟨o, h⟩
        · exact .inl (.inl (by rw [upd_ne (fun z => by rw [z, hx] at h; cases h)]; exact h))
        · exact .inl (.inr ⟨o, by rw [upd_ne (fun z => by rw [z, hx] at h; cases h)]; exact h⟩)
      · exact .inr h
  refine ⟨_, rfl, a, ns, rfl, hS1, (by omega), fun p c np hc => ?_⟩
  refine ⟨p, _, c, rfl, upd_same, (by omega), fun l p2 srt mem len np2 => ?_⟩
  have npx : p ≠ x := fun z => by
    rw [z, upd_same] at np
    cases np
  refine .inl ⟨p2, _, rfl, SqL.of upd_same, fun t nt => ?_⟩
  have g1 := same_upd (o := SetO w p (fun j => decide (j ∈ ns)) c) np
  have g2 := same_upd (o := .lst (l.map V.int)) np2
  have g3 := same_upd (o := .tup (l.map V.int)) nt
  have hx3 := g3 _ _ (g2 _ _ (g1 _ _ (upd_same (H := H) (a := x) (o := .ins C dx (putF "endless" (.bl e) [])))))
  refine ⟨_, rfl, x, C, dx, _, rfl, hx3, T.cl, T.nP, (by show 1 < 1000; decide), ?_⟩
  have ntx : t ≠ x := fun z => by
    rw [z] at nt
    rw [g2 _ _ (g1 _ _ (upd_same (H := H) (a := x) (o := .ins C dx (putF "endless" (.bl e) []))))] at nt
    cases nt
  refine q l _ (fun z => by rw [mem z]; exact decide_eq_true_iff) (by omega) ⟨⟨dx, t, upd_same, by rw [upd_ne ntx]; exact upd_same⟩, srt, fun z hz => hp z (of_decide_eq_true ((mem z).mp hz))⟩ fun b o hb hbx => ?_
  rw [upd_ne hbx]
  refine g3 _ _ (g2 _ _ (g1 _ _ ?_))
  rw [upd_ne hbx]
  exact hb
theorem ok_cinit {f C CB : Addr} {fd : FuncData} (tup : Bool) (TT : Txt mg) (T : ChT K mg C) (F : Fun K "__init__" "Chars.__init__" s_cinit f fd) (c_prime : Cl P w K mg base CX0 2 "is_prime" spPrime) (x_bc : Er P w K mg base "BadCharacteristic" "p" CB) : FnOk P w K mg base (L2N.CX P w) 3 f fd ["self", "endless", "primes"] (spCI C CB tup K) := by
  refine okN F sc_cinit (fun vs H Q E h => ?_) (fun cdv A outer s H vs Q E hr h => ?_)
  · obtain ⟨x, dx, a, e, ns, rfl, _⟩ := h
    rfl
  · obtain ⟨x, dx, a, e, ns, rfl, hx, hS, hb, few, q, qe⟩ := h
    have turn : ∀ (i : Nat) (y : V), (ns.map V.int)[i]? = some y → ∃ z : Int, y = .int z ∧ ns[i]? = some z ∧ z < 2 ^ 62 := fun i y hi => by
      rw [List.getElem?_map] at hi
      cases e : ns[i]? with
      | none =>
        rw [e] at hi
        cases hi
      | some z =>
        rw [e] at hi
        exact ⟨z, (Option.some.inj hi).symm, rfl, hb z (List.mem_of_getElem? e)⟩
    have all : (∀ (j : Nat) (q : Int), j < (ns.map V.int).length → ns[j]? = some q → Pr q) → ∀ q ∈ ns, Pr q := fun h q hq => by
      obtain ⟨j, hj⟩ := List.mem_iff_getElem?.mp hq
      exact h j q (by rw [List.length_map]; exact (List.getElem?_eq_some_iff.mp hj).1) hj
    cases tup with
    | false =>
      refine ⟨_, (pss_cons (ps_for (passes_of rfl) rfl (pi_list (pv 2)) (pg_name (i := 3) sc_cinit.nd rfl (Or.inl rfl)) (pss_one (ps_if (pt_not (pt_val (pe_cl c_prime hr (pa_cons (pv 3) pa_nil)))) (pss_one (ps_raise1N x_bc hr (L2N.takes_of rfl rfl rfl rfl) (pa_cons (pv 3) pa_nil))) pss_nil)))
 (pss_cons (ps_fld (pv 0) (pv 1) rfl)
 (pss_one (ps_fld (pv 0) (pe_tupleOf (by rfl) TT.tuple (pe_callB (cr_sortedSet rfl) (by rfl) TT.sorted boot_sorted (pa_cons (pe_callTy (cr_setInts rfl) (by rfl) TT.set boot_set (pa_cons (pv 2) pa_nil)) pa_nil))) rfl)))), ?_⟩
      have hS' : SqL K H a (ns.map V.int) := hS
      refine ⟨_, rfl, a, rfl, ⟨_, hS'⟩, for_list (K := K) (a := a) (xs := ns.map V.int) (fun i σ H' => H' = H ∧ (∃ y3, σ = [some (.ref x), some (.bl e), some (.ref a), y3]) ∧ ∀ (j : Nat) (q : Int), j < i → ns[j]? = some q → Pr q)
        ⟨rfl, ⟨none, rfl⟩, fun j q hj => absurd hj (Nat.not_lt_zero j)⟩ (fun i σ H' _ h => by rw [h.1]; exact hS') ?_ ?_⟩
      · rintro i y σ _ hi ⟨rfl, ⟨y3, rfl⟩, hp⟩
        obtain ⟨z, rfl, hz, hzb⟩ := turn i y hi
        refine ⟨_, rfl, z, rfl, hzb, _, rfl, ?_⟩
        by_cases c : Pr z
        · refine if_neg_of (by rw [prB_true c]; rfl) ?_
          refine ⟨rfl, ⟨_, rfl⟩, fun j q hj hq => ?_⟩
          by_cases ej : j = i
          · rw [ej, hz] at hq
            rw [← Option.some.inj hq]
            exact c
          · exact hp j q (by omega) hq
        · refine if_pos_of (by rw [prB_false c]; rfl) ?_
          refine ⟨_, rfl, ?_⟩
          exact mk1 fun d H2 s _ hd => qe i z hz c hp d H2 s hd
      · rintro σ _ ⟨rfl, ⟨y3, rfl⟩, hp⟩
        exact cinit_end (w := w) (CB := CB) T hx (.inl hS') few (fun z hz => ⟨all hp z hz, hb z hz⟩) (q (all hp))
    | true =>
      refine ⟨_, (pss_cons (ps_for (passes_of rfl) rfl (pi_tup (pv 2)) (pg_name (i := 3) sc_cinit.nd rfl (Or.inl rfl)) (pss_one (ps_if (pt_not (pt_val (pe_cl c_prime hr (pa_cons (pv 3) pa_nil)))) (pss_one (ps_raise1N x_bc hr (L2N.takes_of rfl rfl rfl rfl) (pa_cons (pv 3) pa_nil))) pss_nil)))
 (pss_cons (ps_fld (pv 0) (pv 1) rfl)
 (pss_one (ps_fld (pv 0) (pe_tupleOf (by rfl) TT.tuple (pe_callB (cr_sortedSet rfl) (by rfl) TT.sorted boot_sorted (pa_cons (pe_callTy (cr_setInts rfl) (by rfl) TT.set boot_set (pa_cons (pv 2) pa_nil)) pa_nil))) rfl)))), ?_⟩
      have hS' : SqT K H a (ns.map V.int) := hS
      refine ⟨_, rfl, a, rfl, ⟨_, hS'⟩, for_tup (K := K) (a := a) (xs := ns.map V.int) (fun i σ H' => H' = H ∧ (∃ y3, σ = [some (.ref x), some (.bl e), some (.ref a), y3]) ∧ ∀ (j : Nat) (q : Int), j < i → ns[j]? = some q → Pr q)
        ⟨rfl, ⟨none, rfl⟩, fun j q hj => absurd hj (Nat.not_lt_zero j)⟩ (fun i σ H' _ h => by rw [h.1]; exact hS') ?_ ?_⟩
      · rintro i y σ _ hi ⟨rfl, ⟨y3, rfl⟩, hp⟩
        obtain ⟨z, rfl, hz, hzb⟩ := turn i y hi
        refine ⟨_, rfl, z, rfl, hzb, _, rfl, ?_⟩
        by_cases c : Pr z
        · refine if_neg_of (by rw [prB_true c]; rfl) ?_
          refine ⟨rfl, ⟨_, rfl⟩, fun j q hj hq => ?_⟩
          by_cases ej : j = i
          · rw [ej, hz] at hq
            rw [← Option.some.inj hq]
            exact c
          · exact hp j q (by omega) hq
        · refine if_pos_of (by rw [prB_false c]; rfl) ?_
          refine ⟨_, rfl, ?_⟩
          exact mk1 fun d H2 s _ hd => qe i z hz c hp d H2 s hd
      · rintro σ _ ⟨rfl, ⟨y3, rfl⟩, hp⟩
        exact cinit_end (w := w) (CB := CB) T hx (.inr hS') few (fun z hz => ⟨all hp z hz, hb z hz⟩) (q (all hp))
-- part chars3
theorem make_ch {C CB : Addr} {tup : Bool} {H1 : Hp} {e : Bool} {a : Addr} {ns : List Int} {Q : VK} (hS : if tup = true then SqT K H1 a (ns.map V.int) else SqL K H1 a (ns.map V.int)) (hp : ∀ q ∈ ns, Pr q ∧ q < 2 ^ 62) (few : ns.length < 64)
    (k : ∀ (r : Addr) (l : List Int) (H2 : Hp), (∀ q, q ∈ l ↔ q ∈ ns) → l.length ≤ ns.length → CharsAt C H2 r e l → Same H1 H2 → Q (.ref r) H2) :
    ∀ x dx, H1 x = none → H1 dx = none → dx ≠ x → spCI C CB tup K (.ref x :: ([.bl e, .ref a] ++ [])) (upd (upd H1 dx (.own x)) x (.ins C dx [])) (fun v H2 => v = .non ∧ Q (.ref x) H2) E0 := by
  intro x dx hx hdx hne
  have s1 : Same H1 (upd (upd H1 dx (.own x)) x (.ins C dx [])) := fun b o eb => by
    rw [upd_ne (ne_of_none eb hx), upd_ne (ne_of_none eb hdx)]
    exact eb
  refine ⟨x, dx, a, e, ns, rfl, upd_same, ?_, fun q hq => (hp q hq).2, few, fun _ l H' mem len ch keep => ⟨rfl, k x l H' mem len ch fun b o eb => keep b o (s1 b o eb) (ne_of_none eb hx)⟩, fun i b hi hb _ => absurd (hp b (List.mem_of_getElem? hi)).1 hb⟩
  cases tup with
  | true =>
    have h : SqT K H1 a (ns.map V.int) := hS
    show SqT K _ a (ns.map V.int)
    exact Evl.ex_t s1 h
  | false =>
    have h : SqL K H1 a (ns.map V.int) := hS
    exact s1.seq h
theorem all_flat : ∀ l : List Int, (l.map V.int).all flatV = true
  | [] => rfl
  | a :: l => by
    rw [List.map_cons, List.all_cons, all_flat l]
    rfl
theorem inV_ints (p : Int) : ∀ l : List Int, inV (.int p) (l.map V.int) = decide (p ∈ l)
  | [] => by simp [inV]
  | a :: l => by
    have ih := inV_ints p l
    unfold inV at ih ⊢
    rw [List.map_cons, List.any_cons, ih]
    show (a == p || decide (p ∈ l)) = decide (p ∈ a :: l)
    by_cases c : a = p
    · subst c
      simp
    · have c2 : ¬ p = a := fun h => c h.symm
      simp [c, c2]
abbrev s_ccont : Stmt := inClass (top 26) 8
theorem sc_ccont : FnScope ["self", "p"] ["self", "p"] (defScope s_ccont) := ⟨rfl, rfl, rfl, by decide +kernel, rfl, by decide +kernel, by decide +kernel⟩
def spCont (C : Addr) : Sp := fun vs H Q _ => ∃ (a : Addr) (e : Bool) (l : List Int) (p : Int), vs = [.ref a, .int p] ∧ CharsAt C H a e l ∧ Q (.bl (memB e l p)) H
theorem ok_ccont {f C : Addr} {fd : FuncData} (T : ChT K mg C) (F : Fun K "__contains__" "Chars.__contains__" s_ccont f fd) : FnOk P w K mg base CX0 1 f fd ["self", "p"] (spCont C) := by
  refine F.ok sc_ccont (fun vs H Q E h => ?_) (fun cdv A outer s H vs Q E hr h => ?_)
  · obtain ⟨a, e, l, p, rfl, _⟩ := h
    rfl
  · obtain ⟨a, e, l, p, rfl, ch, q⟩ := h
    obtain ⟨dx, t, h1, h2⟩ := ch.ob
    refine ⟨_, (pss_cons (ps_if (pt_val (pe_fld (pv 0) rfl)) (pss_one (ps_ret (pe_cmpR op_notIn_seq (pv 1) (pe_fld (pv 0) rfl) (by with_unfolding_all rfl)))) pss_nil)
 (pss_one (ps_ret (pe_cmpR op_in_seq (pv 1) (pe_fld (pv 0) rfl) (by with_unfolding_all rfl))))), ?_⟩
    refine ⟨_, rfl, a, C, dx, _, _, rfl, h1, T.cl, T.nE, chF_e _ _, _, rfl, ?_⟩
    unfold memB at q
    cases e with
    | true =>
      refine if_pos_of rfl ?_
      rw [if_pos rfl] at q
      refine ⟨_, rfl, _, rfl, a, C, dx, _, _, rfl, h1, T.cl, T.nP, chF_p _ _, t, _, rfl, .inr (.inl (.inl h2)), rfl, all_flat l, ?_⟩
      rw [if_pos rfl, inV_ints]
      exact q
    | false =>
      refine if_neg_of rfl ?_
      rw [if_neg (by decide)] at q
      refine ⟨_, rfl, _, rfl, a, C, dx, _, _, rfl, h1, T.cl, T.nP, chF_p _ _, t, _, rfl, .inr (.inl (.inl h2)), rfl, all_flat l, ?_⟩
      rw [if_neg (by decide), inV_ints]
      exact q
abbrev s_cinv : Stmt := inClass (top 26) 12
theorem sc_cinv : FnScope ["self"] ["self"] (defScope s_cinv) := ⟨rfl, rfl, rfl, by decide +kernel, rfl, by decide +kernel, by decide +kernel⟩
def spInv (C : Addr) : Sp := fun vs H Q _ => ∃ (a : Addr) (e : Bool) (l : List Int), vs = [.ref a] ∧ CharsAt C H a e l ∧ l.length < 64 ∧ ∀ r H', CharsAt C H' r (!e) l → Same H H' → Q (.ref r) H'
theorem ok_cinv {f C CB : Addr} {fd : FuncData} (T : ChT K mg C) (F : Fun K "__invert__" "Chars.__invert__" s_cinv f fd) (c_cit : Ma P w K mg base 3 C (spCI C CB true K)) : FnOk P w K mg base CX0 5 f fd ["self"] (spInv C) := by
  refine F.ok sc_cinv (fun vs H Q E h => ?_) (fun cdv A outer s H vs Q E hr h => ?_)
  · obtain ⟨a, e, l, rfl, _⟩ := h
    rfl
  · obtain ⟨a, e, l, rfl, ch, few, q⟩ := h
    obtain ⟨dx, t, h1, h2⟩ := ch.ob
    refine ⟨_, (pss_one (ps_ret (pe_ma c_cit hr T.g (pa_cons (pe_not (pe_fld (pv 0) rfl)) (pa_cons (pe_fld (pv 0) rfl) pa_nil))))), ?_⟩
    refine ⟨_, rfl, a, C, dx, _, _, rfl, h1, T.cl, T.nE, chF_e _ _, _, rfl, _, rfl, a, C, dx, _, _, rfl, h1, T.cl, T.nP, chF_p _ _, ?_⟩
    refine make_ch (CB := CB) (tup := true) (e := !e) (ns := l) (.inl (.inl h2)) ch.prm few fun r l' H' mem len ch' s' => ?_
    have el : l' = l := sorted_uniq ch'.srt ch.srt mem
    subst el
    exact q r H' ch' s'
abbrev s_cand : Stmt := inClass (top 26) 9
theorem sc_cand : FnScope ["self", "other", "p"] ["self", "other"] (defScope s_cand) := ⟨rfl, rfl, rfl, by decide +kernel, rfl, by decide +kernel, by decide +kernel⟩
theorem cat_use {K : PySem.W.Frag} {a b : Addr} {xs ys : List Int} {H : Hp} {Q : VK} (ha : SqT K H a (xs.map V.int)) (hb : SqT K H b (ys.map V.int)) (few : xs.length + ys.length < 64) (k : ∀ c H', SqT K H' c ((xs ++ ys).map V.int) → Same H H' → Q (.ref c) H') : rCatA K (.ref a) (.ref b) H Q := by
  refine ⟨a, b, _, _, rfl, rfl, ha, hb, ?_, fun e => ?_, fun e1 e2 => ?_, fun e1 e2 p hp => ?_⟩
  · rw [List.length_map, List.length_map]
    exact Nat.le_of_lt (small1000 (by omega))
  · have z : xs = [] := List.map_eq_nil_iff.mp e
    subst z
    exact k b H hb (Same.refl H)
  · have z : ys = [] := List.map_eq_nil_iff.mp e2
    subst z
    refine k a H ?_ (Same.refl H)
    rw [List.append_nil]
    exact ha
  · refine k p _ ?_ (same_upd hp)
    rw [List.map_append]
    exact .inl (.inl upd_same)
theorem filter_take {l : List Int} {g : Int → Bool} {i : Nat} {z : Int} (h : l[i]? = some z) : (l.take (i + 1)).filter g = (l.take i).filter g ++ (if g z = true then [z] else []) := by
  rw [List.take_add_one, h, List.filter_append]
  show (l.take i).filter g ++ List.filter g [z] = _
  rw [List.filter_cons, List.filter_nil]
theorem and_false_l (b : Bool) : (false && b) = false := rfl
def spAnd (C : Addr) (f : Bool → Bool → Bool) : Sp := fun vs H Q _ => ∃ (a b : Addr) (e1 e2 : Bool) (l1 l2 : List Int), vs = [.ref a, .ref b] ∧ CharsAt C H a e1 l1 ∧ CharsAt C H b e2 l2 ∧ l1.length + l2.length < 64 ∧
  ∀ (r : Addr) (l : List Int) (H' : Hp), CharsAt C H' r (f e1 e2) l → l.length ≤ l1.length + l2.length → (∀ p, memB (f e1 e2) l p = f (memB e1 l1 p) (memB e2 l2 p)) → Same H H' → Q (.ref r) H'
theorem ok_cand {f C CB : Addr} {fd : FuncData} (T : ChT K mg C) (F : Fun K "__and__" "Chars.__and__" s_cand f fd) (c_cit : Ma P w K mg base 3 C (spCI C CB true K)) (c_cil : Ma P w K mg base 3 C (spCI C CB false K)) (c_cont : Me P w K mg base 1 C "__contains__" (spCont C)) : FnOk P w K mg base CX0 5 f fd ["self", "other"] (spAnd C and) := by
  refine F.ok sc_cand (fun vs H Q E h => ?_) (fun cdv A outer s H vs Q E hr h => ?_)
  · obtain ⟨a, b, _, _, _, _, rfl, _⟩ := h
    rfl
  · obtain ⟨a, b, e1, e2, l1, l2, rfl, ch1, ch2, few, q⟩ := h
    obtain ⟨dx, t, h1, h2⟩ := ch1.ob
    obtain ⟨dy, u, g1, g2⟩ := ch2.ob
    refine ⟨_, (pss_cons (ps_if (pt_not (pt_val (pe_fld (pv 0) rfl))) (pss_one (ps_ret (pe_ma c_cil hr T.g (pa_cons pe_bl (pa_cons (pe_lc (own := [("p", 2)]) (g := gName 2) rfl sc_cand.nd (pi_tup (pe_fld (pv 0) rfl)) (blkOk_by (N := ["self", "other", "p"]) (sc := defScope s_cand) (by decide +kernel)) (fun _ _ _ _ _ => pg_name (i := 2) sc_cand.nd rfl (Or.inl rfl)) (fun _ _ _ _ _ => pts_one (pt_cmpR (op_in_own c_cont (by exact hr)) (pv 2) (pv 1) (by with_unfolding_all rfl))) (fun _ _ _ _ _ => pv 2)) pa_nil))))) pss_nil)
 (pss_cons (ps_if (pt_not (pt_val (pe_fld (pv 1) rfl))) (pss_one (ps_ret (pe_ma c_cil hr T.g (pa_cons pe_bl (pa_cons (pe_lc (own := [("p", 2)]) (g := gName 2) rfl sc_cand.nd (pi_tup (pe_fld (pv 1) rfl)) (blkOk_by (N := ["self", "other", "p"]) (sc := defScope s_cand) (by decide +kernel)) (fun _ _ _ _ _ => pg_name (i := 2) sc_cand.nd rfl (Or.inl rfl)) (fun _ _ _ _ _ => pts_one (pt_cmpR (op_in_own c_cont (by exact hr)) (pv 2) (pv 0) (by with_unfolding_all rfl))) (fun _ _ _ _ _ => pv 2)) pa_nil))))) pss_nil)
 (pss_one (ps_ret (pe_ma c_cit hr T.g (pa_cons pe_bl (pa_cons (pe_op op_catA (pe_fld (pv 0) rfl) (pe_fld (pv 1) rfl)) pa_nil))))))), ?_⟩
    refine ⟨_, rfl, a, C, dx, _, _, rfl, h1, T.cl, T.nE, chF_e _ _, _, rfl, ?_⟩
    cases e1 with
    | false =>
      refine if_pos_of rfl ?_
      refine ⟨_, rfl, a, C, dx, _, _, rfl, h1, T.cl, T.nP, chF_p _ _, t, rfl, ⟨_, .inl (.inl h2)⟩, fun D hD => lc_tup (K := K) (a := t) (xs := l1.map V.int) (fun i H' => Same H H' ∧ H' D = some (.lst (((l1.take i).filter (memB e2 l2)).map V.int)))
        ⟨same_upd hD, upd_same⟩ (fun i H' _ h => Evl.ex_t h.1 (.inl (.inl h2))) ?_ ?_⟩
      · rintro i y H' hi ⟨s', hD'⟩
        obtain ⟨z, rfl, hz⟩ := item_int hi
        refine ⟨rfl, _, rfl, _, rfl, _, _, _, rfl, s' _ _ g1, ?_⟩
        refine ⟨_, e2, l2, z, rfl, ch2.same s', _, rfl, _, rfl, ?_⟩
        have ft := filter_take (g := memB e2 l2) hz
        cases hm : memB e2 l2 z with
        | true =>
          rw [hm, if_pos rfl] at ft
          refine if_pos_of rfl ?_
          refine ⟨_, rfl, _, hD', ?_, fun b o eb => ?_, ?_⟩
          · rw [List.length_map]
            have h3 := List.length_filter_le (memB e2 l2) (l1.take i)
            have h4 : (l1.take i).length ≤ l1.length := by rw [List.length_take]; omega
            exact small1000 (by omega)
          · rw [upd_ne (ne_of_none eb hD)]
            exact s' b o eb
          · rw [ft, List.map_append]
            exact upd_same
        | false =>
          rw [hm, if_neg (by decide), List.append_nil] at ft
          refine if_neg_of rfl ?_
          exact ⟨s', by rw [ft]; exact hD'⟩
      · rintro H' ⟨s', hD'⟩
        rw [List.length_map, List.take_length] at hD'
        refine make_ch (CB := CB) (tup := false) (e := false) (ns := l1.filter (memB e2 l2)) (SqL.of hD') (fun z hz => ch1.prm z (List.mem_filter.mp hz).1) (by have := List.length_filter_le (memB e2 l2) l1; omega) fun r l' H2 mem len ch' s2 => ?_
        have hl := List.length_filter_le (memB e2 l2) l1
        have mem2 : ∀ z, z ∈ l' ↔ z ∈ l1 ∧ memB e2 l2 z = true := fun z => (mem z).trans List.mem_filter
        exact q r l' H2 ch' (by omega) (fun z => by
          rw [and_false_l]
          have := mem2 z
          unfold memB at this ⊢
          by_cases c : z ∈ l1 <;> simp_all) (s'.trans s2)
    | true =>
      refine if_neg_of rfl ?_
      refine ⟨_, rfl, b, C, dy, _, _, rfl, g1, T.cl, T.nE, chF_e _ _, _, rfl, ?_⟩
      cases e2 with
      | false =>
        refine if_pos_of rfl ?_
        refine ⟨_, rfl, b, C, dy, _, _, rfl, g1, T.cl, T.nP, chF_p _ _, u, rfl, ⟨_, .inl (.inl g2)⟩, fun D hD => lc_tup (K := K) (a := u) (xs := l2.map V.int) (fun i H' => Same H H' ∧ H' D = some (.lst (((l2.take i).filter (memB true l1)).map V.int)))
          ⟨same_upd hD, upd_same⟩ (fun i H' _ h => Evl.ex_t h.1 (.inl (.inl g2))) ?_ ?_⟩
        · rintro i y H' hi ⟨s', hD'⟩
          obtain ⟨z, rfl, hz⟩ := item_int hi
          refine ⟨rfl, _, rfl, _, rfl, _, _, _, rfl, s' _ _ h1, ?_⟩
          refine ⟨_, true, l1, z, rfl, ch1.same s', _, rfl, _, rfl, ?_⟩
          have ft := filter_take (g := memB true l1) hz
          cases hm : memB true l1 z with
          | true =>
            rw [hm, if_pos rfl] at ft
            refine if_pos_of rfl ?_
            refine ⟨_, rfl, _, hD', ?_, fun b o eb => ?_, ?_⟩
            · rw [List.length_map]
              have h3 := List.length_filter_le (memB true l1) (l2.take i)
              have h4 : (l2.take i).length ≤ l2.length := by rw [List.length_take]; omega
              exact small1000 (by omega)
            · rw [upd_ne (ne_of_none eb hD)]
              exact s' b o eb
            · rw [ft, List.map_append]
              exact upd_same
          | false =>
            rw [hm, if_neg (by decide), List.append_nil] at ft
            refine if_neg_of rfl ?_
            exact ⟨s', by rw [ft]; exact hD'⟩
        · rintro H' ⟨s', hD'⟩
          rw [List.length_map, List.take_length] at hD'
          refine make_ch (CB := CB) (tup := false) (e := false) (ns := l2.filter (memB true l1)) (SqL.of hD') (fun z hz => ch2.prm z (List.mem_filter.mp hz).1) (by have := List.length_filter_le (memB true l1) l2; omega) fun r l' H2 mem len ch' s2 => ?_
          have hl := List.length_filter_le (memB true l1) l2
          have mem2 : ∀ z, z ∈ l' ↔ z ∈ l2 ∧ memB true l1 z = true := fun z => (mem z).trans List.mem_filter
          exact q r l' H2 ch' (by omega) (fun z => by
            have := mem2 z
            unfold memB at this ⊢
            by_cases c : z ∈ l2 <;> simp_all) (s'.trans s2)
      | true =>
        refine if_neg_of rfl ?_
        refine ⟨_, rfl, a, C, dx, _, _, rfl, h1, T.cl, T.nP, chF_p _ _, _, rfl, b, C, dy, _, _, rfl, g1, T.cl, T.nP, chF_p _ _, ?_⟩
        refine cat_use (xs := l1) (ys := l2) (.inl (.inl h2)) (.inl (.inl g2)) few fun c H' hc s' => ?_
        refine make_ch (CB := CB) (tup := true) (e := true) (ns := l1 ++ l2) hc (fun z hz => (List.mem_append.mp hz).elim (ch1.prm z) (ch2.prm z)) (by rw [List.length_append]; exact few) fun r l' H2 mem len ch' s2 => ?_
        rw [List.length_append] at len
        exact q r l' H2 ch' len (fun z => by
          have := mem z
          rw [List.mem_append] at this
          unfold memB
          by_cases c1 : z ∈ l1 <;> by_cases c2 : z ∈ l2 <;> simp_all) (s'.trans s2)
-- part chars4
abbrev s_cor : Stmt := inClass (top 26) 10
theorem sc_cor : FnScope ["self", "other", "p"] ["self", "other"] (defScope s_cor) := ⟨rfl, rfl, rfl, by decide +kernel, rfl, by decide +kernel, by decide +kernel⟩
theorem true_or_l (b : Bool) : (true || b) = true := rfl
theorem ok_cor {f C CB : Addr} {fd : FuncData} (T : ChT K mg C) (F : Fun K "__or__" "Chars.__or__" s_cor f fd) (c_cit : Ma P w K mg base 3 C (spCI C CB true K)) (c_cil : Ma P w K mg base 3 C (spCI C CB false K)) (c_cont : Me P w K mg base 1 C "__contains__" (spCont C)) : FnOk P w K mg base CX0 5 f fd ["self", "other"] (spAnd C or) := by
  refine F.ok sc_cor (fun vs H Q E h => ?_) (fun cdv A outer s H vs Q E hr h => ?_)
  · obtain ⟨a, b, _, _, _, _, rfl, _⟩ := h
    rfl
  · obtain ⟨a, b, e1, e2, l1, l2, rfl, ch1, ch2, few, q⟩ := h
    obtain ⟨dx, t, h1, h2⟩ := ch1.ob
    obtain ⟨dy, u, g1, g2⟩ := ch2.ob
    refine ⟨_, (pss_cons (ps_if (pt_val (pe_fld (pv 0) rfl)) (pss_one (ps_ret (pe_ma c_cil hr T.g (pa_cons pe_bl (pa_cons (pe_lc (own := [("p", 2)]) (g := gName 2) rfl sc_cor.nd (pi_tup (pe_fld (pv 0) rfl)) (blkOk_by (N := ["self", "other", "p"]) (sc := defScope s_cor) (by decide +kernel)) (fun _ _ _ _ _ => pg_name (i := 2) sc_cor.nd rfl (Or.inl rfl)) (fun _ _ _ _ _ => pts_one (pt_cmpR (op_notIn_own c_cont (by exact hr)) (pv 2) (pv 1) (by with_unfolding_all rfl))) (fun _ _ _ _ _ => pv 2)) pa_nil))))) pss_nil)
 (pss_cons (ps_if (pt_val (pe_fld (pv 1) rfl)) (pss_one (ps_ret (pe_ma c_cil hr T.g (pa_cons pe_bl (pa_cons (pe_lc (own := [("p", 2)]) (g := gName 2) rfl sc_cor.nd (pi_tup (pe_fld (pv 1) rfl)) (blkOk_by (N := ["self", "other", "p"]) (sc := defScope s_cor) (by decide +kernel)) (fun _ _ _ _ _ => pg_name (i := 2) sc_cor.nd rfl (Or.inl rfl)) (fun _ _ _ _ _ => pts_one (pt_cmpR (op_notIn_own c_cont (by exact hr)) (pv 2) (pv 0) (by with_unfolding_all rfl))) (fun _ _ _ _ _ => pv 2)) pa_nil))))) pss_nil)
 (pss_one (ps_ret (pe_ma c_cit hr T.g (pa_cons pe_bl (pa_cons (pe_op op_catA (pe_fld (pv 0) rfl) (pe_fld (pv 1) rfl)) pa_nil))))))), ?_⟩
    refine ⟨_, rfl, a, C, dx, _, _, rfl, h1, T.cl, T.nE, chF_e _ _, _, rfl, ?_⟩
    cases e1 with
    | true =>
      refine if_pos_of rfl ?_
      refine ⟨_, rfl, a, C, dx, _, _, rfl, h1, T.cl, T.nP, chF_p _ _, t, rfl, ⟨_, .inl (.inl h2)⟩, fun D hD => lc_tup (K := K) (a := t) (xs := l1.map V.int) (fun i H' => Same H H' ∧ H' D = some (.lst (((l1.take i).filter (fun z => !memB e2 l2 z)).map V.int)))
        ⟨same_upd hD, upd_same⟩ (fun i H' _ h => Evl.ex_t h.1 (.inl (.inl h2))) ?_ ?_⟩
      · rintro i y H' hi ⟨s', hD'⟩
        obtain ⟨z, rfl, hz⟩ := item_int hi
        refine ⟨rfl, _, rfl, _, rfl, _, _, _, rfl, s' _ _ g1, ?_⟩
        refine ⟨_, e2, l2, z, rfl, ch2.same s', _, rfl, _, rfl, ?_⟩
        have ft := filter_take (g := fun z => !memB e2 l2 z) hz
        cases hm : (!memB e2 l2 z) with
        | true =>
          rw [hm, if_pos rfl] at ft
          refine if_pos_of rfl ?_
          refine ⟨_, rfl, _, hD', ?_, fun b o eb => ?_, ?_⟩
          · rw [List.length_map]
            have h3 := List.length_filter_le (fun z => !memB e2 l2 z) (l1.take i)
            have h4 : (l1.take i).length ≤ l1.length := by rw [List.length_take]; omega
            exact small1000 (by omega)
          · rw [upd_ne (ne_of_none eb hD)]
            exact s' b o eb
          · rw [ft, List.map_append]
            exact upd_same
        | false =>
          rw [hm, if_neg (by decide), List.append_nil] at ft
          refine if_neg_of rfl ?_
          exact ⟨s', by rw [ft]; exact hD'⟩
      · rintro H' ⟨s', hD'⟩
        rw [List.length_map, List.take_length] at hD'
        refine make_ch (CB := CB) (tup := false) (e := true) (ns := l1.filter (fun z => !memB e2 l2 z)) (SqL.of hD') (fun z hz => ch1.prm z (List.mem_filter.mp hz).1) (by have := List.length_filter_le (fun z => !memB e2 l2 z) l1; omega) fun r l' H2 mem len ch' s2 => ?_
        have hl := List.length_filter_le (fun z => !memB e2 l2 z) l1
        have mem2 : ∀ z, z ∈ l' ↔ z ∈ l1 ∧ (!memB e2 l2 z) = true := fun z => (mem z).trans List.mem_filter
        exact q r l' H2 ch' (by omega) (fun z => by
          rw [true_or_l]
          have := mem2 z
          unfold memB at this ⊢
          cases e2 <;> by_cases c : z ∈ l1 <;> by_cases c2 : z ∈ l2 <;> simp_all) (s'.trans s2)
    | false =>
      refine if_neg_of rfl ?_
      refine ⟨_, rfl, b, C, dy, _, _, rfl, g1, T.cl, T.nE, chF_e _ _, _, rfl, ?_⟩
      cases e2 with
      | true =>
        refine if_pos_of rfl ?_
        refine ⟨_, rfl, b, C, dy, _, _, rfl, g1, T.cl, T.nP, chF_p _ _, u, rfl, ⟨_, .inl (.inl g2)⟩, fun D hD => lc_tup (K := K) (a := u) (xs := l2.map V.int) (fun i H' => Same H H' ∧ H' D = some (.lst (((l2.take i).filter (fun z => !memB false l1 z)).map V.int)))
          ⟨same_upd hD, upd_same⟩ (fun i H' _ h => Evl.ex_t h.1 (.inl (.inl g2))) ?_ ?_⟩
        · rintro i y H' hi ⟨s', hD'⟩
          obtain ⟨z, rfl, hz⟩ := item_int hi
          refine ⟨rfl, _, rfl, _, rfl, _, _, _, rfl, s' _ _ h1, ?_⟩
          refine ⟨_, false, l1, z, rfl, ch1.same s', _, rfl, _, rfl, ?_⟩
          have ft := filter_take (g := fun z => !memB false l1 z) hz
          cases hm : (!memB false l1 z) with
          | true =>
            rw [hm, if_pos rfl] at ft
            refine if_pos_of rfl ?_
            refine ⟨_, rfl, _, hD', ?_, fun b o eb => ?_, ?_⟩
            · rw [List.length_map]
              have h3 := List.length_filter_le (fun z => !memB false l1 z) (l2.take i)
              have h4 : (l2.take i).length ≤ l2.length := by rw [List.length_take]; omega
              exact small1000 (by omega)
            · rw [upd_ne (ne_of_none eb hD)]
              exact s' b o eb
            · rw [ft, List.map_append]
              exact upd_same
          | false =>
            rw [hm, if_neg (by decide), List.append_nil] at ft
            refine if_neg_of rfl ?_
            exact ⟨s', by rw [ft]; exact hD'⟩
        · rintro H' ⟨s', hD'⟩
          rw [List.length_map, List.take_length] at hD'
          refine make_ch (CB := CB) (tup := false) (e := true) (ns := l2.filter (fun z => !memB false l1 z)) (SqL.of hD') (fun z hz => ch2.prm z (List.mem_filter.mp hz).1) (by have := List.length_filter_le (fun z => !memB false l1 z) l2; omega) fun r l' H2 mem len ch' s2 => ?_
          have hl := List.length_filter_le (fun z => !memB false l1 z) l2
          have mem2 : ∀ z, z ∈ l' ↔ z ∈ l2 ∧ (!memB false l1 z) = true := fun z => (mem z).trans List.mem_filter
          exact q r l' H2 ch' (by omega) (fun z => by
            have := mem2 z
            unfold memB at this ⊢
            by_cases c : z ∈ l2 <;> by_cases c2 : z ∈ l1 <;> simp_all) (s'.trans s2)
      | false =>
        refine if_neg_of rfl ?_
        refine ⟨_, rfl, a, C, dx, _, _, rfl, h1, T.cl, T.nP, chF_p _ _, _, rfl, b, C, dy, _, _, rfl, g1, T.cl, T.nP, chF_p _ _, ?_⟩
        refine cat_use (xs := l1) (ys := l2) (.inl (.inl h2)) (.inl (.inl g2)) few fun c H' hc s' => ?_
        refine make_ch (CB := CB) (tup := true) (e := false) (ns := l1 ++ l2) hc (fun z hz => (List.mem_append.mp hz).elim (ch1.prm z) (ch2.prm z)) (by rw [List.length_append]; exact few) fun r l' H2 mem len ch' s2 => ?_
        rw [List.length_append] at len
        exact q r l' H2 ch' len (fun z => by
          have := mem z
          rw [List.mem_append] at this
          unfold memB
          by_cases c1 : z ∈ l1 <;> by_cases c2 : z ∈ l2 <;> simp_all) (s'.trans s2)
-- part chars5
abbrev s_ceq : Stmt := inClass (top 26) 13
theorem sc_ceq : FnScope ["self", "other"] ["self", "other"] (defScope s_ceq) := ⟨rfl, rfl, rfl, by decide +kernel, rfl, by decide +kernel, by decide +kernel⟩
def spCeq (C : Addr) : Sp := fun vs H Q _ => ∃ (a b : Addr) (e1 e2 : Bool) (l1 l2 : List Int), vs = [.ref a, .ref b] ∧ CharsAt C H a e1 l1 ∧ CharsAt C H b e2 l2 ∧ Q (.bl (decide (e1 = e2 ∧ l1 = l2))) H
theorem ok_ceq {f C : Addr} {fd : FuncData} (TT : Txt mg) (T : ChT K mg C) (F : Fun K "__eq__" "Chars.__eq__" s_ceq f fd) : FnOk P w K mg base CX0 1 f fd ["self", "other"] (spCeq C) := by
  refine F.ok sc_ceq (fun vs H Q E h => ?_) (fun cdv A outer s H vs Q E hr h => ?_)
  · obtain ⟨a, b, _, _, _, _, rfl, _⟩ := h
    rfl
  · obtain ⟨a, b, e1, e2, l1, l2, rfl, ch1, ch2, q⟩ := h
    obtain ⟨dx, t, h1, h2⟩ := ch1.ob
    obtain ⟨dy, u, g1, g2⟩ := ch2.ob
    refine ⟨_, (pss_one (ps_ret (pe_and (pe_callB (C8.call_isC T.isC) (by rfl) TT.isinstance boot_isinstance (pa_cons (pv 1) (pa_cons (pe_glob (v := .ref C) (by rfl) T.g rfl) pa_nil))) (pe_and (pe_cmpR op_eq (pe_fld (pv 0) rfl) (pe_fld (pv 1) rfl) (nomark _)) (pe_one (pe_cmpR (op_eqD (hu64 hr)) (pe_fld (pv 0) rfl) (pe_fld (pv 1) rfl) (nomark _))))))), ?_⟩
    refine ⟨_, rfl, b, dy, _, rfl, g1, _, rfl, if_pos_of rfl ?_⟩
    refine ⟨_, rfl, a, C, dx, _, _, rfl, h1, T.cl, T.nE, chF_e _ _, _, rfl, b, C, dy, _, _, rfl, g1, T.cl, T.nE, chF_e _ _, rfl, _, rfl, ?_⟩
    by_cases c : e1 = e2
    · refine if_pos_of (decide_eq_true (by rw [c])) ?_
      refine ⟨_, rfl, a, C, dx, _, _, rfl, h1, T.cl, T.nP, chF_p _ _, _, rfl, b, C, dy, _, _, rfl, g1, T.cl, T.nP, chF_p _ _, _, _, dp_tup (.inl (.inl h2)), dp_tup (.inl (.inl g2)), shaped_intsT _, shaped_intsT _, ?_⟩
      rw [eqv_intsT]
      have z : decide (e1 = e2 ∧ l1 = l2) = decide (l1 = l2) := by simp [c]
      rw [z] at q
      exact q
    · refine if_neg_of (decide_eq_false fun z => c (V.bl.inj z)) ?_
      rw [decide_eq_false fun z => c z.1] at q
      exact q
abbrev s_cbool : Stmt := inClass (top 26) 14
theorem sc_cbool : FnScope ["self"] ["self"] (defScope s_cbool) := ⟨rfl, rfl, rfl, by decide +kernel, rfl, by decide +kernel, by decide +kernel⟩
def spCbool (C : Addr) : Sp := fun vs H Q _ => ∃ (a : Addr) (e : Bool) (l : List Int), vs = [.ref a] ∧ CharsAt C H a e l ∧ Q (.bl (e || !l.isEmpty)) H
theorem ok_cbool {f C : Addr} {fd : FuncData} (TT : Txt mg) (T : ChT K mg C) (F : Fun K "__bool__" "Chars.__bool__" s_cbool f fd) : FnOk P w K mg base CX0 1 f fd ["self"] (spCbool C) := by
  refine F.ok sc_cbool (fun vs H Q E h => ?_) (fun cdv A outer s H vs Q E hr h => ?_)
  · obtain ⟨a, e, l, rfl, _⟩ := h
    rfl
  · obtain ⟨a, e, l, rfl, ch, q⟩ := h
    obtain ⟨dx, t, h1, h2⟩ := ch.ob
    refine ⟨_, (pss_one (ps_ret (pe_callTy cr_boolT (by rfl) TT.bool boot_bool (pa_cons (pe_orT (pe_fld (pv 0) rfl) (pe_one (pe_fld (pv 0) rfl))) pa_nil)))), ?_⟩
    refine ⟨_, rfl, a, C, dx, _, _, rfl, h1, T.cl, T.nE, chF_e _ _, e, rfl, ?_⟩
    cases e with
    | true => exact if_pos_of rfl (.inl ⟨_, rfl, q⟩)
    | false =>
      refine if_neg_of rfl ?_
      refine ⟨_, rfl, a, C, dx, _, _, rfl, h1, T.cl, T.nP, chF_p _ _, .inr ⟨t, _, rfl, .inl (.inl h2), ?_⟩⟩
      have z : (l.map V.int).isEmpty = l.isEmpty := by cases l <;> rfl
      rw [z]
      exact q
abbrev s_cevery : Stmt := inClass (top 26) 1
theorem sc_cevery : FnScope ["cls"] ["cls"] (defScope s_cevery) := ⟨rfl, rfl, rfl, by decide +kernel, rfl, by decide +kernel, by decide +kernel⟩
def spCevery (C : Addr) (e : Bool) : Sp := fun vs H Q _ => vs = [.ref C] ∧ ∀ r H', CharsAt C H' r e [] → Same H H' → Q (.ref r) H'
theorem ok_cevery {f C CB : Addr} {fd : FuncData} (T : ChT K mg C) (F : Fun K "every" "Chars.every" s_cevery f fd) (c_cit : Ma P w K mg base 3 C (spCI C CB true K)) : FnOk P w K mg base CX0 5 f fd ["cls"] (spCevery C true) := by
  refine F.ok sc_cevery (fun vs H Q E h => ?_) (fun cdv A outer s H vs Q E hr h => ?_)
  · obtain ⟨rfl, _⟩ := h
    rfl
  · obtain ⟨rfl, q⟩ := h
    refine ⟨_, (pss_one (ps_ret (pe_maL (i := 0) c_cit hr rfl (pa_cons pe_bl (pa_cons (pe_tup pa_nil) pa_nil))))), ?_⟩
    refine ⟨rfl, (by show 0 ≤ sizeLine; decide), fun t nt => ?_⟩
    refine make_ch (CB := CB) (tup := true) (e := true) (ns := []) (.inl (.inl upd_same)) (fun _ h => nomatch h) (by decide) fun r l H' mem len ch s' => ?_
    have el : l = [] := List.length_eq_zero_iff.mp (Nat.le_zero.mp len)
    subst el
    exact q r H' ch ((same_upd nt).trans s')
-- part chars5z
-- part chars6
/-- only and but: the primes as they are told -/
def spStar (C : Addr) (e : Bool) : Sp := fun vs H Q _ => ∃ ns : List Int, vs = .ref C :: ns.map V.int ∧ (∀ q ∈ ns, Pr q ∧ q < 2 ^ 62) ∧ ns.length < 64 ∧ ∀ r l H', (∀ q, q ∈ l ↔ q ∈ ns) → CharsAt C H' r e l → Same H H' → Q (.ref r) H'
/-- the body's own promise: the tuple is laid -/
def spStarB (C : Addr) (e : Bool) : Sp := fun vs H Q _ => ∃ (t : Addr) (ns : List Int), vs = [.ref C, .ref t] ∧ H t = some (.tup (ns.map V.int)) ∧ (∀ q ∈ ns, Pr q ∧ q < 2 ^ 62) ∧ ns.length < 64 ∧ ∀ r l H', (∀ q, q ∈ l ↔ q ∈ ns) → CharsAt C H' r e l → Same H H' → Q (.ref r) H'
theorem star_of {f C : Addr} {e : Bool} (F : FnR P w K mg base CX0 5 f (fun vs H Q E => ∃ ws rest, vs = ws ++ rest ∧ ws.length = (["cls"] : List Str).length ∧ rest.length ≤ sizeLine ∧ ∀ p, H p = none → spStarB C e (ws ++ [V.ref p]) (upd H p (.tup rest)) Q E)) : FnR P w K mg base CX0 5 f (spStar C e) := by
  intro A outer s H us vs Q E hr e0 r h
  obtain ⟨ns, rfl, hp, few, q⟩ := h
  refine F A outer s H us _ Q E hr e0 r ⟨[.ref C], ns.map V.int, rfl, rfl, ?_, fun p np => ⟨p, ns, rfl, upd_same, hp, few, fun r' l H' mem ch s' => q r' l H' mem ch ((same_upd np).trans s')⟩⟩
  rw [List.length_map]
  exact Nat.le_of_lt (small1000 (by omega))
/-- a set is unequal to a tuple -/
def spCeqT (C : Addr) : Sp := fun vs H Q _ => ∃ (a b : Addr) (e : Bool) (l : List Int) (zs : List V), vs = [.ref a, .ref b] ∧ CharsAt C H a e l ∧ H b = some (.tup zs) ∧ Q (.bl false) H
theorem ok_ceqT {f C : Addr} {fd : FuncData} (TT : Txt mg) (T : ChT K mg C) (kt : PySem.W.kitOne K (.type "tuple") (.ref C) = some false) (F : Fun K "__eq__" "Chars.__eq__" s_ceq f fd) : FnOk P w K mg base CX0 1 f fd ["self", "other"] (spCeqT C) := by
  refine F.ok sc_ceq (fun vs H Q E h => ?_) (fun cdv A outer s H vs Q E hr h => ?_)
  · obtain ⟨a, b, _, _, _, rfl, _⟩ := h
    rfl
  · obtain ⟨a, b, e, l, zs, rfl, ch, hb, q⟩ := h
    refine ⟨_, (pss_one (ps_ret (pe_and (pe_callB call_isi (by rfl) TT.isinstance boot_isinstance (pa_cons (pv 1) (pa_cons (pe_glob (v := .ref C) (by rfl) T.g rfl) pa_nil))) (pe_and (pe_cmpR op_eq (pe_fld (pv 0) rfl) (pe_fld (pv 1) rfl) (nomark _)) (pe_one (pe_cmpR (op_eqD (hu64 hr)) (pe_fld (pv 0) rfl) (pe_fld (pv 1) rfl) (nomark _))))))), ?_⟩
    exact ⟨_, rfl, _, _, _, _, false, rfl, .own C, .base (.tup hb), kt, _, rfl, if_neg_of rfl q⟩
abbrev s_cnone : Stmt := inClass (top 26) 2
theorem sc_cnone : FnScope ["cls"] ["cls"] (defScope s_cnone) := ⟨rfl, rfl, rfl, by decide +kernel, rfl, by decide +kernel, by decide +kernel⟩
theorem ok_cnone {f C CB : Addr} {fd : FuncData} (T : ChT K mg C) (F : Fun K "none" "Chars.none" s_cnone f fd) (c_cit : Ma P w K mg base 3 C (spCI C CB true K)) : FnOk P w K mg base CX0 5 f fd ["cls"] (spCevery C false) := by
  refine F.ok sc_cnone (fun vs H Q E h => ?_) (fun cdv A outer s H vs Q E hr h => ?_)
  · obtain ⟨rfl, _⟩ := h
    rfl
  · obtain ⟨rfl, q⟩ := h
    refine ⟨_, (pss_one (ps_ret (pe_maL (i := 0) c_cit hr rfl (pa_cons pe_bl (pa_cons (pe_tup pa_nil) pa_nil))))), ?_⟩
    refine ⟨rfl, (by show 0 ≤ sizeLine; decide), fun t nt => ?_⟩
    refine make_ch (CB := CB) (tup := true) (e := false) (ns := []) (.inl (.inl upd_same)) (fun _ h => nomatch h) (by decide) fun r l H' mem len ch s' => ?_
    have el : l = [] := List.length_eq_zero_iff.mp (Nat.le_zero.mp len)
    subst el
    exact q r H' ch ((same_upd nt).trans s')
abbrev s_cbut : Stmt := inClass (top 26) 4
theorem sc_cbut : FnScope ["cls", "ps"] ["cls", "ps"] (defScope s_cbut) := ⟨rfl, rfl, rfl, by decide +kernel, rfl, by decide +kernel, by decide +kernel⟩
theorem ok_cbut {f C CB : Addr} {fd : FuncData} (T : ChT K mg C) (F : Fun K "but" "Chars.but" s_cbut f fd) (c_cit : Ma P w K mg base 3 C (spCI C CB true K)) : FnR P w K mg base CX0 5 f (spStar C true) := by
  obtain ⟨oc, od, kV, doc, pm, an, cdv, ct, osl, rfl, lk, hcd⟩ := F.ex
  refine star_of (StX.fn_star lk hcd sc_cbut StX.cxUp_none (StX.bind_star1 (B := fun xs => bindArgs (PySem.W.fnOf "but" "Chars.but" (defArgs s_cbut) (defBody s_cbut) (defScope s_cbut) .none kV doc pm an cdv ct) ⟨xs, []⟩) (fun a => rfl) (fun a r rs => rfl)) fun A outer s H vs Q E hr h => ?_)
  obtain ⟨t, ns, rfl, ht, hp, few, q⟩ := h
  refine ⟨_, (pss_one (ps_ret (pe_maL (i := 0) c_cit hr rfl (pa_cons pe_bl (pa_cons (pv 1) pa_nil))))), ?_⟩
  refine ⟨rfl, _, rfl, ?_⟩
  exact make_ch (CB := CB) (tup := true) (e := true) (ns := ns) (.inl (.inl ht)) hp few fun r l H' mem len ch s' => q r l H' mem ch s'
-- part chars6m
/-- a set is made at x, what follows is any word -/
theorem make_at {C CB : Addr} {tup : Bool} {H1 : Hp} {e : Bool} {a x dx : Addr} {ns : List Int} {R : VK} (hx : H1 x = none) (hdx : H1 dx = none) (hS : if tup = true then SqT K H1 a (ns.map V.int) else SqL K H1 a (ns.map V.int)) (hp : ∀ q ∈ ns, Pr q ∧ q < 2 ^ 62) (few : ns.length < 64)
    (k : ∀ (l : List Int) (H2 : Hp), (∀ q, q ∈ l ↔ q ∈ ns) → l.length ≤ ns.length → CharsAt C H2 x e l → Same H1 H2 → R .non H2) :
    spCI C CB tup K (.ref x :: ([.bl e, .ref a] ++ [])) (upd (upd H1 dx (.own x)) x (.ins C dx [])) R E0 := by
  have s1 : Same H1 (upd (upd H1 dx (.own x)) x (.ins C dx [])) := fun b o eb => by
    rw [upd_ne (ne_of_none eb hx), upd_ne (ne_of_none eb hdx)]
    exact eb
  refine ⟨x, dx, a, e, ns, rfl, upd_same, ?_, fun q hq => (hp q hq).2, few, fun _ l H' mem len ch keep => k l H' mem len ch fun b o eb => keep b o (s1 b o eb) (ne_of_none eb hx), fun i b hi hb _ => absurd (hp b (List.mem_of_getElem? hi)).1 hb⟩
  cases tup with
  | true =>
    have h : SqT K H1 a (ns.map V.int) := hS
    show SqT K _ a (ns.map V.int)
    exact Evl.ex_t s1 h
  | false =>
    have h : SqL K H1 a (ns.map V.int) := hS
    exact s1.seq h
-- part errpa
/-! own errors of one attribute whose __init__ asks something of the argument -/
def spInitP (C : Addr) (fld : Str) (ok : V → Prop) : Sp := fun vs H Q _ => ∃ (a : Addr) (v : V), vs = [.ref a, v] ∧ ok v ∧ H a = some (exo a C none) ∧
  ∀ d, H d = none → d ≠ a → Q .non (upd (upd H d (exd d [(fld, v)])) a (exo a C (some d)))
structure ErP (P : Program) (w : World) (K : PySem.W.Frag) (mg : Str → Option Value) (base : Heap) (nm fld : Str) (C : Addr) (ok : V → Prop) : Prop where
  ex : ∃ (fI : Addr) (fd : FuncData) (ps : List Str), ErrC K mg nm fld C fI ∧ FnOk P w K mg base CX0 1 fI fd ps (spInitP C fld ok) ∧ Binds K fd ps []
theorem ps_raiseP {X : Cx} {W : WX} {x fld : Str} {C : Addr} {ok : V → Prop} {j : Nat} {e : Expr} {ta : TA} {p pos pos' : Pos} (c : ErP X.prog X.w X.K X.mg X.base x fld C ok) (hr : Room j X.A) (tk : L2N.Takes X W) (ha : PA X [e] ta) (hj : 2 ≤ j := by decide) (hcalm : X.calm = true := by rfl) (hg : Gl X x := by rfl)
    (hdb : (x == ("__debug__" : Str)) = false := by decide) (he : starEach [e] X.env = (false, eval e X.env) :: starEach [] X.env := by rfl) (hpl : (backTo pos (starEach [] X.env)).any (·.1) = false := by rfl) :
    PS X (.Raise (some (.Call (.Name x p) [e] [] pos)) none pos') (fun _ σ H => tMkO C (spInitP C fld ok) [] ta σ H fun cls d H' => W cls d σ H') := by
  obtain ⟨fI, fd, ps, T, F, b⟩ := c.ex
  exact L2N.ps_raise hcalm tk (pmk_oexN (X := X) (p := p) (pos := pos) T.oex T.iC T.tI F (hr.mono hj) b .nil hg T.g ha hdb he hpl)
theorem mkP {C : Addr} {fld : Str} {ok : V → Prop} {v : V} {H1 : Hp} {Q : XK} (o : ok v) (k : ∀ d H2, Same H1 H2 → H1 d = none → H2 d = some (.xd [(fld, v)]) → Q (.ref C) (some d) H2) :
    ([v] : List V).length ≤ 1000 ∧ ∀ a, H1 a = none → spInitP C fld ok (.ref a :: ([v] ++ [])) (upd H1 a (exo a C none))
      (fun u H2 => u = .non ∧ ∃ (d : Addr) (fs : List (Str × V)), H2 a = some (exo a C (some d)) ∧ H2 d = some (exd d fs) ∧ H1 d = none ∧ Q (.ref C) (some d) (upd (del H2 a) d (.xd fs))) (fun _ _ _ => False) := by
  obtain ⟨h1, h2⟩ := mk1 (C := C) (fld := fld) (v := v) (H1 := H1) (Q := Q) k
  refine ⟨h1, fun a ha => ?_⟩
  obtain ⟨a', v', e, ha', q⟩ := h2 a ha
  exact ⟨a', v', e, by rw [show v' = v from by simpa using (List.cons.inj (List.cons.inj e).2).1.symm]; exact o, ha', q⟩
/-- an index that is written in a message -/
def okNat : V → Prop := fun v => ∃ n : Nat, v = .int (n : Int) ∧ n < 2 ^ 62
theorem log_nat {n : Nat} (h : n < 2 ^ 62) : (n : Int).natAbs.log2 < 1920 := by
  show n.log2 < 1920
  by_cases c : n = 0
  · rw [c]
    decide
  · have := (Nat.log2_lt c).mpr h
    omega
theorem str_len (x : Str) : x.length = (TL.tl x).length := TL.len_tl x
theorem num_len {n : Nat} (h : n < 2 ^ 62) : (Str.ofString (toString (n : Int))).length ≤ 19 := by
  rw [str_len, TL.tl_num]
  exact TL.numL_len (by decide) (Nat.lt_of_lt_of_le h (by decide))
theorem app_len (x y : Str) : (x ++ y).length = x.length + y.length := by
  rw [str_len, TL.tl_append, List.length_append, ← str_len, ← str_len]
theorem empty_app (x : Str) : Str.empty ++ x = x := TL.ext_tl (by rw [TL.tl_append] <;> rfl)
-- part errm
-- part errgf
/-- {t}, t a tuple of ints -/
theorem repr_ints {prog : Program} {w : World} : ∀ {l : List Int} {its : List Value}, Vals (l.map V.int) its → (∀ i ∈ l, i.natAbs.log2 < 1920) → ReprAll prog w its (l.map fun i => Str.ofString (toString i))
  | [], _, r, _ => by
    cases r
    exact .nil
  | i :: l, _, r, h => by
    cases r with
    | cons r1 r2 =>
      obtain ⟨t, rfl⟩ := r1
      exact .cons (ReprIs.int t (h i List.mem_cons_self)) (repr_ints r2 fun z hz => h z (List.mem_cons_of_mem _ hz))
theorem piled_ints : ∀ l : List Int, (∀ i ∈ l, i.natAbs.log2 < 1920) → piled (l.map fun i => Str.ofString (toString i)) ≤ l.length * 1925
  | [], _ => Nat.zero_le _
  | i :: l, h => by
    have h1 := int_text_len_1921 (h i List.mem_cons_self)
    have h2 := piled_ints l fun z hz => h z (List.mem_cons_of_mem _ hz)
    rw [List.map_cons, piled_cons, List.length_cons, Nat.succ_mul]
    omega
def tFmtI (K : PySem.W.Frag) (te : TE) : TE := fun σ H Q => te σ H fun x H1 => ∃ (a : Addr) (l : List Int), x = .ref a ∧ SqT K H1 a (l.map V.int) ∧ (∀ i ∈ l, i.natAbs.log2 < 1920) ∧ l.length ≤ 10 ∧ ∀ m : Str, m.length ≤ 20000 → Q (.str m) H1
theorem pe_fmtI {X : Cx} {e : Expr} {te : TE} {pos : Pos} {k : Nat} (hr : Room k X.A) (he : PE X e te) : PE X (.FormattedValue e (-1) none pos) (tFmtI X.K te) := by
  refine ⟨fun pins s σ H Q I h => wpAny_FormattedValue_plain (thn (he.run pins s σ H _ I h) fun v s1 hv => ?_)⟩
  obtain ⟨x, H1, I1, r1, a, l, rfl, ht, hc, few, q⟩ := hv
  cases r1
  obtain ⟨its, rv, ⟨o, ho, hcl, n, hd⟩, _⟩ := I1.tuple ht
  have h1 := piled_ints l hc
  have h2 := fmt_text (l.map fun i => Str.ofString (toString i))
  have hu := hr.units
  have h3 : l.length * 1925 ≤ 10 * 1925 := Nat.mul_le_mul_right _ few
  exact fmt_tuple (ts := l.map fun i => Str.ofString (toString i)) (by omega) ho hcl hd (repr_ints rv hc) (by rw [sizeLine_eq]; omega) fun m u tk hm => ⟨.str m, H1, I1.tok _, ⟨u, rfl⟩, q m (by omega)⟩
-- part methn
/-! methods and operators of an own class that may raise -/
structure MeN (P : Program) (w : World) (K : PySem.W.Frag) (mg : Str → Option Value) (base : Heap) (k : Nat) (C : Addr) (m : Str) (sp : Sp) : Prop where
  ex : ∃ (f : Addr) (fd : FuncData) (ps : List Str), Meth K C m f ∧ FnOk P w K mg base (L2N.CX P w) k f fd ps sp ∧ Binds K fd ps []
section
variable {X : Cx} {W : WX} {C : Addr} {m : Str} {sp : Sp} {k j : Nat} {o e a b : Expr} {es : List Expr} {ta tb : TE} {t : TA} {apos pos : Pos} {pl : Sem Bool}
/-- x op y, where it doesn't raise -/
theorem op_own2N {op : Operator} (c : MeN X.prog X.w X.K X.mg X.base k C m sp) (hr : Room j X.A) (sf : PySem.W.selfFirst X.K C = true) (hm : PySem.dunder op.info.2 = m := by decide +kernel) (hk : k ≤ j := by decide) : OpR X (binaryOp op) (rOwn2 C sp) := by
  obtain ⟨f, fd, ps, M, F, b⟩ := c.ex
  intro pins s σ H x y v u Q I rx ry h
  obtain ⟨a, b', dx, dy, fs, gs, rfl, rfl, ha, hb, q⟩ := h
  cases (show v = Value.ref a from rx)
  cases (show u = Value.ref b' from ry)
  obtain ⟨ox, od, J⟩ := inst_of I ha
  obtain ⟨oy, od', J'⟩ := inst_of I hb
  obtain ⟨mm, hF⟩ := I.fr
  refine PySem.W.binop_K hF I.ok.mod.kin J J'.type sf (by rw [hm]; exact M.at_) M.fn ?_
  refine wpAny_mono (run_fn (us := [.ref a, .ref b']) (vs := [.ref a, .ref b']) F (hr.mono hk) b .nil passN I (.cons rfl (.cons rfl .nil)) q) (fun u' s' z => ?_) fun _ _ x => x
  obtain ⟨z', H', I', rz, qz⟩ := z
  exact SlX.cmpback rz ⟨z', H', I', rz, qz⟩
/-- x op y, what it raises is taken -/
def tOp2S (C : Addr) (sp : Sp) (E : L2.St → XK) (ta tb : TE) : TE := fun σ H Q => ta σ H fun x H1 => tb σ H1 fun y H2 => ∃ a b dx dy fs gs, x = .ref a ∧ y = .ref b ∧ H2 a = some (.ins C dx fs) ∧ H2 b = some (.ins C dy gs) ∧ sp [x, y] H2 Q (E σ)
theorem pe_op2X {op : Operator} (c : MeN X.prog X.w X.K X.mg X.base k C m sp) (hr : Room j X.A) (tk : L2N.Takes X W) (sf : PySem.W.selfFirst X.K C = true) (ha : PE X a ta) (hb : PE X b tb) (hm : PySem.dunder op.info.2 = m := by decide +kernel) (hk : k ≤ j := by decide) : PE X (.BinOp a op b pos) (tOp2S C sp (WE W) ta tb) := by
  obtain ⟨f, fd, ps, M, F, bb⟩ := c.ex
  refine ⟨fun pins s σ H Q I h => ?_⟩
  refine wpAny_BinOp (binT ha hb I h fun v u s2 x y H2 I2 rx ry q => ?_)
  obtain ⟨a, b', dx, dy, fs, gs, rfl, rfl, ha, hb, q⟩ := q
  cases (show v = Value.ref a from rx)
  cases (show u = Value.ref b' from ry)
  obtain ⟨ox, od, J⟩ := inst_of I2 ha
  obtain ⟨oy, od', J'⟩ := inst_of I2 hb
  obtain ⟨mm, hF⟩ := I2.fr
  refine PySem.W.binop_K hF I2.ok.mod.kin J J'.type sf (by rw [hm]; exact M.at_) M.fn ?_
  refine wpAny_mono (run_fnS (us := [.ref a, .ref b']) (vs := [.ref a, .ref b']) (E := WE W) F (hr.mono hk) bb (L2N.passAt tk σ) I2 (.cons rfl (.cons rfl .nil)) q) (fun u' s' z => ?_) fun _ _ x => x
  obtain ⟨z', H', I', rz, qz⟩ := z
  exact SlX.cmpback rz ⟨z', H', I', rz, qz⟩
theorem pe_meN0 (c : MeN X.prog X.w X.K X.mg X.base k C m sp) (cl : Cls X.K C) (hr : Room j X.A) (he : PE X o ta) (hk : k ≤ j := by decide)
    (ht : eval (.Call (.Attribute o m apos) [] [] pos) X.env = (do
      let ov ← eval o X.env
      standAt apos.atName
      let (f, first) ← holding [ov] (getMethod ov m pl)
      callWith pos f first (backTo pos (starEach [] X.env)) (backToKw pos (keywordEach [] X.env))) := by rfl) :
    PE X (.Call (.Attribute o m apos) [] [] pos) (tMeth C m sp [] E0 ta tNil) := by
  obtain ⟨f, fd, ps, M, F, b⟩ := c.ex
  exact pe_meth0 he cl M F (hr.mono hk) b .nil passN ht
theorem pe_meN (c : MeN X.prog X.w X.K X.mg X.base k C m sp) (cl : Cls X.K C) (hr : Room j X.A) (he : PE X o ta) (ha : PA X (e :: es) t) (hk : k ≤ j := by decide)
    (hst : starEach (e :: es) X.env = (false, eval e X.env) :: starEach es X.env := by rfl) (hpl : (backTo pos (starEach es X.env)).any (·.1) = false := by rfl)
    (ht : eval (.Call (.Attribute o m apos) (e :: es) [] pos) X.env = (do
      let ov ← eval o X.env
      standAt apos.atName
      let (f, first) ← holding [ov] (getMethod ov m pl)
      callWith pos f first (backTo pos (starEach (e :: es) X.env)) (backToKw pos (keywordEach [] X.env))) := by rfl) :
    PE X (.Call (.Attribute o m apos) (e :: es) [] pos) (tMeth C m sp [] E0 ta t) := by
  obtain ⟨f, fd, ps, M, F, b⟩ := c.ex
  exact pe_meth he cl M F (hr.mono hk) b .nil passN ha hst hpl ht
/-- o.m(..), what it raises is taken -/
def tMethS (C : Addr) (m : Str) (sp : Sp) (E : L2.St → XK) (ta : TE) (t : TA) : TE := fun σ H Q => ta σ H fun x H1 => ∃ a dx fs, x = .ref a ∧ H1 a = some (.ins C dx fs) ∧ fs.lookup m = none ∧ t σ H1 fun vs H2 => sp (x :: vs) H2 Q (E σ)
theorem pe_meX (c : MeN X.prog X.w X.K X.mg X.base k C m sp) (cl : Cls X.K C) (hr : Room j X.A) (tk : L2N.Takes X W) (he : PE X o ta) (ha : PA X (e :: es) t) (hk : k ≤ j := by decide)
    (hst : starEach (e :: es) X.env = (false, eval e X.env) :: starEach es X.env := by rfl) (hpl : (backTo pos (starEach es X.env)).any (·.1) = false := by rfl)
    (ht : eval (.Call (.Attribute o m apos) (e :: es) [] pos) X.env = (do
      let ov ← eval o X.env
      standAt apos.atName
      let (f, first) ← holding [ov] (getMethod ov m pl)
      callWith pos f first (backTo pos (starEach (e :: es) X.env)) (backToKw pos (keywordEach [] X.env))) := by rfl) :
    PE X (.Call (.Attribute o m apos) (e :: es) [] pos) (tMethS C m sp (WE W) ta t) := by
  obtain ⟨f, fd, ps, M, F, b⟩ := c.ex
  refine ⟨fun pins s σ H Q I h => ?_⟩
  refine PySem.W.methodCall_KW (pl := pl) (thn (he.run pins s σ H _ I h) fun u s1 ⟨x, H1, I1, rx, a, dx, fs, ex, ea, l, q⟩ => ?_) ht
  subst ex
  obtain rfl : u = Value.ref a := rx
  refine getmeth_ok I1 ea cl M l ?_
  exact PySem.W.callWith_K (first := [.ref a]) (h₀ := X.base) I1.ok.mod.kin M.kp (thn (ha.run pos pins s1 σ H1 _ I1 q) fun us s2 ⟨vs, H2, I2, r, q2⟩ => ⟨I2.kIn, run_fnS (us := .ref a :: us) (vs := .ref a :: vs) (E := WE W) F (hr.mono hk) b (L2N.passAt tk σ) I2 (.cons rfl r) q2⟩) hst hpl
theorem pe_meX0 (c : MeN X.prog X.w X.K X.mg X.base k C m sp) (cl : Cls X.K C) (hr : Room j X.A) (tk : L2N.Takes X W) (he : PE X o ta) (hk : k ≤ j := by decide)
    (ht : eval (.Call (.Attribute o m apos) [] [] pos) X.env = (do
      let ov ← eval o X.env
      standAt apos.atName
      let (f, first) ← holding [ov] (getMethod ov m pl)
      callWith pos f first (backTo pos (starEach [] X.env)) (backToKw pos (keywordEach [] X.env))) := by rfl) :
    PE X (.Call (.Attribute o m apos) [] [] pos) (tMethS C m sp (WE W) ta tNil) := by
  obtain ⟨f, fd, ps, M, F, b⟩ := c.ex
  refine ⟨fun pins s σ H Q I h => ?_⟩
  refine PySem.W.methodCall_KW (pl := pl) (thn (he.run pins s σ H _ I h) fun u s1 ⟨x, H1, I1, rx, a, dx, fs, ex, ea, l, q⟩ => ?_) ht
  subst ex
  obtain rfl : u = Value.ref a := rx
  refine getmeth_ok I1 ea cl M l ?_
  exact PySem.W.callWith_K0 (first := [.ref a]) I1.kIn M.kp (run_fnS (us := [.ref a]) (vs := [.ref a]) (E := WE W) F (hr.mono hk) b (L2N.passAt tk σ) I1 (.cons rfl .nil) q)
end
-- part strs
theorem bl_eq {α : Type} (x y : α) [DecidableEq α] {f : α → V} (inj : ∀ a b, f a = f b → a = b) : decide (f x = f y) = decide (x = y) := by
  by_cases c : x = y
  · rw [c, decide_eq_true rfl, decide_eq_true rfl]
  · rw [decide_eq_false c, decide_eq_false fun h => c (inj _ _ h)]
theorem str_eq (x y : Str) : decide (V.str x = V.str y) = decide (x = y) := bl_eq x y fun _ _ h => V.str.inj h
theorem dpAll_strs {K : PySem.W.Frag} {H : Hp} : ∀ l : List Str, DpAll K H (l.map V.str) (l.map PyData.str)
  | [] => .nil
  | x :: l => .cons (.str x) (dpAll_strs l)
theorem eqvAll_strs : ∀ l m : List Str, PyData.eqvAll (l.map PyData.str) (m.map PyData.str) = decide (l = m)
  | [], [] => by rw [List.map_nil, PyData.eqvAll]; rfl
  | [], b :: m => by rw [List.map_nil, List.map_cons, PyData.eqvAll] <;> first | (exact (decide_eq_false (by simp)).symm) | skip
  | a :: l, [] => by rw [List.map_nil, List.map_cons, PyData.eqvAll] <;> first | (exact (decide_eq_false (by simp)).symm) | skip
  | a :: l, b :: m => by
    rw [List.map_cons, List.map_cons, PyData.eqvAll, PyData.eqv, eqvAll_strs l m]
    by_cases c : a = b
    · subst c
      by_cases d : l = m
      · subst d
        simp
      · simp [d]
    · simp [c]
theorem eqv_strs (l m : List Str) : PyData.eqv (.list (l.map PyData.str)) (.list (m.map PyData.str)) = decide (l = m) := by
  rw [PyData.eqv]
  exact eqvAll_strs l m
theorem canLay_strs : ∀ l : List Str, (∀ z ∈ l, PyData.strOk z = true) → PyData.canLayAll0 (l.map PyData.str) = true
  | [], _ => by rw [List.map_nil, PyData.canLayAll0]
  | a :: l, h => by rw [List.map_cons, PyData.canLayAll0, PyData.canLay0, canLay_strs l fun z hz => h z (List.mem_cons_of_mem _ hz), h a List.mem_cons_self]; rfl
theorem depth_strs : ∀ l : List Str, PyData.depthAll (l.map PyData.str) = 0
  | [] => by rw [List.map_nil, PyData.depthAll]
  | a :: l => by rw [List.map_cons, PyData.depthAll, PyData.depth, depth_strs l]; rfl
theorem shaped_strs {l : List Str} (h : ∀ z ∈ l, PyData.strOk z = true) : SeqAt.shaped (.list (l.map PyData.str)) = true := by
  unfold SeqAt.shaped
  rw [PyData.canLay0, canLay_strs l h, PyData.depth, depth_strs]
  rfl
theorem dp_strs {K : PySem.W.Frag} {H : Hp} {a : Addr} {l : List Str} (h : SqL K H a (l.map V.str)) : Dp K H (.ref a) (.list (l.map PyData.str)) := .lst h (dpAll_strs l)
theorem at_str {L : List Str} {i : Nat} {z : Str} (h : L[i]? = some z) : atI (L.map V.str) (i : Int) = some (V.str z) := atI_nat (by rw [List.getElem?_map, h]; rfl)
-- part repjoin
/-- 'a' * n -/
def repS (z : Str) (n : Nat) : Str := ⟨(List.replicate n z.cps).foldl (· ++ ·) #[]⟩
theorem tl_rep (a : Array Nat) : ∀ (n : Nat) (acc : Array Nat), ((List.replicate n a).foldl (· ++ ·) acc).toList = acc.toList ++ (List.replicate n a.toList).flatten
  | 0, acc => by simp
  | n + 1, acc => by
    rw [List.replicate_succ, List.foldl_cons, tl_rep a n, Array.toList_append, List.replicate_succ, List.flatten_cons, List.append_assoc]
theorem tl_repS (z : Str) (n : Nat) : TL.tl (repS z n) = (List.replicate n (TL.tl z)).flatten := by
  show ((List.replicate n z.cps).foldl (· ++ ·) #[]).toList = _
  rw [tl_rep]
  rfl
theorem tl_rep1 {z : Str} {c : Nat} (h : TL.tl z = [c]) (n : Nat) : TL.tl (repS z n) = List.replicate n c := by
  rw [tl_repS, h]
  clear h
  induction n with
  | zero => rfl
  | succ n ih => rw [List.replicate_succ, List.flatten_cons, ih, List.replicate_succ, List.singleton_append]
theorem op_rep_str {X : Cx} : OpR X (binaryOp .Mult) (fun x y H Q => ∃ (z : Str) (n : Int), x = .str z ∧ y = .int n ∧ 1 < n ∧ n < 2 ^ 20 ∧ z.length ≠ 0 ∧ z.length ≤ 10 ∧ Q (.str (repS z n.toNat)) H) := by
  intro pins s σ H x y v u Q I rx ry h
  obtain ⟨z, n, rfl, rfl, h1, h2, h3, h4, q⟩ := h
  obtain ⟨t, rfl⟩ := rx
  obtain ⟨t', rfl⟩ := ry
  have e1 : (n == 1) = false := beq_eq_false_iff_ne.mpr (by omega)
  have e2 : (z.length == 0) = false := beq_eq_false_iff_ne.mpr h3
  have small : z.length * n.toNat ≤ sizeLine := by
    rw [sizeLine_eq]
    refine Nat.le_trans (Nat.mul_le_mul h4 (show n.toNat ≤ 1048576 by omega)) (by decide)
  refine PySem.P.mul_str ?_ (fun _ _ => ?_) (fun _ _ => ?_) ?_
  · rw [decide_eq_false (by omega), decide_eq_false (by omega)]
    rfl
  · have : (2 ^ 63 - 1 : Int) / 1048576 ≤ (2 ^ 63 - 1) / n := by
      refine Int.le_ediv_of_mul_le (by omega) ?_
      have : (2 ^ 63 - 1 : Int) / 1048576 * n ≤ (2 ^ 63 - 1 : Int) / 1048576 * 1048576 := Int.mul_le_mul_of_nonneg_left (by omega) (by decide)
      refine Int.le_trans this (by decide)
    have : (2 ^ 63 - 1 : Int) / 1048576 = 8796093022207 := by decide
    omega
  · exact decide_eq_false (by omega)
  · rw [if_neg (by omega), e1, e2, if_neg (by decide)]
    refine ⟨?_, .str (repS z n.toNat), H, I.tok _, ⟨_, rfl⟩, q⟩
    show (repS z n.toNat).length ≤ sizeLine
    rw [str_len, tl_repS]
    have : (List.replicate n.toNat (TL.tl z)).flatten.length = n.toNat * (TL.tl z).length := by simp
    rw [this, ← str_len, Nat.mul_comm]
    omega
theorem joinL_two (S a b : List Nat) (r : List (List Nat)) : TL.joinL S (a :: b :: r) = a ++ (S ++ TL.joinL S (b :: r)) := rfl
theorem sum_le {k : Nat} : ∀ {ys : List Str}, (∀ y ∈ ys, y.length ≤ k) → (ys.map (·.length)).sum ≤ ys.length * k
  | [], _ => Nat.zero_le _
  | y :: ys, h => by
    have h1 := h y List.mem_cons_self
    have h2 := sum_le (k := k) (ys := ys) fun z hz => h z (List.mem_cons_of_mem _ hz)
    rw [List.map_cons, List.sum_cons, List.length_cons, Nat.succ_mul]
    omega
theorem joinL_len {S : List Nat} : ∀ ps : List (List Nat), (TL.joinL S ps).length ≤ (ps.map (·.length)).sum + ps.length * S.length
  | [] => Nat.zero_le _
  | [p] => by
    show p.length ≤ _
    simp only [List.map_cons, List.map_nil, List.sum_cons, List.sum_nil]
    omega
  | p :: q :: r => by
    have := joinL_len (S := S) (q :: r)
    rw [joinL_two, List.length_append, List.length_append, List.map_cons, List.sum_cons, List.length_cons, Nat.succ_mul]
    omega
theorem join_len {y : Str} {ws : List Str} {k : Nat} (h : ∀ z ∈ ws, z.length ≤ k) : (Txt.join y ws).length ≤ ws.length * k + ws.length * y.length := by
  rw [TL.join_eq, str_len, TL.tl_join]
  have := joinL_len (S := TL.tl y) (ws.map TL.tl)
  have s := sum_le h
  rw [List.length_map, List.map_map] at this
  have e : (ws.map ((·.length) ∘ TL.tl)) = ws.map (·.length) := List.map_congr_left fun z _ => (str_len z).symm
  rw [e, ← str_len] at this
  omega
-- part erbk
/-! errors of books of reports -/
def okS : V → Prop := fun v => ∃ z : Str, v = .str z ∧ z.length ≤ 1000
/-- a copy of a list as the field -/
def spInitL (K : PySem.W.Frag) (C : Addr) (fld : Str) : Sp := fun vs H Q _ => ∃ (a l : Addr) (xs : List V), vs = [.ref a, .ref l] ∧ SqL K H l xs ∧ H a = some (exo a C none) ∧
  ∀ q d, H q = none → q ≠ a → upd H q (.lst xs) d = none → d ≠ a → Q .non (upd (upd (upd H q (.lst xs)) d (exd d [(fld, .ref q)])) a (exo a C (some d)))
theorem mkL {K : PySem.W.Frag} {C l : Addr} {fld : Str} {xs : List V} {H1 : Hp} {Q : XK} (hl : SqL K H1 l xs) (k : ∀ q d H2, Same H1 H2 → H1 q = none → H2 q = some (.lst xs) → H2 d = some (.xd [(fld, .ref q)]) → Q (.ref C) (some d) H2) :
    ([V.ref l] : List V).length ≤ 1000 ∧ ∀ a, H1 a = none → spInitL K C fld (.ref a :: ([V.ref l] ++ [])) (upd H1 a (exo a C none))
      (fun u H2 => u = .non ∧ ∃ (d : Addr) (fs : List (Str × V)), H2 a = some (exo a C (some d)) ∧ H2 d = some (exd d fs) ∧ H1 d = none ∧ Q (.ref C) (some d) (upd (del H2 a) d (.xd fs))) (fun _ _ _ => False) := by
  refine ⟨(by show 1 ≤ 1000; decide), fun a ha => ⟨a, l, xs, rfl, (same_upd ha).seq hl, upd_same, fun q d hq hqa hd hda => ⟨rfl, d, [(fld, .ref q)], upd_same, ?_, ?_, ?_⟩⟩⟩
  · rw [upd_ne hda, upd_same]
  · have hdq : d ≠ q := fun z => by
      rw [z, upd_same] at hd
      cases hd
    rw [upd_ne hdq, upd_ne hda] at hd
    exact hd
  · have hdq : d ≠ q := fun z => by
      rw [z, upd_same] at hd
      cases hd
    rw [upd_ne hdq, upd_ne hda] at hd
    rw [upd_ne hqa] at hq
    refine k q d _ (fun b o e => ?_) hq ?_ upd_same
    · have hba := ne_of_none e ha
      have hbd := ne_of_none e hd
      have hbq := ne_of_none e hq
      rw [upd_ne hbd, del_ne hba, upd_ne hba, upd_ne hbd, upd_ne hbq, upd_ne hba]
      exact e
    · rw [upd_ne (Ne.symm hdq), del_ne hqa, upd_ne hqa, upd_ne (Ne.symm hdq)]
      exact upd_same
-- part erun
abbrev s_iun : Stmt := inClass (top 8) 0
theorem sc_iun : FnScope ["self", "name"] ["self", "name"] (defScope s_iun) := ⟨rfl, rfl, rfl, by decide +kernel, rfl, by decide +kernel, by decide +kernel⟩
theorem ok_iun {f C CF : Addr} {fd : FuncData} (TF : FErr K mg CF) (hC : OexC K C) (hno : PySem.W.findIn K (.ref C) "name" = some none) (F : Fun K "__init__" "UnknownName.__init__" s_iun f fd) : FnOk P w K mg base CX0 1 f fd ["self", "name"] (spInitP C "name" okS) := by
  refine F.ok sc_iun (fun vs H Q E h => ?_) (fun cdv A outer s H vs Q E hr h => ?_)
  · obtain ⟨a, v, rfl, _⟩ := h
    rfl
  · obtain ⟨a, v, rfl, o, ha, q⟩ := h
    obtain ⟨z, rfl, hz⟩ := o
    have ln := hz
    have m1 : ("nothing has the name " : Str).length ≤ 100 := by decide +kernel
    refine ⟨_, (pss_cons (ps_expr (pe_feinit TF (pa_cons (pv 0) (pa_cons (pe_joined (.cons pe_str (.cons (pe_fmt (pv 1)) .nil))) pa_nil))))
 (pss_one (ps_ost (pv 0) (pv 1)))), ?_⟩
    refine ⟨_, rfl, _, rfl, by rw [empty_app, sizeLine_eq]; omega, _, rfl, .inl ⟨_, rfl, by rw [sizeLine_eq]; omega, _, rfl, by rw [empty_app, app_len, sizeLine_eq]; omega, ?_⟩⟩
    refine ⟨a, C, _, rfl, (by show 1 ≤ 1000; decide), hC, ha, ?_⟩
    exact ⟨_, rfl, _, rfl, a, C, rfl, hC, hno, .inl ⟨ha, fun dx hn hne => q dx hn hne⟩⟩
-- part comb
abbrev s_comb : Stmt := top 11
theorem sc_comb : FnScope ["a", "b", "d", "rest", "u", "next_u", "times"] ["a", "b"] (defScope s_comb) := ⟨rfl, rfl, rfl, by decide +kernel, rfl, by decide +kernel, by decide +kernel⟩
def CDivNW (_ j : Int) : Prop := j ≠ 0 ∧ j.natAbs.log2 < 9000
theorem op_fdivNW {X : Cx} : OpR X (binaryOp .FloorDiv) (rI CDivNW fun i j => .int (i.fdiv j)) := opI fun i j _ _ _ _ _ hc q => floordiv_int hc.1 q (.inl (PyProof.noPylong_of_log2 hc.2))
def BigL : Nat := 2 ^ 300
theorem bigL_lt {x : Nat} {a b : Int} (ha : a.natAbs < BigL) (hb : b.natAbs < BigL) (h : x ≤ a.natAbs + b.natAbs + 1) : x < 2 ^ 302 := by
  have e : (2 : Nat) ^ 302 = 4 * BigL := by decide
  have e2 : 2 ≤ BigL := by decide
  omega
def spComb : Sp := fun vs H Q _ => ∃ (a b : Int), vs = [.int a, .int b] ∧ a.natAbs < BigL ∧ b.natAbs < BigL ∧
  ∀ u v t H', u * a + v * b = ((a.gcd b : Nat) : Int) → u.natAbs < 2 ^ 302 → v.natAbs < 2 ^ 700 → Same H H' → H' t = some (.tup [.int ((a.gcd b : Nat) : Int), .int u, .int v]) → Q (.ref t) H'
theorem ok_comb {f : Addr} {fd : FuncData} (F : Fun K "combination" "combination" s_comb f fd) : FnOk P w K mg base CX0 1 f fd ["a", "b"] spComb := by
  refine F.ok sc_comb (fun vs H Q E h => ?_) (fun cdv A outer s H vs Q E hr h => ?_)
  · obtain ⟨a, b, rfl, _⟩ := h
    rfl
  · obtain ⟨a, b, rfl, ha, hb, q⟩ := h
    refine ⟨_, (pss_cons (ps_par (i := 2) (j := 3) rfl sc_comb.nd rfl rfl (by decide) rfl rfl (pa_cons (pv 0) (pa_cons (pv 1) pa_nil)) rfl)
 (pss_cons (ps_asg (pe_tup (pa_cons pe_int (pa_cons pe_int pa_nil))) (pg_tup rfl (pgs_cons (pg_name (i := 4) sc_comb.nd rfl (Or.inl rfl)) (pgs_cons (pg_name (i := 5) sc_comb.nd rfl (Or.inl rfl)) pgs_nil))))
 (pss_cons (ps_while PassesOwn.never (pt_cmpR op_ne (pv 3) pe_int (nomark _)) (pss_cons (ps_set (i := 6) sc_comb.nd rfl (Or.inl rfl) (pe_op op_fdivNW (pv 2) (pv 3)))
 (pss_cons (ps_par (i := 2) (j := 3) rfl sc_comb.nd rfl rfl (by decide) rfl rfl (pa_cons (pv 3) (pa_cons (pe_op op_sub (pv 2) (pe_op op_mulW (pv 6) (pv 3))) pa_nil)) rfl)
 (pss_one (ps_par (i := 4) (j := 5) rfl sc_comb.nd rfl rfl (by decide) rfl rfl (pa_cons (pv 5) (pa_cons (pe_op op_sub (pv 4) (pe_op op_mulW (pv 6) (pv 5))) pa_nil)) rfl)))))
 (pss_cons (ps_if (pt_cmpR op_lt (pv 2) pe_int (nomark _)) (pss_one (ps_par (i := 2) (j := 4) rfl sc_comb.nd rfl rfl (by decide) rfl rfl (pa_cons (pe_un un_neg (pv 2)) (pa_cons (pe_un un_neg (pv 4)) pa_nil)) rfl)) pss_nil)
 (pss_cons (ps_if (pt_cmpR op_eq (pv 1) pe_int (nomark _)) (pss_one (ps_ret (pe_tup (pa_cons (pv 2) (pa_cons (pv 4) (pa_cons pe_int pa_nil)))))) pss_nil)
 (pss_one (ps_ret (pe_tup (pa_cons (pv 2) (pa_cons (pv 4) (pa_cons (pe_op op_fdivNW (pe_op op_sub (pv 2) (pe_op op_mulW (pv 4) (pv 0))) (pv 1)) pa_nil))))))))))), ?_⟩
    refine ⟨_, rfl, _, rfl, _, _, rfl, ?_⟩
    refine ⟨(by show 2 ≤ sizeLine; decide), fun p0 hp0 => ⟨p0, _, rfl, .inl (.inl upd_same), rfl, _, _, rfl, _, _, rfl, rfl, ?_⟩⟩
    refine while_by (fun σ H' => H' = _ ∧ ∃ d r u u' x, σ = [some (.int a), some (.int b), some (.int d), some (.int r), some (.int u), some (.int u'), x] ∧ Euc a b d r u u')
      (fun σ _ => match σ[3]? with | some (some (V.int r)) => r.natAbs | _ => 0) ⟨rfl, _, _, _, _, _, rfl, euc0 a b⟩ ?_ ?_
    · rintro σ _ ⟨rfl, d, r, u, u', x, rfl, I⟩
      refine ⟨_, rfl, rfl, _, rfl, ?_⟩
      by_cases c : r = 0
      · refine if_neg_of (by simp [c]) ?_
        subst c
        have eg := euc_end I
        have bu := bigL_lt (x := u.natAbs) ha hb (by have := I.bu; omega)
        have ba : a.natAbs < 2 ^ 302 := bigL_lt ha hb (by omega)
        have s1 : Same H (upd H p0 (.tup [.int 1, .int 0])) := same_upd hp0
        obtain ⟨v, cv⟩ := I.c1
        obtain ⟨d', u', v', h1, h2, h3, h4, h5⟩ : ∃ d' u' v' : Int, (d < 0 → d' = -d ∧ u' = -u) ∧ (¬ d < 0 → d' = d ∧ u' = u) ∧ d' = ((a.gcd b : Nat) : Int) ∧ d' = u' * a + v' * b ∧ u'.natAbs < 2 ^ 302 := by
          by_cases hd : d < 0
          · refine ⟨-d, -u, -v, fun _ => ⟨rfl, rfl⟩, fun h => absurd hd h, by omega, ?_, by omega⟩
            rw [cv, Int.neg_mul, Int.neg_mul]
            omega
          · exact ⟨d, u, v, fun h => absurd h hd, fun _ => ⟨rfl, rfl⟩, by omega, cv, bu⟩
        refine ⟨_, rfl, _, _, rfl, rfl, _, rfl, ?_⟩
        by_cases hd : d < 0
        · refine if_pos_of (decide_eq_true hd) ?_
          refine ⟨_, rfl, _, rfl, _, rfl, _, rfl, V.int d', V.int u', (by rw [(h1 hd).1, (h1 hd).2] <;> rfl), ?_⟩
          refine ⟨_, rfl, rfl, _, rfl, ?_⟩
          by_cases hb0 : b = 0
          · refine if_pos_of (by simp [hb0]) ?_
            refine ⟨_, rfl, _, rfl, (by show 3 ≤ sizeLine; decide), fun t ht => ?_⟩
            subst hb0
            exact q u' 0 t _ (by omega) h5 (by decide) (s1.trans (same_upd ht)) (by rw [← h3]; exact upd_same)
          · refine if_neg_of (by simp [hb0]) ?_
            have m : (u' * a).natAbs < 2 ^ (302 + 302) := wide_lt h5 ba
            have bb : b.natAbs < 2 ^ 302 := bigL_lt (x := b.natAbs) ha hb (by omega)
            have bv : v'.natAbs < 2 ^ 700 := by
              have z := natAbs_le_mul (v := v') hb0
              have bd : d'.natAbs < 2 ^ 302 := bigL_lt ha hb (by have := I.bd; omega)
              have z2 : v' * b = d' - u' * a := by omega
              rw [z2] at z
              have z3 := Int.natAbs_sub_le d' (u' * a)
              have e1 : (2 : Nat) ^ 302 ≤ 2 ^ 604 := by decide
              have e2 : (2 : Nat) ^ 604 + 2 ^ 604 ≤ 2 ^ 700 := by decide
              have m' : (u' * a).natAbs < 2 ^ 604 := m
              generalize (2 : Nat) ^ 700 = T7 at *
              generalize (2 : Nat) ^ 604 = T6 at *
              generalize (2 : Nat) ^ 302 = T3 at *
              omega
            refine ⟨_, rfl, _, rfl, _, rfl, _, rfl, _, rfl, _, _, rfl, rfl, wide_mul h5 ba (by decide) (by decide) (by decide), _, _, rfl, rfl, _, rfl, _, _, rfl, rfl, ⟨hb0, PySem.Flt.log2_lt_of (by decide) (Nat.lt_of_lt_of_le bb (by decide))⟩, (by show 3 ≤ sizeLine; decide), fun t ht => ?_⟩
            show Q (V.ref t) (upd (upd H p0 (HO.tup [V.int 1, V.int 0])) t (HO.tup [V.int d', V.int u', V.int ((d' - u' * a).fdiv b)]))
            rw [euc_last hb0 h4]
            exact q u' v' t _ (by omega) h5 bv (s1.trans (same_upd ht)) (by rw [← h3]; exact upd_same)
        · refine if_neg_of (decide_eq_false hd) ?_
          rw [← (h2 hd).1, ← (h2 hd).2]
          refine ⟨_, rfl, rfl, _, rfl, ?_⟩
          by_cases hb0 : b = 0
          · refine if_pos_of (by simp [hb0]) ?_
            refine ⟨_, rfl, _, rfl, (by show 3 ≤ sizeLine; decide), fun t ht => ?_⟩
            subst hb0
            exact q u' 0 t _ (by omega) h5 (by decide) (s1.trans (same_upd ht)) (by rw [← h3]; exact upd_same)
          · refine if_neg_of (by simp [hb0]) ?_
            have m : (u' * a).natAbs < 2 ^ (302 + 302) := wide_lt h5 ba
            have bb : b.natAbs < 2 ^ 302 := bigL_lt (x := b.natAbs) ha hb (by omega)
            have bv : v'.natAbs < 2 ^ 700 := by
              have z := natAbs_le_mul (v := v') hb0
              have bd : d'.natAbs < 2 ^ 302 := bigL_lt ha hb (by have := I.bd; omega)
              have z2 : v' * b = d' - u' * a := by omega
              rw [z2] at z
              have z3 := Int.natAbs_sub_le d' (u' * a)
              have e1 : (2 : Nat) ^ 302 ≤ 2 ^ 604 := by decide
              have e2 : (2 : Nat) ^ 604 + 2 ^ 604 ≤ 2 ^ 700 := by decide
              have m' : (u' * a).natAbs < 2 ^ 604 := m
              generalize (2 : Nat) ^ 700 = T7 at *
              generalize (2 : Nat) ^ 604 = T6 at *
              generalize (2 : Nat) ^ 302 = T3 at *
              omega
            refine ⟨_, rfl, _, rfl, _, rfl, _, rfl, _, rfl, _, _, rfl, rfl, wide_mul h5 ba (by decide) (by decide) (by decide), _, _, rfl, rfl, _, rfl, _, _, rfl, rfl, ⟨hb0, PySem.Flt.log2_lt_of (by decide) (Nat.lt_of_lt_of_le bb (by decide))⟩, (by show 3 ≤ sizeLine; decide), fun t ht => ?_⟩
            show Q (V.ref t) (upd (upd H p0 (HO.tup [V.int 1, V.int 0])) t (HO.tup [V.int d', V.int u', V.int ((d' - u' * a).fdiv b)]))
            rw [euc_last hb0 h4]
            exact q u' v' t _ (by omega) h5 bv (s1.trans (same_upd ht)) (by rw [← h3]; exact upd_same)
      · refine if_pos_of (by simp [c]) ?_
        have br := bigL_lt (x := r.natAbs) ha hb (by have := I.br; omega)
        have bd := bigL_lt (x := d.natAbs) ha hb (by have := I.bd; omega)
        have bu := bigL_lt (x := u'.natAbs) ha hb (by have := I.bu'; omega)
        have bq : (d.fdiv r).natAbs < 2 ^ 302 := by
          obtain ⟨_, _, _, _, h4, _⟩ := fd_parts d r c
          omega
        have st := euc_step I c
        refine ⟨_, rfl, _, rfl, _, _, rfl, rfl, ⟨c, PySem.Flt.log2_lt_of (by decide) (Nat.lt_of_lt_of_le br (by decide))⟩, ?_⟩
        refine ⟨_, rfl, _, rfl, _, rfl, _, rfl, _, _, rfl, rfl, wide_mul bq br (by decide) (by decide) (by decide), _, _, rfl, rfl, _, _, rfl, ?_⟩
        refine ⟨_, rfl, _, rfl, _, rfl, _, rfl, _, _, rfl, rfl, wide_mul bq bu (by decide) (by decide) (by decide), _, _, rfl, rfl, _, _, rfl, ?_⟩
        exact ⟨⟨rfl, _, _, _, _, _, rfl, st.1⟩, st.2⟩
    · intro σ H1 Q1 Q2 h ⟨v, e, s, k, e2, q⟩
      exact ⟨v, e, s, k, e2, h _ _ q⟩
-- part chkn
/-! characteristics, in the layer L2N -/
/-- a characteristic: 0 or a prime -/
def Chr (p : Int) : Prop := p = 0 ∨ Pr p
abbrev s_chkp : Stmt := top 15
theorem sc_chkp : FnScope ["p"] ["p"] (defScope s_chkp) := ⟨rfl, rfl, rfl, by decide +kernel, rfl, by decide +kernel, by decide +kernel⟩
def spChkp (C : Addr) : Sp := fun vs H Q E => ∃ p : Int, vs = [.int p] ∧ p < 2 ^ 62 ∧ (Pr p → Q (.int p) H) ∧ (¬ Pr p → ∀ d H', Same H H' → H' d = some (.xd [("p", .int p)]) → E (.ref C) (some d) H')
theorem ok_chkp {f C : Addr} {fd : FuncData} (F : Fun K "checked_prime" "checked_prime" s_chkp f fd) (c_prime : Cl P w K mg base CX0 2 "is_prime" spPrime) (x_bc : Er P w K mg base "BadCharacteristic" "p" C) : FnOk P w K mg base (L2N.CX P w) 3 f fd ["p"] (spChkp C) := by
  refine okN F sc_chkp (fun vs H Q E h => ?_) (fun cdv A outer s H vs Q E hr h => ?_)
  · obtain ⟨n, rfl, _⟩ := h
    rfl
  · obtain ⟨p, rfl, hb, q, e⟩ := h
    refine ⟨_, (pss_cons (ps_if (pt_not (pt_val (pe_cl c_prime hr (pa_cons (pv 0) pa_nil)))) (pss_one (ps_raise1N x_bc hr (L2N.takes_of rfl rfl rfl rfl) (pa_cons (pv 0) pa_nil))) pss_nil)
 (pss_one (ps_ret (pv 0)))), ?_⟩
    refine ⟨_, rfl, p, rfl, hb, _, rfl, ?_⟩
    by_cases c2 : Pr p
    · refine if_neg_of (by rw [prB_true c2]; rfl) ?_
      exact ⟨_, rfl, q c2⟩
    · refine if_pos_of (by rw [prB_false c2]; rfl) ?_
      refine ⟨_, rfl, ?_⟩
      exact mk1 fun d H2 s _ hd => e c2 d H2 s hd
abbrev s_rem : Stmt := top 16
theorem sc_rem : FnScope ["n", "p"] ["n", "p"] (defScope s_rem) := ⟨rfl, rfl, rfl, by decide +kernel, rfl, by decide +kernel, by decide +kernel⟩
def spRem : Sp := fun vs H Q _ => ∃ n p : Int, vs = [.int n, .int p] ∧ 0 < p ∧ Q (.int (n % p)) H
theorem ok_rem {f : Addr} {fd : FuncData} (F : Fun K "remainder" "remainder" s_rem f fd) : FnOk P w K mg base CX0 1 f fd ["n", "p"] spRem := by
  refine F.ok sc_rem (fun vs H Q E h => ?_) (fun cdv A outer s H vs Q E hr h => ?_)
  · obtain ⟨n, p, rfl, _⟩ := h
    rfl
  · obtain ⟨n, p, rfl, hp, q⟩ := h
    refine ⟨_, (pss_cons (ps_if (pt_cmpR op_eq (pv 1) pe_int (nomark _)) (pss_one (ps_ret (pv 0))) pss_nil)
 (pss_one (ps_ret (pe_op op_mod (pv 0) (pv 1))))), ?_⟩
    refine ⟨_, rfl, rfl, _, rfl, if_neg_of (decide_eq_false fun e => by have := V.int.inj e; omega) ?_⟩
    exact ⟨_, rfl, _, rfl, _, _, rfl, rfl, hp, q⟩
abbrev s_recip : Stmt := top 17
theorem sc_recip : FnScope ["n", "p"] ["n", "p"] (defScope s_recip) := ⟨rfl, rfl, rfl, by decide +kernel, rfl, by decide +kernel, by decide +kernel⟩
def spRecip : Sp := fun vs H Q _ => ∃ n p : Int, vs = [.int n, .int p] ∧ Pr p ∧ p < 2 ^ 62 ∧ 0 < n ∧ n < p ∧ ∀ b H', 0 ≤ b → b < p → p ∣ b * n - 1 → Same H H' → Q (.int b) H'
theorem ok_recip {f : Addr} {fd : FuncData} (F : Fun K "reciprocal" "reciprocal" s_recip f fd) (c_comb : Cl P w K mg base CX0 1 "combination" spComb) : FnOk P w K mg base CX0 2 f fd ["n", "p"] spRecip := by
  refine F.ok sc_recip (fun vs H Q E h => ?_) (fun cdv A outer s H vs Q E hr h => ?_)
  · obtain ⟨n, p, rfl, _⟩ := h
    rfl
  · obtain ⟨n, p, rfl, hp, hb, n0, n1, q⟩ := h
    have e62 : (2 : Nat) ^ 62 ≤ BigL := by decide
    have p2 := hp.1
    refine ⟨_, (pss_one (ps_ret (pe_op op_mod (pe_ix ix_tup (pe_cl c_comb hr (pa_cons (pv 0) (pa_cons (pv 1) pa_nil))) pe_int (fun _ _ => rfl)) (pv 1)))), ?_⟩
    refine ⟨_, rfl, _, rfl, n, p, rfl, by omega, by omega, fun u v t H1 huv _ _ s1 ht => ?_⟩
    rw [gcd_one hp n0 n1] at huv ht
    refine ⟨t, _, _, _, rfl, rfl, SqT.of ht, rfl, _, rfl, _, _, rfl, rfl, (by omega), ?_⟩
    exact q (u % p) H1 (Int.emod_nonneg _ (by omega)) (Int.emod_lt_of_pos _ (by omega)) (recip_ok huv (by omega)) s1
-- part kwm
/-! methods called with keywords, nothing lacks -/
structure MeKw (P : Program) (w : World) (K : PySem.W.Frag) (mg : Str → Option Value) (base : Heap) (CX : CXT) (k : Nat) (C : Addr) (m : Str) (n : Nat) (ks : List Str) (sp : Sp) : Prop where
  ex : ∃ (f : Addr) (fd : FuncData) (ps : List Str), Meth K C m f ∧ FnOk P w K mg base CX k f fd ps sp ∧ KBn K fd ps (n + 1) ks (fun us ws => us ++ ws) (fun vs zs => vs ++ zs)
theorem kbn_of {K : PySem.W.Frag} {fd : FuncData} {ps ks : List Str} {n : Nat} (h : ∀ (s : Shared) (us ws : List Value), us.length = n → ws.length = ks.length → BindsTo s fd ⟨us, ks.zip ws⟩ (ps.zip (us ++ ws))) : KBn K fd ps n ks (fun us ws => us ++ ws) (fun vs zs => vs ++ zs) :=
  ⟨fun s us ws _ l1 l2 => h s us ws l1 l2, fun r1 r2 => r1.append r2⟩
def tMethK (C : Addr) (m : Str) (n j : Nat) (sp : Sp) (E : L2.St → XK) (ta : TE) (t tk : TA) : TE := fun σ H Q => ta σ H fun x H1 => ∃ a dx fs, x = .ref a ∧ H1 a = some (.ins C dx fs) ∧ fs.lookup m = none ∧ t σ H1 fun vs H2 => tk σ H2 fun zs H3 => vs.length = n ∧ zs.length = j ∧ sp (x :: vs ++ zs) H3 Q (E σ)
section
variable {X : Cx} {C : Addr} {m : Str} {sp : Sp} {k j n : Nat} {ks : List Str} {o e : Expr} {es : List Expr} {kws : List Keyword} {ta : TE} {t tw : TA} {apos pos : Pos} {pl : Sem Bool}
theorem run_fnK {CX : CXT} {E : L2.St → XK} {f : Addr} {fd : FuncData} {ps : List Str} {pins : List (Addr × Obj)} {σ : L2.St} {H : Hp} {s : Shared} {Q : VK} {us ws : List Value} {vs zs : List V} (F : FnOk X.prog X.w X.K X.mg X.base CX k f fd ps sp) (hr : Room k X.A) (hb : KBn X.K fd ps n ks (fun us ws => us ++ ws) (fun vs zs => vs ++ zs)) (hx : PassesAt CX X σ (E σ))
    (I : Inv X pins σ H s) (r : Vals vs us) (rz : Vals zs ws) (l1 : vs.length = n) (l2 : zs.length = ks.length) (h : sp (vs ++ zs) H Q (E σ)) : wpAny (model X.prog X.w) X.A (call (.ref f) us (ks.zip ws)) (EP X pins σ Q) X.xe s := by
  have r2 := hb.rel r rz
  refine wpAny_call (codeAny_mono (F.run X.A X.stack s H ⟨us, ks.zip ws⟩ (us ++ ws) (vs ++ zs) Q (E σ) hr I.env0 (hb.to s us ws I.kIn (r.length.symm.trans l1) (rz.length.symm.trans l2)) r2 h) fun r s' hq => ?_)
  cases r with
  | error e => exact hx pins H s e s' I hq
  | ok fl =>
    cases fl with
    | ret u => exact I.after hq
    | next => exact False.elim hq
    | brk => exact False.elim hq
    | cont => exact False.elim hq
theorem pe_meKw {CX : CXT} {E : L2.St → XK} (c : MeKw X.prog X.w X.K X.mg X.base CX k C m n ks sp) (cl : Cls X.K C) (hr : Room j X.A) (hx : ∀ σ, PassesAt CX X σ (E σ)) (he : PE X o ta) (ha : PA X (e :: es) t) (hw : PK X kws tw) (hk : k ≤ j := by decide)
    (hall : (backToKw pos (keywordEach kws X.env)).all (·.1.isSome) = true := by rfl) (hks : (backToKw pos (keywordEach kws X.env)).filterMap (·.1) = ks := by rfl)
    (hst : starEach (e :: es) X.env = (false, eval e X.env) :: starEach es X.env := by rfl) (hpl : ((backTo pos (starEach (e :: es) X.env)).any (·.1) || (backToKw pos (keywordEach kws X.env)).any (·.1.isNone)) = false := by rfl)
    (ht : eval (.Call (.Attribute o m apos) (e :: es) kws pos) X.env = (do
      let ov ← eval o X.env
      standAt apos.atName
      let (f, first) ← holding [ov] (getMethod ov m pl)
      callWith pos f first (backTo pos (starEach (e :: es) X.env)) (backToKw pos (keywordEach kws X.env))) := by rfl) :
    PE X (.Call (.Attribute o m apos) (e :: es) kws pos) (tMethK C m n ks.length sp E ta t tw) := by
  obtain ⟨f, fd, ps, M, F, b⟩ := c.ex
  refine ⟨fun pins s σ H Q I h => ?_⟩
  refine PySem.W.methodCall_KW (pl := pl) (thn (he.run pins s σ H _ I h) fun u s1 ⟨x, H1, I1, rx, a, dx, fs, ex, ea, l, q⟩ => ?_) ht
  subst ex
  obtain rfl : u = Value.ref a := rx
  refine getmeth_ok I1 ea cl M l ?_
  refine PySem.W.callWith_KW (first := [.ref a]) (h₀ := X.base) I1.ok.mod.kin M.kp hall (thn (ha.run pos pins s1 σ H1 _ I1 q) fun us s2 ⟨vs, H2, I2, r, q⟩ => ?_) hpl hst
  refine thn (hw.run pos pins s2 σ H2 _ I2 q) fun ws s3 ⟨zs, H3, I3, rz, l1, l2, q2⟩ => ⟨I3.kIn, ?_⟩
  rw [hks]
  exact run_fnK (us := .ref a :: us) (vs := .ref a :: vs) F (hr.mono hk) b (hx σ) I3 (.cons rfl r) rz (congrArg Nat.succ l1) l2 q2
/-- o.m(.., k = v), no keyword's positional argument -/
theorem pe_meKw0 {CX : CXT} {E : L2.St → XK} (c : MeKw X.prog X.w X.K X.mg X.base CX k C m 0 ks sp) (cl : Cls X.K C) (hr : Room j X.A) (hx : ∀ σ, PassesAt CX X σ (E σ)) (he : PE X o ta) (hw : PK X kws tw) (hk : k ≤ j := by decide)
    (hall : (backToKw pos (keywordEach kws X.env)).all (·.1.isSome) = true := by rfl) (hks : (backToKw pos (keywordEach kws X.env)).filterMap (·.1) = ks := by rfl)
    (hpl : ((backTo pos (starEach [] X.env)).any (·.1) || (backToKw pos (keywordEach kws X.env)).any (·.1.isNone)) = false := by rfl)
    (ht : eval (.Call (.Attribute o m apos) [] kws pos) X.env = (do
      let ov ← eval o X.env
      standAt apos.atName
      let (f, first) ← holding [ov] (getMethod ov m pl)
      callWith pos f first (backTo pos (starEach [] X.env)) (backToKw pos (keywordEach kws X.env))) := by rfl) :
    PE X (.Call (.Attribute o m apos) [] kws pos) (tMethK C m 0 ks.length sp E ta tNil tw) := by
  obtain ⟨f, fd, ps, M, F, b⟩ := c.ex
  refine ⟨fun pins s σ H Q I h => ?_⟩
  refine PySem.W.methodCall_KW (pl := pl) (thn (he.run pins s σ H _ I h) fun u s1 ⟨x, H1, I1, rx, a, dx, fs, ex, ea, l, q⟩ => ?_) ht
  subst ex
  obtain rfl : u = Value.ref a := rx
  refine getmeth_ok I1 ea cl M l ?_
  refine PySem.W.callWith_KW0 (first := [.ref a]) (h₀ := X.base) I1.ok.mod.kin M.kp hall (thn (hw.run pos pins s1 σ H1 _ I1 q) fun ws s3 ⟨zs, H3, I3, rz, l1, l2, q2⟩ => ⟨I3.kIn, ?_⟩) hpl
  rw [hks]
  exact run_fnK (us := [.ref a]) (vs := [.ref a]) F (hr.mono hk) b (hx σ) I3 (.cons rfl .nil) rz rfl l2 q2
theorem passE0 : ∀ σ : L2.St, PassesAt CX0 X σ E0 := fun _ _ _ _ _ _ _ h => h.elim
theorem passEN : ∀ σ : L2.St, PassesAt (L2N.CX X.prog X.w) X σ E0 := fun _ _ _ _ _ _ _ ⟨_, _, _, _, _, _, _, _, _, _, _, _, z⟩ => z.elim
end
/-- a list compared with the empty one -/
def rEqNil (K : PySem.W.Frag) : R2 := fun x y H Q => ∃ a b xs, x = .ref a ∧ y = .ref b ∧ SqL K H a xs ∧ SqL K H b [] ∧ Q (.bl xs.isEmpty) H
theorem op_eqNil {X : Cx} {k : Nat} (hr : Room k X.A) : OpR X (compareOp .Eq) (rEqNil X.K) := by
  intro pins s σ H x y v u Q I rx ry h
  obtain ⟨a, b, xs, rfl, rfl, ha, hb, q⟩ := h
  cases (show v = Value.ref a from rx)
  cases (show u = Value.ref b from ry)
  obtain ⟨us, r1, p1, _⟩ := I.list ha
  obtain ⟨ws, r2, p2, _⟩ := I.list hb
  have hu := hr.un
  cases r2
  cases r1 with
  | nil =>
    refine SeqAt.eq_listAt (e := fun _ => true) p1.isList p2.isList rfl (by omega) (fun j h1 h2 => absurd h1 (Nat.not_lt_zero j)) ?_
    exact ⟨.bl true, H, I, rfl, q⟩
  | cons _ _ =>
    refine SeqAt.eq_list_lengthsAt p1.isList p2.isList (by simp) (by omega) ?_
    exact ⟨.bl false, H, I, rfl, q⟩
-- part hu1
theorem hu1 {k : Nat} {A : Around} (hr : Room k A) : A.units + 1 < cLine := by
  have := hr.un
  omega
-- part starg
/-! a, b, *rest = a list -/
theorem pgs_star {X : Cx} {e : Expr} {es : List Expr} {t : TG} {u : TGs} {p : Pos} (h1 : PG X e t) (h2 : PGs X es u)
    (hs : (assignEach (.Starred e p :: es) X.env).map (·.2) = assign e X.env :: (assignEach es X.env).map (·.2) := by rfl) : PGs X (.Starred e p :: es) (gCons t u) := by
  refine ⟨fun pins s σ H vs us Q I r h => ?_⟩
  obtain ⟨v, vr, e1, h⟩ := h
  subst e1
  cases r with
  | cons r rr =>
    rw [hs]
    refine assignInOrder_cons (thn (h1.run pins s σ H _ _ _ I r h) fun _ s1 ⟨σ1, H1, I1, q1⟩ => ?_)
    exact h2.run pins s1 σ1 H1 _ _ Q I1 rr q1
section
open PySem.W
variable {prog : Program} {w' : World} {A : Around} {E : Value → Shared → Prop} {s : Shared}
/-- the items of a list, the last target a star -/
theorem star_items {l : Addr} {items : Array Value} {i : Nat} {Q : List Value → Shared → Prop} (hl : s.heap.IsList l items) (hh : A.handled = none) (hi : i ≤ items.size) (hz : items.size ≤ sizeLine)
    (h : ∀ (h' : Heap) (tk : Nat), (∀ b o, s.heap.get? b = some o → h'.get? b = some o) → Q (items.toList.take i ++ [.ref h'.objs.size]) { s with heap := h'.push { cls := .type "list", data := .seq (items.toList.drop i).toArray }, toks := tk }) :
    wpAny (model prog w') A (unpackItems (.ref l) (i + 1) (some i)) Q E s := by
  have hlt : l ≠ s.heap.objs.size := by obtain ⟨o, ho, _⟩ := hl; exact Nat.ne_of_lt (Heap.lt_size ho)
  unfold unpackItems
  refine wpAny_bind ?_
  unfold notIterableAtAll
  refine wpAny_bind (wpAny_specialOf hl.typeIs PySem.F.slot_list_iter.lookup ?_)
  refine wpAny_pure ?_
  simp only [Bool.false_eq_true, if_false]
  refine wpAny_bind (wpAny_holding (wpAny_pyIter_list hl ?_))
  refine wpAny_bind (wpAny_holding (kun_draw hlt i 0 _ _ ⟨_, Heap.get?_push_size _ rfl, rfl, rfl⟩ (hl.push _) (by omega) fun h₁ hit₁ hs₁ => ?_))
  have hl₁ : h₁.IsList l items := (hl.push _).extBut hs₁.extBut hlt
  rw [Nat.zero_add] at hit₁
  have hit₁' := hit₁
  obtain ⟨oi, hoi, _⟩ := hit₁'
  have hl₁' := hl₁
  obtain ⟨ol, hol, _⟩ := hl₁'
  rw [List.drop_zero]
  have hfl : (items.toList.take i).length = i := by rw [List.length_take, Array.length_toList]; omega
  rw [if_neg (show ¬ ((items.toList.take i).length < i) by rw [hfl]; omega)]
  refine wpAny_bind (wpAny_holding (kun_collect (s := { s with heap := h₁ }) (T := "list_iterator") (.inr (.inr (.inl rfl))) (Walks.list (A := A.in1) hh s.heap.objs.size l hlt items) (fun j u st => st.1.typeIs) (k := i) (by omega) ⟨hit₁, hl₁⟩ (Heap.lt_size hoi) (Heap.lt_size hol) (fun h₂ tk hk => ?_) hz))
  have hrl : (items.toList.drop i).length = items.size - i := by rw [List.length_drop, Array.length_toList]
  show wpAny _ _ (if (items.toList.drop i).length < (i + 1) - 1 - i then _ else _) _ _ _
  rw [if_neg (by omega)]
  show wpAny _ _ (newList ((items.toList.drop i).take ((items.toList.drop i).length - ((i + 1) - 1 - i))) >>= fun d => pure (items.toList.take i ++ [d] ++ (items.toList.drop i).drop ((items.toList.drop i).length - ((i + 1) - 1 - i)))) _ _ _
  have e0 : (items.toList.drop i).length - ((i + 1) - 1 - i) = (items.toList.drop i).length := by omega
  rw [e0, List.take_length, List.drop_length]
  refine wpAny_bind (wpAny_newList (wpAny_pure ?_))
  rw [List.append_nil]
  exact h h₂ tk fun b o e => hk b o (Nat.ne_of_lt (Heap.lt_size e)) (hs₁.extBut b o (Nat.ne_of_lt (Heap.lt_size e)) (Heap.get?_push_of_some _ e))
end
/-- (a, b, .., *r) = a list -/
def gStar (K : PySem.W.Frag) (n : Nat) (t : TGs) : TG := fun v σ H Q => ∃ a xs, v = .ref a ∧ SqL K H a xs ∧ n ≤ xs.length ∧ ∀ r, H r = none → t (xs.take n ++ [.ref r]) σ (upd H r (.lst (xs.drop n))) Q
theorem vals_take {xs : List V} {us : List Value} (h : Vals xs us) (n : Nat) : Vals (xs.take n) (us.take n) := by
  induction n generalizing xs us with
  | zero => exact .nil
  | succ n ih =>
    cases h with
    | nil => exact .nil
    | cons r rs => exact .cons r (ih rs)
theorem vals_drop {xs : List V} {us : List Value} (h : Vals xs us) (n : Nat) : Vals (xs.drop n) (us.drop n) := by
  induction n generalizing xs us with
  | zero => exact h
  | succ n ih =>
    cases h with
    | nil => exact .nil
    | cons r rs => exact ih rs
theorem pg_star {X : Cx} {pos : Pos} {es : List Expr} {k : Nat} {t : TGs} {n : Nat} (hc : X.calm = true) (h : PGs X es t)
    (hn : (assignEach es X.env).length = n + 1 := by rfl) (hst : (assignEach es X.env).findIdx? (·.1) = some n := by rfl) : PG X (.Tuple es k pos) (gStar X.K n t) := by
  refine ⟨fun pins s σ H v u Q I r hw => ?_⟩
  obtain ⟨a, xs, e1, hq, hl, hw⟩ := hw
  subst e1
  cases r
  obtain ⟨its, rv, pl, hz⟩ := I.list hq
  have lv := rv.length
  have hl' : s.heap.IsList a its.toArray := by
    obtain ⟨o, m, e, c, d, q⟩ := pl
    exact ⟨o, e, c, m, q⟩
  rw [PyProof.Rows.assign_Tuple]
  refine wpAny_bind (wpAny_standAt ?_)
  unfold unpack
  rw [hn, hst]
  refine wpAny_bind (wpAny_holding (star_items hl' (I.ok.hd hc) (by simp; omega) (by simp; omega) fun h' tk hx => ?_))
  have I1 : Inv X pins σ H { s with heap := h', toks := tk } := I.kept (t' := tk) fun b o e => hx b o e
  have fresh : H h'.objs.size = none := I1.hok.fresh (Nat.le_refl _)
  have I2 := I1.laid (a := h'.objs.size) (o := .lst (xs.drop n)) (h' := h'.push { cls := .type "list", data := .seq (its.drop n).toArray }) (t' := tk) (fun _ _ q => Heap.get?_push_of_some _ q) (Nat.le_refl _)
    ⟨by rw [List.length_drop]; omega, its.drop n, _, vals_drop rv n, Heap.get?_push_size _ rfl⟩
  have r2 : Vals (xs.take n ++ [.ref h'.objs.size]) (its.take n ++ [.ref h'.objs.size]) := (vals_take rv n).append (.cons rfl .nil)
  exact h.run pins _ σ _ _ _ Q I2 (by simpa using r2) (hw _ fresh)
-- part wdict
/-! written dicts: their keys in order, their values -/
structure WDict (K : PySem.W.Frag) (w : World) (d : Addr) (kvs : List (Str × V)) : Prop where
  keys : He.dicW K d = some (He.keysIn w.params (kvs.map (·.1)))
  vals : ∀ kv ∈ kvs, ∃ u, PySem.W.nsIn K d kv.1 = some (some u) ∧ RelV kv.2 u
  nd : (kvs.map (·.1)).Nodup
theorem WDict.entries {K : PySem.W.Frag} {w : World} {d : Addr} {kvs : List (Str × V)} (W : WDict K w d kvs) : ∃ es n, KDict K w d es n ∧ es.toList.map He.keyOf = He.keysIn w.params (kvs.map (·.1)) := by
  obtain ⟨es, n, D⟩ := He.dicW_ok W.keys
  refine ⟨es, n, D, ?_⟩
  have e := W.keys
  unfold He.dicW at e
  rw [D.at_] at e
  have c : (decide ("dict" = "dict") && ((#[] : Array (Option Value)).isEmpty && !(d == sysModules))) = true := by
    rw [D.low]
    rfl
  have e2 : (match decide ("dict" = "dict") && ((#[] : Array (Option Value)).isEmpty && !(d == sysModules)) with
    | true => some (es.toList.map He.keyOf)
    | false => none) = some (He.keysIn w.params (kvs.map (·.1))) := e
  rw [c] at e2
  exact Option.some.inj e2
theorem keyOf_str {e : DictEntry} {x : Str} {h : Int} (q : He.keyOf e = some (x, h)) : ∃ t, e.key = .str x t ∧ e.hash = h := by
  unfold He.keyOf at q
  split at q
  · rename_i y t ek
    have e1 := Option.some.inj q
    exact ⟨t, by rw [ek, (Prod.mk.inj e1).1], (Prod.mk.inj e1).2⟩
  · cases q
theorem isStr_dec (x y : Str) (t : Tok) : (Value.str y t).isStr x = decide (y = x) := by
  rw [PySem.W.isStr_of]
  rfl
theorem entries_none {P : Params} {z : Str} : ∀ {es : List DictEntry} {ks : List Str}, es.map He.keyOf = He.keysIn P ks → z ∉ ks → es.find? (·.key.isStr z) = none ∧ es.any (·.refKey) = false
  | [], _, _, _ => ⟨rfl, rfl⟩
  | e :: er, [], h, _ => by cases h
  | e :: er, k :: kr, h, hz => by
    have h1 : He.keyOf e :: er.map He.keyOf = some (k, PyData.keyHash P k) :: He.keysIn P kr := h
    injection h1 with h2 h3
    obtain ⟨t, ek, _⟩ := keyOf_str h2
    obtain ⟨i1, i2⟩ := entries_none h3 fun m => hz (List.mem_cons_of_mem _ m)
    have n : ¬ k = z := fun q => hz (by rw [q]; exact List.mem_cons_self)
    refine ⟨?_, ?_⟩
    · rw [List.find?_cons, ek, isStr_dec, decide_eq_false n]
      exact i1
    · rw [List.any_cons, i2]
      unfold DictEntry.refKey
      rw [ek] <;> rfl
theorem WDict.none {K : PySem.W.Frag} {w : World} {d : Addr} {kvs : List (Str × V)} (W : WDict K w d kvs) {z : Str} (hz : z ∉ kvs.map (·.1)) : PySem.W.nsIn K d z = some .none := by
  obtain ⟨es, n, D, e⟩ := W.entries
  obtain ⟨e1, e2⟩ := entries_none e hz
  unfold PySem.W.nsIn
  rw [D.at_]
  dsimp only
  rw [e1]
  dsimp only
  rw [e2] <;> rfl
theorem valV_mem {z : Str} {v : V} : ∀ {kvs : List (Str × V)}, (z, v) ∈ kvs → (kvs.map (·.1)).Nodup → valV kvs z = some v
  | [], h, _ => nomatch h
  | p :: r, h, hn => by
    rw [List.map_cons, List.nodup_cons] at hn
    rcases List.mem_cons.mp h with e | h
    · subst e
      exact valV_pos rfl
    · have n : ¬ p.1 = z := fun q => hn.1 (by rw [q]; exact List.mem_map.mpr ⟨_, h, rfl⟩)
      rw [valV_neg n]
      exact valV_mem h hn.2
theorem valV_keys {z : Str} {kvs : List (Str × V)} (h : z ∉ kvs.map (·.1)) : valV kvs z = none := by
  have e := valV_any z kvs
  cases q : valV kvs z with
  | none => rfl
  | some v =>
    rw [q] at e
    obtain ⟨kv, hk, hz⟩ := List.any_eq_true.mp e
    exact absurd (List.mem_map.mpr ⟨kv, hk, of_decide_eq_true hz⟩) h
theorem valV_in {z : Str} {v : V} {kvs : List (Str × V)} (h : valV kvs z = some v) : (z, v) ∈ kvs := by
  unfold valV at h
  obtain ⟨kv, hk, e⟩ := Option.map_eq_some_iff.mp h
  have := List.find?_some hk
  have e1 : kv.1 = z := of_decide_eq_true this
  have m := List.mem_of_find?_eq_some hk
  rw [← e1, ← e]
  exact m
/-- what is found at a key -/
theorem WDict.get {K : PySem.W.Frag} {w : World} {d : Addr} {kvs : List (Str × V)} (W : WDict K w d kvs) (z : Str) : ∃ r, PySem.W.nsIn K d z = some r ∧ r.isSome = (valV kvs z).isSome ∧ ∀ v, valV kvs z = some v → ∃ u, r = some u ∧ RelV v u := by
  by_cases c : z ∈ kvs.map (·.1)
  · obtain ⟨kv, hk, e⟩ := List.mem_map.mp c
    obtain ⟨u, h1, h2⟩ := W.vals kv hk
    subst e
    have ev := valV_mem (z := kv.1) (v := kv.2) hk W.nd
    refine ⟨_, h1, by rw [ev] <;> rfl, fun v hv => ?_⟩
    rw [ev] at hv
    cases hv
    exact ⟨u, rfl, h2⟩
  · refine ⟨_, W.none c, by rw [valV_keys c] <;> rfl, fun v hv => ?_⟩
    rw [valV_keys c] at hv
    cases hv
section
variable {X : Cx} {d : Addr} {kvs : List (Str × V)}
theorem op_inW (W : WDict X.K X.w d kvs) : OpR X (compareOp .In) (fun x y H Q => ∃ z : Str, x = .str z ∧ y = .ref d ∧ Q (.bl (valV kvs z).isSome) H) := by
  obtain ⟨es, n, D, _⟩ := W.entries
  intro pins s σ H x y v u Q I rx ry h
  obtain ⟨z, e1, e2, q⟩ := h
  obtain ⟨r, h1, h2, _⟩ := W.get z
  exact op_in_kd D pins s σ H x y v u Q I rx ry ⟨z, r, e1, e2, h1, by rw [h2]; exact q⟩
theorem op_notInW (W : WDict X.K X.w d kvs) : OpR X (compareOp .NotIn) (fun x y H Q => ∃ z : Str, x = .str z ∧ y = .ref d ∧ Q (.bl (!(valV kvs z).isSome)) H) := by
  obtain ⟨es, n, D, _⟩ := W.entries
  intro pins s σ H x y v u Q I rx ry h
  obtain ⟨z, e1, e2, q⟩ := h
  obtain ⟨r, h1, h2, _⟩ := W.get z
  exact op_notIn_kd D pins s σ H x y v u Q I rx ry ⟨z, r, e1, e2, h1, by rw [h2]; exact q⟩
theorem WDict.kdct {K : PySem.W.Frag} {w : World} (W : WDict K w d kvs) {z : Str} {v : V} (h : valV kvs z = some v) : KDct K w d z v := by
  obtain ⟨es, n, D, _⟩ := W.entries
  obtain ⟨r, h1, _, h3⟩ := W.get z
  obtain ⟨u, e, ru⟩ := h3 v h
  subst e
  exact ⟨es, n, u, D.at_, D.lit, h1, ru⟩
theorem entries_pairs {P : Program} {w : World} : ∀ {es : List DictEntry} {kvs : List (Str × V)}, es.map He.keyOf = He.keysIn w.params (kvs.map (·.1)) → (kvs.map (·.1)).Nodup →
    (∀ kv ∈ kvs, ∃ e, es.find? (·.key.isStr kv.1) = some e ∧ RelV kv.2 e.val) → ∃ vs : List (Key × Value), Pairs (mixKind P w) es vs ∧ KV (kvs.map fun kv => ((Sum.inr kv.1 : Key), kv.2)) vs ∧ vs.map (·.1) = kvs.map (fun kv => (Sum.inr kv.1 : Key)) ∧ ∀ e ∈ es, ∃ k, (mixKind P w).is k e.key = true ∧ e.hash = (mixKind P w).hash k
  | [], [], _, _, _ => ⟨[], .nil, .nil, rfl, fun _ h => nomatch h⟩
  | [], _ :: _, h, _, _ => by cases h
  | _ :: _, [], h, _, _ => by cases h
  | e :: er, kv :: kr, h, hn, hv => by
    have h1 : He.keyOf e :: er.map He.keyOf = some (kv.1, PyData.keyHash w.params kv.1) :: He.keysIn w.params (kr.map (·.1)) := h
    injection h1 with h2 h3
    obtain ⟨t, ek, eh⟩ := keyOf_str h2
    rw [List.map_cons, List.nodup_cons] at hn
    obtain ⟨vs, p1, p2, p3, p4⟩ := entries_pairs (P := P) h3 hn.2 fun kv' m => by
      obtain ⟨e', f1, f2⟩ := hv kv' (List.mem_cons_of_mem _ m)
      have n : ¬ kv.1 = kv'.1 := fun q => hn.1 (by rw [q]; exact List.mem_map.mpr ⟨_, m, rfl⟩)
      rw [List.find?_cons, ek, isStr_dec, decide_eq_false n] at f1
      exact ⟨e', f1, f2⟩
    obtain ⟨e', f1, f2⟩ := hv kv List.mem_cons_self
    rw [List.find?_cons, ek, isStr_dec, decide_eq_true rfl] at f1
    have ee : e = e' := Option.some.inj f1
    subst ee
    have is1 : (mixKind P w).is (.inr kv.1) e.key = true := by
      rw [ek]
      exact mixKind_str P w kv.1 t
    refine ⟨(.inr kv.1, e.val) :: vs, .cons is1 rfl p1, .cons ⟨rfl, f2⟩ p2, by rw [List.map_cons, List.map_cons, p3], fun e2 m => ?_⟩
    rcases List.mem_cons.mp m with q | m
    · subst q
      exact ⟨.inr kv.1, is1, eh⟩
    · exact p4 e2 m
/-- dict(d), d a written dict -/
theorem call_dictW (W : WDict X.K X.w d kvs) (few : kvs.length ≤ 1000) : CallR X (.type "dict") (fun xs H Q => xs = [.ref d] ∧ ∀ p, H p = none → Q (.ref p) (upd H p (.dK (kvs.map fun kv => ((Sum.inr kv.1 : Key), kv.2))))) := by
  obtain ⟨es, n, D, ee⟩ := W.entries
  intro pins s σ H xs us Q I r q
  obtain ⟨ex, q⟩ := q
  subst ex
  obtain ⟨u, eu, rx⟩ := vals1 r
  subst eu
  cases rx
  obtain ⟨vs, p1, p2, p3, p4⟩ := entries_pairs (P := X.prog) ee W.nd fun kv m => by
    obtain ⟨u, h1, h2⟩ := W.vals kv m
    unfold PySem.W.nsIn at h1
    rw [D.at_] at h1
    dsimp only at h1
    split at h1
    · rename_i e' he
      have e2 : e'.val = u := Option.some.inj (Option.some.inj h1)
      exact ⟨e', he, by rw [e2]; exact h2⟩
    · split at h1
      · cases h1
      · cases Option.some.inj h1
  have nd2 : (vs.map (·.1)).Nodup := by
    have e3 : (kvs.map fun kv => (Sum.inr kv.1 : Key)) = (kvs.map (·.1)).map Sum.inr := by rw [List.map_map] <;> rfl
    rw [p3, e3]
    exact List.Pairwise.map _ (fun a b n e => n (Sum.inr.inj e)) W.nd
  have dd : s.heap.DictOf (mixKind X.prog X.w) d vs := ⟨_, es, n, I.kIn _ _ D.at_, ⟨rfl, rfl, rfl⟩, rfl, fun e he => p4 e (Array.mem_toList_iff.mpr he), p1, nd2⟩
  have lv : vs.length = kvs.length := by have := congrArg List.length p3; rw [List.length_map, List.length_map] at this; exact this
  have z : kvs.length ≤ sizeLine := by rw [sizeLine_eq]; omega
  refine kt_call_dict D.low dd (by rw [lv]; exact z) fun h' d' hs => ?_
  have hm : (s.heap.objs.size == sysModules) = false := beq_eq_false_iff_ne.mpr (Nat.ne_of_gt I.big)
  exact ⟨.ref s.heap.objs.size, upd H s.heap.objs.size (.dK (kvs.map fun kv => ((Sum.inr kv.1 : Key), kv.2))), I.laid (t' := s.toks) (fun b u e => (hs.2 b (Nat.ne_of_lt (Heap.lt_size e))).trans (Heap.get?_push_of_some _ e)) (Nat.le_refl _)
    (show ObjOk X.prog X.w _ _ _ (.dK _) from ⟨by rw [List.length_map]; exact z, hm, vs, p2, d'⟩), rfl, q _ (I.hok.fresh (Nat.le_refl _))⟩
end
/-! None in a list of None and tuples -/
def NoneT (K : PySem.W.Frag) (H : Hp) (z : V) : Prop := z = .non ∨ ∃ a xs, z = .ref a ∧ SqT K H a xs
section
variable {X : Cx}
theorem noneT_is {z : V} {u : Value} {K : PySem.W.Frag} {H : Hp} (r : RelV z u) (f : NoneT K H z) : PySem.Numpy.isNone u = isNon z := by
  rcases f with rfl | ⟨a, xs, rfl, _⟩
  · cases r; rfl
  · cases r; rfl
theorem anyT_non {K : PySem.W.Frag} {H : Hp} : ∀ {xs : List V} {us : List Value}, Vals xs us → (∀ z ∈ xs, NoneT K H z) → us.any PySem.Numpy.isNone = xs.any isNon
  | _, _, .nil, _ => rfl
  | y :: xs, u :: us, .cons r t, f => by
    rw [List.any_cons, List.any_cons, noneT_is r (f y (List.mem_cons_self ..)), anyT_non t fun z hz => f z (List.mem_cons_of_mem _ hz)]
theorem noneT_eq {A : Around} {pins : List (Addr × Obj)} {σ : L2.St} {H : Hp} {s : Shared} (I : Inv X pins σ H s) (hu : A.units < cLine) {z : V} {u : Value} (r : RelV z u) (f : NoneT X.K H z) : SeqAt.EqAt A s u .none (PySem.Numpy.isNone u) := by
  rcases f with rfl | ⟨a, xs, rfl, hq⟩
  · cases r
    exact SeqAt.EqAt.same _
  · cases r
    obtain ⟨its, rv, p, _⟩ := I.tuple hq
    exact SeqAt.EqAt.tuple_none p hu
theorem memT_non {A : Around} {pins : List (Addr × Obj)} {σ : L2.St} {H : Hp} {s : Shared} (I : Inv X pins σ H s) (hu : A.units < cLine) : ∀ {xs : List V} {us : List Value}, Vals xs us → (∀ z ∈ xs, NoneT X.K H z) → ∀ u ∈ us, SeqAt.EqAt A s u .none (PySem.Numpy.isNone u)
  | _, _, .nil, _ => fun u hu' => by cases hu'
  | y :: xs, u :: us, .cons r t, f => fun u' hu' => by
    rcases List.mem_cons.mp hu' with e | hu'
    · subst e
      exact noneT_eq I hu r (f y (List.mem_cons_self ..))
    · exact memT_non I hu t (fun z hz => f z (List.mem_cons_of_mem _ hz)) u' hu'
def rNoneInT (K : PySem.W.Frag) : R2 := fun x y H Q => ∃ p xs, x = .non ∧ y = .ref p ∧ SqL K H p xs ∧ (∀ z ∈ xs, NoneT K H z) ∧ Q (.bl (xs.any isNon)) H
theorem op_noneInT (hu : X.A.units + 64 < cLine) : OpR X (compareOp .In) (rNoneInT X.K) := by
  intro pins s σ H x y v u Q I rx ry h
  obtain ⟨p, xs, rfl, rfl, hq, f, q⟩ := h
  cases rx
  cases ry
  obtain ⟨its, rv, hl, _⟩ := I.list hq
  have hu1 : X.A.in1.units < cLine := by show X.A.units + 1 < cLine; omega
  refine SeqAt.in_listAt PySem.Numpy.isNone hl.isList (fun z hz => memT_non I hu1 rv f z (by simpa using hz)) ⟨.bl _, H, I, rfl, ?_⟩
  rw [show its.toArray.any PySem.Numpy.isNone = its.any PySem.Numpy.isNone by simp, anyT_non rv f]
  exact q
end
-- part alls
/-- each of a row of values stands for its partner -/
def AllS {α : Type} (S : V → α → Prop) (us : List V) (bs : List α) : Prop := us.length = bs.length ∧ ∀ (i : Nat) b, bs[i]? = some b → ∃ v, us[i]? = some v ∧ S v b
section
variable {α : Type} {S S' : V → α → Prop} {us : List V} {bs : List α} {v : V} {b : α}
theorem AllS.nil : AllS S [] [] := ⟨rfl, fun i b h => by cases h⟩
theorem AllS.snoc (h : AllS S us bs) (hv : S v b) : AllS S (us ++ [v]) (bs ++ [b]) := by
  refine ⟨by rw [List.length_append, List.length_append, h.1]; rfl, fun i c hc => ?_⟩
  by_cases z : i < bs.length
  · rw [List.getElem?_append_left z] at hc
    obtain ⟨u, h1, h2⟩ := h.2 i c hc
    exact ⟨u, by rw [List.getElem?_append_left (by rw [h.1]; exact z)]; exact h1, h2⟩
  · have hi := (List.getElem?_eq_some_iff.mp hc).1
    rw [List.length_append] at hi
    have e : i = bs.length := by
      have : [b].length = 1 := rfl
      omega
    subst e
    rw [List.getElem?_append_right (Nat.le_refl _), Nat.sub_self] at hc
    cases hc
    exact ⟨v, by rw [← h.1, List.getElem?_append_right (Nat.le_refl _), Nat.sub_self]; rfl, hv⟩
theorem AllS.set {j : Nat} (h : AllS S us bs) (hv : S v b) : AllS S (us.set j v) (bs.set j b) := by
  refine ⟨by rw [List.length_set, List.length_set, h.1], fun i c hc => ?_⟩
  rw [List.getElem?_set] at hc ⊢
  by_cases z : j = i
  · rw [if_pos z] at hc ⊢
    by_cases l : j < bs.length
    · rw [if_pos l] at hc
      rw [if_pos (by rw [h.1]; exact l)]
      cases hc
      exact ⟨v, rfl, hv⟩
    · rw [if_neg l] at hc
      cases hc
  · rw [if_neg z] at hc ⊢
    exact h.2 i c hc
theorem AllS.get {i : Nat} (h : AllS S us bs) (hv : us[i]? = some v) : ∃ b, bs[i]? = some b ∧ S v b := by
  have hi : i < bs.length := by rw [← h.1]; exact (List.getElem?_eq_some_iff.mp hv).1
  obtain ⟨u, h1, h2⟩ := h.2 i bs[i] (List.getElem?_eq_getElem hi)
  rw [hv] at h1
  cases h1
  exact ⟨_, List.getElem?_eq_getElem hi, h2⟩
theorem AllS.mono (h : AllS S us bs) (k : ∀ v b, b ∈ bs → S v b → S' v b) : AllS S' us bs := ⟨h.1, fun i b hb => by
  obtain ⟨v, h1, h2⟩ := h.2 i b hb
  exact ⟨v, h1, k v b (List.mem_of_getElem? hb) h2⟩⟩
end
-- part wdmk
theorem dicW_mk {K : PySem.W.Frag} {d : Addr} {es : Array DictEntry} {n : Nat} {l : List (Option (Str × Int))} (lk : K.lookup d = some ⟨.type "dict", none, .dict es n, #[]⟩) (lo : (d == sysModules) = false) (dk : es.toList.map He.keyOf = l) : He.dicW K d = some l := by
  unfold He.dicW
  rw [lk]
  have c : (decide ("dict" = "dict") && ((#[] : Array (Option Value)).isEmpty && !(d == sysModules))) = true := by
    rw [lo]
    rfl
  show (match decide ("dict" = "dict") && ((#[] : Array (Option Value)).isEmpty && !(d == sysModules)) with
    | true => some (es.toList.map He.keyOf)
    | false => none) = some l
  rw [c, dk]
def WdV (K : PySem.W.Frag) (d : Addr) (kvs : List (Str × V)) : Prop := ∀ kv ∈ kvs, ∃ u, PySem.W.nsIn K d kv.1 = some (some u) ∧ RelV kv.2 u
theorem wd_nil {K : PySem.W.Frag} {d : Addr} : WdV K d [] := fun _ h => nomatch h
theorem wd_cons {K : PySem.W.Frag} {d : Addr} {kv : Str × V} {kvs : List (Str × V)} (h : ∃ u, PySem.W.nsIn K d kv.1 = some (some u) ∧ RelV kv.2 u) (t : WdV K d kvs) : WdV K d (kv :: kvs) := fun x hx => (List.mem_cons.mp hx).elim (fun e => by rw [e]; exact h) fun m => t x m
theorem wd_mk {K : PySem.W.Frag} {w : World} {d : Addr} {es : Array DictEntry} {n : Nat} {kvs : List (Str × V)} (lk : K.lookup d = some ⟨.type "dict", none, .dict es n, #[]⟩) (lo : (d == sysModules) = false) (dk : es.toList.map He.keyOf = He.keysIn w.params (kvs.map (·.1))) (vs : WdV K d kvs) (nd : (kvs.map (·.1)).Nodup) : WDict K w d kvs := ⟨dicW_mk lk lo dk, vs, nd⟩
theorem sqT_k2 {K : PySem.W.Frag} {a : Addr} {od : Option Addr} {x y : Int} {t u : Tok} {n : Nat} {sl : Array (Option Value)} (h : K.lookup a = some ⟨.type "tuple", od, .seq #[.int x t, .int y u] n, sl⟩) (H : Hp) : SqT K H a [.int x, .int y] :=
  .inr ⟨_, _, _, h, rfl, rfl, (by show 2 ≤ sizeLine; decide), .cons ⟨_, rfl⟩ (.cons ⟨_, rfl⟩ .nil)⟩
theorem sqT_k3 {K : PySem.W.Frag} {a : Addr} {od : Option Addr} {x y z : Int} {t u v : Tok} {n : Nat} {sl : Array (Option Value)} (h : K.lookup a = some ⟨.type "tuple", od, .seq #[.int x t, .int y u, .int z v] n, sl⟩) (H : Hp) : SqT K H a [.int x, .int y, .int z] :=
  .inr ⟨_, _, _, h, rfl, rfl, (by show 3 ≤ sizeLine; decide), .cons ⟨_, rfl⟩ (.cons ⟨_, rfl⟩ (.cons ⟨_, rfl⟩ .nil))⟩
-- part rulm
/-! the steps of a ruler: how they are read -/
abbrev Stp := Str × Str × List Str
def gvnS : List Str := ["zero", "one"]
def tksS (z : Str) : Option Nat := if z = "sum" then some 2 else if z = "product" then some 2 else if z = "quotient" then some 2 else if z = "opposite" then some 1 else none
def nameB (z : Str) : Bool := Txt.isascii z && Txt.isalpha z && decide (z.length ≤ 8)
def knownB (ns : List Str) (z : Str) : Bool := decide (z ∈ gvnS) || decide (z ∈ ns)
def stepB (ws ns : List Str) : Bool := match ws with
  | word :: name :: rest => (match tksS word with
    | some k => !(knownB ns name) && nameB name && Txt.islower name && decide (rest.length = k) && rest.all (knownB ns)
    | none => false)
  | _ => false
theorem stepB_cons (word name : Str) (rest ns : List Str) : stepB (word :: name :: rest) ns = match tksS word with
    | some k => !(knownB ns name) && nameB name && Txt.islower name && decide (rest.length = k) && rest.all (knownB ns)
    | none => false := rfl
def namesS (R : List Stp) : List Str := R.map (·.1)
def rdRow (R : List Stp) (ws : List Str) : Option (List Stp) := if stepB ws (namesS R) = true then some (R ++ [(ws.getD 1 "", ws.getD 0 "", ws.drop 2)]) else none
def rdAll (rows : List (List Str)) : Option (List Stp) := rows.foldl (fun acc ws => acc.bind fun R => rdRow R ws) (some [])
theorem rdAll_snoc (rows : List (List Str)) (ws : List Str) : rdAll (rows ++ [ws]) = (rdAll rows).bind fun R => rdRow R ws := by
  unfold rdAll
  rw [List.foldl_append] <;> rfl
theorem rdAll_none : ∀ (more : List (List Str)), more.foldl (fun acc ws => acc.bind fun R => rdRow R ws) none = none
  | [] => rfl
  | _ :: r => rdAll_none r
theorem rdAll_take {rows : List (List Str)} {R : List Stp} (h : rdAll rows = some R) (i : Nat) : ∃ Ri, rdAll (rows.take i) = some Ri := by
  have e : rdAll rows = (rows.drop i).foldl (fun acc ws => acc.bind fun R => rdRow R ws) (rdAll (rows.take i)) := by
    unfold rdAll
    rw [← List.foldl_append, List.take_append_drop]
  cases q : rdAll (rows.take i) with
  | some Ri => exact ⟨Ri, rfl⟩
  | none =>
    rw [q, rdAll_none, h] at e
    cases e
structure StepOk (R : List Stp) (st : Stp) : Prop where
  k : tksS st.2.1 = some st.2.2.length
  fresh : knownB (namesS R) st.1 = false
  nm : nameB st.1 = true
  lw : Txt.islower st.1 = true
  known : ∀ r ∈ st.2.2, knownB (namesS R) r = true
def WFR (R : List Stp) : Prop := ∀ i st, R[i]? = some st → StepOk (R.take i) st
theorem wfr_nil : WFR [] := fun i st h => by cases h
theorem wfr_snoc {R : List Stp} {st : Stp} (w : WFR R) (h : StepOk R st) : WFR (R ++ [st]) := fun i st' hi => by
  by_cases c : i < R.length
  · rw [List.getElem?_append_left c] at hi
    rw [List.take_append_of_le_length (Nat.le_of_lt c)]
    exact w i st' hi
  · have hl := (List.getElem?_eq_some_iff.mp hi).1
    rw [List.length_append] at hl
    have e : i = R.length := by
      have : [st].length = 1 := rfl
      omega
    subst e
    rw [List.getElem?_append_right (Nat.le_refl _), Nat.sub_self] at hi
    cases hi
    rw [List.take_left]
    exact h
theorem wfr_take {R : List Stp} (w : WFR R) (n : Nat) : WFR (R.take n) := fun i st hi => by
  rw [List.getElem?_take] at hi
  split at hi
  · rename_i c
    rw [List.take_take, Nat.min_eq_left (Nat.le_of_lt c)]
    exact w i st hi
  · cases hi
theorem stepB_ok {ws : List Str} {R : List Stp} (h : stepB ws (namesS R) = true) : ∃ word name rest, ws = word :: name :: rest ∧ StepOk R (name, word, rest) := by
  unfold stepB at h
  split at h
  · rename_i word name rest
    split at h
    · rename_i k hk
      simp only [Bool.and_eq_true, Bool.not_eq_true'] at h
      obtain ⟨⟨⟨⟨h1, h2⟩, h3⟩, h4⟩, h5⟩ := h
      exact ⟨word, name, rest, rfl, by rw [hk, of_decide_eq_true h4], h1, h2, h3, fun r hr => List.all_eq_true.mp h5 r hr⟩
    · cases h
  · cases h
theorem rdRow_ok {R R' : List Stp} {ws : List Str} (h : rdRow R ws = some R') : ∃ word name rest, ws = word :: name :: rest ∧ StepOk R (name, word, rest) ∧ R' = R ++ [(name, word, rest)] := by
  unfold rdRow at h
  split at h
  · rename_i c
    obtain ⟨word, name, rest, e, o⟩ := stepB_ok c
    subst e
    exact ⟨word, name, rest, rfl, o, (Option.some.inj h).symm⟩
  · cases h
theorem knownB_iff {ns : List Str} {z : Str} : knownB ns z = true ↔ z ∈ gvnS ∨ z ∈ ns := by
  unfold knownB
  rw [Bool.or_eq_true, decide_eq_true_iff, decide_eq_true_iff]
theorem knownB_not {ns : List Str} {z : Str} : knownB ns z = false ↔ z ∉ gvnS ∧ z ∉ ns := by
  unfold knownB
  rw [Bool.or_eq_false_iff, decide_eq_false_iff_not, decide_eq_false_iff_not]
theorem wfr_known_in {R : List Stp} (w : WFR R) {i : Nat} {st : Stp} (h : R[i]? = some st) {r : Str} (hr : r ∈ st.2.2) : r ∈ gvnS ∨ r ∈ namesS R := by
  rcases knownB_iff.mp ((w i st h).known r hr) with a | a
  · exact .inl a
  · refine .inr ?_
    unfold namesS at a ⊢
    rw [List.map_take] at a
    exact List.mem_of_mem_take a
theorem names_at {R : List Stp} {i : Nat} {st : Stp} (h : R[i]? = some st) : (namesS R)[i]? = some st.1 := by
  unfold namesS
  rw [List.getElem?_map, h] <;> rfl
theorem wfr_fresh {R : List Stp} (w : WFR R) {i j : Nat} {si sj : Stp} (hi : R[i]? = some si) (hj : R[j]? = some sj) (e : si.1 = sj.1) : i = j := by
  have main : ∀ {i j : Nat} {si sj : Stp}, R[i]? = some si → R[j]? = some sj → si.1 = sj.1 → ¬ i < j := fun {i j si sj} hi hj e l => by
    have f := (knownB_not.mp (w j sj hj).fresh).2
    refine f ?_
    unfold namesS
    rw [List.map_take]
    refine List.mem_of_getElem? (i := i) ?_
    rw [List.getElem?_take, if_pos l, List.getElem?_map, hi, ← e] <;> rfl
  have a := main hi hj e
  have b := main hj hi e.symm
  omega
theorem wfr_nodup {R : List Stp} (w : WFR R) : (namesS R).Nodup := by
  unfold List.Nodup
  rw [List.pairwise_iff_getElem]
  intro i j hi hj l e
  unfold namesS at hi hj e
  rw [List.getElem_map, List.getElem_map] at e
  rw [List.length_map] at hi hj
  have := wfr_fresh w (List.getElem?_eq_getElem hi) (List.getElem?_eq_getElem hj) e
  omega
/-! what they build -/
def inv (p n : Int) : Int := (((List.range p.toNat).find? fun k => decide (((k : Nat) : Int) * n % p = 1)).getD 0 : Nat)
theorem inv_eq {p n b : Int} (hp : 1 < p) (b0 : 0 ≤ b) (b1 : b < p) (d : p ∣ b * n - 1) : inv p n = b := by
  have one : b * n % p = 1 := by
    have e : (b * n - 1) % p = 0 := Int.emod_eq_zero_of_dvd d
    have e2 : b * n = (b * n - 1) + 1 := by omega
    rw [e2, Int.add_emod, e, Int.zero_add, Int.emod_emod_of_dvd _ (Int.dvd_refl p)]
    exact Int.emod_eq_of_lt (by omega) hp
  unfold inv
  cases q : (List.range p.toNat).find? fun k => decide (((k : Nat) : Int) * n % p = 1) with
  | none =>
    rw [List.find?_eq_none] at q
    refine absurd ?_ (q b.toNat (List.mem_range.mpr (by omega)))
    rw [decide_eq_true_iff, Int.toNat_of_nonneg b0]
    exact one
  | some k =>
    have h1 : ((k : Nat) : Int) * n % p = 1 := by
      have z := List.find?_some q
      simpa using z
    have h2 := List.mem_range.mp (List.mem_of_find?_eq_some q)
    have d1 : p ∣ (k : Int) * n - 1 := Int.dvd_of_emod_eq_zero (by rw [Int.sub_emod, h1]; simp)
    have d2 : p ∣ (b - k) * 1 := by
      have e : (b - k) * 1 = b * ((b * n - 1) - ((k : Int) * n - 1)) + (-(b * n - 1)) * (b - k) := by
        have x1 : b * ((b * n - 1) - ((k : Int) * n - 1)) = b * n * (b - k) := by
          have : (b * n - 1) - ((k : Int) * n - 1) = n * (b - k) := by rw [Int.mul_sub, Int.mul_comm n b, Int.mul_comm n k]; omega
          rw [this, ← Int.mul_assoc]
        have x2 : (b * n - 1) * (b - k) = b * n * (b - k) - (b - k) := by rw [Int.sub_mul, Int.one_mul]
        rw [x1, Int.neg_mul, x2, Int.mul_one]
        omega
      rw [e]
      exact Int.dvd_add (Int.dvd_trans (Int.dvd_sub d d1) (Int.dvd_mul_left _ _)) (Int.dvd_trans (Int.dvd_neg.mpr d) (Int.dvd_mul_right _ _))
    rw [Int.mul_one] at d2
    have : (b - k).natAbs < p.natAbs := by omega
    have z := Int.eq_zero_of_dvd_of_natAbs_lt_natAbs d2 this
    show ((k : Nat) : Int) = b
    omega
def fr (p u l : Int) : Option (Int × Int) :=
  if p = 0 then (if l = 0 then none else let g : Int := if l < 0 then -((u.gcd l : Nat) : Int) else ((u.gcd l : Nat) : Int); some (u / g, l / g))
  else if l % p = 0 then none else some (u * inv p l % p, 1)
def bltF (word : Str) (fs : List (Option (Int × Int))) (p : Int) : Option (Int × Int) :=
  match fs with
  | [some (a, b)] => if word = "opposite" then fr p (-a) b else none
  | [some (a, b), some (c, d)] => if word = "opposite" then fr p (-a) b else if word = "sum" then fr p (a * d + c * b) (b * d) else if word = "product" then fr p (a * c) (b * d) else fr p (a * d) (b * c)
  | _ => none
abbrev Env2 := List (Str × Option (Int × Int))
def lookE (env : Env2) (z : Str) : Option (Int × Int) := ((env.find? fun q => decide (q.1 = z)).map (·.2)).getD none
def env0 : Env2 := [("zero", some (0, 1)), ("one", some (1, 1))]
def envR (p : Int) (R : List Stp) : Env2 := R.foldl (fun env st => env ++ [(st.1, bltF st.2.1 (st.2.2.map (lookE env)) p)]) env0
def valF (p : Int) (R : List Stp) (z : Str) : Option (Int × Int) := lookE (envR p R) z
theorem envR_snoc (p : Int) (R : List Stp) (st : Stp) : envR p (R ++ [st]) = envR p R ++ [(st.1, bltF st.2.1 (st.2.2.map (valF p R)) p)] := by
  unfold envR
  rw [List.foldl_append] <;> rfl
theorem find_app {α : Type} (f : α → Bool) (l : List α) (x : α) : (l ++ [x]).find? f = ((l.find? f).or (if f x = true then some x else none)) := by
  rw [List.find?_append, List.find?_cons]
  cases f x <;> rfl
theorem envR_keys0 (p : Int) : ∀ (R : List Stp) (env : Env2), (R.foldl (fun env st => env ++ [(st.1, bltF st.2.1 (st.2.2.map (lookE env)) p)]) env).map (·.1) = env.map (·.1) ++ namesS R
  | [], env => by rw [List.foldl_nil]; exact (List.append_nil _).symm
  | st :: R, env => by
    rw [List.foldl_cons, envR_keys0 p R, List.map_append, List.append_assoc] <;> rfl
theorem envR_keys (p : Int) (R : List Stp) : (envR p R).map (·.1) = gvnS ++ namesS R := envR_keys0 p R env0
theorem lookE_snoc (env : Env2) (x : Str × Option (Int × Int)) (z : Str) (h : z ∉ env.map (·.1) ∨ z ≠ x.1) : lookE (env ++ [x]) z = if z = x.1 then x.2 else lookE env z := by
  unfold lookE
  rw [find_app]
  by_cases c : z = x.1
  · rw [if_pos c]
    have n : (env.find? fun q => decide (q.1 = z)) = none := by
      rw [List.find?_eq_none]
      intro q hq e
      rcases h with h | h
      · exact h (List.mem_map.mpr ⟨q, hq, of_decide_eq_true e⟩)
      · exact h c
    rw [n, c, decide_eq_true rfl] <;> rfl
  · rw [if_neg c, decide_eq_false (fun e => c e.symm)]
    cases (env.find? fun q => decide (q.1 = z)) <;> rfl
theorem valF_snoc {p : Int} {R : List Stp} {st : Stp} (o : StepOk R st) (z : Str) : valF p (R ++ [st]) z = if z = st.1 then bltF st.2.1 (st.2.2.map (valF p R)) p else valF p R z := by
  have f := knownB_not.mp o.fresh
  unfold valF
  rw [envR_snoc, lookE_snoc]
  · rfl
  · by_cases c : z = st.1
    · left
      rw [envR_keys, c]
      intro m
      rcases List.mem_append.mp m with m | m
      · exact f.1 m
      · exact f.2 m
    · exact .inr c
theorem stp_split {R : List Stp} {i : Nat} {st : Stp} (h : R[i]? = some st) : R.take (i + 1) = R.take i ++ [st] := by
  rw [List.take_add_one, h] <;> rfl
/-- later steps leave a value -/
theorem valF_take {p : Int} {R : List Stp} (w : WFR R) {z : Str} (n : Nat) : ∀ m, n ≤ m → m ≤ R.length → (z ∈ gvnS ∨ z ∈ namesS (R.take n)) → valF p (R.take m) z = valF p (R.take n) z
  | 0, h, _, _ => by
    have : n = 0 := by omega
    rw [this]
  | m + 1, h, hm, k => by
    by_cases c : n = m + 1
    · rw [c]
    · have hl : m < R.length := by omega
      have e := List.getElem?_eq_getElem hl
      have o := w m _ e
      rw [stp_split e, valF_snoc o, if_neg, valF_take w n m (by omega) (by omega) k]
      intro q
      have f := knownB_not.mp o.fresh
      rcases k with k | k
      · exact f.1 (by rw [← q]; exact k)
      · refine f.2 ?_
        rw [← q]
        unfold namesS at k ⊢
        rw [List.map_take] at k ⊢
        have e2 : (R.map (·.1)).take n = ((R.map (·.1)).take m).take n := by rw [List.take_take, Nat.min_eq_left (by omega)]
        rw [e2] at k
        exact List.mem_of_mem_take k
theorem valF_step {p : Int} {R : List Stp} (w : WFR R) {i : Nat} {st : Stp} (h : R[i]? = some st) : valF p R st.1 = bltF st.2.1 (st.2.2.map (valF p R)) p := by
  have hl := (List.getElem?_eq_some_iff.mp h).1
  have o := w i st h
  have e1 : valF p (R.take R.length) st.1 = valF p (R.take (i + 1)) st.1 := valF_take w (i + 1) R.length (by omega) (Nat.le_refl _) (.inr (by
    rw [stp_split h]
    unfold namesS
    rw [List.map_append]
    exact List.mem_append_right _ (by simp)))
  rw [List.take_length] at e1
  rw [e1, stp_split h, valF_snoc o, if_pos rfl]
  congr 1
  refine List.map_congr_left fun r hr => ?_
  have e2 : valF p (R.take R.length) r = valF p (R.take i) r := valF_take w i R.length (by omega) (Nat.le_refl _) (knownB_iff.mp (o.known r hr))
  rw [List.take_length] at e2
  exact e2.symm
theorem valF_given {p : Int} {R : List Stp} (w : WFR R) {z : Str} (h : z ∈ gvnS) : valF p R z = valF p [] z := by
  have e2 : valF p (R.take R.length) z = valF p (R.take 0) z := valF_take w 0 R.length (by omega) (Nat.le_refl _) (.inl h)
  rw [List.take_length] at e2
  exact e2
/-! the way to some names -/
inductive Reach (R : List Stp) (names : List Str) : Str → Prop
  | base {n : Str} : n ∈ names → Reach R names n
  | step (i : Nat) (st : Stp) (r : Str) : R[i]? = some st → Reach R names st.1 → r ∈ st.2.2 → Reach R names r
structure ClosedS (R : List Stp) (names S : List Str) : Prop where
  inn : ∀ n ∈ names, n ∈ S
  cl : ∀ (i : Nat) (st : Stp), R[i]? = some st → st.1 ∈ S → ∀ r ∈ st.2.2, r ∈ S
  re : ∀ s ∈ S, Reach R names s
def wayOf (R : List Stp) (S : List Str) : List Str := (namesS R).filter fun n => decide (n ∈ S)
def addS (S : List Str) (x : Str) : List Str := if x ∈ S then S else S ++ [x]
theorem mem_addS {S : List Str} {x z : Str} : z ∈ addS S x ↔ z ∈ S ∨ z = x := by
  unfold addS
  split
  · rename_i h
    exact ⟨.inl, fun k => k.elim id fun e => by rw [e]; exact h⟩
  · rw [List.mem_append, List.mem_singleton]
theorem addS_len (S : List Str) (x : Str) : (addS S x).length ≤ S.length + 1 := by
  unfold addS
  split
  · omega
  · rw [List.length_append] <;> exact Nat.le_refl _
def trueK (S : List Str) : List (Key × V) := S.map fun s => ((Sum.inr s : Key), V.bl true)
theorem valV_trueK (S : List Str) (z : Str) : valV (trueK S) (Sum.inr z : Key) = if z ∈ S then some (V.bl true) else none := by
  induction S with
  | nil => rfl
  | cons s S ih =>
    show valV (((Sum.inr s : Key), V.bl true) :: trueK S) (Sum.inr z) = _
    by_cases c : s = z
    · subst c
      rw [valV_pos rfl, if_pos List.mem_cons_self]
    · rw [valV_neg (fun e => c (Sum.inr.inj e)), ih]
      by_cases d : z ∈ S
      · rw [if_pos d, if_pos (List.mem_cons_of_mem _ d)]
      · rw [if_neg d, if_neg fun m => (List.mem_cons.mp m).elim (fun e => c e.symm) d]
theorem putK_trueK (S : List Str) (x : Str) : putK (trueK S) (Sum.inr x : Key) (V.bl true) = trueK (addS S x) := by
  unfold putK
  rw [valV_any, valV_trueK]
  unfold addS
  by_cases c : x ∈ S
  · rw [if_pos c, if_pos c, if_pos (show (some (V.bl true)).isSome = true from rfl)]
    unfold trueK
    rw [List.map_map]
    refine List.map_congr_left fun s _ => ?_
    show (if (Sum.inr s : Key) = Sum.inr x then _ else _) = _
    split <;> rfl
  · rw [if_neg c, if_neg c, if_neg (by decide)]
    unfold trueK
    rw [List.map_append] <;> rfl
-- part rul1
theorem strAt {l : List Str} {i : Nat} {y : V} (h : (l.map V.str)[i]? = some y) : ∃ z : Str, y = .str z ∧ l[i]? = some z := by
  rw [List.getElem?_map] at h
  obtain ⟨z, hz, e⟩ := Option.map_eq_some_iff.mp h
  exact ⟨z, e.symm, hz⟩
section
variable {X : Cx}
/-- a text in a dict with text keys -/
def rInK (neg : Bool) : R2 := fun x y H Q => ∃ (z : Str) (a : Addr) (kvs : List (Key × V)), x = .str z ∧ y = .ref a ∧ Rd H a (.dK kvs) ∧ Q (.bl (if neg = true then !(valV kvs (Sum.inr z : Key)).isSome else (valV kvs (Sum.inr z : Key)).isSome)) H
theorem op_inK (hu : X.A.units + 1 < cLine) : OpR X (compareOp .In) (rInK false) := by
  intro pins s σ H x y v u Q I rx ry h
  obtain ⟨z, a, kvs, rfl, rfl, g, q⟩ := h
  cases ry
  exact d_in hu I (.inl ⟨kvs, .inr z, g, rfl, rfl⟩) rx fun s3 I3 => ⟨.bl _, H, I3, rfl, q⟩
theorem op_notInK (hu : X.A.units + 1 < cLine) : OpR X (compareOp .NotIn) (rInK true) := by
  intro pins s σ H x y v u Q I rx ry h
  obtain ⟨z, a, kvs, rfl, rfl, g, q⟩ := h
  cases ry
  exact d_notIn hu I (.inl ⟨kvs, .inr z, g, rfl, rfl⟩) rx fun s3 I3 => ⟨.bl _, H, I3, rfl, q⟩
end
abbrev s_isname : Stmt := top 22
theorem sc_isname : FnScope ["word"] ["word"] (defScope s_isname) := ⟨rfl, rfl, rfl, by decide +kernel, rfl, by decide +kernel, by decide +kernel⟩
def spIsName : Sp := fun vs H Q _ => ∃ z : Str, vs = [.str z] ∧ z.length ≤ 1000000 ∧ Q (.bl (nameB z)) H
theorem ok_isname {f : Addr} {fd : FuncData} {tM : Tok} (T : Txt mg) (hM : mg "MOST_LETTERS" = some (.int 8 tM)) (F : Fun K "is_name" "is_name" s_isname f fd) : FnOk P w K mg base CX0 1 f fd ["word"] spIsName := by
  refine F.ok sc_isname (fun vs H Q E h => ?_) (fun cdv A outer s H vs Q E hr h => ?_)
  · obtain ⟨z, rfl, _⟩ := h
    rfl
  · obtain ⟨z, rfl, hz, q⟩ := h
    refine ⟨_, (pss_one (ps_ret (pe_and (pe_bm0 PySem.F.plainAttrs_str PySem.F.slot_str_isascii PySem.F.type_str_isascii mt_isascii (pv 0)) (pe_and (pe_bm0 PySem.F.plainAttrs_str PySem.F.slot_str_isalpha PySem.F.type_str_isalpha mt_isalpha (pv 0)) (pe_one (pe_cmpR op_le (pe_callB call_len_str (by rfl) T.len PySem.boot_len (pa_cons (pv 0) pa_nil)) (pe_glob (v := .int 8) (by rfl) hM ⟨_, rfl⟩) (nomark _))))))), ?_⟩
    refine ⟨_, rfl, rfl, z, rfl, rfl, trivial, _, rfl, ?_⟩
    unfold nameB at q
    cases e1 : Txt.isascii z with
    | false =>
      rw [e1, Bool.false_and, Bool.false_and] at q
      exact iteF q
    | true =>
      refine iteT ⟨_, rfl, rfl, z, rfl, rfl, trivial, _, rfl, ?_⟩
      cases e2 : Txt.isalpha z with
      | false =>
        rw [e1, e2, Bool.true_and, Bool.false_and] at q
        exact iteF q
      | true =>
        rw [e1, e2, Bool.true_and, Bool.true_and] at q
        refine iteT ⟨_, rfl, _, rfl, by rw [sizeLine_eq]; omega, _, _, rfl, rfl, ?_⟩
        have e3 : decide ((z.length : Int) ≤ 8) = decide (z.length ≤ 8) := by
          by_cases c : z.length ≤ 8
          · rw [decide_eq_true c, decide_eq_true (by omega)]
          · rw [decide_eq_false c, decide_eq_false (by omega)]
        show Q (.bl (decide ((z.length : Int) ≤ 8))) H
        rw [e3]
        exact q
def gvnV (Z O : Addr) : List (Str × V) := [("zero", .ref Z), ("one", .ref O)]
def tksV : List (Str × V) := [("sum", .int 2), ("product", .int 2), ("quotient", .int 2), ("opposite", .int 1)]
theorem gvn_some {Z O : Addr} (z : Str) : (valV (gvnV Z O) z).isSome = decide (z ∈ gvnS) := by
  unfold gvnV gvnS
  by_cases a : z = "zero"
  · subst a
    rw [valV_pos rfl, decide_eq_true (by decide)] <;> rfl
  · rw [valV_neg (fun e => a e.symm)]
    by_cases b : z = "one"
    · subst b
      rw [valV_pos rfl, decide_eq_true (by decide)] <;> rfl
    · rw [valV_neg (fun e => b e.symm), decide_eq_false (by simp [a, b])] <;> rfl
theorem tks_val (z : Str) : valV tksV z = (tksS z).map fun k => V.int (k : Nat) := by
  unfold tksV tksS
  by_cases a : z = "sum"
  · subst a
    rw [valV_pos rfl, if_pos rfl] <;> rfl
  · rw [valV_neg (fun e => a e.symm), if_neg a]
    by_cases b : z = "product"
    · subst b
      rw [valV_pos rfl, if_pos rfl] <;> rfl
    · rw [valV_neg (fun e => b e.symm), if_neg b]
      by_cases c : z = "quotient"
      · subst c
        rw [valV_pos rfl, if_pos rfl] <;> rfl
      · rw [valV_neg (fun e => c e.symm), if_neg c]
        by_cases d : z = "opposite"
        · subst d
          rw [valV_pos rfl, if_pos rfl] <;> rfl
        · rw [valV_neg (fun e => d e.symm), if_neg d] <;> rfl
abbrev s_isstep : Stmt := top 32
theorem sc_isstep : FnScope ["words", "steps", "word", "name", "rest", "other"] ["words", "steps"] (defScope s_isstep) := ⟨rfl, rfl, rfl, by decide +kernel, rfl, by decide +kernel, by decide +kernel⟩
def spIsStep (K : PySem.W.Frag) : Sp := fun vs H Q _ => ∃ (a d : Addr) (ws ns : List Str) (kvs : List (Key × V)), vs = [.ref a, .ref d] ∧ SqL K H a (ws.map V.str) ∧ H d = some (.dK kvs) ∧ ws.length ≤ 1000002 ∧ (∀ z ∈ ws, z.length ≤ 1000000) ∧ (∀ z, (valV kvs (Sum.inr z : Key)).isSome = decide (z ∈ ns)) ∧
  ∀ H', Same H H' → Q (.bl (stepB ws ns)) H'
theorem ok_isstep {f DT DG Z O : Addr} {fd : FuncData} (T : Txt mg) (hall : mg "all" = none) (WT : WDict K w DT tksV) (hT : mg "_TAKES" = some (.ref DT)) (WG : WDict K w DG (gvnV Z O)) (hG : mg "_GIVEN" = some (.ref DG)) (F : Fun K "_is_step" "_is_step" s_isstep f fd) (c_isname : Cl P w K mg base CX0 1 "is_name" spIsName) : FnOk P w K mg base CX0 2 f fd ["words", "steps"] (spIsStep K) := by
  refine F.ok sc_isstep (fun vs H Q E h => ?_) (fun cdv A outer s H vs Q E hr h => ?_)
  · obtain ⟨a, d, ws, ns, kvs, rfl, _⟩ := h
    rfl
  · obtain ⟨a, d, ws, ns, kvs, rfl, hws, hd, lw, lz, hns, q⟩ := h
    refine ⟨_, (pss_cons (ps_if (pw_or (pt_cmpR op_lt (pe_callB call_len_seq (by rfl) T.len PySem.boot_len (pa_cons (pv 0) pa_nil)) pe_int (nomark _)) (pw_or1 (pt_cmpR (op_notInW WT) (pe_ix ix_list (pv 0) pe_int (fun _ _ => rfl)) (pe_glob (v := .ref DT) (by rfl) hT rfl) (by with_unfolding_all rfl)))).pt (pss_one (ps_ret pe_bl)) pss_nil)
 (pss_cons (ps_asg (pv 0) (pg_star (n := 2) rfl (pgs_cons (pg_name (i := 2) sc_isstep.nd rfl (Or.inl rfl)) (pgs_cons (pg_name (i := 3) sc_isstep.nd rfl (Or.inl rfl)) (pgs_star (pg_name (i := 4) sc_isstep.nd rfl (Or.inl rfl)) pgs_nil)))))
 (pss_cons (ps_if (pw_or (pt_cmpR (op_inW WG) (pv 3) (pe_glob (v := .ref DG) (by rfl) hG rfl) (by with_unfolding_all rfl)) (pw_or (pt_cmpR (op_inK (hu1 hr)) (pv 3) (pv 1) (by with_unfolding_all rfl)) (pw_or (pt_not (pt_val (pe_cl c_isname hr (pa_cons (pv 3) pa_nil)))) (pw_or1 (pt_not (pt_val (pe_bm0 PySem.F.plainAttrs_str PySem.F.slot_str_islower PySem.F.type_str_islower mt_islower (pv 3)))))))).pt (pss_one (ps_ret pe_bl)) pss_nil)
 (pss_one (ps_ret (pe_and (pe_cmpR op_eq (pe_callB call_len_seq (by rfl) T.len PySem.boot_len (pa_cons (pv 4) pa_nil)) (pe_ix ix_kdict (pe_glob (v := .ref DT) (by rfl) hT rfl) (pv 2) (fun _ _ => rfl)) (nomark _)) (pe_one (pe_callB (cr_all rfl) (by rfl) hall (by decide +kernel) (pa_cons (pe_lc (own := [("other", 5)]) (g := (gName 5)) (tt := tYes) rfl sc_isstep.nd (pi_list (pv 4)) (blkOk_by (N := ["words", "steps", "word", "name", "rest", "other"]) (sc := defScope s_isstep) (by decide +kernel)) (fun _ _ _ _ _ => (pg_name (i := 5) sc_isstep.nd rfl (Or.inl rfl))) (fun _ _ _ _ _ => pts_nil) (fun _ _ _ _ _ => (pe_or (pe_cmpR (op_inW WG) (pv 5) (pe_glob (v := .ref DG) (by rfl) hG rfl) (by with_unfolding_all rfl)) (pe_one (pe_cmpR (op_inK (by have z := hu1 hr; exact z)) (pv 5) (pv 1) (by with_unfolding_all rfl)))))) pa_nil))))))))), ?_⟩
    have no : stepB ws ns = false → Q (.bl false) H := fun e => by
      have z := q H (Same.refl H)
      rw [e] at z
      exact z
    refine ⟨_, rfl, a, _, rfl, .inl hws, _, _, rfl, rfl, _, rfl, ?_⟩
    match ws, hws, lw, lz, q, no with
    | [], _, _, _, _, no => exact if_pos_of (by decide) (iteT (no rfl))
    | [_], _, _, _, _, no => exact if_pos_of rfl (iteT (no rfl))
    | word :: name :: rest, hws, lw, lz, q, no =>
      refine if_neg_of (decide_eq_false (by simp only [List.length_map, List.length_cons]; omega)) ?_
      refine ⟨_, rfl, a, _, _, _, rfl, rfl, hws, atI_nat (j := 0) rfl, word, rfl, rfl, _, rfl, ?_⟩
      rw [tks_val]
      cases ek : tksS word with
      | none => exact iteT (no (by rw [stepB_cons, ek]))
      | some k =>
        refine iteF ⟨_, rfl, a, _, rfl, hws, by simp, fun r nr => ?_⟩
        have s1 := same_upd (o := .lst (rest.map V.str)) nr
        have sb : stepB (word :: name :: rest) ns = (!(knownB ns name) && nameB name && Txt.islower name && decide (rest.length = k) && rest.all (knownB ns)) := by
          rw [stepB_cons, ek]
        have no2 : (!(knownB ns name) && nameB name && Txt.islower name && decide (rest.length = k) && rest.all (knownB ns)) = false → Q (.bl false) (upd H r (.lst (rest.map V.str))) := fun e => by
          have z := q _ s1
          rw [sb, e] at z
          exact z
        have hnm : name.length ≤ 1000000 := lz name (List.mem_cons_of_mem _ List.mem_cons_self)
        refine ⟨_, _, rfl, _, _, rfl, _, _, rfl, rfl, ?_⟩
        refine ⟨_, rfl, name, rfl, rfl, _, rfl, ?_⟩
        rw [gvn_some]
        cases e1 : decide (name ∈ gvnS) with
        | true => exact iteT (iteT (no2 (by unfold knownB; rw [e1]; rfl)))
        | false =>
          refine iteF ⟨_, rfl, _, rfl, name, d, kvs, rfl, rfl, .inl (s1 _ _ hd), _, rfl, ?_⟩
          show if (valV kvs (Sum.inr name : Key)).isSome = true then _ else _
          rw [hns]
          cases e2 : decide (name ∈ ns) with
          | true => exact iteT (iteT (no2 (by unfold knownB; rw [e1, e2]; rfl)))
          | false =>
            have ek2 : knownB ns name = false := by unfold knownB; rw [e1, e2]; rfl
            rw [ek2] at sb no2
            refine iteF ⟨_, rfl, name, rfl, hnm, _, rfl, ?_⟩
            cases e3 : nameB name with
            | false => exact iteT (iteT (no2 (by rw [e3]; rfl)))
            | true =>
              rw [e3] at sb no2
              refine iteF ⟨_, rfl, rfl, name, rfl, rfl, trivial, _, rfl, ?_⟩
              cases e4 : Txt.islower name with
              | false => exact iteT (no2 (by rw [e4]; rfl))
              | true =>
                rw [e4] at sb no2
                refine iteF ?_
                refine ⟨_, rfl, r, _, rfl, .inl (SqL.of upd_same), _, rfl, DT, word, .int (k : Nat), rfl, rfl, WT.kdct (by rw [tks_val, ek]; rfl), rfl, _, rfl, ?_⟩
                have ed : decide (V.int (((word :: name :: rest).map V.str).drop 2).length = V.int (k : Nat)) = decide (rest.length = k) := by
                  show decide (V.int ((rest.map V.str).length : Int) = V.int (k : Nat)) = _
                  rw [List.length_map, bl_eq _ _ fun _ _ h => V.int.inj h]
                  by_cases c : rest.length = k
                  · rw [decide_eq_true c, decide_eq_true (by omega)]
                  · rw [decide_eq_false c, decide_eq_false (by omega)]
                rw [ed]
                cases e5 : decide (rest.length = k) with
                | false => exact iteF (no2 (by rw [e5]; rfl))
                | true =>
                  rw [e5] at sb
                  have k2 : rest.length ≤ 2 := by
                    rw [of_decide_eq_true e5]
                    unfold tksS at ek
                    split at ek
                    · cases ek; decide
                    · split at ek
                      · cases ek; decide
                      · split at ek
                        · cases ek; decide
                        · split at ek
                          · cases ek; decide
                          · cases ek
                  refine iteT ⟨_, rfl, r, rfl, ⟨_, SqL.of upd_same⟩, fun D nD => lcMap walk_list ((rest.map (knownB ns)).map V.bl) (by show _ = (rest.map V.str).length; rw [List.length_map, List.length_map, List.length_map]) nD (fun H s => SqL.of (s _ _ upd_same)) ?_ ?_⟩
                  · rintro i x _ H2 hi s2 hL ⟨rfl, hx⟩
                    obtain ⟨z, rfl, hz⟩ := strAt (l := rest) hx
                    refine ⟨rfl, _, rfl, z, rfl, rfl, _, rfl, ?_⟩
                    rw [gvn_some]
                    have hd2 := s2 _ _ (s1 _ _ hd)
                    have fin : ∀ b : Bool, b = knownB ns z → ∃ acc, H2 D = some (.lst acc) ∧ acc.length < sizeLine ∧ PvM (upd H r (.lst (rest.map V.str))) D (tkV ((rest.map (knownB ns)).map V.bl)) (i + 1) (upd H2 D (.lst (acc ++ [.bl b]))) := fun b eb => by
                      subst eb
                      exact mapEnd nD (by rw [List.length_map, List.length_map]; omega) s2 hL (map_at (f := V.bl) (by rw [List.getElem?_map, hz] <;> rfl))
                    cases e6 : decide (z ∈ gvnS) with
                    | true => exact iteT (fin true (by unfold knownB; rw [e6]; rfl))
                    | false =>
                      refine iteF ⟨_, rfl, _, rfl, z, d, kvs, rfl, rfl, .inl hd2, ?_⟩
                      show ∃ acc, _
                      exact fin _ (by unfold knownB; rw [e6, ← hns]; exact (Bool.false_or _).symm)
                  · intro H2 s2 hL
                    refine ⟨D, _, rfl, SqL.of hL, ?_⟩
                    have z := q H2 (s1.trans s2)
                    rw [sb] at z
                    have ea : (rest.map (knownB ns)).all id = rest.all (knownB ns) := by rw [List.all_map] <;> rfl
                    rw [ea]
                    exact z
-- part rul2
abbrev s_ibs : Stmt := inClass (top 7) 0
theorem sc_ibs : FnScope ["self", "at"] ["self", "at"] (defScope s_ibs) := ⟨rfl, rfl, rfl, by decide +kernel, rfl, by decide +kernel, by decide +kernel⟩
theorem ok_ibs {f C CF : Addr} {fd : FuncData} (TF : FErr K mg CF) (hC : OexC K C) (hno : PySem.W.findIn K (.ref C) "at" = some none) (F : Fun K "__init__" "BadStep.__init__" s_ibs f fd) : FnOk P w K mg base CX0 1 f fd ["self", "at"] (spInitP C "at" okNat) := by
  refine F.ok sc_ibs (fun vs H Q E h => ?_) (fun cdv A outer s H vs Q E hr h => ?_)
  · obtain ⟨a, v, rfl, _⟩ := h
    rfl
  · obtain ⟨a, v, rfl, ⟨n, rfl, hn⟩, ha, q⟩ := h
    have ln := num_len hn
    have m1 : ("the step with index " : Str).length ≤ 100 := by decide +kernel
    have m2 : (" is not a right one" : Str).length ≤ 100 := by decide +kernel
    refine ⟨_, (pss_cons (ps_expr (pe_feinit TF (pa_cons (pv 0) (pa_cons (pe_joined (.cons pe_str (.cons (pe_fmt (pv 1)) (.cons pe_str .nil)))) pa_nil))))
 (pss_one (ps_ost (pv 0) (pv 1)))), ?_⟩
    refine ⟨_, rfl, _, rfl, by rw [empty_app, sizeLine_eq]; omega, _, rfl, .inr ⟨_, rfl, log_nat hn, _, rfl, by rw [empty_app, app_len, sizeLine_eq]; omega, ?_⟩⟩
    refine ⟨_, rfl, by rw [empty_app, app_len, app_len, sizeLine_eq]; omega, ?_⟩
    refine ⟨a, C, _, rfl, (by show 1 ≤ 1000; decide), hC, ha, ?_⟩
    exact ⟨_, rfl, _, rfl, a, C, rfl, hC, hno, .inl ⟨ha, fun dx hn hne => q dx hn hne⟩⟩
/-! the class Ruler -/
structure RulT (K : PySem.W.Frag) (mg : Str → Option Value) (C : Addr) : Prop where
  g : mg "Ruler" = some (.ref C)
  cl : Cls K C
  nS : NoAttr K C "_steps"
  sf : PySem.W.selfFirst K C = true
  isC : C8.InsC K C
def StpV (H : Hp) (v : V) (st : Stp) : Prop := ∃ t r, v = .ref t ∧ H t = some (.tup [.str st.2.1, .ref r]) ∧ H r = some (.lst (st.2.2.map V.str))
structure StepsAt (H : Hp) (kvs : List (Key × V)) (R : List Stp) : Prop where
  ks : kvs.map (·.1) = R.map fun st => (Sum.inr st.1 : Key)
  vs : AllS (StpV H) (kvs.map (·.2)) R
def ruF (d : Addr) : List (Str × V) := putF "_steps" (.ref d) []
theorem ru_s (d : Addr) : (ruF d).lookup ("_steps" : Str) = some (.ref d) := by
  unfold ruF
  rw [lookup_putF, if_pos rfl]
theorem ru_no (d : Addr) {m : Str} (h : ¬ m = "_steps") : (ruF d).lookup m = none := by
  unfold ruF
  rw [lookup_putF, if_neg h] <;> rfl
structure RulAt (C : Addr) (H : Hp) (a : Addr) (R : List Stp) : Prop where
  ob : ∃ dx d kvs, H a = some (.ins C dx (ruF d)) ∧ H d = some (.dK kvs) ∧ StepsAt H kvs R
  ok : WFR R
  few : R.length ≤ 1000001
theorem StpV.but {H H' : Hp} {v : V} {st : Stp} (h : StpV H v st) (k : ∀ b xs, (H b = some (.tup xs) ∨ H b = some (.lst xs)) → H' b = H b) : StpV H' v st := by
  obtain ⟨t, r, e, h1, h2⟩ := h
  exact ⟨t, r, e, (k t _ (.inl h1)).trans h1, (k r _ (.inr h2)).trans h2⟩
theorem StpV.same {H H' : Hp} {v : V} {st : Stp} (h : StpV H v st) (s : Same H H') : StpV H' v st := by
  obtain ⟨t, r, e, h1, h2⟩ := h
  exact ⟨t, r, e, s _ _ h1, s _ _ h2⟩
theorem StepsAt.same {H H' : Hp} {kvs : List (Key × V)} {R : List Stp} (h : StepsAt H kvs R) (s : Same H H') : StepsAt H' kvs R := ⟨h.ks, h.vs.mono fun v b _ r => r.same s⟩
theorem StepsAt.but {H H' : Hp} {kvs : List (Key × V)} {R : List Stp} (h : StepsAt H kvs R) (k : ∀ b xs, (H b = some (.tup xs) ∨ H b = some (.lst xs)) → H' b = H b) : StepsAt H' kvs R := ⟨h.ks, h.vs.mono fun v b _ r => r.but k⟩
theorem RulAt.same {C : Addr} {H H' : Hp} {a : Addr} {R : List Stp} (h : RulAt C H a R) (s : Same H H') : RulAt C H' a R := by
  obtain ⟨dx, d, kvs, h1, h2, h3⟩ := h.ob
  exact ⟨⟨dx, d, kvs, s _ _ h1, s _ _ h2, h3.same s⟩, h.ok, h.few⟩
theorem valV_none_keys {κ : Type} [DecidableEq κ] {z : κ} {kvs : List (κ × V)} (h : z ∉ kvs.map (·.1)) : valV kvs z = none := by
  have e := valV_any z kvs
  cases q : valV kvs z with
  | none => rfl
  | some v =>
    rw [q] at e
    obtain ⟨kv, hk, hz⟩ := List.any_eq_true.mp e
    exact absurd (List.mem_map.mpr ⟨kv, hk, of_decide_eq_true hz⟩) h
theorem valV_some_keys {κ : Type} [DecidableEq κ] {z : κ} {kvs : List (κ × V)} (h : z ∈ kvs.map (·.1)) : (valV kvs z).isSome = true := by
  rw [← valV_any z kvs]
  obtain ⟨kv, hk, e⟩ := List.mem_map.mp h
  exact List.any_eq_true.mpr ⟨kv, hk, decide_eq_true e⟩
theorem valV_at {κ : Type} [DecidableEq κ] : ∀ {kvs : List (κ × V)} {i : Nat} {kv : κ × V}, kvs[i]? = some kv → (kvs.map (·.1)).Nodup → valV kvs kv.1 = some kv.2
  | [], i, kv, h, _ => by cases h
  | p :: r, 0, kv, h, _ => by
    cases h
    exact valV_pos rfl
  | p :: r, i + 1, kv, h, hn => by
    rw [List.map_cons, List.nodup_cons] at hn
    have h' : r[i]? = some kv := h
    have n : ¬ p.1 = kv.1 := fun q => hn.1 (by rw [q]; exact List.mem_map.mpr ⟨_, List.mem_of_getElem? h', rfl⟩)
    rw [valV_neg n]
    exact valV_at h' hn.2
theorem StepsAt.has {H : Hp} {kvs : List (Key × V)} {R : List Stp} (h : StepsAt H kvs R) (z : Str) : (valV kvs (Sum.inr z : Key)).isSome = decide (z ∈ namesS R) := by
  have e : kvs.map (·.1) = (namesS R).map fun s => (Sum.inr s : Key) := by
    rw [h.ks]
    unfold namesS
    rw [List.map_map] <;> rfl
  by_cases c : z ∈ namesS R
  · rw [decide_eq_true c]
    exact valV_some_keys (by rw [e]; exact List.mem_map.mpr ⟨z, c, rfl⟩)
  · rw [decide_eq_false c, valV_none_keys]
    · rfl
    · rw [e]
      intro m
      obtain ⟨s, hs, es⟩ := List.mem_map.mp m
      exact c (by rw [← Sum.inr.inj es]; exact hs)
theorem StepsAt.get {H : Hp} {kvs : List (Key × V)} {R : List Stp} (h : StepsAt H kvs R) (wf : WFR R) {i : Nat} {st : Stp} (hi : R[i]? = some st) : ∃ v, valV kvs (Sum.inr st.1 : Key) = some v ∧ StpV H v st := by
  obtain ⟨v, h1, h2⟩ := h.vs.2 i st hi
  rw [List.getElem?_map] at h1
  obtain ⟨kv, e1, e2⟩ := Option.map_eq_some_iff.mp h1
  have hk : (kvs.map (·.1))[i]? = some (Sum.inr st.1 : Key) := by rw [h.ks, List.getElem?_map, hi] <;> rfl
  rw [List.getElem?_map, e1] at hk
  have ek : kv.1 = (Sum.inr st.1 : Key) := Option.some.inj hk
  have nd : (kvs.map (·.1)).Nodup := by
    have e : kvs.map (·.1) = (namesS R).map fun s => (Sum.inr s : Key) := by
      rw [h.ks]
      unfold namesS
      rw [List.map_map] <;> rfl
    rw [e]
    exact List.Pairwise.map _ (fun a b n e => n (Sum.inr.inj e)) (wfr_nodup wf)
  have z := valV_at e1 nd
  rw [ek, e2] at z
  exact ⟨v, z, h2⟩
theorem StepsAt.snoc {H : Hp} {kvs : List (Key × V)} {R : List Stp} {st : Stp} {v : V} (h : StepsAt H kvs R) (n : st.1 ∉ namesS R) (hv : StpV H v st) : StepsAt H (putK kvs (Sum.inr st.1 : Key) v) (R ++ [st]) := by
  have e : valV kvs (Sum.inr st.1 : Key) = none := by
    have := h.has st.1
    rw [decide_eq_false n] at this
    cases q : valV kvs (Sum.inr st.1 : Key) with
    | none => rfl
    | some x => rw [q] at this; cases this
  rw [putK_new v e]
  exact ⟨by rw [List.map_append, List.map_append, h.ks] <;> rfl, by rw [List.map_append]; exact h.vs.snoc hv⟩
def rowsW (z : Str) : List (List Str) := (Txt.split z "\n").map fun row => Txt.split row " "
structure FitsT (z : Str) : Prop where
  l0 : z.length ≤ 1000000
  l1 : (Txt.split z "\n").length ≤ 1000000
  l2 : ∀ row ∈ Txt.split z "\n", row.length ≤ 1000000 ∧ (Txt.split row " ").length ≤ 1000000 ∧ ∀ y ∈ Txt.split row " ", y.length ≤ 1000000
abbrev s_ruinit : Stmt := inClass (top 35) 0
theorem sc_ruinit : FnScope ["self", "text", "at", "row", "words", "word", "name", "rest"] ["self", "text"] (defScope s_ruinit) := ⟨rfl, rfl, rfl, by decide +kernel, rfl, by decide +kernel, by decide +kernel⟩
def spRulI (C CB : Addr) : Sp := fun vs H Q E => ∃ (x dx : Addr) (z : Str), vs = [.ref x, .str z] ∧ H x = some (.ins C dx []) ∧ FitsT z ∧
  (∀ R, rdAll (rowsW z) = some R → ∀ H', RulAt C H' x R → (∀ b o, H b = some o → b ≠ x → H' b = some o) → Q .non H') ∧
  (∀ i ws Ri, (rowsW z)[i]? = some ws → rdAll ((rowsW z).take i) = some Ri → rdRow Ri ws = none → ∀ d H', (∀ b o, H b = some o → b ≠ x → H' b = some o) → H' d = some (.xd [("at", .int (i : Int))]) → E (.ref CB) (some d) H')
theorem ok_ruinit {f C CB : Addr} {fd : FuncData} (TT : Txt mg) (henum : mg "enumerate" = none) (T : RulT K mg C) (F : Fun K "__init__" "Ruler.__init__" s_ruinit f fd) (c_isstep : Cl P w K mg base CX0 2 "_is_step" (spIsStep K)) (x_bs : ErP P w K mg base "BadStep" "at" CB okNat) : FnOk P w K mg base (L2N.CX P w) 3 f fd ["self", "text"] (spRulI C CB) := by
  refine okN F sc_ruinit (fun vs H Q E h => ?_) (fun cdv A outer s H vs Q E hr h => ?_)
  · obtain ⟨x, dx, z, rfl, _⟩ := h
    rfl
  · obtain ⟨x, dx, z, rfl, hx, fit, q, qe⟩ := h
    refine ⟨_, (pss_cons (ps_fld (pv 0) pe_dnewK rfl)
 (pss_one (ps_for (passes_of rfl) rfl (pi_enum rfl henum (pa_cons (pe_split (pv 1) pe_str) pa_nil)) (pg_tup rfl (pgs_cons (pg_name (i := 2) sc_ruinit.nd rfl (Or.inl rfl)) (pgs_cons (pg_name (i := 3) sc_ruinit.nd rfl (Or.inl rfl)) pgs_nil))) (pss_cons (ps_set (i := 4) sc_ruinit.nd rfl (Or.inl rfl) (pe_split (pv 3) pe_str))
 (pss_cons (ps_if (pt_not (pt_val (pe_cl c_isstep hr (pa_cons (pv 4) (pa_cons (pe_fld (pv 0) rfl) pa_nil))))) (pss_one (ps_raiseP x_bs hr (L2N.takes_of rfl rfl rfl rfl) (pa_cons (pv 2) pa_nil))) pss_nil)
 (pss_cons (ps_asg (pv 4) (pg_star (n := 2) rfl (pgs_cons (pg_name (i := 5) sc_ruinit.nd rfl (Or.inl rfl)) (pgs_cons (pg_name (i := 6) sc_ruinit.nd rfl (Or.inl rfl)) (pgs_star (pg_name (i := 7) sc_ruinit.nd rfl (Or.inl rfl)) pgs_nil)))))
 (pss_one (ps_dput (hu1 hr) (pe_fld (pv 0) rfl) (pv 6) (pe_tup (pa_cons (pv 5) (pa_cons (pv 7) pa_nil))) rfl)))))))), ?_⟩
    have len : ∀ {m : Nat}, m ≤ 1000000 → m + 2 ≤ sizeLine := fun h => by rw [sizeLine_eq]; omega
    refine fun d nd => ⟨_, rfl, x, C, dx, [], rfl, (by rw [upd_ne (ne_of_none hx nd)]; exact hx), T.cl, T.nS, (by show 0 < 1000; decide), ?_⟩
    have dx' : d ≠ x := fun e => by rw [e, hx] at nd; cases nd
    have k0 : ∀ b o, H b = some o → b ≠ x → upd (upd H d (.dK [])) x (.ins C dx (ruF d)) b = some o := fun b o hb n => by
      rw [upd_ne n, upd_ne (ne_of_none hb nd)]
      exact hb
    refine ⟨_, rfl, ⟨z, rfl⟩, z, "\n", rfl, rfl, by decide +kernel, len fit.l0, fun l nl => ⟨l, _, rfl, SqL.of upd_same, for_it walk_enum (fun i σ H' => (∀ b o, H b = some o → b ≠ x → H' b = some o) ∧ H' l = some (.lst ((Txt.split z "\n").map V.str)) ∧
        (∃ y2 y3 y4 y5 y6 y7, σ = [some (.ref x), some (.str z), y2, y3, y4, y5, y6, y7]) ∧ ∃ kvs R, H' x = some (.ins C dx (ruF d)) ∧ H' d = some (.dK kvs) ∧ StepsAt H' kvs R ∧ WFR R ∧ R.length = i ∧ rdAll ((rowsW z).take i) = some R)
      ⟨fun b o hb n => ?_, upd_same, ⟨none, none, none, none, none, none, rfl⟩, [], [], ?_, ?_, ⟨rfl, AllS.nil⟩, wfr_nil, rfl, rfl⟩ (fun i σ H' _ h => SqL.of h.2.1) ?_ ?_⟩⟩
    · rw [upd_ne (ne_of_none (k0 b o hb n) nl)]
      exact k0 b o hb n
    · have e : upd (upd H d (.dK [])) x (.ins C dx (ruF d)) x = some (.ins C dx (ruF d)) := upd_same
      rw [upd_ne (ne_of_none e nl)]
      exact e
    · have e : upd (upd H d (.dK [])) x (.ins C dx (ruF d)) d = some (.dK []) := by rw [upd_ne dx']; exact upd_same
      rw [upd_ne (ne_of_none e nl)]
      exact e
    · rintro i v σ H1 H2 hi ⟨k1, hl, ⟨y2, y3, y4, y5, y6, y7, rfl⟩, kvs, R, ox, od, sa, wf, lr, hr⟩ ⟨tp, x1, v1, rfl, nT, rfl, hx1, hv1⟩
      cases hx1
      rw [List.length_map] at hi
      obtain ⟨row, rfl, hrow⟩ := strAt hv1
      have s2 := same_upd (o := .tup [.int (i : Nat), .str row]) nT
      have mr := List.mem_of_getElem? hrow
      obtain ⟨f1, f2, f3⟩ := fit.l2 row mr
      have hws : (rowsW z)[i]? = some (Txt.split row " ") := by
        unfold rowsW
        rw [List.getElem?_map, hrow] <;> rfl
      refine ⟨tp, _, rfl, SqT.of upd_same, rfl, _, _, rfl, _, _, rfl, rfl, ?_⟩
      refine ⟨_, rfl, ⟨row, rfl⟩, row, " ", rfl, rfl, by decide +kernel, len f1, fun q1 nq => ?_⟩
      have s3 := s2.trans (same_upd (o := .lst ((Txt.split row " ").map V.str)) nq)
      refine ⟨_, rfl, _, rfl, x, C, dx, _, _, rfl, s3 _ _ ox, T.cl, T.nS, ru_s d, ?_⟩
      refine ⟨q1, d, Txt.split row " ", namesS R, kvs, rfl, SqL.of upd_same, s3 _ _ od, by omega, f3, sa.has, fun H3 s4 => ⟨_, rfl, ?_⟩⟩
      have s5 := s3.trans s4
      have kA : ∀ b o, H b = some o → b ≠ x → H3 b = some o := fun b o hb n => s5 _ _ (k1 b o hb n)
      cases c : stepB (Txt.split row " ") (namesS R) with
      | false =>
        refine iteT ⟨_, rfl, ?_⟩
        exact mkP ⟨i, rfl, by have := fit.l1; omega⟩ fun d2 H4 s6 _ hd => qe i _ R hws hr (by unfold rdRow; rw [c]; rfl) d2 H4 (fun b o hb n => s6 _ _ (kA b o hb n)) hd
      | true =>
        refine iteF ?_
        obtain ⟨word, name, rest, ews, ok⟩ := stepB_ok c
        have hq1 : H3 q1 = some (.lst ((word :: name :: rest).map V.str)) := by
          rw [← ews]
          exact s4 _ _ upd_same
        have rd : rdRow R (Txt.split row " ") = some (R ++ [(name, word, rest)]) := by
          unfold rdRow
          rw [c, ews] <;> rfl
        refine ⟨_, rfl, q1, _, rfl, SqL.of hq1, by simp, fun r nr => ?_⟩
        refine ⟨_, _, rfl, _, _, rfl, _, _, rfl, rfl, ?_⟩
        have s6 := same_upd (o := .lst (((word :: name :: rest).map V.str).drop 2)) nr
        refine ⟨_, rfl, _, rfl, (by show 2 ≤ sizeLine; decide), fun tt ntt => ?_⟩
        have s7 := s6.trans (same_upd (o := .tup [.str word, .ref r]) ntt)
        have s8 := s5.trans s7
        have hr7 : upd (upd H3 r (.lst (((word :: name :: rest).map V.str).drop 2))) tt (.tup [.str word, .ref r]) r = some (.lst (rest.map V.str)) := by
          have e : upd H3 r (.lst (((word :: name :: rest).map V.str).drop 2)) r = some (.lst (rest.map V.str)) := upd_same
          rw [upd_ne (ne_of_none e ntt)]
          exact e
        have fresh := (knownB_not.mp ok.fresh).2
        have stv : StpV (upd (upd H3 r (.lst (((word :: name :: rest).map V.str).drop 2))) tt (.tup [.str word, .ref r])) (.ref tt) (name, word, rest) := ⟨tt, r, rfl, upd_same, hr7⟩
        have od8 := s8 _ _ od
        have sa8 := (sa.same s8).snoc (st := (name, word, rest)) fresh stv
        have lk : kvs.length = R.length := by have := congrArg List.length sa.ks; rwa [List.length_map, List.length_map] at this
        refine ⟨_, rfl, x, C, dx, _, _, rfl, s8 _ _ ox, T.cl, T.nS, ru_s d, _, rfl, d, _, rfl, DPut.k (k := Sum.inr name) od8 (by have := fit.l1; rw [sizeLine_eq]; omega), ?_⟩
        refine ⟨fun b o hb n => ?_, ?_, ⟨_, _, _, _, _, _, rfl⟩, _, R ++ [(name, word, rest)], ?_, upd_same, sa8.but ?_, wfr_snoc wf ok, by rw [List.length_append, lr]; rfl, ?_⟩
        · rw [upd_ne (ne_of_none hb nd)]
          exact s8 _ _ (k1 b o hb n)
        · rw [upd_ne (fun e => by have := s8 _ _ hl; rw [e, od8] at this; cases this)]
          exact s8 _ _ hl
        · rw [upd_ne dx'.symm]
          exact s8 _ _ ox
        · rintro b xs hb
          rw [upd_ne fun e => by rw [e, od8] at hb; rcases hb with hb | hb <;> cases hb]
        · rw [List.take_add_one, hws, Option.toList, rdAll_snoc, hr]
          exact rd
    · rintro σ H1 ⟨k1, hl, ⟨y2, y3, y4, y5, y6, y7, rfl⟩, kvs, R, ox, od, sa, wf, lr, hr⟩
      have e1 : ((Txt.split z "\n").map V.str).length = (rowsW z).length := by
        unfold rowsW
        rw [List.length_map, List.length_map]
      rw [e1, List.take_length] at hr
      have l1 := fit.l1
      rw [List.length_map] at lr
      exact q R hr H1 ⟨⟨dx, d, kvs, ox, od, sa⟩, wf, by omega⟩ k1
-- part rul3
theorem dcK_it {J : It} {n : Nat} {Gd : Hp → Prop} {Y : Nat → Hp → V → Hp → Prop} (w : Walk J n Gd Y) {g : TG} {tt : TT} {tk tv : TE} {own : List Nat} {σ : L2.St} {H1 : Hp} {D : Addr} {Qd : Hp → Prop} (Pv : Nat → Hp → Prop) (h0 : Pv 0 (upd H1 D (.dK []))) (hG : ∀ i H, i ≤ n → Pv i H → Gd H)
    (hs : ∀ i x H H', i < n → Pv i H → Y i H x H' → g x (wipe σ own) H' fun τ G2 => wipe τ own = wipe σ own ∧ tt τ G2 fun b G3 =>
      if b = true then tk τ G3 fun y G4 => tv τ G4 fun z G5 => ∃ kvs k, y = kV k ∧ G5 D = some (.dK kvs) ∧ kvs.length < sizeLine ∧ Pv (i + 1) (upd G5 D (.dK (putK kvs k z))) else Pv (i + 1) G3) (hd : ∀ H, Pv n H → Qd H) :
    ∃ W : Nat → Nat → Hp → Prop, (∃ m, W 0 m (upd H1 D (.dK []))) ∧ ∀ i m G, W i m G →
      (J.stop i G ∧ Qd G) ∨ (J.go i G ∧ ∃ N : Hp → Prop, (∀ G', N G' → ∃ m', m' < m ∧ W (i + 1) m' G') ∧ ∀ x G', J.yld i G x G' → g x (wipe σ own) G' fun τ G2 => wipe τ own = wipe σ own ∧ tt τ G2 fun b G3 =>
        if b = true then tk τ G3 fun y G4 => tv τ G4 fun z G5 => ∃ kvs k, y = kV k ∧ G5 D = some (.dK kvs) ∧ kvs.length < sizeLine ∧ N (upd G5 D (.dK (putK kvs k z))) else N G3) := by
  refine ⟨fun i m G => m = n - i ∧ i ≤ n ∧ Pv i G, ⟨n, by simp, Nat.zero_le _, h0⟩, ?_⟩
  rintro i m G ⟨rfl, hi, p⟩
  have z := hG i G hi p
  by_cases lt : i < n
  · exact .inr ⟨w.goes i G lt z, Pv (i + 1), fun G' p' => ⟨n - (i + 1), by omega, rfl, lt, p'⟩, fun x G' y => hs i x G G' lt p (w.yields i G x G' lt z y)⟩
  · have e : i = n := by omega
    subst e
    exact .inl ⟨w.stops G z, hd G p⟩
abbrev s_ruchk : Stmt := inClass (top 35) 1
theorem sc_ruchk : FnScope ["self", "names", "name"] ["self", "names"] (defScope s_ruchk) := ⟨rfl, rfl, rfl, by decide +kernel, rfl, by decide +kernel, by decide +kernel⟩
def spRuChk (C CU : Addr) (K : PySem.W.Frag) : Sp := fun vs H Q E => ∃ (a q0 : Addr) (R : List Stp) (ns : List Str), vs = [.ref a, .ref q0] ∧ RulAt C H a R ∧ SqL K H q0 (ns.map V.str) ∧ (∀ z ∈ ns, z.length ≤ 1000) ∧
  ((∀ z ∈ ns, knownB (namesS R) z = true) → Q .non H) ∧
  (∀ (i : Nat) z, ns[i]? = some z → knownB (namesS R) z = false → (∀ (j : Nat) y, j < i → ns[j]? = some y → knownB (namesS R) y = true) → ∀ d H', Same H H' → H' d = some (.xd [("name", .str z)]) → E (.ref CU) (some d) H')
theorem ok_ruchk {f C CU DG Z O : Addr} {fd : FuncData} (T : RulT K mg C) (WG : WDict K w DG (gvnV Z O)) (hG : mg "_GIVEN" = some (.ref DG)) (F : Fun K "_check_names" "Ruler._check_names" s_ruchk f fd) (x_un : ErP P w K mg base "UnknownName" "name" CU okS) : FnOk P w K mg base (L2N.CX P w) 3 f fd ["self", "names"] (spRuChk C CU K) := by
  refine okN F sc_ruchk (fun vs H Q E h => ?_) (fun cdv A outer s H vs Q E hr h => ?_)
  · obtain ⟨a, q0, R, ns, rfl, _⟩ := h
    rfl
  · obtain ⟨a, q0, R, ns, rfl, ru, hq0, nl, q, qe⟩ := h
    obtain ⟨dx, d, kvs, oa, od, sa⟩ := ru.ob
    refine ⟨_, (pss_one (ps_for (passes_of rfl) rfl (pi_list (pv 1)) (pg_name (i := 2) sc_ruchk.nd rfl (Or.inl rfl)) (pss_one (ps_if (pw_and (pt_cmpR (op_notInW WG) (pv 2) (pe_glob (v := .ref DG) (by rfl) hG rfl) (by with_unfolding_all rfl)) (pw_and1 (pt_cmpR (op_notInK (hu1 hr)) (pv 2) (pe_fld (pv 0) rfl) (by with_unfolding_all rfl)))).pt (pss_one (ps_raiseP x_un hr (L2N.takes_of rfl rfl rfl rfl) (pa_cons (pv 2) pa_nil))) pss_nil)))), ?_⟩
    refine ⟨_, rfl, q0, rfl, ⟨_, hq0⟩, for_it walk_list (fun i σ H' => H' = H ∧ (∀ (j : Nat) y, j < i → ns[j]? = some y → knownB (namesS R) y = true) ∧ ∃ y2, σ = [some (.ref a), some (.ref q0), y2]) ⟨rfl, fun j y h => absurd h (Nat.not_lt_zero j), none, rfl⟩ (fun i σ H' _ h => by rw [h.1]; exact hq0) ?_ ?_⟩
    · rintro i v σ H1 _ hi ⟨rfl, good, y2, rfl⟩ ⟨rfl, hv⟩
      obtain ⟨z, rfl, hz⟩ := strAt hv
      have next : knownB (namesS R) z = true → ∀ (j : Nat) y, j < i + 1 → ns[j]? = some y → knownB (namesS R) y = true := fun hk j y hj hy => by
        by_cases e : j = i
        · subst e
          rw [hz] at hy
          cases hy
          exact hk
        · exact good j y (by omega) hy
      refine ⟨_, rfl, z, rfl, rfl, _, rfl, ?_⟩
      rw [gvn_some]
      cases e1 : decide (z ∈ gvnS) with
      | true => exact iteF (iteF ⟨rfl, next (by unfold knownB; rw [e1]; rfl), _, rfl⟩)
      | false =>
        refine iteT ⟨_, rfl, _, rfl, a, C, dx, _, _, rfl, oa, T.cl, T.nS, ru_s d, z, d, kvs, rfl, rfl, .inl od, _, rfl, ?_⟩
        show if (!(valV kvs (Sum.inr z : Key)).isSome) = true then _ else _
        rw [sa.has]
        cases e2 : decide (z ∈ namesS R) with
        | true => exact iteF ⟨rfl, next (by unfold knownB; rw [e1, e2]; rfl), _, rfl⟩
        | false =>
          refine iteT ⟨_, rfl, ?_⟩
          exact mkP ⟨z, rfl, nl z (List.mem_of_getElem? hz)⟩ fun d2 H2 s2 _ hd => qe i z hz (by unfold knownB; rw [e1, e2]; rfl) good d2 H2 s2 hd
    · rintro σ _ ⟨rfl, good, y2, rfl⟩
      refine q fun z hz => ?_
      obtain ⟨i, hi⟩ := List.getElem?_of_mem hz
      exact good i z (by rw [List.length_map]; exact (List.getElem?_eq_some_iff.mp hi).1) hi
-- part rul4
/-- one step back on the way -/
theorem way_back {R : List Stp} (w : WFR R) {k : Nat} {st : Stp} (hk : R[k]? = some st) {S S' : List Str} (cl : ∀ (j : Nat) (x : Stp), k + 1 ≤ j → R[j]? = some x → x.1 ∈ S → ∀ r ∈ x.2.2, r ∈ S) (sub : ∀ z ∈ S, z ∈ S') (back : ∀ z ∈ S', z ∈ S ∨ z ∈ st.2.2) (all : ∀ r ∈ st.2.2, r ∈ S') :
    ∀ (j : Nat) (x : Stp), k ≤ j → R[j]? = some x → x.1 ∈ S' → ∀ r ∈ x.2.2, r ∈ S' := by
  intro j x hj hx hm r hr
  by_cases e : j = k
  · subst e
    rw [hk] at hx
    cases hx
    exact all r hr
  · rcases back _ hm with m | m
    · exact sub r (cl j x (by omega) hx m r hr)
    · exfalso
      have f := knownB_not.mp (w j x hx).fresh
      rcases knownB_iff.mp ((w k st hk).known _ m) with g | g
      · exact f.1 g
      · refine f.2 ?_
        unfold namesS at g ⊢
        rw [List.map_take] at g ⊢
        have e2 : (R.map (·.1)).take k = ((R.map (·.1)).take j).take k := by rw [List.take_take, Nat.min_eq_left (by omega)]
        rw [e2] at g
        exact List.mem_of_mem_take g
theorem tks_le {z : Str} {k : Nat} (h : tksS z = some k) : k ≤ 2 := by
  unfold tksS at h
  split at h
  · cases h; decide
  · split at h
    · cases h; decide
    · split at h
      · cases h; decide
      · split at h
        · cases h; decide
        · cases h
theorem wayOf_take {R : List Stp} {S : List Str} {i : Nat} {st : Stp} (h : R[i]? = some st) : ((namesS R).take (i + 1)).filter (fun n => decide (n ∈ S)) = ((namesS R).take i).filter (fun n => decide (n ∈ S)) ++ (if decide (st.1 ∈ S) = true then [st.1] else []) := by
  rw [List.take_add_one, names_at h, List.filter_append]
  congr 1
  show [st.1].filter _ = _
  rw [List.filter_cons] <;> rfl
abbrev s_ruway : Stmt := inClass (top 35) 2
theorem sc_ruway : FnScope ["self", "names", "needed", "name", "other"] ["self", "names"] (defScope s_ruway) := ⟨rfl, rfl, rfl, by decide +kernel, rfl, by decide +kernel, by decide +kernel⟩
def spWay (C : Addr) (K : PySem.W.Frag) : Sp := fun vs H Q _ => ∃ (a q0 : Addr) (R : List Stp) (ns : List Str), vs = [.ref a, .ref q0] ∧ RulAt C H a R ∧ R.length ≤ 900 ∧ SqL K H q0 (ns.map V.str) ∧ ns.length ≤ 900 ∧
  ∀ S p H', ClosedS R ns S → Same H H' → H' p = some (.lst ((wayOf R S).map V.str)) → Q (.ref p) H'
theorem ok_ruway {f C : Addr} {fd : FuncData} (TT : Txt mg) (hrev : mg "reversed" = none) (T : RulT K mg C) (F : Fun K "_way_to" "Ruler._way_to" s_ruway f fd) : FnOk P w K mg base CX0 1 f fd ["self", "names"] (spWay C K) := by
  refine F.ok sc_ruway (fun vs H Q E h => ?_) (fun cdv A outer s H vs Q E hr h => ?_)
  · obtain ⟨a, q0, R, ns, rfl, _⟩ := h
    rfl
  · obtain ⟨a, q0, R, ns, rfl, ru, few, hq0, nl, q⟩ := h
    obtain ⟨dx, d, kvs, oa, od, sa⟩ := ru.ob
    have wf := ru.ok
    refine ⟨_, (pss_cons (ps_set (i := 2) sc_ruway.nd rfl (Or.inr rfl) (pe_dc (own := [("name", 3)]) (g := (gName 3)) (tt := tYes) rfl sc_ruway.nd (pi_list (pv 1)) (blkOk_by (N := ["self", "names", "needed", "name", "other"]) (sc := defScope s_ruway) (by decide +kernel)) (fun _ _ _ _ _ => (pg_name (i := 3) sc_ruway.nd rfl (Or.inl rfl))) (fun _ _ _ _ _ => pts_nil) (fun _ _ _ _ _ => (pv 3)) (fun _ _ _ _ _ => pe_bl)))
 (pss_cons (ps_for PassesOwn.never rfl (pi_reversed rfl hrev (pa_cons (pe_callTy (call_listD rfl) (by rfl) TT.list boot_list (pa_cons (pe_fld (pv 0) rfl) pa_nil)) pa_nil)) (pg_name (i := 3) sc_ruway.nd rfl (Or.inl rfl)) (pss_one (ps_if (pt_cmpR (op_inK (by have z := hu1 hr; exact z)) (pv 3) (pv 2) (by with_unfolding_all rfl)) (pss_one (ps_for PassesOwn.never rfl (pi_list (pe_ix ix_tup (pe_dget (by exact hu1 hr) (pe_fld (pv 0) rfl) (pv 3) (fun _ _ => rfl)) pe_int (fun _ _ => rfl))) (pg_name (i := 4) sc_ruway.nd rfl (Or.inl rfl)) (pss_one (ps_dput (hu1 hr) (pv 2) (pv 4) pe_bl rfl)))) pss_nil)))
 (pss_one (ps_ret (pe_lock (pe_lc (own := [("name", 3)]) (g := (gName 3)) rfl sc_ruway.nd (pi_keys (pe_fld (pv 0) rfl)) (blkOk_by (N := ["self", "names", "needed", "name", "other"]) (sc := defScope s_ruway) (by decide +kernel)) (fun _ _ _ _ _ => (pg_name (i := 3) sc_ruway.nd rfl (Or.inl rfl))) (fun _ _ _ _ _ => (pts_one (pt_cmpR (op_inK (by have z := hu1 hr; exact z)) (pv 3) (pv 2) (by with_unfolding_all rfl)))) (fun _ _ _ _ _ => (pv 3)))))))), ?_⟩
    have lk : kvs.length = R.length := by have := congrArg List.length sa.ks; rwa [List.length_map, List.length_map] at this
    have ek : (kvs.map fun kv => kV kv.1) = (namesS R).map V.str := by
      have e := congrArg (List.map kV) sa.ks
      rw [List.map_map, List.map_map] at e
      unfold namesS
      rw [List.map_map]
      exact e
    have ln : (namesS R).length = R.length := by unfold namesS; rw [List.length_map]
    refine ⟨_, rfl, q0, rfl, ⟨_, hq0⟩, fun D nD => dcK_it walk_list (fun i G => Same H G ∧ ∃ S, G D = some (.dK (trueK S)) ∧ S.length ≤ i ∧ ∀ z, z ∈ S ↔ z ∈ ns.take i) ⟨same_upd nD, [], upd_same, Nat.le_refl _, fun z => by rw [List.take_zero]⟩ (fun i G _ h => h.1.seq hq0) ?_ ?_⟩
    · rintro i x G _ hi ⟨s1, S, hD, lS, mS⟩ ⟨rfl, hx⟩
      obtain ⟨z, rfl, hz⟩ := strAt hx
      rw [List.length_map] at hi
      have lt : (trueK S).length = S.length := by unfold trueK; rw [List.length_map]
      refine ⟨rfl, _, rfl, trueK S, .inr z, rfl, hD, by rw [lt, sizeLine_eq]; omega, fun b o hb => ?_, addS S z, by rw [putK_trueK]; exact upd_same, by have := addS_len S z; omega, fun y => ?_⟩
      · rw [upd_ne (ne_of_none hb nD)]
        exact s1 b o hb
      · rw [mem_addS, List.take_add_one, hz, List.mem_append, mS]
        exact Iff.rfl.trans (by simp)
    rintro G0 ⟨s0, S0, hD0, lS0, mS0⟩
    rw [List.length_map] at lS0 mS0
    rw [List.take_length] at mS0
    refine ⟨_, rfl, a, C, dx, _, _, rfl, s0 _ _ oa, T.cl, T.nS, ru_s d, d, kvs, rfl, .inl (s0 _ _ od), fun ls nls => ?_⟩
    rw [ek]
    have s1 := s0.trans (same_upd (o := .lst ((namesS R).map V.str)) nls)
    have hD1 : upd G0 ls (.lst ((namesS R).map V.str)) D = some (.dK (trueK S0)) := by rw [upd_ne (ne_of_none hD0 nls)]; exact hD0
    refine ⟨ls, _, rfl, SqL.of upd_same, for_it walk_rev (fun i σ G => Same H G ∧ G ls = some (.lst ((namesS R).map V.str)) ∧ (∃ y3 y4, σ = [some (.ref a), some (.ref q0), some (.ref D), y3, y4]) ∧ ∃ S, G D = some (.dK (trueK S)) ∧ S.length ≤ 900 + 2 * i ∧ (∀ z ∈ ns, z ∈ S) ∧ (∀ (j : Nat) (x : Stp), R.length - i ≤ j → R[j]? = some x → x.1 ∈ S → ∀ r ∈ x.2.2, r ∈ S) ∧ ∀ z ∈ S, Reach R ns z)
      ⟨s1, upd_same, ⟨none, none, rfl⟩, S0, hD1, by omega, fun z hz => (mS0 z).mpr hz, fun j x hj hx => ?_, fun z hz => .base ((mS0 z).mp hz)⟩ (fun i σ G _ h => SqL.of h.2.1) ?_ ?_⟩
    · have := (List.getElem?_eq_some_iff.mp hx).1
      omega
    · rintro i v σ G _ hi ⟨s2, hls, ⟨y3, y4, rfl⟩, S, hD, lS, inn, cl, re⟩ ⟨rfl, hv⟩
      rw [List.length_map, ln] at hi hv
      obtain ⟨z, rfl, hz⟩ := strAt hv
      obtain ⟨k, hk⟩ : ∃ k, k = R.length - 1 - i := ⟨_, rfl⟩
      rw [← hk] at hz
      have hkl : k < R.length := by omega
      have hst := List.getElem?_eq_getElem hkl
      generalize R[k] = st at hst
      have ez : st.1 = z := by
        have := names_at hst
        rw [hz] at this
        exact (Option.some.inj this).symm
      subst ez
      refine ⟨_, rfl, _, rfl, st.1, D, trueK S, rfl, rfl, .inl hD, _, rfl, ?_⟩
      show if (valV (trueK S) (Sum.inr st.1 : Key)).isSome = true then _ else _
      rw [valV_trueK]
      by_cases c : st.1 ∈ S
      · rw [if_pos c]
        refine iteT ?_
        obtain ⟨sv, hsv, t, r, rfl, ht, hr'⟩ := sa.get wf hst
        have lr := tks_le (wf k st hst).k
        refine ⟨_, rfl, a, C, dx, _, _, rfl, s2 _ _ oa, T.cl, T.nS, ru_s d, _, rfl, d, .ref t, rfl, (by have z := DGet.k (k := Sum.inr st.1) (s2 _ _ od); rw [hsv] at z; exact z), t, _, _, _, rfl, rfl, SqT.of (s2 _ _ ht), rfl, r, rfl, ⟨_, SqL.of (s2 _ _ hr')⟩,
          for_it walk_list (fun m σ G' => Same H G' ∧ G' ls = some (.lst ((namesS R).map V.str)) ∧ (∃ y4, σ = [some (.ref a), some (.ref q0), some (.ref D), some (.str st.1), y4]) ∧ ∃ S', G' D = some (.dK (trueK S')) ∧ S'.length ≤ S.length + m ∧ (∀ z ∈ S, z ∈ S') ∧ (∀ z ∈ S', z ∈ S ∨ z ∈ st.2.2) ∧ ∀ z ∈ st.2.2.take m, z ∈ S')
          ⟨s2, hls, ⟨_, rfl⟩, S, hD, Nat.le_refl _, fun z h => h, fun z h => .inl h, fun z h => by rw [List.take_zero] at h; cases h⟩ (fun m σ G' _ h => SqL.of (h.1 _ _ hr')) ?_ ?_⟩
        · rintro m v σ G' _ hm ⟨s3, hls3, ⟨y4', rfl⟩, S', hD', lS', sub, back, all⟩ ⟨rfl, hv'⟩
          obtain ⟨y, rfl, hy⟩ := strAt hv'
          rw [List.length_map] at hm
          have lt : (trueK S').length = S'.length := by unfold trueK; rw [List.length_map]
          refine ⟨_, rfl, _, rfl, D, _, rfl, DPut.k (k := Sum.inr y) hD' (by rw [lt, sizeLine_eq]; omega), fun b o hb => ?_, ?_, ⟨_, rfl⟩, addS S' y, by rw [putK_trueK]; exact upd_same, by have := addS_len S' y; omega, fun z hz => mem_addS.mpr (.inl (sub z hz)), fun z hz => ?_, fun z hz => ?_⟩
          · rw [upd_ne (ne_of_none hb nD)]
            exact s3 b o hb
          · rw [upd_ne (fun e => by rw [e, hD'] at hls3; cases hls3)]
            exact hls3
          · rcases mem_addS.mp hz with h | h
            · exact back z h
            · rw [h]
              exact .inr (List.mem_of_getElem? hy)
          · rw [List.take_add_one, hy] at hz
            rcases List.mem_append.mp hz with h | h
            · exact mem_addS.mpr (.inl (all z h))
            · exact mem_addS.mpr (.inr (by simpa using h))
        · rintro σ G' ⟨s3, hls3, ⟨y4', rfl⟩, S', hD', lS', sub, back, all⟩
          rw [List.length_map] at lS' all
          rw [List.take_length] at all
          refine ⟨s3, hls3, ⟨_, _, rfl⟩, S', hD', by omega, fun z hz => sub z (inn z hz), fun j x hj hx => way_back wf hst (fun j x hj hx => cl j x (by omega) hx) sub back all j x (by omega) hx, fun z hz => ?_⟩
          rcases back z hz with h | h
          · exact re z h
          · exact .step k st z hst (re _ c) h
      · rw [if_neg c]
        refine iteF ⟨s2, hls, ⟨_, _, rfl⟩, S, hD, by omega, inn, fun j x hj hx hm => ?_, re⟩
        by_cases e : j = k
        · subst e
          rw [hst] at hx
          cases hx
          exact absurd hm c
        · exact cl j x (by omega) hx hm
    · rintro σ G ⟨s2, hls, ⟨y3, y4, rfl⟩, S, hD, lS, inn, cl, re⟩
      have od2 := s2 _ _ od
      have nad : a ≠ d := fun e => by rw [e, od] at oa; cases oa
      have nDd : D ≠ d := fun e => by rw [e, od] at nD; cases nD
      have closed : ClosedS R ns S := ⟨inn, fun j x hx => cl j x (by rw [List.length_map, ln]; omega) hx, re⟩
      refine ⟨d, .dK kvs, od2, trivial, fun o2 => ⟨_, rfl, a, C, dx, _, _, rfl, (by rw [upd_ne nad]; exact s2 _ _ oa), T.cl, T.nS, ru_s d, d, o2, rfl, .inl ⟨kvs, upd_same, fun E nE => lcW walk_keys (fun i => (((namesS R).take i).filter fun n => decide (n ∈ S)).map V.str) nE rfl (fun G s => s _ _ upd_same) ?_ ?_⟩⟩⟩
      · rintro i x _ G' hi s3 hE ⟨rfl, kk, vv, hkv, rfl⟩
        have hi2 : i < R.length := by omega
        have hst := List.getElem?_eq_getElem hi2
        generalize R[i] = st at hst
        have ekk : kk = (Sum.inr st.1 : Key) := by
          have e1 : (kvs.map (·.1))[i]? = some kk := by rw [List.getElem?_map, hkv] <;> rfl
          rw [sa.ks, List.getElem?_map, hst] at e1
          exact (Option.some.inj e1).symm
        subst ekk
        have hDl : G' D = some (.dK (trueK S)) := s3 _ _ (by rw [upd_ne nDd]; exact hD)
        refine ⟨rfl, _, rfl, _, rfl, st.1, D, trueK S, rfl, rfl, .inl hDl, _, rfl, ?_⟩
        show if (valV (trueK S) (Sum.inr st.1 : Key)).isSome = true then _ else _
        rw [valV_trueK]
        have few2 : ((((namesS R).take i).filter fun n => decide (n ∈ S)).map V.str).length < 1000 := by
          rw [List.length_map]
          have z1 := List.length_filter_le (fun n => decide (n ∈ S)) ((namesS R).take i)
          have z2 := List.length_take_le i (namesS R)
          omega
        by_cases c : st.1 ∈ S
        · rw [if_pos c]
          refine iteT ⟨_, rfl, PvM.push nE s3 hE few2 ?_⟩
          show (((namesS R).take (i + 1)).filter _).map V.str = _
          rw [wayOf_take hst, if_pos (decide_eq_true c), List.map_append] <;> rfl
        · rw [if_neg c]
          refine iteF (PvM.skip s3 hE ?_)
          show (((namesS R).take (i + 1)).filter _).map V.str = _
          rw [wayOf_take hst, if_neg (by rw [decide_eq_false c]; decide), List.append_nil]
      · intro G' s3 hE
        have e3 := s3 _ _ (upd_same (H := G) (a := d) (o := .frz o2 (.dK kvs)))
        refine ⟨e3, q S E _ closed (fun b o hb => ?_) ?_⟩
        · by_cases e : b = d
          · subst e
            rw [od] at hb
            cases hb
            exact upd_same
          · rw [upd_ne e]
            exact s3 _ _ (by rw [upd_ne e]; exact s2 _ _ hb)
        · have nEd : E ≠ d := fun e => by rw [e, upd_same] at nE; cases nE
          rw [upd_ne nEd, hE]
          unfold wayOf
          rw [lk, ← ln, List.take_length]
-- part common

abbrev s_common : Stmt := top 10
theorem sc_common : FnScope ["a", "b"] ["a", "b"] (defScope s_common) := ⟨rfl, rfl, rfl, by decide +kernel, rfl, by decide +kernel, by decide +kernel⟩
def spCommon : Sp := fun vs H Q _ => ∃ (a b : Int), vs = [.int a, .int b] ∧ Q (.int ((a.gcd b : Nat) : Int)) H
theorem ok_common {f : Addr} {fd : FuncData} (hg : mg "gcd" = some (.builtin "math.gcd")) (F : Fun K "common" "common" s_common f fd) : FnOk P w K mg base CX0 1 f fd ["a", "b"] spCommon := by
  refine F.ok sc_common (fun vs H Q E h => ?_) (fun cdv A outer s H vs Q E hr h => ?_)
  · obtain ⟨a, b, rfl, _⟩ := h
    rfl
  · obtain ⟨a, b, rfl, q⟩ := h
    exact ⟨_, (pss_one (ps_ret (pe_callBfun cr_gcd (by rfl) hg (pa_cons (pv 0) (pa_cons (pv 1) pa_nil))))), _, rfl, _, rfl, _, _, rfl, q⟩
-- part rul5
/-! fractions -/
theorem gcd_prime {n p : Int} (hp : Pr p) (h : ¬ p ∣ n) : n.gcd p = 1 := by
  have p2 := hp.1
  have d1 : ((n.gcd p : Nat) : Int) ∣ p := Int.gcd_dvd_right ..
  have d2 : ((n.gcd p : Nat) : Int) ∣ n := Int.gcd_dvd_left ..
  have le : ((n.gcd p : Nat) : Int) ≤ p := Int.le_of_dvd (by omega) d1
  by_cases z : n.gcd p = 0
  · rw [z] at d1
    have := Int.zero_dvd.mp d1
    omega
  · by_cases e : ((n.gcd p : Nat) : Int) = p
    · rw [e] at d2
      exact absurd d2 h
    · by_cases o : n.gcd p = 1
      · exact o
      · exact absurd d1 (hp.2 _ (by omega) (by omega))
abbrev s_recipG : Stmt := top 17
theorem sc_recipG : FnScope ["n", "p"] ["n", "p"] (defScope s_recipG) := ⟨rfl, rfl, rfl, by decide +kernel, rfl, by decide +kernel, by decide +kernel⟩
def spRecipG : Sp := fun vs H Q _ => ∃ n p : Int, vs = [.int n, .int p] ∧ Pr p ∧ p < 2 ^ 62 ∧ n.natAbs < 2 ^ 299 ∧ ¬ p ∣ n ∧ ∀ H', Same H H' → Q (.int (inv p n)) H'
theorem ok_recipG {f : Addr} {fd : FuncData} (F : Fun K "reciprocal" "reciprocal" s_recipG f fd) (c_comb : Cl P w K mg base CX0 1 "combination" spComb) : FnOk P w K mg base CX0 2 f fd ["n", "p"] spRecipG := by
  refine F.ok sc_recipG (fun vs H Q E h => ?_) (fun cdv A outer s H vs Q E hr h => ?_)
  · obtain ⟨n, p, rfl, _⟩ := h
    rfl
  · obtain ⟨n, p, rfl, hp, hb, n0, n1, q⟩ := h
    have e62 : (2 : Nat) ^ 62 ≤ BigL := by decide
    have e99 : (2 : Nat) ^ 299 ≤ BigL := by decide
    have p2 := hp.1
    refine ⟨_, (pss_one (ps_ret (pe_op op_mod (pe_ix ix_tup (pe_cl c_comb hr (pa_cons (pv 0) (pa_cons (pv 1) pa_nil))) pe_int (fun _ _ => rfl)) (pv 1)))), ?_⟩
    refine ⟨_, rfl, _, rfl, n, p, rfl, by omega, by omega, fun u v t H1 huv _ _ s1 ht => ?_⟩
    rw [gcd_prime hp n1] at huv ht
    refine ⟨t, _, _, _, rfl, rfl, SqT.of ht, rfl, _, rfl, _, _, rfl, rfl, (by omega), ?_⟩
    have z := q H1 s1
    rw [inv_eq (b := u % p) (by omega) (Int.emod_nonneg _ (by omega)) (Int.emod_lt_of_pos _ (by omega)) (recip_ok huv (by omega))] at z
    exact z
def remI (n p : Int) : Int := if p = 0 then n else n % p
abbrev s_rem0 : Stmt := top 16
theorem sc_rem0 : FnScope ["n", "p"] ["n", "p"] (defScope s_rem0) := ⟨rfl, rfl, rfl, by decide +kernel, rfl, by decide +kernel, by decide +kernel⟩
def spRemI : Sp := fun vs H Q _ => ∃ n p : Int, vs = [.int n, .int p] ∧ 0 ≤ p ∧ Q (.int (remI n p)) H
theorem ok_remI {f : Addr} {fd : FuncData} (F : Fun K "remainder" "remainder" s_rem0 f fd) : FnOk P w K mg base CX0 1 f fd ["n", "p"] spRemI := by
  refine F.ok sc_rem0 (fun vs H Q E h => ?_) (fun cdv A outer s H vs Q E hr h => ?_)
  · obtain ⟨n, p, rfl, _⟩ := h
    rfl
  · obtain ⟨n, p, rfl, hp, q⟩ := h
    refine ⟨_, (pss_cons (ps_if (pt_cmpR op_eq (pv 1) pe_int (nomark _)) (pss_one (ps_ret (pv 0))) pss_nil)
 (pss_one (ps_ret (pe_op op_mod (pv 0) (pv 1))))), ?_⟩
    refine ⟨_, rfl, rfl, _, rfl, ?_⟩
    unfold remI at q
    by_cases c : p = 0
    · rw [if_pos c] at q
      exact if_pos_of (decide_eq_true (by rw [c])) ⟨_, rfl, q⟩
    · rw [if_neg c] at q
      exact if_neg_of (decide_eq_false fun e => c (V.int.inj e)) ⟨_, rfl, _, rfl, _, _, rfl, rfl, by omega, q⟩
def FrV (K : PySem.W.Frag) (H : Hp) (v : V) : Option (Int × Int) → Prop
  | none => v = .non
  | some (x, y) => ∃ t, v = .ref t ∧ SqT K H t [.int x, .int y]
theorem FrV.same {H H' : Hp} {v : V} {o : Option (Int × Int)} (h : FrV K H v o) (s : Same H H') : FrV K H' v o := by
  match o, h with
  | none, h => exact h
  | some (x, y), ⟨t, e, h⟩ =>
    refine ⟨t, e, ?_⟩
    rcases h with (h | ⟨o', h⟩) | h
    · exact .inl (.inl (s _ _ h))
    · exact .inl (.inr ⟨o', s _ _ h⟩)
    · exact .inr h
theorem FrV.noneT {H : Hp} {v : V} {o : Option (Int × Int)} (h : FrV K H v o) : NoneT K H v := by
  match o, h with
  | none, h => exact .inl h
  | some (x, y), ⟨t, e, h⟩ => exact .inr ⟨t, _, e, h⟩
theorem FrV.isN {H : Hp} {v : V} {o : Option (Int × Int)} (h : FrV K H v o) : isNon v = o.isNone := by
  match o, h with
  | none, h => rw [h]; rfl
  | some (x, y), ⟨t, e, h⟩ => rw [e]; rfl
theorem nat299 {l : Int} (h : l.natAbs < 2 ^ 290) : l.natAbs < 2 ^ 299 := Nat.lt_of_lt_of_le h (by decide)
theorem log9 {n : Nat} (h : n < 2 ^ 290) : n.log2 < 9000 := by
  by_cases c : n = 0
  · rw [c]
    decide
  · have := (Nat.log2_lt c).mpr h
    omega
theorem inv_lt {p n : Int} (hp : 0 < p) : 0 ≤ inv p n ∧ inv p n < p ∨ inv p n = 0 := by
  unfold inv
  cases q : (List.range p.toNat).find? fun k => decide (((k : Nat) : Int) * n % p = 1) with
  | none => exact .inr rfl
  | some k =>
    have h2 := List.mem_range.mp (List.mem_of_find?_eq_some q)
    left
    show (0 : Int) ≤ (k : Nat) ∧ ((k : Nat) : Int) < p
    omega
abbrev s_frac : Stmt := top 33
theorem sc_frac : FnScope ["upper", "lower", "p", "by"] ["upper", "lower", "p"] (defScope s_frac) := ⟨rfl, rfl, rfl, by decide +kernel, rfl, by decide +kernel, by decide +kernel⟩
def spFrac (K : PySem.W.Frag) : Sp := fun vs H Q _ => ∃ u l p : Int, vs = [.int u, .int l, .int p] ∧ Chr p ∧ p < 2 ^ 62 ∧ u.natAbs < 2 ^ 290 ∧ l.natAbs < 2 ^ 290 ∧ ∀ v H', Same H H' → FrV K H' v (fr p u l) → Q v H'
theorem ok_frac {f : Addr} {fd : FuncData} (F : Fun K "_fraction" "_fraction" s_frac f fd) (c_rem : Cl P w K mg base CX0 1 "remainder" spRemI) (c_recip : Cl P w K mg base CX0 2 "reciprocal" spRecipG) (c_common : Cl P w K mg base CX0 1 "common" spCommon) : FnOk P w K mg base CX0 3 f fd ["upper", "lower", "p"] (spFrac K) := by
  refine F.ok sc_frac (fun vs H Q E h => ?_) (fun cdv A outer s H vs Q E hr h => ?_)
  · obtain ⟨u, l, p, rfl, _⟩ := h
    rfl
  · obtain ⟨u, l, p, rfl, hp, hb, bu, bl, q⟩ := h
    have p0 : 0 ≤ p := by rcases hp with h | h; omega; have := h.1; omega
    refine ⟨_, (pss_cons (ps_if (pt_cmpR op_eq (pe_cl c_rem hr (pa_cons (pv 1) (pa_cons (pv 2) pa_nil))) pe_int (nomark _)) (pss_one (ps_ret pe_non)) pss_nil)
 (pss_cons (ps_if (pt_cmpR op_ne (pv 2) pe_int (nomark _)) (pss_one (ps_ret (pe_tup (pa_cons (pe_op op_mod (pe_op op_mulW (pv 0) (pe_cl c_recip hr (pa_cons (pv 1) (pa_cons (pv 2) pa_nil)))) (pv 2)) (pa_cons pe_int pa_nil))))) pss_nil)
 (pss_cons (ps_set (i := 3) sc_frac.nd rfl (Or.inl rfl) (pe_cl c_common hr (pa_cons (pv 0) (pa_cons (pv 1) pa_nil))))
 (pss_cons (ps_if (pt_cmpR op_lt (pv 1) pe_int (nomark _)) (pss_one (ps_set (i := 3) sc_frac.nd rfl (Or.inl rfl) (pe_un un_neg (pv 3)))) pss_nil)
 (pss_one (ps_ret (pe_tup (pa_cons (pe_op op_fdivNW (pv 0) (pv 3)) (pa_cons (pe_op op_fdivNW (pv 1) (pv 3)) pa_nil))))))))), ?_⟩
    refine ⟨_, rfl, _, rfl, l, p, rfl, p0, rfl, _, rfl, ?_⟩
    by_cases c : p = 0
    · subst c
      have e1 : remI l 0 = l := if_pos rfl
      rw [e1]
      by_cases cl : l = 0
      · subst cl
        refine if_pos_of rfl ?_
        exact q .non H (Same.refl H) rfl
      · refine if_neg_of (decide_eq_false fun e => cl (V.int.inj e)) ?_
        refine ⟨_, rfl, rfl, _, rfl, if_neg_of (by simp) ?_⟩
        refine ⟨_, rfl, _, rfl, u, l, rfl, ?_⟩
        have g0 : u.gcd l ≠ 0 := fun e => cl (Int.gcd_eq_zero_iff.mp e).2
        have gl : ((u.gcd l : Nat) : Int) ∣ l := Int.gcd_dvd_right ..
        have gu : ((u.gcd l : Nat) : Int) ∣ u := Int.gcd_dvd_left ..
        have gle : u.gcd l ≤ l.natAbs := Nat.le_of_dvd (Int.natAbs_pos.mpr cl) (Int.natAbs_dvd_natAbs.mpr gl)
        have fin : ∀ g : Int, (g = ((u.gcd l : Nat) : Int) ∨ g = -((u.gcd l : Nat) : Int)) → g = (if l < 0 then -((u.gcd l : Nat) : Int) else ((u.gcd l : Nat) : Int)) → (g ≠ 0 ∧ g.natAbs.log2 < 9000) ∧ ∀ t, H t = none → Q (.ref t) (upd H t (.tup [.int (u.fdiv g), .int (l.fdiv g)])) := fun g hg eg => by
          have dl : g ∣ l := by rcases hg with h | h <;> rw [h]; exact gl; exact Int.neg_dvd.mpr gl
          have du : g ∣ u := by rcases hg with h | h <;> rw [h]; exact gu; exact Int.neg_dvd.mpr gu
          have gn : g.natAbs = u.gcd l := by rcases hg with h | h <;> rw [h] <;> omega
          refine ⟨⟨by omega, log9 (by omega)⟩, fun t nt => q (.ref t) _ (same_upd nt) ?_⟩
          have ef : fr 0 u l = some (u / g, l / g) := by
            unfold fr
            rw [if_pos rfl, if_neg cl, eg]
          rw [ef, ← Int.fdiv_eq_ediv_of_dvd du, ← Int.fdiv_eq_ediv_of_dvd dl]
          exact ⟨t, rfl, SqT.of upd_same⟩
        refine ⟨_, rfl, _, _, rfl, rfl, _, rfl, ?_⟩
        by_cases cn : l < 0
        · refine if_pos_of (decide_eq_true cn) ?_
          obtain ⟨f1, f2⟩ := fin (-((u.gcd l : Nat) : Int)) (.inr rfl) (by rw [if_pos cn])
          exact ⟨_, rfl, _, rfl, _, rfl, _, rfl, _, _, rfl, rfl, f1, _, rfl, _, rfl, _, _, rfl, rfl, f1, (by show 2 ≤ sizeLine; decide), f2⟩
        · refine if_neg_of (decide_eq_false cn) ?_
          obtain ⟨f1, f2⟩ := fin ((u.gcd l : Nat) : Int) (.inl rfl) (by rw [if_neg cn])
          exact ⟨_, rfl, _, rfl, _, _, rfl, rfl, f1, _, rfl, _, rfl, _, _, rfl, rfl, f1, (by show 2 ≤ sizeLine; decide), f2⟩
    · have hpr : Pr p := hp.elim (fun h => absurd h c) id
      have p2 := hpr.1
      have e1 : remI l p = l % p := if_neg c
      rw [e1]
      by_cases cl : l % p = 0
      · refine if_pos_of (decide_eq_true (by rw [cl])) ?_
        refine q .non H (Same.refl H) ?_
        have ef : fr p u l = none := by
          unfold fr
          rw [if_neg c, if_pos cl]
        rw [ef] <;> rfl
      · refine if_neg_of (decide_eq_false fun e => cl (V.int.inj e)) ?_
        refine ⟨_, rfl, rfl, _, rfl, if_pos_of (by simp [c]) ?_⟩
        refine ⟨_, rfl, _, rfl, _, rfl, l, p, rfl, hpr, hb, nat299 bl, fun d => cl (Int.emod_eq_zero_of_dvd d), fun H1 s1 => ?_⟩
        have ib : (inv p l).natAbs < 2 ^ 62 := by
          have := inv_lt (p := p) (n := l) (by omega)
          omega
        refine ⟨_, _, rfl, rfl, wide_mul bu ib (by decide) (by decide) (by decide), _, rfl, _, _, rfl, rfl, (by omega), (by show 2 ≤ sizeLine; decide), fun t nt => ?_⟩
        refine q (.ref t) _ (s1.trans (same_upd nt)) ?_
        have ef : fr p u l = some (u * inv p l % p, 1) := by
          unfold fr
          rw [if_neg c, if_neg cl]
        rw [ef]
        exact ⟨t, rfl, SqT.of upd_same⟩
-- part rul6
theorem tks_one {z : Str} (h : tksS z = some 1) : z = "opposite" := by
  unfold tksS at h
  split at h
  · cases h
  · split at h
    · cases h
    · split at h
      · cases h
      · split at h
        · assumption
        · cases h
theorem tks_two {z : Str} (h : tksS z = some 2) : z ≠ "opposite" ∧ (z = "sum" ∨ z = "product" ∨ z = "quotient") := by
  have ne : z ≠ "opposite" := fun e => by
    rw [e] at h
    exact absurd h (by decide)
  refine ⟨ne, ?_⟩
  unfold tksS at h
  split at h
  · left; assumption
  · split at h
    · right; left; assumption
    · split at h
      · right; right; assumption
      · cases h
theorem bltF_none {word : Str} {p : Int} : ∀ {fs : List (Option (Int × Int))}, none ∈ fs → bltF word fs p = none
  | [none], _ => rfl
  | [some _], h => by simp at h
  | [none, none], _ => rfl
  | [none, some _], _ => rfl
  | [some _, none], _ => rfl
  | [some _, some _], h => by simp at h
  | [], h => nomatch h
  | a :: b :: _ :: _, _ => by rcases a with _ | ⟨_, _⟩ <;> rcases b with _ | ⟨_, _⟩ <;> rfl
def B140 (o : Option (Int × Int)) : Prop := ∀ x y, o = some (x, y) → x.natAbs < 2 ^ 140 ∧ y.natAbs < 2 ^ 140
theorem mul280 {x y : Int} (hx : x.natAbs < 2 ^ 140) (hy : y.natAbs < 2 ^ 140) : (x * y).natAbs < 2 ^ 280 := by
  rw [Int.natAbs_mul]
  exact Nat.lt_of_lt_of_le (Nat.mul_lt_mul'' hx hy) (by decide)
theorem add290 {x y : Int} (hx : x.natAbs < 2 ^ 280) (hy : y.natAbs < 2 ^ 280) : (x + y).natAbs < 2 ^ 290 := by
  have := Int.natAbs_add_le x y
  have e : (2 : Nat) ^ 280 + 2 ^ 280 ≤ 2 ^ 290 := by decide
  omega
theorem up290 {x : Int} (hx : x.natAbs < 2 ^ 280) : x.natAbs < 2 ^ 290 := Nat.lt_of_lt_of_le hx (by decide)
theorem up140 {x : Int} (hx : x.natAbs < 2 ^ 140) : x.natAbs < 2 ^ 290 := Nat.lt_of_lt_of_le hx (by decide)
abbrev s_blt : Stmt := top 34
theorem sc_blt : FnScope ["word", "fractions", "p", "a", "b", "c", "d"] ["word", "fractions", "p"] (defScope s_blt) := ⟨rfl, rfl, rfl, by decide +kernel, rfl, by decide +kernel, by decide +kernel⟩
def spBlt (K : PySem.W.Frag) : Sp := fun vs H Q _ => ∃ (word : Str) (q0 : Addr) (p : Int) (us : List V) (fs : List (Option (Int × Int))), vs = [.str word, .ref q0, .int p] ∧ SqL K H q0 us ∧ AllS (FrV K H) us fs ∧ tksS word = some fs.length ∧ Chr p ∧ p < 2 ^ 62 ∧ (∀ o ∈ fs, B140 o) ∧
  ∀ v H', Same H H' → FrV K H' v (bltF word fs p) → Q v H'
theorem ok_blt {f : Addr} {fd : FuncData} (F : Fun K "_built_of" "_built_of" s_blt f fd) (c_frac : Cl P w K mg base CX0 3 "_fraction" (spFrac K)) : FnOk P w K mg base CX0 4 f fd ["word", "fractions", "p"] (spBlt K) := by
  refine F.ok sc_blt (fun vs H Q E h => ?_) (fun cdv A outer s H vs Q E hr h => ?_)
  · obtain ⟨word, q0, p, us, fs, rfl, _⟩ := h
    rfl
  · obtain ⟨word, q0, p, us, fs, rfl, hq0, al, tk, hp, hb, bd, q⟩ := h
    refine ⟨_, (pss_cons (ps_if (pt_cmpR (op_noneInT (hu64 hr)) pe_non (pv 1) (by with_unfolding_all rfl)) (pss_one (ps_ret pe_non)) pss_nil)
 (pss_cons (ps_asg (pe_ix ix_list (pv 1) pe_int (fun _ _ => rfl)) (pg_tup rfl (pgs_cons (pg_name (i := 3) sc_blt.nd rfl (Or.inl rfl)) (pgs_cons (pg_name (i := 4) sc_blt.nd rfl (Or.inl rfl)) pgs_nil))))
 (pss_cons (ps_if (pt_cmpR op_eq (pv 0) pe_str (nomark _)) (pss_one (ps_ret (pe_cl c_frac hr (pa_cons (pe_un un_neg (pv 3)) (pa_cons (pv 4) (pa_cons (pv 2) pa_nil)))))) pss_nil)
 (pss_cons (ps_asg (pe_ix ix_list (pv 1) pe_int (fun _ _ => rfl)) (pg_tup rfl (pgs_cons (pg_name (i := 5) sc_blt.nd rfl (Or.inl rfl)) (pgs_cons (pg_name (i := 6) sc_blt.nd rfl (Or.inl rfl)) pgs_nil))))
 (pss_cons (ps_if (pt_cmpR op_eq (pv 0) pe_str (nomark _)) (pss_one (ps_ret (pe_cl c_frac hr (pa_cons (pe_op op_add (pe_op op_mulW (pv 3) (pv 6)) (pe_op op_mulW (pv 5) (pv 4))) (pa_cons (pe_op op_mulW (pv 4) (pv 6)) (pa_cons (pv 2) pa_nil)))))) pss_nil)
 (pss_cons (ps_if (pt_cmpR op_eq (pv 0) pe_str (nomark _)) (pss_one (ps_ret (pe_cl c_frac hr (pa_cons (pe_op op_mulW (pv 3) (pv 5)) (pa_cons (pe_op op_mulW (pv 4) (pv 6)) (pa_cons (pv 2) pa_nil)))))) pss_nil)
 (pss_one (ps_ret (pe_cl c_frac hr (pa_cons (pe_op op_mulW (pv 3) (pv 6)) (pa_cons (pe_op op_mulW (pv 4) (pv 5)) (pa_cons (pv 2) pa_nil)))))))))))), ?_⟩
    have nt : ∀ z ∈ us, NoneT K H z := fun z hz => by
      obtain ⟨i, hi⟩ := List.getElem?_of_mem hz
      obtain ⟨b, _, h2⟩ := al.get hi
      exact h2.noneT
    refine ⟨_, rfl, q0, us, rfl, rfl, hq0, nt, _, rfl, ?_⟩
    by_cases c : none ∈ fs
    · have e : us.any isNon = true := by
        obtain ⟨i, hi⟩ := List.getElem?_of_mem c
        obtain ⟨v, h1, h2⟩ := al.2 i _ hi
        exact List.any_eq_true.mpr ⟨v, List.mem_of_getElem? h1, by rw [h2.isN]; rfl⟩
      rw [e]
      exact iteT (q .non H (Same.refl H) (by rw [bltF_none c]; rfl))
    · have e : us.any isNon = false := by
        rw [List.any_eq_false]
        intro z hz
        obtain ⟨i, hi⟩ := List.getElem?_of_mem hz
        obtain ⟨b, h1, h2⟩ := al.get hi
        rw [h2.isN]
        cases b with
        | none => exact absurd (List.mem_of_getElem? h1) c
        | some x => exact Bool.false_ne_true
      rw [e]
      refine iteF ?_
      match fs, al, tk, bd, q, c with
      | [], _, tk, _, _, _ => exact absurd (show tksS word = some 0 from tk) (by unfold tksS; split; simp; split; simp; split; simp; split <;> simp)
      | none :: _, _, _, _, _, c => exact absurd List.mem_cons_self c
      | _ :: none :: _, _, _, _, _, c => exact absurd (List.mem_cons_of_mem _ List.mem_cons_self) c
      | [some (a, b)], al, tk, bd, q, c =>
        have ew := tks_one tk
        obtain ⟨ba, bb⟩ := bd _ List.mem_cons_self a b rfl
        obtain ⟨v0, hv0, t0, rfl, ht0⟩ := al.2 0 _ rfl
        refine ⟨_, rfl, q0, _, _, _, rfl, rfl, hq0, atI_nat (j := 0) hv0, t0, _, rfl, ht0, rfl, _, _, rfl, _, _, rfl, rfl, ?_⟩
        refine ⟨_, rfl, rfl, _, rfl, ?_⟩
        rw [str_eq]
        refine if_pos_of (decide_eq_true ew) ?_
        refine ⟨_, rfl, _, rfl, _, rfl, _, rfl, -a, b, p, rfl, hp, hb, by rw [Int.natAbs_neg]; exact up140 ba, up140 bb, fun v H1 s1 fv => q v H1 s1 ?_⟩
        have z : bltF word [some (a, b)] p = fr p (-a) b := if_pos ew
        rw [z]
        exact fv
      | [some (a, b), some (c', d)], al, tk, bd, q, c =>
        obtain ⟨ne, ew⟩ := tks_two tk
        obtain ⟨ba, bb⟩ := bd _ List.mem_cons_self a b rfl
        obtain ⟨bc, bdd⟩ := bd _ (List.mem_cons_of_mem _ List.mem_cons_self) c' d rfl
        obtain ⟨v0, hv0, t0, rfl, ht0⟩ := al.2 0 _ rfl
        obtain ⟨v1, hv1, t1, rfl, ht1⟩ := al.2 1 _ rfl
        have z : bltF word [some (a, b), some (c', d)] p = if word = "sum" then fr p (a * d + c' * b) (b * d) else if word = "product" then fr p (a * c') (b * d) else fr p (a * d) (b * c') := if_neg ne
        rw [z] at q
        have W : ∀ {x y : Int}, x.natAbs < 2 ^ 140 → y.natAbs < 2 ^ 140 → CMulW x y := fun hx hy => wide_mul hx hy (by decide) (by decide) (by decide)
        refine ⟨_, rfl, q0, _, _, _, rfl, rfl, hq0, atI_nat (j := 0) hv0, t0, _, rfl, ht0, rfl, _, _, rfl, _, _, rfl, rfl, ?_⟩
        refine ⟨_, rfl, rfl, _, rfl, ?_⟩
        rw [str_eq]
        refine if_neg_of (decide_eq_false ne) ?_
        refine ⟨_, rfl, q0, _, _, _, rfl, rfl, hq0, atI_nat (j := 1) hv1, t1, _, rfl, ht1, rfl, _, _, rfl, _, _, rfl, rfl, ?_⟩
        refine ⟨_, rfl, rfl, _, rfl, ?_⟩
        rw [str_eq]
        by_cases c1 : word = "sum"
        · rw [if_pos c1] at q
          refine if_pos_of (decide_eq_true c1) ?_
          exact ⟨_, rfl, _, rfl, _, _, rfl, rfl, W ba bdd, _, rfl, _, rfl, _, _, rfl, rfl, W bc bb, _, _, rfl, rfl, _, rfl, _, rfl, _, _, rfl, rfl, W bb bdd, _, rfl, _, _, _, rfl, hp, hb, add290 (mul280 ba bdd) (mul280 bc bb), up290 (mul280 bb bdd), q⟩
        · rw [if_neg c1] at q
          refine if_neg_of (decide_eq_false c1) ?_
          refine ⟨_, rfl, rfl, _, rfl, ?_⟩
          rw [str_eq]
          by_cases c2 : word = "product"
          · rw [if_pos c2] at q
            refine if_pos_of (decide_eq_true c2) ?_
            exact ⟨_, rfl, _, rfl, _, _, rfl, rfl, W ba bc, _, rfl, _, rfl, _, _, rfl, rfl, W bb bdd, _, rfl, _, _, _, rfl, hp, hb, up290 (mul280 ba bc), up290 (mul280 bb bdd), q⟩
          · rw [if_neg c2] at q
            refine if_neg_of (decide_eq_false c2) ?_
            exact ⟨_, rfl, _, rfl, _, _, rfl, rfl, W ba bdd, _, rfl, _, rfl, _, _, rfl, rfl, W bb bc, _, rfl, _, _, _, rfl, hp, hb, up290 (mul280 ba bdd), up290 (mul280 bb bc), q⟩
      | _ :: _ :: _ :: fs', _, tk, _, _, _ => exact absurd (tks_le tk) (by simp only [List.length_cons]; omega)
-- part rul7
theorem filter_at {α : Type} [DecidableEq α] {f : α → Bool} {l : List α} (nd : l.Nodup) {i k : Nat} {x : α} (hi : (l.filter f)[i]? = some x) (hk : l[k]? = some x) : (l.filter f).take i = (l.take k).filter f := by
  have kl := (List.getElem?_eq_some_iff.mp hk).1
  have e : l = l.take k ++ x :: l.drop (k + 1) := by
    have e1 := List.take_append_drop k l
    rw [List.drop_eq_getElem_cons kl] at e1
    rw [List.getElem?_eq_getElem kl] at hk
    rw [Option.some.inj hk] at e1
    exact e1.symm
  have fx : f x = true := (List.mem_filter.mp (List.mem_of_getElem? hi)).2
  have e2 : l.filter f = (l.take k).filter f ++ x :: (l.drop (k + 1)).filter f := by
    have e3 := congrArg (List.filter f) e
    rw [List.filter_append, List.filter_cons, if_pos fx] at e3
    exact e3
  have ndf : (l.filter f).Nodup := List.Pairwise.filter _ nd
  have hm : (l.filter f)[((l.take k).filter f).length]? = some x := by
    rw [e2, List.getElem?_append_right (Nat.le_refl _), Nat.sub_self]
    rfl
  have em : i = ((l.take k).filter f).length := by
    have i1 := (List.getElem?_eq_some_iff.mp hi)
    have i2 := (List.getElem?_eq_some_iff.mp hm)
    have pw := ndf
    unfold List.Nodup at pw
    rw [List.pairwise_iff_getElem] at pw
    obtain ⟨l1, h1⟩ := i1
    obtain ⟨l2, h2⟩ := i2
    rcases Nat.lt_trichotomy i ((l.take k).filter f).length with c | c | c
    · exact absurd (h1.trans h2.symm) (pw _ _ l1 l2 c)
    · exact c
    · exact absurd (h2.trans h1.symm) (pw _ _ l2 l1 c)
  rw [em, e2, List.take_left]
def BndR (p : Int) (R : List Stp) : Prop := ∀ z, B140 (valF p R z)
def FoundAt (K : PySem.W.Frag) (H : Hp) (D : Addr) (f : Str → Option (Int × Int)) (P : Str → Prop) : Prop := ∃ kvs, H D = some (.dK kvs) ∧ ∀ z, P z → ∃ v, valV kvs (Sum.inr z : Key) = some v ∧ FrV K H v (f z)
theorem FoundAt.same {H H' : Hp} {D : Addr} {f : Str → Option (Int × Int)} {P : Str → Prop} (h : FoundAt K H D f P) (s : Same H H') : FoundAt K H' D f P := by
  obtain ⟨kvs, h1, h2⟩ := h
  exact ⟨kvs, s _ _ h1, fun z hz => by
    obtain ⟨v, e1, e2⟩ := h2 z hz
    exact ⟨v, e1, e2.same s⟩⟩
theorem FrV.upd {H : Hp} {v : V} {o : Option (Int × Int)} {D : Addr} {u u' : HO} (h : FrV K H v o) (hD : H D = some u) (n1 : ∀ xs, u ≠ .tup xs) (n2 : ∀ o xs, u ≠ .frz o (.tup xs)) : FrV K (upd H D u') v o := by
  match o, h with
  | none, h => exact h
  | some (x, y), ⟨t, e, h⟩ =>
    refine ⟨t, e, ?_⟩
    rcases h with (h | ⟨o', h⟩) | h
    · exact .inl (.inl (by rw [upd_ne (fun e => by rw [e, hD] at h; exact n1 _ (Option.some.inj h))]; exact h))
    · exact .inl (.inr ⟨o', by rw [upd_ne (fun e => by rw [e, hD] at h; exact n2 _ _ (Option.some.inj h))]; exact h⟩)
    · exact .inr h
theorem FrV.updD {H : Hp} {v : V} {o : Option (Int × Int)} {D : Addr} {kvs kvs' : List (Key × V)} (h : FrV K H v o) (hD : H D = some (.dK kvs)) : FrV K (L2.upd H D (.dK kvs')) v o := h.upd hD (fun _ e => nomatch e) (fun _ _ e => nomatch e)
theorem FrV.updL {H : Hp} {v : V} {o : Option (Int × Int)} {D : Addr} {xs ys : List V} (h : FrV K H v o) (hD : H D = some (.lst xs)) : FrV K (L2.upd H D (.lst ys)) v o := h.upd hD (fun _ e => nomatch e) (fun _ _ e => nomatch e)
theorem gvn_found {Z O : Addr} {H : Hp} {p : Int} {R : List Stp} (wf : WFR R) (hZ : SqT K H Z [.int 0, .int 1]) (hO : SqT K H O [.int 1, .int 1]) {z : Str} (hz : z ∈ gvnS) : ∃ v, valV ((gvnV Z O).map fun kv => ((Sum.inr kv.1 : Key), kv.2)) (Sum.inr z : Key) = some v ∧ FrV K H v (valF p R z) := by
  rw [valF_given wf hz]
  unfold gvnS at hz
  rcases List.mem_cons.mp hz with e | hz
  · subst e
    exact ⟨.ref Z, valV_pos rfl, Z, rfl, hZ⟩
  · have e := List.mem_singleton.mp hz
    subst e
    refine ⟨.ref O, ?_, O, rfl, hO⟩
    show valV (((Sum.inr "zero" : Key), V.ref Z) :: [((Sum.inr "one" : Key), V.ref O)]) (Sum.inr "one") = _
    rw [valV_neg (fun e => absurd (Sum.inr.inj e) (by decide))]
    exact valV_pos rfl
abbrev s_rufrs : Stmt := inClass (top 35) 3
theorem sc_rufrs : FnScope ["self", "names", "p", "found", "name", "word", "rest", "other"] ["self", "names", "p"] (defScope s_rufrs) := ⟨rfl, rfl, rfl, by decide +kernel, rfl, by decide +kernel, by decide +kernel⟩
def spFrs (C : Addr) (K : PySem.W.Frag) : Sp := fun vs H Q _ => ∃ (a q0 : Addr) (p : Int) (R : List Stp) (ns : List Str), vs = [.ref a, .ref q0, .int p] ∧ RulAt C H a R ∧ R.length ≤ 900 ∧ SqL K H q0 (ns.map V.str) ∧ ns.length ≤ 900 ∧ Chr p ∧ p < 2 ^ 62 ∧ BndR p R ∧
  ∀ S D H', ClosedS R ns S → Same H H' → FoundAt K H' D (valF p R) (fun z => z ∈ gvnS ∨ z ∈ wayOf R S) → Q (.ref D) H'
theorem ok_rufrs {f C DG Z O : Addr} {fd : FuncData} (TT : Txt mg) (ndict : mg "dict" = none) (T : RulT K mg C) (WG : WDict K w DG (gvnV Z O)) (hG : mg "_GIVEN" = some (.ref DG)) (hZ : ∀ H, SqT K H Z [.int 0, .int 1]) (hO : ∀ H, SqT K H O [.int 1, .int 1]) (F : Fun K "_fractions" "Ruler._fractions" s_rufrs f fd)
    (m_way : Me P w K mg base 1 C "_way_to" (spWay C K)) (c_blt : Cl P w K mg base CX0 4 "_built_of" (spBlt K)) : FnOk P w K mg base CX0 5 f fd ["self", "names", "p"] (spFrs C K) := by
  refine F.ok sc_rufrs (fun vs H Q E h => ?_) (fun cdv A outer s H vs Q E hr h => ?_)
  · obtain ⟨a, q0, p, R, ns, rfl, _⟩ := h
    rfl
  · obtain ⟨a, q0, p, R, ns, rfl, ru, few, hq0, nl, hp, hb, bd, q⟩ := h
    obtain ⟨dx, d, kvs0, oa, od, sa⟩ := ru.ob
    have wf := ru.ok
    refine ⟨_, (pss_cons (ps_set (i := 3) sc_rufrs.nd rfl (Or.inr rfl) (pe_callTy (call_dictW WG (by show 2 ≤ 1000; decide)) (by rfl) ndict boot_dict (pa_cons (pe_glob (v := .ref DG) (by rfl) hG rfl) pa_nil)))
 (pss_cons (ps_for PassesOwn.never rfl (pi_list (pe_me m_way T.cl hr (pv 0) (pa_cons (pv 1) pa_nil))) (pg_name (i := 4) sc_rufrs.nd rfl (Or.inl rfl)) (pss_cons (ps_asg (pe_dget (by exact hu1 hr) (pe_fld (pv 0) rfl) (pv 4) (fun _ _ => rfl)) (pg_tup rfl (pgs_cons (pg_name (i := 5) sc_rufrs.nd rfl (Or.inl rfl)) (pgs_cons (pg_name (i := 6) sc_rufrs.nd rfl (Or.inl rfl)) pgs_nil))))
 (pss_one (ps_dput (hu1 hr) (pv 3) (pv 4) (pe_cl c_blt hr (pa_cons (pv 5) (pa_cons (pe_lc (own := [("other", 7)]) (g := (gName 7)) (tt := tYes) rfl sc_rufrs.nd (pi_list (pv 6)) (blkOk_by (N := ["self", "names", "p", "found", "name", "word", "rest", "other"]) (sc := defScope s_rufrs) (by decide +kernel)) (fun _ _ _ _ _ => (pg_name (i := 7) sc_rufrs.nd rfl (Or.inl rfl))) (fun _ _ _ _ _ => pts_nil) (fun _ _ _ _ _ => (pe_dget (by exact hu1 hr) (pv 3) (pv 7) (fun _ _ => rfl)))) (pa_cons (pv 2) pa_nil)))) rfl))))
 (pss_one (ps_ret (pv 3))))), ?_⟩
    refine ⟨rfl, fun D nD => ?_⟩
    have s1 := same_upd (o := .dK ((gvnV Z O).map fun kv => ((Sum.inr kv.1 : Key), kv.2))) nD
    refine ⟨_, rfl, a, dx, _, rfl, s1 _ _ oa, ru_no _ (by decide +kernel), _, rfl, a, q0, R, ns, rfl, ru.same s1, few, s1.seq hq0, nl, fun S wl G1 cl s2 hwl => ?_⟩
    have wl_len : (wayOf R S).length ≤ 900 := by
      have z := List.length_filter_le (fun n => decide (n ∈ S)) (namesS R)
      have z2 : (namesS R).length = R.length := by unfold namesS; rw [List.length_map]
      unfold wayOf
      omega
    refine ⟨wl, rfl, ⟨_, SqL.of hwl⟩, for_it walk_list (fun i σ G => Same H G ∧ G wl = some (.lst ((wayOf R S).map V.str)) ∧ (∃ y4 y5 y6 y7, σ = [some (.ref a), some (.ref q0), some (.int p), some (.ref D), y4, y5, y6, y7]) ∧ ∃ kvs, G D = some (.dK kvs) ∧ kvs.length ≤ 2 + i ∧ ∀ z, (z ∈ gvnS ∨ z ∈ (wayOf R S).take i) → ∃ v, valV kvs (Sum.inr z : Key) = some v ∧ FrV K G v (valF p R z))
      ⟨s1.trans s2, hwl, ⟨none, none, none, none, rfl⟩, _, s2 _ _ upd_same, Nat.le_refl _, fun z hz => ?_⟩ (fun i σ G _ h => SqL.of h.2.1) ?_ ?_⟩
    · rcases hz with h | h
      · exact gvn_found wf (hZ _) (hO _) h
      · rw [List.take_zero] at h
        cases h
    · rintro i v σ _ G hi ⟨s3, hwl3, ⟨y4, y5, y6, y7, rfl⟩, kvs, hD, lk, fnd⟩ ⟨rfl, hv⟩
      obtain ⟨z, rfl, hz⟩ := strAt hv
      rw [List.length_map] at hi
      obtain ⟨mz, mS⟩ := List.mem_filter.mp (List.mem_of_getElem? hz)
      obtain ⟨k, hk⟩ := List.getElem?_of_mem mz
      obtain ⟨st, hst, ez⟩ : ∃ st, R[k]? = some st ∧ st.1 = z := by
        unfold namesS at hk
        rw [List.getElem?_map] at hk
        exact Option.map_eq_some_iff.mp hk
      subst ez
      have mS' : st.1 ∈ S := of_decide_eq_true mS
      obtain ⟨sv, hsv, t, r, rfl, ht, hr'⟩ := sa.get wf hst
      have lr := tks_le (wf k st hst).k
      refine ⟨_, rfl, a, C, dx, _, _, rfl, s3 _ _ oa, T.cl, T.nS, ru_s d, _, rfl, d, .ref t, rfl, (by have z := DGet.k (k := Sum.inr st.1) (s3 _ _ od); rw [hsv] at z; exact z), t, _, rfl, SqT.of (s3 _ _ ht), rfl, _, _, rfl, _, _, rfl, rfl, ?_⟩
      refine ⟨_, rfl, _, rfl, r, rfl, ⟨_, SqL.of (s3 _ _ hr')⟩, fun E nE => lc_it walk_list (fun j G' => Same G G' ∧ ∃ acc, G' E = some (.lst acc) ∧ AllS (FrV K G') acc ((st.2.2.take j).map (valF p R))) ⟨same_upd nE, [], upd_same, AllS.nil⟩ (fun j G' _ h => SqL.of (h.1 _ _ (s3 _ _ hr'))) ?_ ?_⟩
      · rintro j x _ G' hj ⟨s4, acc, hE, al⟩ ⟨rfl, hx⟩
        obtain ⟨y, rfl, hy⟩ := strAt hx
        have my := List.mem_of_getElem? hy
        have py : y ∈ gvnS ∨ y ∈ (wayOf R S).take i := by
          rcases knownB_iff.mp ((wf k st hst).known y my) with g | g
          · exact .inl g
          · right
            unfold wayOf
            rw [filter_at (wfr_nodup wf) hz hk]
            refine List.mem_filter.mpr ⟨?_, decide_eq_true (cl.cl k st hst mS' y my)⟩
            unfold namesS at g ⊢
            rw [← List.map_take]
            exact g
        obtain ⟨v, hv1, hv2⟩ := fnd y py
        have la := al.1
        rw [List.length_map, List.length_take] at la
        refine ⟨rfl, _, rfl, _, rfl, D, v, rfl, (by have z := DGet.k (k := Sum.inr y) (s4 _ _ hD); rw [hv1] at z; exact z), acc, hE, by rw [sizeLine_eq]; omega, fun b o hb => ?_, _, upd_same, ?_⟩
        · rw [upd_ne (ne_of_none hb nE)]
          exact s4 b o hb
        · rw [List.take_add_one, hy, List.map_append]
          exact (al.snoc (hv2.same s4)).mono fun v b _ h => h.updL hE
      · rintro G' ⟨s4, acc, hE, al⟩
        rw [List.length_map, List.take_length] at al
        refine ⟨_, rfl, st.2.1, E, p, acc, st.2.2.map (valF p R), rfl, SqL.of hE, al, by rw [List.length_map]; exact (wf k st hst).k, hp, hb, fun o ho => ?_, fun v G2 s5 fv => ?_⟩
        · obtain ⟨y, _, e⟩ := List.mem_map.mp ho
          rw [← e]
          exact bd y
        · rw [← valF_step wf hst] at fv
          have s6 := s3.trans (s4.trans s5)
          have hD2 := s5 _ _ (s4 _ _ hD)
          refine ⟨_, rfl, _, rfl, D, _, rfl, DPut.k (k := Sum.inr st.1) hD2 (by rw [sizeLine_eq]; omega), fun b o hb => ?_, ?_, ⟨_, _, _, _, rfl⟩, _, upd_same, by have := length_putK kvs (Sum.inr st.1 : Key) v; omega, fun y hy => ?_⟩
          · rw [upd_ne (ne_of_none hb nD)]
            exact s6 b o hb
          · have e := s5 _ _ (s4 _ _ hwl3)
            rw [upd_ne (fun e2 => by rw [e2, hD2] at e; cases e)]
            exact e
          · rw [valV_put]
            by_cases c : (Sum.inr y : Key) = Sum.inr st.1
            · rw [if_pos c, Sum.inr.inj c]
              exact ⟨v, rfl, fv.updD hD2⟩
            · rw [if_neg c]
              have hy' : y ∈ gvnS ∨ y ∈ (wayOf R S).take i := by
                rcases hy with h | h
                · exact .inl h
                · rw [List.take_add_one, hz] at h
                  rcases List.mem_append.mp h with h | h
                  · exact .inr h
                  · exact absurd (by rw [show y = st.1 by simpa using h]) c
              obtain ⟨v', e1, e2⟩ := fnd y hy'
              exact ⟨v', e1, ((e2.same s4).same s5).updD hD2⟩
    · rintro σ G ⟨s3, hwl3, ⟨y4, y5, y6, y7, rfl⟩, kvs, hD, lk, fnd⟩
      rw [List.length_map, List.take_length] at fnd
      exact ⟨_, rfl, q S D G cl s3 ⟨kvs, hD, fnd⟩⟩
-- part rul8
/-! values in a prime characteristic -/
theorem lookE_none {env : Env2} {z : Str} (h : z ∉ env.map (·.1)) : lookE env z = none := by
  unfold lookE
  have n : (env.find? fun q => decide (q.1 = z)) = none := by
    rw [List.find?_eq_none]
    intro q hq e
    exact h (List.mem_map.mpr ⟨q, hq, of_decide_eq_true e⟩)
  rw [n] <;> rfl
theorem fr_pr {p u l x y : Int} (hp : Pr p) (h : fr p u l = some (x, y)) : y = 1 ∧ 0 ≤ x ∧ x < p := by
  have := hp.1
  unfold fr at h
  rw [if_neg (by omega)] at h
  split at h
  · cases h
  · cases h
    exact ⟨rfl, Int.emod_nonneg _ (by omega), Int.emod_lt_of_pos _ (by omega)⟩
theorem bltF_pr {word : Str} {p x y : Int} (hp : Pr p) : ∀ {fs : List (Option (Int × Int))}, bltF word fs p = some (x, y) → y = 1 ∧ 0 ≤ x ∧ x < p
  | [some (a, b)], h => by
    have h' : (if word = "opposite" then fr p (-a) b else none) = some (x, y) := h
    split at h'
    · exact fr_pr hp h'
    · cases h'
  | [some (a, b), some (c, d)], h => by
    have h' : (if word = "opposite" then fr p (-a) b else if word = "sum" then fr p (a * d + c * b) (b * d) else if word = "product" then fr p (a * c) (b * d) else fr p (a * d) (b * c)) = some (x, y) := h
    split at h'
    · exact fr_pr hp h'
    · split at h'
      · exact fr_pr hp h'
      · split at h'
        · exact fr_pr hp h'
        · exact fr_pr hp h'
  | [none], h => by cases h
  | [none, none], h => by cases h
  | [none, some _], h => by cases h
  | [some (_, _), none], h => by cases h
  | [], h => by cases h
  | a :: b :: c :: r, h => by
    rcases a with _ | ⟨_, _⟩ <;> rcases b with _ | ⟨_, _⟩ <;> cases h
theorem valF_pr {p : Int} {R : List Stp} (wf : WFR R) (hp : Pr p) {z : Str} {x y : Int} (h : valF p R z = some (x, y)) : y = 1 ∧ 0 ≤ x ∧ x < p := by
  have := hp.1
  by_cases c : z ∈ gvnS
  · rw [valF_given wf c] at h
    unfold gvnS at c
    rcases List.mem_cons.mp c with e | c
    · subst e
      have : some ((0 : Int), (1 : Int)) = some (x, y) := h
      cases this
      omega
    · have e := List.mem_singleton.mp c
      subst e
      have : some ((1 : Int), (1 : Int)) = some (x, y) := h
      cases this
      omega
  · by_cases c2 : z ∈ namesS R
    · obtain ⟨i, hi⟩ := List.getElem?_of_mem c2
      unfold namesS at hi
      rw [List.getElem?_map] at hi
      obtain ⟨st, hst, e⟩ := Option.map_eq_some_iff.mp hi
      subst e
      rw [valF_step wf hst] at h
      exact bltF_pr hp h
    · unfold valF at h
      rw [lookE_none (by rw [envR_keys]; intro m; exact (List.mem_append.mp m).elim c c2)] at h
      cases h
theorem bnd_pr {p : Int} {R : List Stp} (wf : WFR R) (hp : Pr p) (hb : p < 2 ^ 62) : BndR p R := fun z x y h => by
  obtain ⟨h1, h2, h3⟩ := valF_pr wf hp h
  have e : (2 : Nat) ^ 62 ≤ 2 ^ 140 := by decide
  generalize (2 : Nat) ^ 140 = T at e
  omega
def valO : Option (Int × Int) → V
  | none => .non
  | some (x, _) => .int x
theorem mem_way {R : List Stp} {S : List Str} {z : Str} (h1 : z ∈ namesS R) (h2 : z ∈ S) : z ∈ wayOf R S := List.mem_filter.mpr ⟨h1, decide_eq_true h2⟩
abbrev s_ruval : Stmt := inClass (top 35) 8
theorem sc_ruval : FnScope ["self", "name", "p", "found"] ["self", "name", "p"] (defScope s_ruval) := ⟨rfl, rfl, rfl, by decide +kernel, rfl, by decide +kernel, by decide +kernel⟩
def spRuVal (C CB CU : Addr) : Sp := fun vs H Q E => ∃ (a : Addr) (R : List Stp) (z : Str) (p : Int), vs = [.ref a, .str z, .int p] ∧ RulAt C H a R ∧ R.length ≤ 900 ∧ z.length ≤ 1000 ∧ p < 2 ^ 62 ∧
  (¬ Pr p → ∀ d H', Same H H' → H' d = some (.xd [("p", .int p)]) → E (.ref CB) (some d) H') ∧
  (Pr p → knownB (namesS R) z = false → ∀ d H', Same H H' → H' d = some (.xd [("name", .str z)]) → E (.ref CU) (some d) H') ∧
  (Pr p → knownB (namesS R) z = true → ∀ H', Same H H' → Q (valO (valF p R z)) H')
theorem ok_ruval {f C CB CU : Addr} {fd : FuncData} (T : RulT K mg C) (F : Fun K "value" "Ruler.value" s_ruval f fd) (c_chkp : Cl P w K mg base (L2N.CX P w) 3 "checked_prime" (spChkp CB)) (m_chk : MeN P w K mg base 3 C "_check_names" (spRuChk C CU K)) (m_frs : Me P w K mg base 5 C "_fractions" (spFrs C K)) : FnOk P w K mg base (L2N.CX P w) 6 f fd ["self", "name", "p"] (spRuVal C CB CU) := by
  refine okN F sc_ruval (fun vs H Q E h => ?_) (fun cdv A outer s H vs Q E hr h => ?_)
  · obtain ⟨a, R, z, p, rfl, _⟩ := h
    rfl
  · obtain ⟨a, R, z, p, rfl, ru, few, zl, hb, eB, eU, q⟩ := h
    obtain ⟨dx, d, kvs0, oa, od, sa⟩ := ru.ob
    refine ⟨_, (pss_cons (ps_expr (pe_clNX c_chkp hr (L2N.takes_of rfl rfl rfl rfl) (pa_cons (pv 2) pa_nil)))
 (pss_cons (ps_expr (pe_meX m_chk T.cl hr (L2N.takes_of rfl rfl rfl rfl) (pv 0) (pa_cons (pe_lst (pa_cons (pv 1) pa_nil)) pa_nil)))
 (pss_cons (ps_set (i := 3) sc_ruval.nd rfl (Or.inl rfl) (pe_dget (by exact hu1 hr) (pe_me m_frs T.cl hr (pv 0) (pa_cons (pe_lst (pa_cons (pv 1) pa_nil)) (pa_cons (pv 2) pa_nil))) (pv 1) (fun _ _ => rfl)))
 (pss_one (ps_ret (pe_ifExp (pt_cmpR op_isN (pv 3) pe_non (nomark _)) pe_non (pe_ix ix_tup (pv 3) pe_int (fun _ _ => rfl)))))))), ?_⟩
    refine ⟨_, rfl, p, rfl, hb, fun hp => ?_, fun hp d H' s hd => eB hp d H' s hd⟩
    refine ⟨_, rfl, a, dx, _, rfl, oa, ru_no _ (by decide +kernel), _, rfl, (by show 1 ≤ sizeLine; decide), fun l1 nl1 => ?_⟩
    have s1 := same_upd (o := .lst [.str z]) nl1
    refine ⟨a, l1, R, [z], rfl, ru.same s1, SqL.of upd_same, fun y hy => by rw [List.mem_singleton.mp hy]; exact zl, fun hk => ?_, fun i y hy hk _ d H' s2 hd => ?_⟩
    · have hk1 := hk z List.mem_cons_self
      refine ⟨_, rfl, a, dx, _, rfl, s1 _ _ oa, ru_no _ (by decide +kernel), _, rfl, (by show 1 ≤ sizeLine; decide), fun l2 nl2 => ?_⟩
      have s2 := s1.trans (same_upd (o := .lst [.str z]) nl2)
      refine ⟨_, rfl, a, l2, p, R, [z], rfl, ru.same s2, few, SqL.of upd_same, by simp, .inr hp, hb, bnd_pr ru.ok hp hb, fun S D H3 cl s3 fd => ?_⟩
      obtain ⟨kvs, hD, fnd⟩ := fd
      obtain ⟨v, hv1, hv2⟩ := fnd z (by
        rcases knownB_iff.mp hk1 with h | h
        · exact .inl h
        · exact .inr (mem_way h (cl.inn z List.mem_cons_self)))
      have q3 := q hp hk1 H3 (s2.trans s3)
      refine ⟨_, rfl, D, v, rfl, (by have z := DGet.k (k := Sum.inr z) hD; rw [hv1] at z; exact z), ?_⟩
      refine ⟨_, rfl, rfl, _, rfl, ?_⟩
      match hvf : valF p R z, hv2, q3 with
      | none, hv2, q3 =>
        have e : v = .non := hv2
        subst e
        exact if_pos_of (decide_eq_true rfl) q3
      | some (x, y), ⟨t, e, ht⟩, q3 =>
        subst e
        exact if_neg_of (decide_eq_false fun e => nomatch e) ⟨_, rfl, t, _, _, _, rfl, rfl, ht, atI_nat (j := 0) rfl, q3⟩
    · have e : y = z := by
        cases i with
        | zero => exact (Option.some.inj hy).symm
        | succ i => cases hy
      rw [e] at hk hd
      exact eU hp hk d H' (s1.trans s2) hd
-- part rul9
abbrev s_runames : Stmt := inClass (top 35) 4
theorem sc_runames : FnScope ["self"] ["self"] (defScope s_runames) := ⟨rfl, rfl, rfl, by decide +kernel, rfl, by decide +kernel, by decide +kernel⟩
def spRuNames (C : Addr) : Sp := fun vs H Q _ => ∃ (a : Addr) (R : List Stp), vs = [.ref a] ∧ RulAt C H a R ∧ ∀ p, H p = none → Q (.ref p) (upd H p (.lst ((namesS R).map V.str)))
theorem steps_keys {H : Hp} {kvs : List (Key × V)} {R : List Stp} (sa : StepsAt H kvs R) : (kvs.map fun kv => kV kv.1) = (namesS R).map V.str := by
  have e := congrArg (List.map kV) sa.ks
  rw [List.map_map, List.map_map] at e
  unfold namesS
  rw [List.map_map]
  exact e
theorem ok_runames {f C : Addr} {fd : FuncData} (TT : Txt mg) (T : RulT K mg C) (F : Fun K "names" "Ruler.names" s_runames f fd) : FnOk P w K mg base CX0 1 f fd ["self"] (spRuNames C) := by
  refine F.ok sc_runames (fun vs H Q E h => ?_) (fun cdv A outer s H vs Q E hr h => ?_)
  · obtain ⟨a, R, rfl, _⟩ := h
    rfl
  · obtain ⟨a, R, rfl, ru, q⟩ := h
    obtain ⟨dx, d, kvs, oa, od, sa⟩ := ru.ob
    refine ⟨_, (pss_one (ps_ret (pe_callTy (call_listD rfl) (by rfl) TT.list boot_list (pa_cons (pe_fld (pv 0) rfl) pa_nil)))), ?_⟩
    refine ⟨_, rfl, a, C, dx, _, _, rfl, oa, T.cl, T.nS, ru_s d, d, kvs, rfl, .inl od, fun p np => ?_⟩
    rw [steps_keys sa]
    exact q p np
abbrev s_ruasf : Stmt := inClass (top 35) 5
theorem sc_ruasf : FnScope ["self", "name"] ["self", "name"] (defScope s_ruasf) := ⟨rfl, rfl, rfl, by decide +kernel, rfl, by decide +kernel, by decide +kernel⟩
def spAsF (C CU : Addr) (K : PySem.W.Frag) : Sp := fun vs H Q E => ∃ (a : Addr) (R : List Stp) (z : Str), vs = [.ref a, .str z] ∧ RulAt C H a R ∧ R.length ≤ 900 ∧ z.length ≤ 1000 ∧ BndR 0 R ∧
  (knownB (namesS R) z = false → ∀ d H', Same H H' → H' d = some (.xd [("name", .str z)]) → E (.ref CU) (some d) H') ∧
  (knownB (namesS R) z = true → ∀ v H', Same H H' → FrV K H' v (valF 0 R z) → Q v H')
theorem ok_ruasf {f C CU : Addr} {fd : FuncData} (T : RulT K mg C) (F : Fun K "as_fraction" "Ruler.as_fraction" s_ruasf f fd) (m_chk : MeN P w K mg base 3 C "_check_names" (spRuChk C CU K)) (m_frs : Me P w K mg base 5 C "_fractions" (spFrs C K)) : FnOk P w K mg base (L2N.CX P w) 6 f fd ["self", "name"] (spAsF C CU K) := by
  refine okN F sc_ruasf (fun vs H Q E h => ?_) (fun cdv A outer s H vs Q E hr h => ?_)
  · obtain ⟨a, R, z, rfl, _⟩ := h
    rfl
  · obtain ⟨a, R, z, rfl, ru, few, zl, bd, eU, q⟩ := h
    obtain ⟨dx, d, kvs0, oa, od, sa⟩ := ru.ob
    refine ⟨_, (pss_cons (ps_expr (pe_meX m_chk T.cl hr (L2N.takes_of rfl rfl rfl rfl) (pv 0) (pa_cons (pe_lst (pa_cons (pv 1) pa_nil)) pa_nil)))
 (pss_one (ps_ret (pe_dget (by exact hu1 hr) (pe_me m_frs T.cl hr (pv 0) (pa_cons (pe_lst (pa_cons (pv 1) pa_nil)) (pa_cons pe_int pa_nil))) (pv 1) (fun _ _ => rfl))))), ?_⟩
    refine ⟨_, rfl, a, dx, _, rfl, oa, ru_no _ (by decide +kernel), _, rfl, (by show 1 ≤ sizeLine; decide), fun l1 nl1 => ?_⟩
    have s1 := same_upd (o := .lst [.str z]) nl1
    refine ⟨a, l1, R, [z], rfl, ru.same s1, SqL.of upd_same, fun y hy => by rw [List.mem_singleton.mp hy]; exact zl, fun hk => ?_, fun i y hy hk _ d H' s2 hd => ?_⟩
    · have hk1 := hk z List.mem_cons_self
      refine ⟨_, rfl, a, dx, _, rfl, s1 _ _ oa, ru_no _ (by decide +kernel), _, rfl, (by show 1 ≤ sizeLine; decide), fun l2 nl2 => ?_⟩
      have s2 := s1.trans (same_upd (o := .lst [.str z]) nl2)
      refine ⟨a, l2, 0, R, [z], rfl, ru.same s2, few, SqL.of upd_same, by simp, .inl rfl, by decide, bd, fun S D H3 cl s3 fd => ?_⟩
      obtain ⟨kvs, hD, fnd⟩ := fd
      obtain ⟨v, hv1, hv2⟩ := fnd z (by
        rcases knownB_iff.mp hk1 with h | h
        · exact .inl h
        · exact .inr (mem_way h (cl.inn z List.mem_cons_self)))
      exact ⟨_, rfl, D, v, rfl, (by have z := DGet.k (k := Sum.inr z) hD; rw [hv1] at z; exact z), q hk1 v H3 (s2.trans s3) hv2⟩
    · have e : y = z := by
        cases i with
        | zero => exact (Option.some.inj hy).symm
        | succ i => cases hy
      rw [e] at hk hd
      exact eU hk d H' (s1.trans s2) hd
-- part cnt
/-! how many primes a product may have -/
def ps30 : List Nat := [2, 3, 5, 7, 11, 13, 17, 19, 23, 29, 31, 37, 41, 43, 47, 53, 59, 61, 67, 71, 73, 79, 83, 89, 97, 101, 103, 107, 109, 113]
theorem small_pr : ∀ n ∈ List.range 114, 2 ≤ n → (∀ d ∈ [2, 3, 5, 7], d < n → n % d ≠ 0) → n ∈ ps30 := by decide +kernel
theorem ps30_next : ∀ i ∈ List.range 29, ∀ n ∈ ps30, ps30.getD i 0 < n → ps30.getD (i + 1) 0 ≤ n := by decide +kernel
theorem ps30_le : ∀ i ∈ List.range 30, ps30.getD i 0 ≤ 113 := by decide +kernel
theorem pr_in {p : Int} (hp : Pr p) (h : p ≤ 113) : p.toNat ∈ ps30 := by
  have p2 := hp.1
  refine small_pr p.toNat (List.mem_range.mpr (by omega)) (by omega) fun d hd hl e => ?_
  have d2 : (2 : Int) ≤ d := by
    simp only [List.mem_cons, List.not_mem_nil, or_false] at hd
    rcases hd with h | h | h | h <;> rw [h] <;> decide
  refine hp.2 (d : Nat) d2 (by omega) ?_
  have e1 : ((d : Nat) : Int) ∣ ((p.toNat : Nat) : Int) := Int.natCast_dvd_natCast.mpr (Nat.dvd_of_mod_eq_zero e)
  rwa [Int.toNat_of_nonneg (by omega)] at e1
theorem pr_next {p : Int} (hp : Pr p) {i : Nat} (hi : i < 29) (h : ((ps30.getD i 0 : Nat) : Int) < p) : ((ps30.getD (i + 1) 0 : Nat) : Int) ≤ p := by
  by_cases c : p ≤ 113
  · have z := ps30_next i (List.mem_range.mpr hi) p.toNat (pr_in hp c) (by omega)
    have := hp.1
    omega
  · have z := ps30_le (i + 1) (List.mem_range.mpr (by omega))
    omega
theorem pr_at {l : List Int} (srt : l.Pairwise (· < ·)) (pr : ∀ q ∈ l, Pr q) : ∀ (i : Nat) (q : Int), i < 30 → l[i]? = some q → ((ps30.getD i 0 : Nat) : Int) ≤ q
  | 0, q, _, h => (pr q (List.mem_of_getElem? h)).1
  | i + 1, q, hi, h => by
    have hl := (List.getElem?_eq_some_iff.mp h).1
    have h0 : l[i]? = some l[i] := List.getElem?_eq_getElem (by omega)
    have ih := pr_at srt pr i l[i] (by omega) h0
    rw [List.pairwise_iff_getElem] at srt
    have lt := srt i (i + 1) (by omega) hl (Nat.lt_succ_self i)
    rw [List.getElem?_eq_getElem hl] at h
    rw [Option.some.inj h] at lt
    exact pr_next (pr q (List.mem_of_getElem? (by rw [List.getElem?_eq_getElem hl, h]))) (by omega) (by omega)
def prodI (l : List Int) : Int := l.foldr (· * ·) 1
theorem prodI_cons (a : Int) (l : List Int) : prodI (a :: l) = a * prodI l := rfl
theorem prodI_append (a b : List Int) : prodI (a ++ b) = prodI a * prodI b := by
  induction a with
  | nil => show prodI b = 1 * prodI b; rw [Int.one_mul]
  | cons x a ih => rw [List.cons_append, prodI_cons, prodI_cons, ih, Int.mul_assoc]
theorem prodI_pos {l : List Int} (h : ∀ q ∈ l, 1 ≤ q) : 1 ≤ prodI l := by
  induction l with
  | nil => exact Int.le_refl 1
  | cons a l ih =>
    rw [prodI_cons]
    have h1 := h a List.mem_cons_self
    have h2 := ih fun q hq => h q (List.mem_cons_of_mem _ hq)
    have := Int.mul_le_mul h1 h2 (by decide) (by omega)
    omega
theorem prodI_perm {l m : List Int} (h : l.Perm m) : prodI l = prodI m := by
  induction h with
  | nil => rfl
  | cons x _ ih => rw [prodI_cons, prodI_cons, ih]
  | swap x y l => rw [prodI_cons, prodI_cons, prodI_cons, prodI_cons, Int.mul_left_comm]
  | trans _ _ a b => exact a.trans b
theorem prodI_ge : ∀ (l : List Int) (f : Nat → Nat) (k : Nat), (∀ (i : Nat) (q : Int), l[i]? = some q → ((f (k + i) : Nat) : Int) ≤ q) → ((((List.range l.length).map fun i => f (k + i)).foldr (· * ·) 1 : Nat) : Int) ≤ prodI l
  | [], _, _, _ => Int.le_refl 1
  | a :: l, f, k, h => by
    have h0 := h 0 a rfl
    have ih := prodI_ge l f (k + 1) fun i q hq => by
      have := h (i + 1) q hq
      rwa [show k + (i + 1) = k + 1 + i by omega] at this
    rw [List.length_cons, List.range_succ_eq_map, List.map_cons, List.foldr_cons, prodI_cons, List.map_map]
    have e : ((List.range l.length).map ((fun i => f (k + i)) ∘ Nat.succ)) = (List.range l.length).map fun i => f (k + 1 + i) := List.map_congr_left fun i _ => by
      show f (k + (i + 1)) = _
      rw [show k + (i + 1) = k + 1 + i by omega]
    rw [e]
    push_cast
    exact Int.mul_le_mul h0 ih (Int.natCast_nonneg _) (by omega)
/-- fewer than 30 distinct primes -/
theorem few_primes {l : List Int} (nd : l.Nodup) (pr : ∀ q ∈ l, Pr q) (h : prodI l ≤ 30000 ^ 10) : l.length ≤ 29 := by
  have perm := List.mergeSort_perm l (fun a b => decide (a ≤ b))
  have srt := List.pairwise_mergeSort (le := fun (a b : Int) => decide (a ≤ b)) (fun a b c h1 h2 => by simp only [decide_eq_true_eq] at *; omega) (fun a b => by simp only [Bool.or_eq_true, decide_eq_true_eq]; omega) l
  generalize l.mergeSort (fun a b => decide (a ≤ b)) = m at perm srt
  have ndm : m.Nodup := perm.nodup_iff.mpr nd
  have prm : ∀ q ∈ m, Pr q := fun q hq => pr q (perm.mem_iff.mp hq)
  have srt2 : m.Pairwise (· < ·) := by
    have z := List.Pairwise.and srt ndm
    exact z.imp fun {a b} h => by
      have h1 : a ≤ b := of_decide_eq_true h.1
      have h2 := h.2
      omega
  rw [← perm.length_eq]
  rw [← prodI_perm perm] at h
  refine Nat.le_of_not_lt fun c => ?_
  have e : m = m.take 30 ++ m.drop 30 := (List.take_append_drop 30 m).symm
  have l30 : (m.take 30).length = 30 := by rw [List.length_take]; omega
  have g := prodI_ge (m.take 30) (fun i => ps30.getD i 0) 0 fun i q hq => by
    rw [Nat.zero_add]
    have hi := (List.getElem?_eq_some_iff.mp hq).1
    rw [l30] at hi
    rw [List.getElem?_take, if_pos hi] at hq
    exact pr_at srt2 prm i q hi hq
  rw [l30] at g
  have pos : 1 ≤ prodI (m.drop 30) := prodI_pos fun q hq => by have := (prm q (List.mem_of_mem_drop hq)).1; omega
  have big : (30000 : Int) ^ 10 < ((((List.range 30).map fun i => ps30.getD (0 + i) 0).foldr (· * ·) 1 : Nat) : Int) := by decide +kernel
  rw [e, prodI_append] at h
  have g1 : 0 ≤ prodI (m.take 30) := by
    have := prodI_pos (l := m.take 30) fun q hq => by have := (prm q (List.mem_of_mem_take hq)).1; omega
    omega
  have := Int.mul_le_mul (Int.le_refl (prodI (m.take 30))) pos (by decide) g1
  rw [Int.mul_one] at this
  omega
-- part apart
abbrev s_apart : Stmt := top 18
theorem sc_apart : FnScope ["n", "other", "shared"] ["n", "other"] (defScope s_apart) := ⟨rfl, rfl, rfl, by decide +kernel, rfl, by decide +kernel, by decide +kernel⟩
def spApart : Sp := fun vs H Q _ => ∃ n p : Int, vs = [.int n, .int p] ∧ n ≠ 0 ∧ absI n < 2 ^ 62 ∧ Pr p ∧ p < 2 ^ 62 ∧ ∀ r : Int, 1 ≤ r → r ≤ absI n → (∀ q, Pr q → (q ∣ r ↔ q ∣ n ∧ q ≠ p)) → Q (.int r) H
theorem apart_end {m n p : Int} (hp : Pr p) (m0 : m ≠ 0) (g : ¬ (1 : Int) < ((m.gcd p : Nat) : Int)) (hq : ∀ q, Pr q → q ≠ p → (q ∣ m ↔ q ∣ n)) : ∀ q, Pr q → (q ∣ m ↔ q ∣ n ∧ q ≠ p) := fun q pq => by
  have p2 := hp.1
  have np : ¬ p ∣ m := fun d => by
    have d2 : p ∣ ((m.gcd p : Nat) : Int) := Int.dvd_coe_gcd d (Int.dvd_refl p)
    by_cases z : m.gcd p = 0
    · exact m0 (Int.gcd_eq_zero_iff.mp z).1
    · have := Int.le_of_dvd (by omega) d2
      omega
  by_cases c : q = p
  · subst c
    exact ⟨fun d => absurd d np, fun d => absurd rfl d.2⟩
  · rw [hq q pq c]
    exact ⟨fun d => ⟨d, c⟩, fun d => d.1⟩
theorem gcd_pr {m p : Int} (hp : Pr p) (g : (1 : Int) < ((m.gcd p : Nat) : Int)) : ((m.gcd p : Nat) : Int) = p ∧ p ∣ m := by
  have p2 := hp.1
  by_cases d : p ∣ m
  · refine ⟨?_, d⟩
    have d1 : ((m.gcd p : Nat) : Int) ∣ p := Int.gcd_dvd_right ..
    have d2 : p ∣ ((m.gcd p : Nat) : Int) := Int.dvd_coe_gcd d (Int.dvd_refl p)
    have l1 := Int.le_of_dvd (by omega) d1
    have l2 := Int.le_of_dvd (by omega) d2
    omega
  · rw [gcd_prime hp d] at g
    exact absurd g (by decide)
theorem apart_step {m p : Int} (hp : Pr p) (m0 : m ≠ 0) (d : p ∣ m) : m / p ≠ 0 ∧ (m / p).natAbs < m.natAbs ∧ absI (m / p) ≤ absI m ∧ ∀ q, Pr q → q ≠ p → (q ∣ m / p ↔ q ∣ m) := by
  have p2 := hp.1
  obtain ⟨k, rfl⟩ := d
  rw [Int.mul_ediv_cancel_left _ (show p ≠ 0 by omega)]
  have k0 : k ≠ 0 := fun e => m0 (by rw [e, Int.mul_zero])
  have l : k.natAbs < (p * k).natAbs := by
    rw [Int.natAbs_mul]
    have h1 : 2 ≤ p.natAbs := by omega
    have h2 := Nat.mul_le_mul_right k.natAbs h1
    omega
  refine ⟨k0, l, by unfold absI; split <;> split <;> omega, fun q pq ne => ⟨fun d => Int.dvd_trans d (Int.dvd_mul_left _ _), fun d => ?_⟩⟩
  rcases pr_mul pq d with h | h
  · exact absurd (pr_dvd_pr hp pq h) ne
  · exact h
theorem ok_apart {f : Addr} {fd : FuncData} (T : Txt mg) (F : Fun K "apart" "apart" s_apart f fd) (c_common : Cl P w K mg base CX0 1 "common" spCommon) : FnOk P w K mg base CX0 2 f fd ["n", "other"] spApart := by
  refine F.ok sc_apart (fun vs H Q E h => ?_) (fun cdv A outer s H vs Q E hr h => ?_)
  · obtain ⟨n, p, rfl, _⟩ := h
    rfl
  · obtain ⟨n, p, rfl, n0, nb, hp, pb, q⟩ := h
    have p2 := hp.1
    refine ⟨_, (pss_cons (ps_set (i := 2) sc_apart.nd rfl (Or.inl rfl) (pe_cl c_common hr (pa_cons (pv 0) (pa_cons (pv 1) pa_nil))))
 (pss_cons (ps_while PassesOwn.never (pt_cmpR op_gt (pv 2) pe_int (nomark _)) (pss_cons (ps_set (i := 0) sc_apart.nd rfl (Or.inl rfl) (pe_op op_fdivW (pv 0) (pv 2)))
 (pss_one (ps_set (i := 2) sc_apart.nd rfl (Or.inl rfl) (pe_cl c_common hr (pa_cons (pv 0) (pa_cons (pv 1) pa_nil)))))))
 (pss_one (ps_ret (pe_callB call_abs (by rfl) T.abs boot_abs (pa_cons (pv 0) pa_nil)))))), ?_⟩
    refine ⟨_, rfl, _, rfl, n, p, rfl, ?_⟩
    refine while_by (fun σ H' => H' = H ∧ ∃ m : Int, σ = [some (.int m), some (.int p), some (.int ((m.gcd p : Nat) : Int))] ∧ m ≠ 0 ∧ absI m ≤ absI n ∧ ∀ q, Pr q → q ≠ p → (q ∣ m ↔ q ∣ n)) (fun σ _ => match σ[0]? with | some (some (V.int r)) => r.natAbs | _ => 0)
      ⟨rfl, n, rfl, n0, Int.le_refl _, fun q _ _ => Iff.rfl⟩ ?_ ?_
    · rintro σ _ ⟨rfl, m, rfl, m0, ml, hq⟩
      refine ⟨_, rfl, _, _, rfl, rfl, _, rfl, ?_⟩
      by_cases c : (1 : Int) < ((m.gcd p : Nat) : Int)
      · refine if_pos_of (decide_eq_true c) ?_
        obtain ⟨e, d⟩ := gcd_pr hp c
        obtain ⟨s1, s2, s3, s4⟩ := apart_step hp m0 d
        rw [e]
        refine ⟨_, rfl, _, rfl, _, _, rfl, rfl, ⟨by omega, log9 (by omega)⟩, _, rfl, _, rfl, m / p, p, rfl, ⟨rfl, m / p, rfl, s1, by omega, fun q pq ne => (s4 q pq ne).trans (hq q pq ne)⟩, ?_⟩
        exact s2
      · refine if_neg_of (decide_eq_false c) ?_
        have ap := apart_end hp m0 c hq
        have ab : absI m = (if m < 0 then -m else m) := rfl
        refine ⟨_, rfl, _, rfl, ?_⟩
        rw [← ab]
        refine q _ ?_ ml fun z hz => ?_
        · rw [ab]; split <;> omega
        · rw [← ap z hz, ab]
          split
          · exact Int.dvd_neg
          · exact Iff.rfl
    · intro σ H1 Q1 Q2 h z
      obtain ⟨v, e1, i, j, e3, e4, k, e6, qq⟩ := z
      exact ⟨v, e1, i, j, e3, e4, k, e6, h _ _ qq⟩
-- part wun
/-! where every one of some numbers is a unit -/
theorem prodI_dvd : ∀ {l : List Int} {n : Int}, l.Nodup → (∀ q ∈ l, Pr q ∧ q ∣ n) → prodI l ∣ n
  | [], n, _, _ => Int.one_dvd n
  | a :: l, n, nd, h => by
    obtain ⟨pa, k, e⟩ := h a List.mem_cons_self
    rw [prodI_cons, e]
    have nd' := List.nodup_cons.mp nd
    refine Int.mul_dvd_mul (Int.dvd_refl a) (prodI_dvd nd'.2 fun q hq => ?_)
    obtain ⟨pq, dq⟩ := h q (List.mem_cons_of_mem _ hq)
    refine ⟨pq, ?_⟩
    rw [e] at dq
    rcases pr_mul pq dq with c | c
    · exact absurd (pr_dvd_pr pa pq c ▸ hq) nd'.1
    · exact c
theorem prodI_le {l : List Int} {n : Int} (n0 : n ≠ 0) (nd : l.Nodup) (h : ∀ q ∈ l, Pr q ∧ q ∣ n) : prodI l ≤ absI n := by
  have d := prodI_dvd nd h
  have p1 := prodI_pos (l := l) fun q hq => by have := (h q hq).1.1; omega
  unfold absI
  split
  · exact Int.le_of_dvd (by omega) (Int.dvd_neg.mpr d)
  · exact Int.le_of_dvd (by omega) d
/-- what is held of the primes found -/
structure Wun (ns : List Int) (ps : List Int) : Prop where
  nd : ps.Nodup
  mem : ∀ q, q ∈ ps ↔ Pr q ∧ ∃ n ∈ ns, q ∣ n
  le : prodI ps ≤ 30000 ^ ns.length
theorem Wun.nil : Wun [] [] := ⟨List.Pairwise.nil, fun q => ⟨fun h => (nomatch h), fun h => by obtain ⟨_, _, h, _⟩ := h; cases h⟩, Int.le_refl 1⟩
theorem Wun.few {ns ps : List Int} (h : Wun ns ps) (hl : ns.length ≤ 10) : ps.length ≤ 29 := by
  refine few_primes h.nd (fun q hq => ((h.mem q).mp hq).1) (Int.le_trans h.le ?_)
  have z := Nat.pow_le_pow_right (show 0 < 30000 by decide) hl
  have e1 : ((30000 ^ ns.length : Nat) : Int) = 30000 ^ ns.length := by rw [Int.natCast_pow] <;> rfl
  have e2 : ((30000 ^ 10 : Nat) : Int) = 30000 ^ 10 := by rw [Int.natCast_pow] <;> rfl
  rw [← e1, ← e2]
  exact Int.ofNat_le.mpr z
theorem Wun.snoc {ns ps l : List Int} {n m : Int} (h : Wun ns ps) (n0 : n ≠ 0) (nb : absI n ≤ 30000) (m0 : m ≠ 0) (mb : absI m ≤ 30000) (hm : ∀ q, Pr q → (q ∣ m ↔ q ∣ n ∧ q ∉ ps)) (pd : PD (absI m) l) : Wun (ns ++ [n]) (ps ++ l) := by
  have lm : ∀ q ∈ l, Pr q ∧ q ∣ m := fun q hq => by
    obtain ⟨h1, h2⟩ := (pd.2 q).mp hq
    refine ⟨h1, ?_⟩
    unfold absI at h2
    split at h2
    · exact Int.dvd_neg.mp h2
    · exact h2
  have ndl : l.Nodup := pd.1.imp fun {a b} h => by omega
  refine ⟨?_, fun q => ?_, ?_⟩
  · refine List.nodup_append.mpr ⟨h.nd, ndl, fun a ha b hb e => ?_⟩
    subst e
    obtain ⟨h1, h2⟩ := lm a hb
    exact ((hm a h1).mp h2).2 ha
  · rw [List.mem_append, h.mem q]
    constructor
    · rintro (⟨pq, x, hx, d⟩ | hq)
      · exact ⟨pq, x, List.mem_append_left _ hx, d⟩
      · obtain ⟨h1, h2⟩ := lm q hq
        exact ⟨h1, n, by simp, ((hm q h1).mp h2).1⟩
    · rintro ⟨pq, x, hx, d⟩
      by_cases c : q ∈ ps
      · exact .inl ((h.mem q).mp c)
      · right
        rcases List.mem_append.mp hx with hx | hx
        · exact absurd ((h.mem q).mpr ⟨pq, x, hx, d⟩) c
        · have e : x = n := by simpa using hx
          subst e
          refine (pd.2 q).mpr ⟨pq, ?_⟩
          have := (hm q pq).mpr ⟨d, c⟩
          unfold absI
          split
          · exact Int.dvd_neg.mpr this
          · exact this
  · rw [prodI_append, List.length_append, List.length_singleton, Int.pow_succ]
    have h1 := prodI_le m0 ndl lm
    have h2 := prodI_pos (l := l) fun q hq => by have := (lm q hq).1.1; omega
    have h3 := prodI_pos (l := ps) fun q hq => by have := ((h.mem q).mp hq).1.1; omega
    exact Int.mul_le_mul h.le (by omega) (by omega) (by have := h.le; omega)
theorem Wun.bd {ns ps : List Int} (h : Wun ns ps) (hn : ∀ n ∈ ns, n ≠ 0 ∧ absI n ≤ 30000) : ∀ q ∈ ps, Pr q ∧ q < 2 ^ 62 := fun q hq => by
  obtain ⟨pq, n, hn', d⟩ := (h.mem q).mp hq
  obtain ⟨n0, nb⟩ := hn n hn'
  refine ⟨pq, ?_⟩
  have : q ≤ absI n := by
    unfold absI
    split
    · exact Int.le_of_dvd (by omega) (Int.dvd_neg.mpr d)
    · exact Int.le_of_dvd (by omega) d
  omega
def unB (ns : List Int) (p : Int) : Bool := ns.all fun n => !decide (p ∣ n)
abbrev s_wun : Stmt := top 27
theorem sc_wun : FnScope ["numbers", "primes", "n", "p"] ["numbers"] (defScope s_wun) := ⟨rfl, rfl, rfl, by decide +kernel, rfl, by decide +kernel, by decide +kernel⟩
def spWun (C : Addr) (K : PySem.W.Frag) : Sp := fun vs H Q _ => ∃ (q0 : Addr) (ns : List Int), vs = [.ref q0] ∧ SqL K H q0 (ns.map V.int) ∧ ns.length ≤ 10 ∧ (∀ n ∈ ns, absI n ≤ 30000) ∧
  ∀ r e l H', CharsAt C H' r e l → l.length ≤ 29 → (∀ p, Chr p → memB e l p = unB ns p) → Same H H' → Q (.ref r) H'
theorem ok_wun {f C CB CN : Addr} {fd : FuncData} (TT : Txt mg) (T : ChT K mg C) (F : Fun K "where_units" "where_units" s_wun f fd) (c_cil : Ma P w K mg base 3 C (spCI C CB false K)) (c_none : Cm P w K mg base 5 C "none" (spCevery C false)) (c_divs : Cl P w K mg base (L2N.CX P w) 3 "prime_divisors" (spDivs CN)) (c_apart : Cl P w K mg base CX0 2 "apart" spApart) : FnOk P w K mg base CX0 6 f fd ["numbers"] (spWun C K) := by
  refine F.ok sc_wun (fun vs H Q E h => ?_) (fun cdv A outer s H vs Q E hr h => ?_)
  · obtain ⟨q0, ns, rfl, _⟩ := h
    rfl
  · obtain ⟨q0, ns, rfl, hS, hl, hb, q⟩ := h
    refine ⟨_, (pss_cons (ps_if (pt_cmpR op_in_seq pe_int (pv 0) (by with_unfolding_all rfl)) (pss_one (ps_ret (pe_cm0 c_none hr (pe_glob (v := .ref C) (by rfl) T.g rfl) ))) pss_nil)
 (pss_cons (ps_set (i := 1) sc_wun.nd rfl (Or.inl rfl) (pe_lst pa_nil))
 (pss_cons (ps_for PassesOwn.never rfl (pi_list (pv 0)) (pg_name (i := 2) sc_wun.nd rfl (Or.inl rfl)) (pss_cons (ps_for PassesOwn.never rfl (pi_list (pv 1)) (pg_name (i := 3) sc_wun.nd rfl (Or.inl rfl)) (pss_one (ps_set (i := 2) sc_wun.nd rfl (Or.inl rfl) (pe_cl c_apart hr (pa_cons (pv 2) (pa_cons (pv 3) pa_nil))))))
 (pss_one (ps_set (i := 1) sc_wun.nd rfl (Or.inl rfl) (pe_op op_cat (pv 1) (pe_clN0 c_divs hr (pa_cons (pv 2) pa_nil)))))))
 (pss_one (ps_ret (pe_ma c_cil hr T.g (pa_cons pe_bl (pa_cons (pv 1) pa_nil)))))))), ?_⟩
    refine ⟨_, rfl, q0, _, rfl, .inl hS, rfl, all_flat ns, ?_⟩
    rw [if_neg (by decide), inV_ints]
    by_cases c : (0 : Int) ∈ ns
    · refine ⟨_, rfl, if_pos_of (decide_eq_true c) ?_⟩
      refine ⟨rfl, rfl, fun r H' ch s' => ?_⟩
      refine q r false [] H' ch (by decide) (fun p _ => ?_) s'
      have e : unB ns p = false := by
        unfold unB
        rw [List.all_eq_false]
        exact ⟨0, c, by rw [decide_eq_true (Int.dvd_zero p)]; decide⟩
      rw [e]
      rfl
    · refine ⟨_, rfl, if_neg_of (decide_eq_false c) ?_⟩
      have nz : ∀ n ∈ ns, n ≠ 0 ∧ absI n ≤ 30000 := fun n hn => ⟨fun e => c (e ▸ hn), hb n hn⟩
      refine ⟨(by show 0 ≤ sizeLine; decide), fun P0 nP0 => ?_⟩
      refine ⟨_, rfl, q0, rfl, ⟨_, (same_upd nP0).seq hS⟩, for_list (K := K) (a := q0) (xs := ns.map V.int) (fun i σ G => Same H G ∧ ∃ (P : Addr) (ps : List Int) (x2 x3 : Option V), σ = [some (.ref q0), some (.ref P), x2, x3] ∧ G P = some (.lst (ps.map V.int)) ∧ Wun (ns.take i) ps)
        ⟨same_upd nP0, P0, [], none, none, rfl, upd_same, Wun.nil⟩ (fun i σ G _ h => h.1.seq hS) ?_ ?_⟩
      · rintro i y σ G hi ⟨s1, P, ps, x2, x3, rfl, hP, W⟩
        rw [List.getElem?_map] at hi
        obtain ⟨n, hn, rfl⟩ := Option.map_eq_some_iff.mp hi
        obtain ⟨n0, nb⟩ := nz n (List.mem_of_getElem? hn)
        have wb := W.bd fun n hn => nz n (List.mem_of_mem_take hn)
        have il := (List.getElem?_eq_some_iff.mp hn).1
        refine ⟨_, rfl, P, rfl, ⟨_, SqL.of hP⟩, for_list (K := K) (a := P) (xs := ps.map V.int) (fun j σ G' => G' = G ∧ ∃ (m : Int) (x3 : Option V), σ = [some (.ref q0), some (.ref P), some (.int m), x3] ∧ m ≠ 0 ∧ absI m ≤ 30000 ∧ ∀ q, Pr q → (q ∣ m ↔ q ∣ n ∧ q ∉ ps.take j))
          ⟨rfl, n, x3, rfl, n0, nb, fun q _ => ⟨fun d => ⟨d, fun h => (nomatch h)⟩, fun d => d.1⟩⟩ (fun i σ G' _ h => by rw [h.1]; exact SqL.of hP) ?_ ?_⟩
        · rintro j y σ _ hj ⟨rfl, m, x3, rfl, m0, mb, hm⟩
          rw [List.getElem?_map] at hj
          obtain ⟨z, hz, rfl⟩ := Option.map_eq_some_iff.mp hj
          obtain ⟨pz, zb⟩ := wb z (List.mem_of_getElem? hz)
          refine ⟨_, rfl, _, rfl, m, z, rfl, m0, by omega, pz, zb, fun r r1 r2 hr' => ⟨rfl, r, _, rfl, by omega, by have : absI r = r := if_neg (by omega); omega, fun q pq => ?_⟩⟩
          rw [hr' q pq, hm q pq, List.take_add_one, hz, List.mem_append]
          constructor
          · rintro ⟨⟨h1, h2⟩, h3⟩
            exact ⟨h1, fun h => h.elim h2 fun h => h3 (by simpa using h)⟩
          · rintro ⟨h1, h2⟩
            exact ⟨⟨h1, fun h => h2 (.inl h)⟩, fun h => h2 (.inr (by rw [h]; exact List.mem_singleton.mpr rfl))⟩
        · rintro σ _ ⟨rfl, m, x3, rfl, m0, mb, hm⟩
          rw [List.length_map, List.take_length] at hm
          have pl := W.few (by rw [List.length_take]; omega)
          refine ⟨_, rfl, _, rfl, m, rfl, by omega, fun h => absurd h m0, fun _ l a G' pd ll h2 s' na ha => ?_⟩
          refine ⟨P, a, _, _, rfl, rfl, s' _ _ hP, ha, by rw [sizeLine_eq]; simp only [List.length_append, List.length_map]; omega, fun P' nP' => ?_⟩
          have s2 := s'.trans (same_upd (o := .lst (ps.map V.int ++ l.map V.int)) nP')
          refine ⟨s1.trans s2, P', ps ++ l, _, _, rfl, by rw [List.map_append]; exact upd_same, ?_⟩
          rw [List.take_add_one, hn]
          exact W.snoc n0 nb m0 mb hm pd
      · rintro σ G ⟨s1, P, ps, x2, x3, rfl, hP, W⟩
        rw [List.length_map, List.take_length] at W
        have pl := W.few hl
        refine ⟨_, rfl, ?_⟩
        refine make_ch (CB := CB) (tup := false) (e := true) (ns := ps) (SqL.of hP) (W.bd nz) (by omega) fun r l H2 mem len ch s2 => ?_
        refine q r true l H2 ch (by omega) (fun p cp => ?_) (s1.trans s2)
        unfold memB unB
        rw [if_pos rfl, Bool.eq_iff_iff, Bool.not_eq_true', decide_eq_false_iff_not, List.all_eq_true, mem p, W.mem p]
        rcases cp with rfl | pp
        · refine ⟨fun _ n hn => ?_, fun _ h => ?_⟩
          · rw [decide_eq_false (fun d => (nz n hn).1 (Int.zero_dvd.mp d))] <;> rfl
          · have := h.1.1
            omega
        · refine ⟨fun h n hn => ?_, fun h g => ?_⟩
          · rw [decide_eq_false (fun d => h ⟨pp, n, hn, d⟩)] <;> rfl
          · obtain ⟨_, n, hn, d⟩ := g
            have z := h n hn
            rw [decide_eq_true d] at z
            cases z
-- part pln1
/-! triples modulo a prime -/
abbrev T3 := Int × Int × Int
def crs (P Q : T3) : T3 := (P.2.1 * Q.2.2 - P.2.2 * Q.2.1, P.2.2 * Q.1 - P.1 * Q.2.2, P.1 * Q.2.1 - P.2.1 * Q.1)
def fstU (x y z : Int) : Int := if x ≠ 0 then x else if y ≠ 0 then y else z
def nrm (p : Int) (P : T3) : Option T3 :=
  let f := fstU (P.1 % p) (P.2.1 % p) (P.2.2 % p)
  if f = 0 then none else some (P.1 % p * inv p f % p, P.2.1 % p * inv p f % p, P.2.2 % p * inv p f % p)
def N3 (p : Int) (P : T3) : T3 := (nrm p P).getD (0, 0, 0)
def NZ (p : Int) (P : T3) : Prop := ¬ (p ∣ P.1 ∧ p ∣ P.2.1 ∧ p ∣ P.2.2)
/-- the same but for a factor -/
def Eqv (p : Int) (P Q : T3) : Prop := ∃ k : Int, ¬ p ∣ k ∧ p ∣ P.1 - k * Q.1 ∧ p ∣ P.2.1 - k * Q.2.1 ∧ p ∣ P.2.2 - k * Q.2.2
theorem bez : ∀ (a b : Nat), ∃ u v : Int, u * a + v * b = (Nat.gcd a b : Nat)
  | 0, b => ⟨0, 1, by rw [Nat.gcd_zero_left]; omega⟩
  | a + 1, b => by
    have lt : b % (a + 1) < a + 1 := Nat.mod_lt _ (Nat.succ_pos a)
    obtain ⟨u, v, e⟩ := bez (b % (a + 1)) (a + 1)
    refine ⟨v - u * ((b / (a + 1) : Nat) : Int), u, ?_⟩
    rw [Nat.gcd_rec, ← e]
    have d : (b : Int) = ((b % (a + 1) : Nat) : Int) + ((a + 1 : Nat) : Int) * ((b / (a + 1) : Nat) : Int) := by
      have := Nat.mod_add_div b (a + 1)
      omega
    generalize ((b / (a + 1) : Nat) : Int) = qq at *
    generalize ((b % (a + 1) : Nat) : Int) = rr at *
    generalize ((a + 1 : Nat) : Int) = aa at *
    rw [d, Int.sub_mul, Int.mul_add, Int.mul_assoc, Int.mul_comm qq aa]
    omega
  termination_by a => a
theorem bez_pr {n p : Int} (hp : Pr p) (h : ¬ p ∣ n) : ∃ u v : Int, u * n + v * p = 1 := by
  have p2 := hp.1
  have n0 : 0 ≤ n % p := Int.emod_nonneg _ (by omega)
  obtain ⟨u, v, e⟩ := bez (n % p).toNat p.toNat
  have g : Nat.gcd (n % p).toNat p.toNat = 1 := by
    have g1 := gcd_prime hp (n := n % p) (fun d => h (Int.dvd_of_emod_eq_zero (by
      have := Int.emod_eq_zero_of_dvd d
      rwa [Int.emod_emod_of_dvd _ (Int.dvd_refl p)] at this)))
    have e1 : (n % p).natAbs = (n % p).toNat := by omega
    have e2 : p.natAbs = p.toNat := by omega
    unfold Int.gcd at g1
    rw [e1, e2] at g1
    exact g1
  rw [g, Int.toNat_of_nonneg n0, Int.toNat_of_nonneg (by omega)] at e
  refine ⟨u, v - u * (n / p), ?_⟩
  have d := Int.emod_add_mul_ediv n p
  have e3 : u * n = u * (n % p) + u * (p * (n / p)) := by rw [← Int.mul_add, d]
  have e4 : (v - u * (n / p)) * p = v * p - u * (p * (n / p)) := by rw [Int.sub_mul, Int.mul_assoc, Int.mul_comm (n / p) p]
  rw [e3, e4]
  omega
theorem inv_spec {p n : Int} (hp : Pr p) (h : ¬ p ∣ n) : p ∣ inv p n * n - 1 ∧ 0 ≤ inv p n ∧ inv p n < p := by
  have p2 := hp.1
  obtain ⟨u, v, e⟩ := bez_pr hp h
  have r := recip_ok e (show 0 < p by omega)
  have e2 := inv_eq (n := n) (b := u % p) (by omega) (Int.emod_nonneg _ (by omega)) (Int.emod_lt_of_pos _ (by omega)) r
  rw [e2]
  exact ⟨r, Int.emod_nonneg _ (by omega), Int.emod_lt_of_pos _ (by omega)⟩
/-! congruence -/
def Cg (p a b : Int) : Prop := p ∣ a - b
theorem cg_refl {p a : Int} : Cg p a a := ⟨0, by omega⟩
theorem cg_symm {p a b : Int} (h : Cg p a b) : Cg p b a := by
  obtain ⟨c, e⟩ := h
  exact ⟨-c, by rw [Int.mul_neg, ← e]; omega⟩
theorem cg_trans {p a b c : Int} (h : Cg p a b) (k : Cg p b c) : Cg p a c := by
  have := Int.dvd_add h k
  have e : a - b + (b - c) = a - c := by omega
  rwa [e] at this
theorem cg_add {p a b c d : Int} (h : Cg p a b) (k : Cg p c d) : Cg p (a + c) (b + d) := by
  have := Int.dvd_add h k
  have e : a - b + (c - d) = a + c - (b + d) := by omega
  rwa [e] at this
theorem cg_sub {p a b c d : Int} (h : Cg p a b) (k : Cg p c d) : Cg p (a - c) (b - d) := by
  have := Int.dvd_sub h k
  have e : a - b - (c - d) = a - c - (b - d) := by omega
  rwa [e] at this
theorem cg_mul {p a b c d : Int} (h : Cg p a b) (k : Cg p c d) : Cg p (a * c) (b * d) := by
  have h1 : p ∣ (a - b) * c := Int.dvd_trans h (Int.dvd_mul_right _ _)
  have h2 : p ∣ b * (c - d) := Int.dvd_trans k (Int.dvd_mul_left _ _)
  have := Int.dvd_add h1 h2
  have e : (a - b) * c + b * (c - d) = a * c - b * d := by rw [Int.sub_mul, Int.mul_sub]; omega
  rwa [e] at this
theorem cg_mod {p a : Int} : Cg p (a % p) a := by
  have d := Int.emod_add_mul_ediv a p
  exact ⟨-(a / p), by rw [Int.mul_neg]; omega⟩
theorem cg_eq {p a b : Int} (hp : 0 < p) (h : Cg p a b) (a0 : 0 ≤ a) (a1 : a < p) (b0 : 0 ≤ b) (b1 : b < p) : a = b := by
  have := Int.eq_zero_of_dvd_of_natAbs_lt_natAbs h (by omega)
  omega
theorem cg_emod {p a b : Int} (hp : 0 < p) (h : Cg p a b) : a % p = b % p :=
  cg_eq hp (cg_trans cg_mod (cg_trans h (cg_symm cg_mod))) (Int.emod_nonneg _ (by omega)) (Int.emod_lt_of_pos _ hp) (Int.emod_nonneg _ (by omega)) (Int.emod_lt_of_pos _ hp)
theorem cg_dvd {p a b : Int} (h : Cg p a b) : p ∣ a ↔ p ∣ b := by
  constructor
  · intro d
    have := Int.dvd_sub d h
    have e : a - (a - b) = b := by omega
    rwa [e] at this
  · intro d
    have := Int.dvd_add h d
    have e : a - b + b = a := by omega
    rwa [e] at this
theorem mod0 {p a : Int} : a % p = 0 ↔ p ∣ a := ⟨Int.dvd_of_emod_eq_zero, Int.emod_eq_zero_of_dvd⟩
/-- a factor that is no multiple may go -/
theorem cg_cancel {p k a b : Int} (hp : Pr p) (hk : ¬ p ∣ k) (h : Cg p (k * a) (k * b)) : Cg p a b := by
  have e : k * a - k * b = k * (a - b) := by rw [Int.mul_sub]
  have h' : p ∣ k * (a - b) := by rw [← e]; exact h
  exact (pr_mul hp h').elim (fun d => absurd d hk) id
theorem fstU_nz {p : Int} {P : T3} (h : NZ p P) : fstU (P.1 % p) (P.2.1 % p) (P.2.2 % p) ≠ 0 := by
  unfold fstU
  intro e
  refine h ?_
  split at e
  · rename_i c; exact absurd e c
  · rename_i c
    split at e
    · rename_i c2; exact absurd e c2
    · rename_i c2
      exact ⟨mod0.mp (Decidable.not_not.mp c), mod0.mp (Decidable.not_not.mp c2), mod0.mp e⟩
theorem nz_not {p x : Int} (hp : 0 < p) (h : x ≠ 0) (h0 : 0 ≤ x) (h1 : x < p) : ¬ p ∣ x := fun d => by
  have := Int.eq_zero_of_dvd_of_natAbs_lt_natAbs d (by omega)
  exact h this
theorem fstU_lt {p : Int} {P : T3} (hp : 0 < p) : 0 ≤ fstU (P.1 % p) (P.2.1 % p) (P.2.2 % p) ∧ fstU (P.1 % p) (P.2.1 % p) (P.2.2 % p) < p := by
  have a (x : Int) : 0 ≤ x % p ∧ x % p < p := ⟨Int.emod_nonneg _ (by omega), Int.emod_lt_of_pos _ hp⟩
  unfold fstU
  split
  · exact a _
  · split
    · exact a _
    · exact a _
/-- the normal one is the same but for a factor -/
theorem N3_eqv {p : Int} {P : T3} (hp : Pr p) (h : NZ p P) : nrm p P = some (N3 p P) ∧ Eqv p (N3 p P) P := by
  have p2 := hp.1
  have f0 := fstU_nz h
  obtain ⟨f1, f2⟩ := fstU_lt (p := p) (P := P) (by omega)
  have fd := nz_not (show 0 < p by omega) f0 f1 f2
  have e : nrm p P = some (P.1 % p * inv p (fstU (P.1 % p) (P.2.1 % p) (P.2.2 % p)) % p, P.2.1 % p * inv p (fstU (P.1 % p) (P.2.1 % p) (P.2.2 % p)) % p, P.2.2 % p * inv p (fstU (P.1 % p) (P.2.1 % p) (P.2.2 % p)) % p) := if_neg f0
  obtain ⟨i1, i2, i3⟩ := inv_spec hp fd
  generalize inv p (fstU (P.1 % p) (P.2.1 % p) (P.2.2 % p)) = k at *
  have eN : N3 p P = (P.1 % p * k % p, P.2.1 % p * k % p, P.2.2 % p * k % p) := by unfold N3; rw [e] <;> rfl
  refine ⟨by rw [eN]; exact e, k, fun d => ?_, ?_⟩
  · have d1 : p ∣ k * fstU (P.1 % p) (P.2.1 % p) (P.2.2 % p) := Int.dvd_trans d (Int.dvd_mul_right _ _)
    have d2 := Int.dvd_sub d1 i1
    have e1 : k * fstU (P.1 % p) (P.2.1 % p) (P.2.2 % p) - (k * fstU (P.1 % p) (P.2.1 % p) (P.2.2 % p) - 1) = 1 := by omega
    rw [e1] at d2
    have := Int.le_of_dvd (by decide) d2
    omega
  · rw [eN]
    have g (x : Int) : Cg p (x % p * k % p) (k * x) := by
      rw [Int.mul_comm k x]
      exact cg_trans cg_mod (cg_mul cg_mod cg_refl)
    exact ⟨g _, g _, g _⟩
-- part rul10a
/-! where a number of the ruler stands -/
def stepsS (R : List Stp) (S : List Str) : List Stp := R.filter fun st => decide (st.1 ∈ S)
theorem way_steps (R : List Stp) (S : List Str) : wayOf R S = (stepsS R S).map (·.1) := by
  unfold wayOf stepsS namesS
  rw [List.filter_map] <;> rfl
def quoB (st : Stp) : Bool := decide (st.2.1 = "quotient")
def dvOf (l : List Stp) : List Str := (l.filter quoB).map fun st => st.2.2.getD 1 ""
def dvS (R : List Stp) (S : List Str) : List Str := dvOf (stepsS R S)
def uO (p : Int) : Option (Int × Int) → Bool
  | none => false
  | some (u, _) => !decide (p ∣ u)
def posB (R : List Stp) (S : List Str) (p : Int) : Bool := (dvS R S).all fun d => uO p (valF 0 R d)
theorem steps_mem {R : List Stp} {S : List Str} {st : Stp} (h : st ∈ stepsS R S) : (∃ i : Nat, R[i]? = some st) ∧ st.1 ∈ S := by
  obtain ⟨h1, h2⟩ := List.mem_filter.mp h
  exact ⟨List.getElem?_of_mem h1, of_decide_eq_true h2⟩
theorem dv_mem {R : List Stp} {S : List Str} {d : Str} (h : d ∈ dvS R S) : ∃ (i : Nat) (st : Stp), R[i]? = some st ∧ st.1 ∈ S ∧ st.2.1 = "quotient" ∧ d = st.2.2.getD 1 "" := by
  obtain ⟨st, h1, e⟩ := List.mem_map.mp h
  obtain ⟨h2, h3⟩ := List.mem_filter.mp h1
  obtain ⟨⟨i, hi⟩, hS⟩ := steps_mem h2
  exact ⟨i, st, hi, hS, of_decide_eq_true h3, e.symm⟩
theorem quo_two {R : List Stp} (wf : WFR R) {i : Nat} {st : Stp} (h : R[i]? = some st) (q : st.2.1 = "quotient") : ∃ x y, st.2.2 = [x, y] := by
  have k := (wf i st h).k
  rw [q] at k
  have e : st.2.2.length = 2 := by
    have : tksS "quotient" = some 2 := by decide
    rw [this] at k
    exact (Option.some.inj k).symm
  match hs : st.2.2, e with
  | [x, y], _ => exact ⟨x, y, rfl⟩
theorem dv_len (R : List Stp) (S : List Str) : (dvS R S).length ≤ R.length := by
  unfold dvS dvOf stepsS
  rw [List.length_map]
  exact Nat.le_trans (List.length_filter_le _ _) (List.length_filter_le _ _)
/-- numbers of the ruler that are small -/
def Bnd30 (R : List Stp) : Prop := ∀ z x y, valF 0 R z = some (x, y) → absI x ≤ 30000 ∧ absI y ≤ 30000
theorem Bnd30.r {R : List Stp} (h : Bnd30 R) : BndR 0 R := fun z x y e => by
  obtain ⟨h1, h2⟩ := h z x y e
  have e2 : (30001 : Nat) ≤ 2 ^ 140 := by decide
  unfold absI at h1 h2
  generalize (2 : Nat) ^ 140 = T at e2
  constructor
  · split at h1 <;> omega
  · split at h2 <;> omega
-- part posm
/-! where a number stands: the rests tell it -/
theorem chr_mul {p a b : Int} (hp : Chr p) (h : p ∣ a * b) : p ∣ a ∨ p ∣ b := by
  rcases hp with e | hp
  · subst e
    rcases Int.mul_eq_zero.mp (Int.zero_dvd.mp h) with e | e
    · exact .inl (by rw [e]; exact Int.dvd_refl 0)
    · exact .inr (by rw [e]; exact Int.dvd_refl 0)
  · exact pr_mul hp h
theorem chr_nmul {p a b : Int} (hp : Chr p) (h1 : ¬ p ∣ a) (h2 : ¬ p ∣ b) : ¬ p ∣ a * b := fun h => (chr_mul hp h).elim h1 h2
theorem chr_not0 {p a : Int} (h : ¬ p ∣ a) : a ≠ 0 := fun e => h (by rw [e]; exact Int.dvd_zero p)
theorem fr_none {p u l : Int} (hp : Chr p) : fr p u l = none ↔ p ∣ l := by
  unfold fr
  by_cases c : p = 0
  · subst c
    rw [if_pos rfl]
    by_cases d : l = 0
    · rw [if_pos d, d]
      exact ⟨fun _ => Int.dvd_refl 0, fun _ => rfl⟩
    · rw [if_neg d]
      exact ⟨fun h => (nomatch h), fun h => absurd (Int.zero_dvd.mp h) d⟩
  · rw [if_neg c]
    by_cases d : l % p = 0
    · rw [if_pos d]
      exact ⟨fun _ => Int.dvd_of_emod_eq_zero d, fun _ => rfl⟩
    · rw [if_neg d]
      exact ⟨fun h => (nomatch h), fun h => absurd (Int.emod_eq_zero_of_dvd h) d⟩
theorem fr0_val {u l x y : Int} (h : fr 0 u l = some (x, y)) : l ≠ 0 ∧ x * l = u * y ∧ y ∣ l ∧ 0 < y ∧ x.gcd y = 1 := by
  unfold fr at h
  rw [if_pos rfl] at h
  by_cases d : l = 0
  · rw [if_pos d] at h
    cases h
  · rw [if_neg d] at h
    have g0 : u.gcd l ≠ 0 := fun e => d (Int.gcd_eq_zero_iff.mp e).2
    obtain ⟨a, ea⟩ : ((u.gcd l : Nat) : Int) ∣ u := Int.gcd_dvd_left ..
    obtain ⟨b, eb⟩ : ((u.gcd l : Nat) : Int) ∣ l := Int.gcd_dvd_right ..
    have ab : a.gcd b = 1 := by
      have e1 : u / ((u.gcd l : Nat) : Int) = a := by
        conv => lhs; lhs; rw [ea]
        exact Int.mul_ediv_cancel_left _ (by omega)
      have e2 : l / ((u.gcd l : Nat) : Int) = b := by
        conv => lhs; lhs; rw [eb]
        exact Int.mul_ediv_cancel_left _ (by omega)
      rw [← e1, ← e2]
      exact Int.gcd_ediv_gcd_ediv_gcd (by omega)
    generalize u.gcd l = g at *
    subst ea eb
    by_cases c : (g : Int) * b < 0
    · rw [if_pos c] at h
      dsimp only at h
      rw [Int.ediv_neg, Int.ediv_neg, Int.mul_ediv_cancel_left _ (show (g : Int) ≠ 0 by omega), Int.mul_ediv_cancel_left _ (show (g : Int) ≠ 0 by omega)] at h
      simp only [Option.some.injEq, Prod.mk.injEq] at h
      obtain ⟨hx, hy⟩ := h
      rw [← hx, ← hy]
      refine ⟨d, by rw [Int.neg_mul, Int.mul_neg, Int.mul_left_comm, Int.mul_assoc], ⟨-(g : Int), by rw [Int.neg_mul_neg, Int.mul_comm]⟩, ?_, by rw [Int.gcd_neg, Int.neg_gcd]; exact ab⟩
      have : b < 0 := Int.not_le.mp fun h => by
        have := Int.mul_nonneg (show (0 : Int) ≤ g by omega) h
        omega
      omega
    · rw [if_neg c] at h
      dsimp only at h
      rw [Int.mul_ediv_cancel_left _ (show (g : Int) ≠ 0 by omega), Int.mul_ediv_cancel_left _ (show (g : Int) ≠ 0 by omega)] at h
      simp only [Option.some.injEq, Prod.mk.injEq] at h
      obtain ⟨hx, hy⟩ := h
      rw [← hx, ← hy]
      refine ⟨d, by rw [Int.mul_left_comm, Int.mul_assoc], ⟨g, by rw [Int.mul_comm]⟩, ?_, ab⟩
      have : ¬ b ≤ 0 := fun h => by
        by_cases e : b = 0
        · exact d (by rw [e, Int.mul_zero])
        · have := Int.mul_neg_of_pos_of_neg (show (0 : Int) < g by omega) (show b < 0 by omega)
          omega
      omega
theorem fr_val {p u l x y : Int} (hp : Chr p) (h : fr p u l = some (x, y)) : ¬ p ∣ l ∧ ¬ p ∣ y ∧ Cg p (x * l) (u * y) := by
  have nl : ¬ p ∣ l := fun d => by
    rw [(fr_none hp).mpr d] at h
    cases h
  refine ⟨nl, ?_⟩
  rcases hp with e | hp
  · subst e
    obtain ⟨h1, h2, h3, h4, _⟩ := fr0_val h
    refine ⟨fun d => ?_, ?_⟩
    · have := Int.zero_dvd.mp d
      omega
    · rw [h2]
      exact cg_refl
  · have p2 := hp.1
    unfold fr at h
    rw [if_neg (by omega), if_neg (fun e => nl (Int.dvd_of_emod_eq_zero e))] at h
    cases h
    refine ⟨fun d => ?_, ?_⟩
    · have := Int.le_of_dvd (by omega) d
      omega
    · have i := (inv_spec hp nl).1
      have h1 : Cg p (u * inv p l % p) (u * inv p l) := Int.dvd_of_emod_eq_zero (by rw [Int.sub_emod, Int.emod_emod_of_dvd _ (Int.dvd_refl p)]; simp)
      have h2 : Cg p (u * inv p l % p * l) (u * inv p l * l) := cg_mul h1 cg_refl
      have h3 : Cg p (u * (inv p l * l)) (u * 1) := cg_mul cg_refl i
      rw [Int.mul_assoc] at h2
      exact cg_trans h2 h3
/-- a value beside the exact one -/
def RelO (p : Int) (o0 op : Option (Int × Int)) : Prop := ∀ x y, op = some (x, y) → ¬ p ∣ y ∧ ∃ X Y, o0 = some (X, Y) ∧ ¬ p ∣ Y ∧ Cg p (X * y) (x * Y)
theorem rel_fr {p u l U L : Int} (hp : Chr p) (nL : ¬ p ∣ L) (c : Cg p (U * l) (u * L)) : RelO p (fr 0 U L) (fr p u l) := fun x y h => by
  obtain ⟨nl, ny, cx⟩ := fr_val hp h
  refine ⟨ny, ?_⟩
  cases e : fr 0 U L with
  | none => exact absurd (Int.zero_dvd.mp ((fr_none (.inl rfl)).mp e)) (chr_not0 nL)
  | some XY =>
    obtain ⟨X, Y⟩ := XY
    obtain ⟨_, e1, d, _, _⟩ := fr0_val e
    have nY : ¬ p ∣ Y := fun h => nL (Int.dvd_trans h d)
    refine ⟨X, Y, rfl, nY, ?_⟩
    have k1 : Cg p (X * y * (L * l)) (x * Y * (L * l)) := by
      have a1 : X * y * (L * l) = (U * l) * (Y * y) := by
        have : X * y * (L * l) = (X * L) * (l * y) := by simp only [Int.mul_assoc, Int.mul_comm, Int.mul_left_comm]
        rw [this, e1]
        simp only [Int.mul_assoc, Int.mul_comm, Int.mul_left_comm]
      have a2 : x * Y * (L * l) = (x * l) * (Y * L) := by simp only [Int.mul_assoc, Int.mul_comm, Int.mul_left_comm]
      have a3 : (u * L) * (Y * y) = (u * y) * (Y * L) := by simp only [Int.mul_assoc, Int.mul_comm, Int.mul_left_comm]
      rw [a1, a2]
      have b1 : Cg p ((U * l) * (Y * y)) ((u * L) * (Y * y)) := cg_mul c cg_refl
      rw [a3] at b1
      exact cg_trans b1 (cg_mul (cg_symm cx) cg_refl)
    unfold Cg at k1 ⊢
    rw [← Int.sub_mul] at k1
    exact (chr_mul hp k1).resolve_right (chr_nmul hp nL nl)
theorem rel_blt1 {p : Int} (hp : Chr p) {o0 op : Option (Int × Int)} (r : RelO p o0 op) : RelO p (bltF "opposite" [o0] 0) (bltF "opposite" [op] p) := by
  cases op with
  | none => exact fun x y h => by cases h
  | some xy =>
    obtain ⟨x, y⟩ := xy
    obtain ⟨ny, X, Y, e, nY, c⟩ := r x y rfl
    subst e
    refine rel_fr hp nY ?_
    have := cg_sub (p := p) (cg_refl (a := 0)) c
    rw [Int.neg_mul, Int.neg_mul]
    rwa [Int.zero_sub, Int.zero_sub] at this
theorem rel_blt2 {p : Int} (hp : Chr p) {w : Str} (hw : w = "sum" ∨ w = "product" ∨ w = "quotient") {o0 op q0 qp : Option (Int × Int)} (r : RelO p o0 op) (s : RelO p q0 qp) : RelO p (bltF w [o0, q0] 0) (bltF w [op, qp] p) := by
  cases op with
  | none => exact fun x y h => by rw [bltF_none (by simp)] at h; cases h
  | some xy =>
    cases qp with
    | none => exact fun x y h => by rw [bltF_none (by simp)] at h; cases h
    | some cd =>
      obtain ⟨a, b⟩ := xy
      obtain ⟨c, d⟩ := cd
      obtain ⟨nb, A, B, e, nB, c1⟩ := r a b rfl
      obtain ⟨nd, C, D, e2, nD, c2⟩ := s c d rfl
      subst e e2
      rcases hw with rfl | rfl | rfl
      · show RelO p (fr 0 (A * D + C * B) (B * D)) (fr p (a * d + c * b) (b * d))
        refine rel_fr hp (chr_nmul hp nB nD) ?_
        rw [Int.add_mul, Int.add_mul]
        have h1 := cg_mul c1 (cg_refl (p := p) (a := D * d))
        have h2 := cg_mul c2 (cg_refl (p := p) (a := B * b))
        have e1 : A * b * (D * d) = A * D * (b * d) := by simp only [Int.mul_assoc, Int.mul_comm, Int.mul_left_comm]
        have e2 : a * B * (D * d) = a * d * (B * D) := by simp only [Int.mul_assoc, Int.mul_comm, Int.mul_left_comm]
        have e3 : C * d * (B * b) = C * B * (b * d) := by simp only [Int.mul_assoc, Int.mul_comm, Int.mul_left_comm]
        have e4 : c * D * (B * b) = c * b * (B * D) := by simp only [Int.mul_assoc, Int.mul_comm, Int.mul_left_comm]
        rw [e1, e2] at h1
        rw [e3, e4] at h2
        exact cg_add h1 h2
      · show RelO p (fr 0 (A * C) (B * D)) (fr p (a * c) (b * d))
        refine rel_fr hp (chr_nmul hp nB nD) ?_
        have h1 := cg_mul c1 c2
        have e1 : A * b * (C * d) = A * C * (b * d) := by simp only [Int.mul_assoc, Int.mul_comm, Int.mul_left_comm]
        have e2 : a * B * (c * D) = a * c * (B * D) := by simp only [Int.mul_assoc, Int.mul_comm, Int.mul_left_comm]
        rwa [e1, e2] at h1
      · show RelO p (fr 0 (A * D) (B * C)) (fr p (a * d) (b * c))
        by_cases z : p ∣ C
        · have pc : p ∣ c := by
            have k : p ∣ c * D := by
              have k1 : p ∣ C * d := Int.dvd_trans z (Int.dvd_mul_right _ _)
              have k2 := Int.dvd_sub k1 c2
              rwa [Int.sub_sub_self] at k2
            exact (chr_mul hp k).resolve_right nD
          exact fun x y h => by
            rw [(fr_none hp).mpr (Int.dvd_trans pc (Int.dvd_mul_left _ _))] at h
            cases h
        · refine rel_fr hp (chr_nmul hp nB z) ?_
          have h1 := cg_mul c1 (cg_symm c2)
          have e1 : A * b * (c * D) = A * D * (b * c) := by simp only [Int.mul_assoc, Int.mul_comm, Int.mul_left_comm]
          have e2 : a * B * (C * d) = a * d * (B * C) := by simp only [Int.mul_assoc, Int.mul_comm, Int.mul_left_comm]
          rwa [e1, e2] at h1
theorem ru_arg {R : List Stp} (wf : WFR R) {i : Nat} {st : Stp} (h : R[i]? = some st) {r : Str} (hr : r ∈ st.2.2) : r ∈ gvnS ∨ ∃ (j : Nat) (st' : Stp), j < i ∧ R[j]? = some st' ∧ st'.1 = r := by
  rcases knownB_iff.mp ((wf i st h).known r hr) with a | a
  · exact .inl a
  · right
    unfold namesS at a
    obtain ⟨st', h1, h2⟩ := List.mem_map.mp a
    obtain ⟨j, hj⟩ := List.getElem?_of_mem h1
    rw [List.getElem?_take] at hj
    split at hj
    · rename_i c
      exact ⟨j, st', c, hj, h2⟩
    · cases hj
theorem ru_ind {R : List Stp} (wf : WFR R) {M : Str → Prop} (g : ∀ z ∈ gvnS, M z) (s : ∀ (i : Nat) (st : Stp), R[i]? = some st → (∀ r ∈ st.2.2, M r) → M st.1) {z : Str} (hz : z ∈ gvnS ∨ z ∈ namesS R) : M z := by
  have main : ∀ (n i : Nat) (st : Stp), i < n → R[i]? = some st → M st.1 := fun n => by
    induction n with
    | zero => exact fun i st h _ => absurd h (Nat.not_lt_zero i)
    | succ n ih =>
      intro i st _ hi
      refine s i st hi fun r hr => ?_
      rcases ru_arg wf hi hr with h | ⟨j, st', hj, h1, h2⟩
      · exact g r h
      · rw [← h2]
        exact ih j st' (by omega) h1
  rcases hz with h | h
  · exact g z h
  · unfold namesS at h
    obtain ⟨st, h1, h2⟩ := List.mem_map.mp h
    obtain ⟨i, hi⟩ := List.getElem?_of_mem h1
    rw [← h2]
    exact main (i + 1) i st (by omega) hi
theorem tks_shape {w : Str} {n : Nat} (h : tksS w = some n) : (w = "opposite" ∧ n = 1) ∨ ((w = "sum" ∨ w = "product" ∨ w = "quotient") ∧ n = 2) := by
  unfold tksS at h
  split at h
  · rename_i e
    cases h
    exact .inr ⟨.inl e, rfl⟩
  · split at h
    · rename_i e
      cases h
      exact .inr ⟨.inr (.inl e), rfl⟩
    · split at h
      · rename_i e
        cases h
        exact .inr ⟨.inr (.inr e), rfl⟩
      · split at h
        · rename_i e
          cases h
          exact .inl ⟨e, rfl⟩
        · cases h
theorem st_shape {R : List Stp} (wf : WFR R) {i : Nat} {st : Stp} (h : R[i]? = some st) : (st.2.1 = "opposite" ∧ ∃ x, st.2.2 = [x]) ∨ ((st.2.1 = "sum" ∨ st.2.1 = "product" ∨ st.2.1 = "quotient") ∧ ∃ x y, st.2.2 = [x, y]) := by
  rcases tks_shape (wf i st h).k with ⟨e, l⟩ | ⟨e, l⟩
  · left
    refine ⟨e, ?_⟩
    match hs : st.2.2, l with
    | [x], _ => exact ⟨x, rfl⟩
  · right
    refine ⟨e, ?_⟩
    match hs : st.2.2, l with
    | [x, y], _ => exact ⟨x, y, rfl⟩
theorem val_gvn {p : Int} {R : List Stp} (wf : WFR R) {z : Str} (hz : z ∈ gvnS) : ∃ k : Int, valF p R z = some (k, 1) ∧ valF 0 R z = some (k, 1) ∧ (k = 0 ∨ k = 1) := by
  rw [valF_given wf hz, valF_given wf hz]
  unfold gvnS at hz
  rcases List.mem_cons.mp hz with e | hz
  · subst e
    exact ⟨0, rfl, rfl, .inl rfl⟩
  · have e := List.mem_singleton.mp hz
    subst e
    exact ⟨1, rfl, rfl, .inr rfl⟩
theorem chr_one {p : Int} (hp : Chr p) : ¬ p ∣ 1 := fun d => by
  rcases hp with e | hp
  · subst e
    have := Int.zero_dvd.mp d
    omega
  · have := Int.le_of_dvd (by omega) d
    have := hp.1
    omega
theorem rel_all {p : Int} {R : List Stp} (wf : WFR R) (hp : Chr p) {z : Str} (hz : z ∈ gvnS ∨ z ∈ namesS R) : RelO p (valF 0 R z) (valF p R z) := by
  refine ru_ind wf (M := fun z => RelO p (valF 0 R z) (valF p R z)) (fun z h => ?_) (fun i st hi ih => ?_) hz
  · obtain ⟨k, e1, e2, _⟩ := val_gvn (p := p) wf h
    rw [e1, e2]
    intro x y e
    cases e
    exact ⟨chr_one hp, k, 1, rfl, chr_one hp, cg_refl⟩
  · show RelO p (valF 0 R st.1) (valF p R st.1)
    rw [valF_step wf hi, valF_step wf hi]
    rcases st_shape wf hi with ⟨ew, x, ex⟩ | ⟨ew, x, y, ex⟩
    · rw [ex, ew]
      exact rel_blt1 hp (ih x (by rw [ex]; simp))
    · rw [ex]
      exact rel_blt2 hp ew (ih x (by rw [ex]; simp)) (ih y (by rw [ex]; simp))
theorem args_some {p : Int} {R : List Stp} (wf : WFR R) {i : Nat} {st : Stp} (hi : R[i]? = some st) (h : (valF p R st.1).isSome = true) : ∀ r ∈ st.2.2, (valF p R r).isSome = true := fun r hr => by
  cases e : valF p R r with
  | some x => rfl
  | none =>
    rw [valF_step wf hi, bltF_none (List.mem_map.mpr ⟨r, hr, e⟩)] at h
    cases h
theorem isS {α : Type} {o : Option α} (h : o.isSome = true) : ∃ x, o = some x := Option.isSome_iff_exists.mp h
/-- the divisors of the way are units exactly where the number stands -/
theorem pos_eq {p : Int} {R : List Stp} {S : List Str} {z : Str} (wf : WFR R) (hp : Chr p) (cl : ClosedS R [z] S) (hk : knownB (namesS R) z = true) : posB R S p = (valF p R z).isSome := by
  have kz := knownB_iff.mp hk
  rw [Bool.eq_iff_iff]
  unfold posB
  rw [List.all_eq_true]
  constructor
  · intro h
    refine ru_ind wf (M := fun s => s ∈ S → (valF p R s).isSome = true) (fun s hs _ => ?_) (fun i st hi ih hS => ?_) kz (cl.inn z List.mem_cons_self)
    · obtain ⟨k, e1, _⟩ := val_gvn (p := p) wf hs
      rw [e1] <;> rfl
    · have ar : ∀ r ∈ st.2.2, ∃ x y, valF p R r = some (x, y) ∧ ¬ p ∣ y := fun r hr => by
        obtain ⟨⟨x, y⟩, e⟩ := isS (ih r hr (cl.cl i st hi hS r hr))
        refine ⟨x, y, e, ?_⟩
        have k : r ∈ gvnS ∨ r ∈ namesS R := wfr_known_in wf hi hr
        exact (rel_all wf hp k x y e).1
      rw [valF_step wf hi]
      have fs : ∀ {u l : Int}, ¬ p ∣ l → (fr p u l).isSome = true := fun {u l} nl => by
        cases e : fr p u l with
        | some x => rfl
        | none => exact absurd ((fr_none hp).mp e) nl
      rcases st_shape wf hi with ⟨ew, x, ex⟩ | ⟨ew, x, y, ex⟩
      · obtain ⟨a, b, e, nb⟩ := ar x (by rw [ex]; simp)
        rw [ex, ew, List.map_cons, List.map_nil, e]
        exact fs nb
      · obtain ⟨a, b, e, nb⟩ := ar x (by rw [ex]; simp)
        obtain ⟨c, d, e2, nd⟩ := ar y (by rw [ex]; simp)
        rw [ex, List.map_cons, List.map_cons, List.map_nil, e, e2]
        rcases ew with ew | ew | ew
        · rw [ew]
          exact fs (chr_nmul hp nb nd)
        · rw [ew]
          exact fs (chr_nmul hp nb nd)
        · have hd : y ∈ dvS R S := by
            refine List.mem_map.mpr ⟨st, List.mem_filter.mpr ⟨List.mem_filter.mpr ⟨List.mem_of_getElem? hi, decide_eq_true hS⟩, decide_eq_true ew⟩, ?_⟩
            rw [ex]
            rfl
          have hu := h y hd
          rw [ew]
          refine fs (chr_nmul hp nb fun pc => ?_)
          obtain ⟨_, C, D, eC, nD, cg⟩ := rel_all wf hp (wfr_known_in wf hi (r := y) (by rw [ex]; simp)) c d e2
          rw [eC] at hu
          have hu : (!decide (p ∣ C)) = true := hu
          rw [Bool.not_eq_true', decide_eq_false_iff_not] at hu
          have k1 : p ∣ c * D := Int.dvd_trans pc (Int.dvd_mul_right _ _)
          have k2 := Int.dvd_add cg k1
          rw [Int.sub_add_cancel] at k2
          exact (chr_mul hp k2).elim hu nd
  · intro h d hd
    obtain ⟨i, st, hi, hS, ew, ed⟩ := dv_mem hd
    have re : ∀ s, Reach R [z] s → (valF p R s).isSome = true := fun s hs => by
      induction hs with
      | base h' => rw [List.mem_singleton.mp h']; exact h
      | step i st r hi _ hr ih => exact args_some wf hi ih r hr
    have sst := re _ (cl.re _ hS)
    have sd := args_some wf hi sst
    obtain ⟨x, y, ex⟩ := quo_two wf hi ew
    have ey : d = y := by rw [ed, ex] <;> rfl
    subst ey
    obtain ⟨⟨a, b⟩, e1⟩ := isS (sd x (by rw [ex]; simp))
    obtain ⟨⟨c, dd⟩, e2⟩ := isS (sd d (by rw [ex]; simp))
    rw [valF_step wf hi, ex, ew, List.map_cons, List.map_cons, List.map_nil, e1, e2] at sst
    have sst : (fr p (a * dd) (b * c)).isSome = true := sst
    obtain ⟨_, C, D, eC, nD, cg⟩ := rel_all wf hp (wfr_known_in wf hi (r := d) (by rw [ex]; simp)) c dd e2
    rw [eC]
    show (!decide (p ∣ C)) = true
    rw [Bool.not_eq_true', decide_eq_false_iff_not]
    intro pC
    have k1 : p ∣ C * dd := Int.dvd_trans pC (Int.dvd_mul_right _ _)
    have k2 := Int.dvd_sub k1 cg
    rw [Int.sub_sub_self] at k2
    have pc := (chr_mul hp k2).resolve_right nD
    rw [(fr_none hp).mpr (Int.dvd_trans pc (Int.dvd_mul_left _ _))] at sst
    cases sst
-- part rul10p
abbrev s_ruposs : Stmt := inClass (top 35) 6
theorem sc_ruposs : FnScope ["self", "name", "steps", "other", "dividing", "word", "rest", "fractions", "found", "upper", "_"] ["self", "name"] (defScope s_ruposs) := ⟨rfl, rfl, rfl, by decide +kernel, rfl, by decide +kernel, by decide +kernel⟩
def spPossP (C CH CU : Addr) (K : PySem.W.Frag) : Sp := fun vs H Q E => ∃ (a : Addr) (R : List Stp) (z : Str), vs = [.ref a, .str z] ∧ RulAt C H a R ∧ R.length ≤ 900 ∧ z.length ≤ 1000 ∧ BndR 0 R ∧ (∀ st ∈ R, st.2.1 ≠ "quotient") ∧
  (knownB (namesS R) z = false → ∀ d H', Same H H' → H' d = some (.xd [("name", .str z)]) → E (.ref CU) (some d) H') ∧
  (knownB (namesS R) z = true → ∀ r e l H', CharsAt CH H' r e l → l.length ≤ 29 → (∀ p, Chr p → memB e l p = (valF p R z).isSome) → Same H H' → Q (.ref r) H')
theorem ok_possP {f C CH CU : Addr} {fd : FuncData} (TT : Txt mg) (T : RulT K mg C) (TC : ChT K mg CH) (F : Fun K "possible" "Ruler.possible" s_ruposs f fd) (m_chk : MeN P w K mg base 3 C "_check_names" (spRuChk C CU K)) (m_way : Me P w K mg base 1 C "_way_to" (spWay C K)) (m_frs : Me P w K mg base 5 C "_fractions" (spFrs C K)) (c_none : Cm P w K mg base 5 CH "none" (spCevery CH false)) (c_wun : Cl P w K mg base CX0 6 "where_units" (spWun CH K)) : FnOk P w K mg base (L2N.CX P w) 7 f fd ["self", "name"] (spPossP C CH CU K) := by
  refine okN F sc_ruposs (fun vs H Q E h => ?_) (fun cdv A outer s H vs Q E hr h => ?_)
  · obtain ⟨a, R, z, rfl, _⟩ := h
    rfl
  · obtain ⟨a, R, z, rfl, ru, few, zl, bd, nq, eU, q⟩ := h
    obtain ⟨dx, d, kvs0, oa, od, sa⟩ := ru.ob
    have wf := ru.ok
    refine ⟨_, (pss_cons (ps_expr (pe_meX m_chk T.cl hr (L2N.takes_of rfl rfl rfl rfl) (pv 0) (pa_cons (pe_lst (pa_cons (pv 1) pa_nil)) pa_nil)))
 (pss_cons (ps_setLc (i := 2) (own := [("other", 3)]) (g := (gName 3)) (tt := tYes) rfl sc_ruposs.nd rfl rfl (sw_true rfl rfl rfl (by decide +kernel)) (pi_list (pe_me m_way T.cl hr (pv 0) (pa_cons (pe_lst (pa_cons (pv 1) pa_nil)) pa_nil))) (blkOk_by (N := ["self", "name", "steps", "other", "dividing", "word", "rest", "fractions", "found", "upper", "_"]) (sc := defScope s_ruposs) (by decide +kernel)) (fun _ _ _ _ _ => (pg_name (i := 3) sc_ruposs.nd rfl (Or.inl rfl))) (fun _ _ _ _ _ => pts_nil) (fun _ _ _ _ _ => (pe_dget (by exact hu1 hr) (pe_fldK (K := K) rfl (pv 0) rfl) (pv 3) (fun _ _ => rfl))))
 (pss_cons (ps_setLc (i := 4) (own := [("word", 5), ("rest", 6)]) (g := (gTup K 2 (gCons (gName 5) (gCons (gName 6) gNil)))) rfl sc_ruposs.nd rfl rfl (sw_true rfl rfl rfl (by decide +kernel)) (pi_list (pv 2)) (blkOk_by (N := ["self", "name", "steps", "other", "dividing", "word", "rest", "fractions", "found", "upper", "_"]) (sc := defScope s_ruposs) (by decide +kernel)) (fun _ _ _ _ _ => (pg_tup rfl (pgs_cons (pg_name (i := 5) sc_ruposs.nd rfl (Or.inl rfl)) (pgs_cons (pg_name (i := 6) sc_ruposs.nd rfl (Or.inl rfl)) pgs_nil)))) (fun _ _ _ _ _ => (pts_one (pt_cmpR op_eq (pv 5) pe_str (nomark _)))) (fun _ _ _ _ _ => (pe_ix (r := rIxL K) (by exact ix_list) (pv 6) pe_int (fun _ _ => rfl))))
 (pss_cons (ps_set (i := 7) sc_ruposs.nd rfl (Or.inr rfl) (pe_me m_frs T.cl hr (pv 0) (pa_cons (pv 4) (pa_cons pe_int pa_nil))))
 (pss_cons (ps_setLc (i := 8) (own := [("other", 3)]) (g := (gName 3)) (tt := tYes) rfl sc_ruposs.nd rfl rfl (sw_true rfl rfl rfl (by decide +kernel)) (pi_list (pv 4)) (blkOk_by (N := ["self", "name", "steps", "other", "dividing", "word", "rest", "fractions", "found", "upper", "_"]) (sc := defScope s_ruposs) (by decide +kernel)) (fun _ _ _ _ _ => (pg_name (i := 3) sc_ruposs.nd rfl (Or.inl rfl))) (fun _ _ _ _ _ => pts_nil) (fun _ _ _ _ _ => (pe_dget (by exact hu1 hr) (pv 7) (pv 3) (fun _ _ => rfl))))
 (pss_cons (ps_if (pt_cmpR (op_noneInT (hu64 hr)) pe_non (pv 8) (by with_unfolding_all rfl)) (pss_one (ps_ret (pe_cm0 c_none hr (pe_glob (v := .ref CH) (by rfl) TC.g rfl) ))) pss_nil)
 (pss_one (ps_ret (pe_cl c_wun hr (pa_cons (pe_lc (own := [("upper", 9), ("_", 10)]) (g := (gTup K 2 (gCons (gName 9) (gCons (gName 10) gNil)))) (tt := tYes) rfl sc_ruposs.nd (pi_list (pv 8)) (blkOk_by (N := ["self", "name", "steps", "other", "dividing", "word", "rest", "fractions", "found", "upper", "_"]) (sc := defScope s_ruposs) (by decide +kernel)) (fun _ _ _ _ _ => (pg_tup rfl (pgs_cons (pg_name (i := 9) sc_ruposs.nd rfl (Or.inl rfl)) (pgs_cons (pg_name (i := 10) sc_ruposs.nd rfl (Or.inl rfl)) pgs_nil)))) (fun _ _ _ _ _ => pts_nil) (fun _ _ _ _ _ => (pv 9))) pa_nil)))))))))), ?_⟩
    refine ⟨_, rfl, a, dx, _, rfl, oa, ru_no _ (by decide +kernel), _, rfl, (by show 1 ≤ sizeLine; decide), fun l1 nl1 => ?_⟩
    have s1 := same_upd (o := .lst [.str z]) nl1
    refine ⟨a, l1, R, [z], rfl, ru.same s1, SqL.of upd_same, fun y hy => by rw [List.mem_singleton.mp hy]; exact zl, fun hk => ?_, fun i y hy hk _ d H' s2 hd => ?_⟩
    · have hk1 := hk z List.mem_cons_self
      refine ⟨_, rfl, a, dx, _, rfl, s1 _ _ oa, ru_no _ (by decide +kernel), _, rfl, (by show 1 ≤ sizeLine; decide), fun l2 nl2 => ?_⟩
      have s2 := s1.trans (same_upd (o := .lst [.str z]) nl2)
      refine ⟨a, l2, R, [z], rfl, ru.same s2, by omega, SqL.of upd_same, by simp, fun S wl G1 cl s3 hwl => ?_⟩
      have s3 := s2.trans s3
      rw [way_steps] at hwl
      have dv0 : dvS R S = [] := by
        unfold dvS dvOf
        rw [List.map_eq_nil_iff, List.filter_eq_nil_iff]
        intro st hst e
        obtain ⟨⟨k, hk⟩, _⟩ := steps_mem hst
        exact nq st (List.mem_of_getElem? hk) (of_decide_eq_true e)
      have ls : (stepsS R S).length ≤ 900 := Nat.le_trans (List.length_filter_le _ _) few
      refine ⟨wl, rfl, ⟨_, SqL.of hwl⟩, fun D1 nD1 => lc_it walk_list (fun i G => Same G1 G ∧ ∃ acc, G D1 = some (.lst acc) ∧ AllS (StpV H) acc ((stepsS R S).take i)) ⟨same_upd nD1, [], upd_same, AllS.nil⟩ (fun i G _ h => SqL.of (h.1 _ _ hwl)) ?_ ?_⟩
      · rintro i x _ G hi ⟨s4, acc, hD, al⟩ ⟨rfl, hx⟩
        obtain ⟨y, rfl, hy⟩ := strAt hx
        rw [List.getElem?_map] at hy
        obtain ⟨st, hst, rfl⟩ := Option.map_eq_some_iff.mp hy
        obtain ⟨⟨k, hk⟩, _⟩ := steps_mem (List.mem_of_getElem? hst)
        obtain ⟨v, hv, sv⟩ := sa.get wf hk
        have s5 := s3.trans s4
        have la := al.1
        rw [List.length_take] at la
        refine ⟨rfl, _, rfl, a, C, dx, _, _, rfl, s5 _ _ oa, T.cl, T.nS, ru_s d, _, rfl, d, v, rfl, (by have z := DGet.k (k := Sum.inr st.1) (s5 _ _ od); rw [hv] at z; exact z), acc, hD, by rw [sizeLine_eq]; omega, fun b o hb => ?_, _, upd_same, ?_⟩
        · rw [upd_ne (ne_of_none hb nD1)]
          exact s4 b o hb
        · rw [List.take_add_one, hst]
          exact al.snoc sv
      · rintro G ⟨s4, acc, hD, al⟩
        rw [List.length_map, List.length_map, List.take_length] at al
        have s5 := s3.trans s4
        refine ⟨_, rfl, D1, rfl, ⟨_, SqL.of hD⟩, fun D2 nD2 => lc_it walk_list (fun i G' => Same G G' ∧ G' D2 = some (.lst ((dvOf ((stepsS R S).take i)).map V.str))) ⟨same_upd nD2, upd_same⟩ (fun i G _ h => SqL.of (h.1 _ _ hD)) ?_ ?_⟩
        · rintro i x _ G' hi ⟨s6, hD2⟩ ⟨rfl, hx⟩
          obtain ⟨st, hst, t, r, rfl, ht, hrr⟩ := al.get hx
          obtain ⟨⟨k, hk⟩, _⟩ := steps_mem (List.mem_of_getElem? hst)
          have s7 := s5.trans s6
          have tk : (stepsS R S).take (i + 1) = (stepsS R S).take i ++ [st] := by rw [List.take_add_one, hst] <;> rfl
          have dv1 : dvOf ((stepsS R S).take (i + 1)) = dvOf ((stepsS R S).take i) ++ (if quoB st = true then [st.2.2.getD 1 ""] else []) := by
            rw [tk]
            unfold dvOf
            rw [List.filter_append, List.map_append, List.filter_cons]
            split <;> rfl
          refine ⟨t, _, rfl, SqT.of (s7 _ _ ht), rfl, _, _, rfl, _, _, rfl, rfl, ?_⟩
          refine ⟨rfl, ?_⟩
          refine ⟨_, rfl, rfl, _, rfl, ?_⟩
          by_cases c : st.2.1 = "quotient"
          · obtain ⟨x1, y1, e2⟩ := quo_two wf hk c
            rw [if_pos (show quoB st = true from decide_eq_true c)] at dv1
            have ey : st.2.2.getD 1 "" = y1 := by rw [e2] <;> rfl
            rw [ey] at dv1
            have ld : (dvOf ((stepsS R S).take i)).length ≤ 10 := absurd c (nq st (List.mem_of_getElem? hk))
            refine if_pos_of (decide_eq_true (by rw [c])) ?_
            refine ⟨_, rfl, r, _, 1, .str y1, rfl, rfl, SqL.of (s7 _ _ hrr), by rw [e2]; exact atI_nat (j := 1) rfl, _, hD2, by rw [List.length_map, sizeLine_eq]; omega, fun b o hb => ?_, ?_⟩
            · rw [upd_ne (ne_of_none hb nD2)]
              exact s6 b o hb
            · rw [dv1, List.map_append]
              exact upd_same
          · refine if_neg_of (decide_eq_false fun e => c (V.str.inj e)) ?_
            rw [if_neg (show ¬ quoB st = true from fun e => c (of_decide_eq_true e)), List.append_nil] at dv1
            exact ⟨s6, by rw [dv1]; exact hD2⟩
        · rintro G' ⟨s6, hD2⟩
          rw [al.1, List.take_length] at hD2
          have s7 := s5.trans s6
          have eD : dvOf (stepsS R S) = dvS R S := rfl
          rw [eD] at hD2
          have ld : (dvS R S).length ≤ 10 := by rw [dv0]; decide
          refine ⟨_, rfl, a, dx, _, rfl, s7 _ _ oa, ru_no _ (by decide +kernel), _, rfl, a, D2, 0, R, dvS R S, rfl, ru.same s7, by omega, SqL.of hD2, by omega, .inl rfl, by decide, bd, fun S2 FD G3 cl2 s8 fnd => ?_⟩
          have s9 := s7.trans s8
          refine ⟨_, rfl, D2, rfl, ⟨_, SqL.of (s8 _ _ hD2)⟩, fun D3 nD3 => lc_it walk_list (fun i G4 => Same G3 G4 ∧ ∃ acc, G4 D3 = some (.lst acc) ∧ AllS (FrV K G4) acc (((dvS R S).take i).map (valF 0 R))) ⟨same_upd nD3, [], upd_same, AllS.nil⟩ (fun i G _ h => SqL.of (h.1 _ _ (s8 _ _ hD2))) ?_ ?_⟩
          · rintro i x _ G4 hi ⟨s10, acc, hD, al3⟩ ⟨rfl, hx⟩
            obtain ⟨y, rfl, hy⟩ := strAt hx
            obtain ⟨kvs, hF, fd⟩ := fnd
            have my := List.mem_of_getElem? hy
            obtain ⟨v, hv1, hv2⟩ := fd y (by
              obtain ⟨k, st, hk, _, q2, e⟩ := dv_mem my
              obtain ⟨x1, y1, e2⟩ := quo_two wf hk q2
              have ey : y = y1 := by rw [e, e2] <;> rfl
              rcases wfr_known_in wf hk (r := y) (by rw [e2, ey]; simp) with h | h
              · exact .inl h
              · exact .inr (mem_way h (cl2.inn y my)))
            have la := al3.1
            rw [List.length_map, List.length_take] at la
            refine ⟨rfl, _, rfl, _, rfl, FD, v, rfl, (by have z := DGet.k (k := Sum.inr y) (s10 _ _ hF); rw [hv1] at z; exact z), acc, hD, by rw [sizeLine_eq]; omega, fun b o hb => ?_, _, upd_same, ?_⟩
            · rw [upd_ne (ne_of_none hb nD3)]
              exact s10 b o hb
            · rw [List.take_add_one, hy, List.map_append]
              exact (al3.snoc (hv2.same s10)).mono fun v b _ h => h.updL hD
          · rintro G4 ⟨s10, acc, hD3, al3⟩
            rw [List.length_map, List.take_length] at al3
            have s11 := s9.trans s10
            have nt : ∀ z ∈ acc, NoneT K G4 z := fun z hz => by
              obtain ⟨i, hi⟩ := List.getElem?_of_mem hz
              obtain ⟨b, _, h2⟩ := al3.get hi
              exact h2.noneT
            have q : ∀ r e l H', CharsAt CH H' r e l → l.length ≤ 29 → (∀ p, Chr p → memB e l p = posB R S p) → Same H H' → Q (.ref r) H' := fun r e l H' ch ll mem s' => q hk1 r e l H' ch ll (fun p cp => (mem p cp).trans (pos_eq wf cp cl hk1)) s'
            refine ⟨_, rfl, D3, acc, rfl, rfl, SqL.of hD3, nt, _, rfl, ?_⟩
            by_cases c : none ∈ (dvS R S).map (valF 0 R)
            · have e : acc.any isNon = true := by
                obtain ⟨i, hi⟩ := List.getElem?_of_mem c
                obtain ⟨v, h1, h2⟩ := al3.2 i _ hi
                exact List.any_eq_true.mpr ⟨v, List.mem_of_getElem? h1, by rw [h2.isN]; rfl⟩
              rw [e]
              refine iteT ?_
              refine ⟨rfl, rfl, fun r H' ch s' => ?_⟩
              refine q r false [] H' ch (by decide) (fun p _ => ?_) (s11.trans s')
              obtain ⟨d, hd, ed⟩ := List.mem_map.mp c
              have e2 : posB R S p = false := by
                unfold posB
                rw [List.all_eq_false]
                exact ⟨d, hd, by rw [ed]; exact Bool.false_ne_true⟩
              rw [e2]
              rfl
            · have e : acc.any isNon = false := by
                rw [List.any_eq_false]
                intro z hz
                obtain ⟨i, hi⟩ := List.getElem?_of_mem hz
                obtain ⟨b, h1, h2⟩ := al3.get hi
                rw [h2.isN]
                cases b with
                | none => exact absurd (List.mem_of_getElem? h1) c
                | some x => exact Bool.false_ne_true
              rw [e]
              refine iteF ?_
              have ld : (dvS R S).length ≤ 10 := by rw [dv0]; decide
              have all : ∀ d ∈ dvS R S, ∃ u l, valF 0 R d = some (u, l) := fun d hd => by
                cases e : valF 0 R d with
                | none => exact absurd (List.mem_map.mpr ⟨d, hd, e⟩) c
                | some x => exact ⟨x.1, x.2, rfl⟩
              refine ⟨_, rfl, D3, rfl, ⟨_, SqL.of hD3⟩, fun D4 nD4 => lc_it walk_list (fun i G5 => Same G4 G5 ∧ G5 D4 = some (.lst ((((dvS R S).take i).map fun d => ((valF 0 R d).getD (0, 0)).1).map V.int))) ⟨same_upd nD4, upd_same⟩ (fun i G _ h => SqL.of (h.1 _ _ hD3)) ?_ ?_⟩
              · rintro i x _ G5 hi ⟨s12, hD4⟩ ⟨rfl, hx⟩
                obtain ⟨o, ho, fo⟩ := al3.get hx
                rw [List.getElem?_map] at ho
                obtain ⟨y, hy, rfl⟩ := Option.map_eq_some_iff.mp ho
                obtain ⟨u, l, eu⟩ := all y (List.mem_of_getElem? hy)
                rw [eu] at fo
                obtain ⟨t, rfl, ht⟩ := fo.same s12
                refine ⟨t, _, rfl, ht, rfl, _, _, rfl, _, _, rfl, rfl, rfl, _, rfl, _, hD4, by rw [List.length_map, List.length_map, List.length_take, sizeLine_eq]; omega, fun b o hb => ?_, ?_⟩
                · rw [upd_ne (ne_of_none hb nD4)]
                  exact s12 b o hb
                · rw [List.take_add_one, hy, List.map_append, List.map_append]
                  show upd G5 D4 _ D4 = some (.lst (_ ++ [V.int ((valF 0 R y).getD (0, 0)).1]))
                  rw [eu]
                  exact upd_same
              · rintro G5 ⟨s12, hD4⟩
                rw [al3.1, List.length_map, List.take_length] at hD4
                have s13 := s11.trans s12
                refine ⟨D4, _, rfl, SqL.of hD4, by rw [List.length_map]; omega, fun n hn => ?_, fun r e l H' ch ll mem s' => ?_⟩
                · obtain ⟨d, hd, rfl⟩ := List.mem_map.mp hn
                  obtain ⟨u, l, eu⟩ := all d hd
                  rw [dv0] at hd
                  cases hd
                · refine q r e l H' ch ll (fun p cp => ?_) (s13.trans s')
                  rw [mem p cp]
                  unfold unB posB
                  rw [List.all_map, Bool.eq_iff_iff, List.all_eq_true, List.all_eq_true]
                  have e : ∀ d ∈ dvS R S, (!decide (p ∣ ((valF 0 R d).getD (0, 0)).1)) = uO p (valF 0 R d) := fun d hd => by
                    obtain ⟨u, l, eu⟩ := all d hd
                    rw [eu]
                    rfl
                  exact ⟨fun h d hd => (e d hd) ▸ h d hd, fun h d hd => (e d hd).trans (h d hd)⟩
    · have e : y = z := by
        cases i with
        | zero => exact (Option.some.inj hy).symm
        | succ i => cases hy
      rw [e] at hk hd
      exact eU hk d H' (s1.trans s2) hd
-- part lwx
/-! texts of steps -/
def rowW (st : Stp) : List Str := st.2.1 :: st.1 :: st.2.2
def lineW (st : Stp) : Str := Txt.join " " (rowW st)
def text84 (R : List Stp) : Str := Txt.join "\n" (R.map lineW)
/-- a word of the law -/
def WdOk (z : Str) : Prop := z.length ≤ 11 ∧ ∀ c ∈ TL.tl z, 97 ≤ c
theorem joinL_mem {S : List Nat} {c : Nat} : ∀ {ps : List (List Nat)}, c ∈ TL.joinL S ps → c ∈ S ∨ ∃ p ∈ ps, c ∈ p
  | [], h => by cases h
  | [p], h => .inr ⟨p, List.mem_cons_self, h⟩
  | p :: q :: r, h => by
    have h : c ∈ p ++ (S ++ TL.joinL S (q :: r)) := h
    rcases List.mem_append.mp h with h | h
    · exact .inr ⟨p, List.mem_cons_self, h⟩
    · rcases List.mem_append.mp h with h | h
      · exact .inl h
      · rcases joinL_mem h with h | ⟨x, hx, hc⟩
        · exact .inl h
        · exact .inr ⟨x, List.mem_cons_of_mem _ hx, hc⟩
theorem joinL_ln {S : List Nat} {k : Nat} : ∀ {ps : List (List Nat)}, (∀ p ∈ ps, p.length ≤ k) → (TL.joinL S ps).length ≤ ps.length * (k + S.length)
  | [], _ => Nat.zero_le _
  | [p], h => by
    have := h p List.mem_cons_self
    show p.length ≤ 1 * (k + S.length)
    omega
  | p :: q :: r, h => by
    have h1 := h p List.mem_cons_self
    have h2 := joinL_ln (S := S) (ps := q :: r) fun x hx => h x (List.mem_cons_of_mem _ hx)
    show (p ++ (S ++ TL.joinL S (q :: r))).length ≤ ((q :: r).length + 1) * (k + S.length)
    rw [List.length_append, List.length_append, Nat.add_mul, Nat.one_mul]
    omega
theorem tl_len (z : Str) : (TL.tl z).length = z.length := by
  show z.cps.toList.length = z.cps.size
  exact Array.length_toList
theorem join_ln {y : Str} {k : Nat} {ps : List Str} (h : ∀ p ∈ ps, p.length ≤ k) : (Txt.join y ps).length ≤ ps.length * (k + y.length) := by
  rw [← tl_len, TL.join_eq, TL.tl_join]
  have z := joinL_ln (S := TL.tl y) (k := k) (ps := ps.map TL.tl) fun p hp => by
    obtain ⟨x, hx, rfl⟩ := List.mem_map.mp hp
    rw [tl_len]
    exact h x hx
  rwa [List.length_map, tl_len] at z
theorem wd_sp : TL.tl " " = [32] := by decide +kernel
theorem wd_nl : TL.tl "\n" = [10] := by decide +kernel
theorem split_row {st : Stp} (h : ∀ z ∈ rowW st, WdOk z) : Txt.split (lineW st) " " = rowW st := by
  refine TL.split_join (s := 32) (S := []) wd_sp (by decide +kernel) (by unfold rowW; simp) fun p hp m => ?_
  have := (h p hp).2 32 m
  omega
theorem line_nl {st : Stp} (h : ∀ z ∈ rowW st, WdOk z) : 10 ∉ TL.tl (lineW st) := fun m => by
  unfold lineW at m
  rw [TL.join_eq, TL.tl_join] at m
  rcases joinL_mem m with m | ⟨p, hp, hc⟩
  · rw [wd_sp] at m
    exact absurd (List.mem_singleton.mp m) (by decide)
  · obtain ⟨x, hx, rfl⟩ := List.mem_map.mp hp
    have := (h x hx).2 10 hc
    omega
theorem rowsW_text {R : List Stp} (ne : R ≠ []) (h : ∀ st ∈ R, ∀ z ∈ rowW st, WdOk z) : Txt.split (text84 R) "\n" = R.map lineW ∧ rowsW (text84 R) = R.map rowW := by
  have e : Txt.split (text84 R) "\n" = R.map lineW := by
    refine TL.split_join (s := 10) (S := []) wd_nl (by decide +kernel) (fun e => ne (List.map_eq_nil_iff.mp e)) fun p hp m => ?_
    obtain ⟨st, hst, rfl⟩ := List.mem_map.mp hp
    exact line_nl (h st hst) m
  refine ⟨e, ?_⟩
  unfold rowsW
  rw [e, List.map_map]
  exact List.map_congr_left fun st hst => split_row (h st hst)
theorem line_len {st : Stp} (l : (rowW st).length ≤ 4) (h : ∀ z ∈ rowW st, WdOk z) : (lineW st).length ≤ 48 := by
  have z := join_ln (y := " ") (k := 11) (ps := rowW st) fun p hp => (h p hp).1
  have e : (" " : Str).length = 1 := by decide +kernel
  rw [e] at z
  have := Nat.mul_le_mul_right 12 l
  unfold lineW
  omega
theorem fits84 {R : List Stp} (ne : R ≠ []) (few : R.length ≤ 900) (h : ∀ st ∈ R, (rowW st).length ≤ 4 ∧ ∀ z ∈ rowW st, WdOk z) : FitsT (text84 R) := by
  obtain ⟨e, _⟩ := rowsW_text ne fun st hst => (h st hst).2
  refine ⟨?_, ?_, ?_⟩
  · have z := join_ln (y := "\n") (k := 48) (ps := R.map lineW) fun p hp => by
      obtain ⟨st, hst, rfl⟩ := List.mem_map.mp hp
      exact line_len (h st hst).1 (h st hst).2
    have e1 : ("\n" : Str).length = 1 := by decide +kernel
    rw [e1, List.length_map] at z
    have := Nat.mul_le_mul_right 49 few
    unfold text84
    omega
  · rw [e, List.length_map]
    omega
  · intro row hr
    rw [e] at hr
    obtain ⟨st, hst, rfl⟩ := List.mem_map.mp hr
    obtain ⟨h1, h2⟩ := h st hst
    have ll := line_len h1 h2
    rw [split_row h2]
    refine ⟨by omega, by omega, fun y hy => ?_⟩
    have := (h2 y hy).1
    omega
theorem stepB_of {R : List Stp} {st : Stp} (o : StepOk R st) : stepB (rowW st) (namesS R) = true := by
  show stepB (st.2.1 :: st.1 :: st.2.2) (namesS R) = true
  rw [stepB_cons, o.k]
  simp only [Bool.and_eq_true, Bool.not_eq_true', decide_eq_true_eq, List.all_eq_true]
  exact ⟨⟨⟨⟨o.fresh, o.nm⟩, o.lw⟩, trivial⟩, o.known⟩
theorem rdAll_rows {R : List Stp} (wf : WFR R) : rdAll (R.map rowW) = some R := by
  have main : ∀ n, n ≤ R.length → rdAll ((R.take n).map rowW) = some (R.take n) := fun n => by
    induction n with
    | zero => exact fun _ => rfl
    | succ n ih =>
      intro h
      have e := List.getElem?_eq_getElem (l := R) (i := n) (by omega)
      rw [stp_split e, List.map_append, List.map_cons, List.map_nil, rdAll_snoc, ih (by omega)]
      show rdRow (R.take n) (rowW R[n]) = _
      unfold rdRow
      rw [if_pos (stepB_of (wf n _ e))] <;> rfl
  have z := main R.length (Nat.le_refl _)
  rwa [List.take_length] at z
-- part blm
/-! the rulers that build an integer -/
def nm86 (k : Nat) : Str := ⟨#[97 + k / 26, 97 + k % 26]⟩
theorem nm86_all : ∀ k < 260, (nameB (nm86 k) && Txt.islower (nm86 k) && decide ((nm86 k).length ≤ 11) && (TL.tl (nm86 k)).all (fun c => decide (97 ≤ c)) && decide (nm86 k ∉ gvnS)) = true := by decide +kernel
theorem nm86_ok {k : Nat} (h : k < 260) : nameB (nm86 k) = true ∧ Txt.islower (nm86 k) = true ∧ (nm86 k).length ≤ 11 ∧ (∀ c ∈ TL.tl (nm86 k), 97 ≤ c) ∧ nm86 k ∉ gvnS := by
  have z := nm86_all k h
  simp only [Bool.and_eq_true] at z
  obtain ⟨⟨⟨⟨h1, h2⟩, h3⟩, h4⟩, h5⟩ := z
  exact ⟨h1, h2, of_decide_eq_true h3, fun c hc => of_decide_eq_true (List.all_eq_true.mp h4 c hc), of_decide_eq_true h5⟩
theorem nm86_inj {i j : Nat} (h : nm86 i = nm86 j) : i = j := by
  have e : (nm86 i).cps.toList = (nm86 j).cps.toList := by rw [h]
  have e : [97 + i / 26, 97 + i % 26] = [97 + j / 26, 97 + j % 26] := e
  injection e with e1 e2
  injection e2 with e2 _
  omega
def redp (p v : Int) : Int := if p = 0 then v else v % p
theorem redp_add (p a b : Int) : redp p (redp p a + redp p b) = redp p (a + b) := by
  unfold redp
  by_cases c : p = 0
  · rw [if_pos c, if_pos c, if_pos c, if_pos c]
  · rw [if_neg c, if_neg c, if_neg c, if_neg c]
    exact (Int.add_emod a b p).symm
theorem redp_neg (p a : Int) : redp p (-(redp p a)) = redp p (-a) := by
  unfold redp
  by_cases c : p = 0
  · rw [if_pos c, if_pos c, if_pos c]
  · rw [if_neg c, if_neg c, if_neg c]
    have e : -(a % p) = -a + p * (a / p) := by
      have := Int.mul_ediv_add_emod a p
      omega
    rw [e, Int.add_mul_emod_self_left]
theorem redp_small {p : Int} (hp : Chr p) {v : Int} (h0 : 0 ≤ v) (h1 : v ≤ 1) : redp p v = v := by
  unfold redp
  rcases hp with h | h
  · rw [if_pos h]
  · have := h.1
    rw [if_neg (by omega)]
    exact Int.emod_eq_of_lt h0 (by omega)
theorem fr_one {p : Int} (hp : Chr p) (u : Int) : fr p u 1 = some (redp p u, 1) := by
  unfold fr redp
  rcases hp with h | h
  · rw [if_pos h, if_pos h, if_neg (by decide)]
    have e : (u.gcd 1) = 1 := Int.gcd_one
    simp only [e]
    rw [if_neg (by decide)]
    simp
  · have p2 := h.1
    rw [if_neg (show ¬ p = 0 by omega), if_neg (show ¬ (1 : Int) % p = 0 by rw [Int.emod_eq_of_lt (by decide) (by omega)]; decide), if_neg (show ¬ p = 0 by omega)]
    have e : inv p 1 = 1 := inv_eq (by omega) (by decide) (by omega) ⟨0, by omega⟩
    rw [e, Int.mul_one]
structure BSt (R : List Stp) (name : Str) (v : Int) (m : Nat) : Prop where
  wf : WFR R
  nms : ∀ i st, R[i]? = some st → st.1 = nm86 i
  kn : knownB (namesS R) name = true
  val : ∀ p, Chr p → valF p R name = some (redp p v, 1)
  bd : ∀ z x y, valF 0 R z = some (x, y) → x.natAbs ≤ m ∧ y = 1
  nq : ∀ st ∈ R, st.2.1 = "sum" ∨ st.2.1 = "opposite"
  lst : R ≠ [] → name = nm86 (R.length - 1)
theorem val_gv {p : Int} (hp : Chr p) {R : List Stp} (wf : WFR R) : valF p R "zero" = some (redp p 0, 1) ∧ valF p R "one" = some (redp p 1, 1) := by
  rw [redp_small hp (by decide) (by decide), redp_small hp (by decide) (by decide), valF_given wf (by decide), valF_given wf (by decide)]
  exact ⟨rfl, rfl⟩
theorem bst0 : BSt [] "zero" 0 1 := by
  refine ⟨wfr_nil, fun i st h => (by cases h), by decide, fun p hp => (val_gv hp wfr_nil).1, fun z x y h => ?_, fun st h => (by cases h), fun h => absurd rfl h⟩
  by_cases c : z = "zero"
  · subst c
    rw [valF_given wfr_nil (by decide)] at h
    have h : (some (0, 1) : Option (Int × Int)) = some (x, y) := h
    cases h
    exact ⟨by decide, rfl⟩
  · by_cases d : z = "one"
    · subst d
      have h : (some (1, 1) : Option (Int × Int)) = some (x, y) := h
      cases h
      exact ⟨by decide, rfl⟩
    · have e : valF 0 [] z = none := by
        unfold valF lookE envR env0
        rw [List.foldl_nil, List.find?_cons, List.find?_cons, decide_eq_false (fun e => c e.symm), decide_eq_false (fun e => d e.symm)] <;> rfl
      rw [e] at h
      cases h
theorem BSt.fresh {R : List Stp} {name : Str} {v : Int} {m : Nat} (B : BSt R name v m) (few : R.length < 260) : knownB (namesS R) (nm86 R.length) = false := by
  refine knownB_not.mpr ⟨(nm86_ok few).2.2.2.2, fun h => ?_⟩
  obtain ⟨st, hst, e⟩ := List.mem_map.mp h
  obtain ⟨i, hi⟩ := List.getElem?_of_mem hst
  have e2 := nm86_inj ((B.nms i st hi).symm.trans e)
  have := (List.getElem?_eq_some_iff.mp hi).1
  omega
theorem BSt.snoc {R : List Stp} {name : Str} {v : Int} {m m' : Nat} (B : BSt R name v m) (few : R.length < 260) {word : Str} {args : List Str} {u : Int} (hk : tksS word = some args.length) (hw : word = "sum" ∨ word = "opposite")
    (ha : ∀ r ∈ args, knownB (namesS R) r = true) (hv : ∀ p, Chr p → bltF word (args.map (valF p R)) p = some (redp p u, 1)) (hm : m ≤ m') (hu : u.natAbs ≤ m') : BSt (R ++ [(nm86 R.length, word, args)]) (nm86 R.length) u m' := by
  have ok := nm86_ok few
  have o : StepOk R (nm86 R.length, word, args) := ⟨hk, B.fresh few, ok.1, ok.2.1, ha⟩
  have self : ∀ p, Chr p → valF p (R ++ [(nm86 R.length, word, args)]) (nm86 R.length) = some (redp p u, 1) := fun p hp => by
    rw [valF_snoc o, if_pos rfl]
    exact hv p hp
  refine ⟨wfr_snoc B.wf o, fun i st hi => ?_, ?_, self, fun z x y h => ?_, fun st hst => ?_, fun _ => ?_⟩
  · by_cases c : i < R.length
    · rw [List.getElem?_append_left c] at hi
      exact B.nms i st hi
    · have hl := (List.getElem?_eq_some_iff.mp hi).1
      rw [List.length_append] at hl
      have e : i = R.length := by
        have : [(nm86 R.length, word, args)].length = 1 := rfl
        omega
      subst e
      rw [List.getElem?_append_right (Nat.le_refl _), Nat.sub_self] at hi
      cases hi
      rfl
  · refine knownB_iff.mpr (.inr ?_)
    unfold namesS
    rw [List.map_append]
    exact List.mem_append_right _ (by simp)
  · by_cases c : z = nm86 R.length
    · rw [c, self 0 (.inl rfl)] at h
      cases h
      exact ⟨hu, rfl⟩
    · rw [valF_snoc o, if_neg c] at h
      obtain ⟨h1, h2⟩ := B.bd z x y h
      exact ⟨by omega, h2⟩
  · rcases List.mem_append.mp hst with h | h
    · exact B.nq st h
    · rw [List.mem_singleton.mp h]
      exact hw
  · rw [List.length_append]
    rfl
theorem blt_sum {p : Int} (hp : Chr p) (a b : Int) : bltF "sum" [some (redp p a, 1), some (redp p b, 1)] p = some (redp p (a + b), 1) := by
  unfold bltF
  simp only []
  rw [if_neg (by decide), if_pos trivial, Int.mul_one, Int.mul_one, Int.mul_one, fr_one hp, redp_add]
theorem blt_opp {p : Int} (hp : Chr p) (a : Int) : bltF "opposite" [some (redp p a, 1)] p = some (redp p (-a), 1) := by
  unfold bltF
  simp only []
  rw [if_pos trivial, fr_one hp, redp_neg]
def stepT (s : List Stp × Str) (word : Str) (args : List Str) : List Stp × Str := (s.1 ++ [(nm86 s.1.length, word, args)], nm86 s.1.length)
def bldD (s : List Stp × Str) (d : Nat) : List Stp × Str :=
  let s1 := stepT s "sum" [s.2, s.2]
  if d = 1 then stepT s1 "sum" [s1.2, "one"] else s1
def bldA (ds : List Nat) : List Stp × Str := ds.foldl bldD ([], "zero")
def numA (ds : List Nat) : Nat := ds.foldl (fun v d => 2 * v + d) 0
theorem bldA_snoc (ds : List Nat) (d : Nat) : bldA (ds ++ [d]) = bldD (bldA ds) d := by
  unfold bldA
  rw [List.foldl_append] <;> rfl
theorem numA_snoc (ds : List Nat) (d : Nat) : numA (ds ++ [d]) = 2 * numA ds + d := by
  unfold numA
  rw [List.foldl_append] <;> rfl
theorem tks_sum : tksS "sum" = some 2 := by decide
theorem tks_opp : tksS "opposite" = some 1 := by decide
theorem bst_sum {R : List Stp} {name b : Str} {v u : Int} {m m' : Nat} (B : BSt R name v m) (few : R.length < 260) (hb : knownB (namesS R) b = true) (hv : ∀ p, Chr p → valF p R b = some (redp p u, 1)) (hm : m ≤ m') (hu : (v + u).natAbs ≤ m') :
    BSt (stepT (R, name) "sum" [name, b]).1 (stepT (R, name) "sum" [name, b]).2 (v + u) m' :=
  B.snoc few tks_sum (.inl rfl) (fun r hr => by
    rcases List.mem_cons.mp hr with e | hr
    · rw [e]; exact B.kn
    · rw [List.mem_singleton.mp hr]; exact hb) (fun p hp => by
    show bltF "sum" [valF p R name, valF p R b] p = _
    rw [B.val p hp, hv p hp]
    exact blt_sum hp v u) hm hu
theorem bst_dig {s : List Stp × Str} {v m i d : Nat} (B : BSt s.1 s.2 (v : Int) (2 ^ i)) (hv : v < 2 ^ i) (few : s.1.length < 250) (hd : d < 2) : BSt (bldD s d).1 (bldD s d).2 ((2 * v + d : Nat) : Int) (2 ^ (i + 1)) ∧ (bldD s d).1.length ≤ s.1.length + 2 ∧ 2 * v + d < 2 ^ (i + 1) := by
  have e2 : 2 ^ (i + 1) = 2 ^ i + 2 ^ i := by rw [Nat.pow_succ]; omega
  have B1 : BSt (stepT s "sum" [s.2, s.2]).1 (stepT s "sum" [s.2, s.2]).2 ((v : Int) + v) (2 ^ (i + 1)) := bst_sum B (by omega) B.kn B.val (by omega) (by omega)
  have l1 : (stepT s "sum" [s.2, s.2]).1.length = s.1.length + 1 := by
    show (s.1 ++ _).length = _
    rw [List.length_append] <;> rfl
  unfold bldD
  by_cases c : d = 1
  · simp only [if_pos c]
    have B2 := bst_sum (m' := 2 ^ (i + 1)) B1 (by omega) (b := "one") (knownB_iff.mpr (.inl (by decide))) (fun p hp => (val_gv hp B1.wf).2) (Nat.le_refl _) (by omega)
    refine ⟨?_, ?_, by omega⟩
    · have e3 : ((2 * v + d : Nat) : Int) = (v : Int) + v + 1 := by omega
      rw [e3]
      exact B2
    · show ((stepT s "sum" [s.2, s.2]).1 ++ _).length ≤ _
      rw [List.length_append, l1]
      exact Nat.le_refl _
  · simp only [if_neg c]
    refine ⟨?_, by omega, by omega⟩
    have e3 : ((2 * v + d : Nat) : Int) = (v : Int) + v := by omega
    rw [e3]
    exact B1
theorem bldA_ok : ∀ (n : Nat) (ds : List Nat), ds.length = n → n ≤ 120 → (∀ d ∈ ds, d < 2) → BSt (bldA ds).1 (bldA ds).2 (numA ds : Int) (2 ^ n) ∧ (bldA ds).1.length ≤ 2 * n ∧ numA ds < 2 ^ n
  | 0, ds, h, _, _ => by
    have e := List.length_eq_zero_iff.mp h
    subst e
    exact ⟨bst0, Nat.le_refl _, by decide⟩
  | n + 1, ds, h, few, hd => by
    have ne : ds ≠ [] := fun e => by rw [e] at h; cases h
    obtain ⟨l, d, rfl⟩ : ∃ l d, ds = l ++ [d] := ⟨ds.dropLast, ds.getLast ne, (List.dropLast_concat_getLast ne).symm⟩
    rw [List.length_append] at h
    have hl : l.length = n := by
      have : [d].length = 1 := rfl
      omega
    obtain ⟨B, h1, h2⟩ := bldA_ok n l hl (by omega) fun x hx => hd x (List.mem_append_left _ hx)
    obtain ⟨B2, h3, h4⟩ := bst_dig (m := 0) B h2 (by omega) (hd d (List.mem_append_right _ (by simp)))
    rw [bldA_snoc, numA_snoc]
    exact ⟨B2, by omega, h4⟩
/-- the binary digits of a number -/
theorem bin_digits : ∀ (k n : Nat), n < 2 ^ (k + 1) → ∃ ds : List Nat, (Nat.toDigits 2 n).map Char.toNat = ds.map (48 + ·) ∧ (∀ d ∈ ds, d < 2) ∧ numA ds = n ∧ ds.length ≤ k + 1 ∧ ds ≠ []
  | 0, n, h => by
    have h : n < 2 := h
    rw [Nat.toDigits_of_lt_base h]
    refine ⟨[n], ?_, fun d hd => by rw [List.mem_singleton.mp hd]; exact h, ?_, Nat.le_refl _, by simp⟩
    · rw [List.map_cons, List.map_cons, Nat.toNat_digitChar_of_lt_ten (by omega)] <;> rfl
    · show 2 * 0 + n = n
      omega
  | k + 1, n, h => by
    by_cases c : n < 2
    · obtain ⟨ds, h1, h2, h3, h4, h5⟩ := bin_digits 0 n c
      exact ⟨ds, h1, h2, h3, by omega, h5⟩
    · rw [Nat.pow_succ] at h
      obtain ⟨ds, h1, h2, h3, h4, h5⟩ := bin_digits k (n / 2) (by omega)
      rw [Nat.toDigits_of_base_le (by decide) (by omega)]
      refine ⟨ds ++ [n % 2], ?_, fun d hd => ?_, ?_, ?_, by simp⟩
      · rw [List.map_append, List.map_append, h1, List.map_cons, List.map_cons, Nat.toNat_digitChar_of_lt_ten (by omega)] <;> rfl
      · rcases List.mem_append.mp hd with h | h
        · exact h2 d h
        · rw [List.mem_singleton.mp h]; omega
      · rw [numA_snoc, h3]
        omega
      · rw [List.length_append]
        show ds.length + 1 ≤ _
        omega
-- part fmtb
/-! {i:b} -/
section
open Sem (wp)
open Builtin Builtin.Str Builtin.Int
/-- the binary digits -/
def binS (n : Nat) : Str := ⟨((Nat.toDigits 2 n).map Char.toNat).toArray⟩
theorem gives_after_cut {v : Value} {T : String} {k : String → Sem Fin} {m : Made} (hT : ∀ s : Shared, s.TypeIs v T)
    (hn : (Value.type T == Value.type "builtin_function_or_method") = false) (g : ∀ n, Gives (k n) m) : Gives (do let n ← typeNameOfCut 200 v; k n) m := by
  intro prog w A R s hq
  refine wpAny_bind ?_
  unfold typeNameOfCut shownTypeOf
  refine wpAny_bind (wpAny_bind (wpAny_typeOf (hT s) ?_))
  simp only [hn, Bool.false_eq_true, if_false]
  exact wpAny_pure (wpAny_pure (g _ prog w A R s hq))
theorem spec_b (n : String) : Builtin.Float.parseFormatSpec [98] n 62 = .ok { align := 62, type := some 98 } := by rfl
def fldB (neg : Bool) (ds : List Nat) : Str :=
  let sign : List Nat := if neg = true then [45] else []
  let other : Int := (sign.length : Int) + (([] : List Nat).length : Int) + (([] : List Nat).length : Int)
  let ds2 := if ds.isEmpty = true then [] else List.replicate ((0 : Int).toNat - ds.length) 48 ++ ds
  let pad := ((-1 : Int) - other - (ds2.length : Int)).toNat
  ⟨(List.replicate pad 32 ++ sign ++ [] ++ List.replicate 0 32 ++ ds2 ++ [] ++ List.replicate 0 32).toArray⟩
theorem fldB_eq (ds : List Nat) : fldB false ds = ⟨ds.toArray⟩ := by
  unfold fldB
  have e : (if ds.isEmpty = true then [] else List.replicate ((0 : Int).toNat - ds.length) 48 ++ ds) = ds := by
    cases ds with
    | nil => rfl
    | cons a l => simp
  rw [e]
  have e2 : ((-1 : Int) - (((if false = true then [45] else [] : List Nat).length : Int) + (([] : List Nat).length : Int) + (([] : List Nat).length : Int)) - (ds.length : Int)).toNat = 0 := by
    have : ((if false = true then [45] else [] : List Nat).length : Int) = 0 := rfl
    rw [this]
    simp only [List.length_nil]
    omega
  simp only [e2]
  simp
set_option maxHeartbeats 4000000 in
theorem fmt_b_eq (a : Nat) (t u : Tok) : «int.__format__» ⟨[.int (a : Int) t, .str ⟨#[98]⟩ u], []⟩ = (do
    let _k ← typeNameOf (.str ⟨#[98]⟩ u)
    let _n ← typeNameOfCut 200 (.int (a : Int) t)
    retStr (fldB (decide ((a : Int) < 0)) ((Nat.toDigits 2 (a : Int).natAbs).map fun c => c.toNat))) := by
  rfl
theorem gives_fmt_b (a : Nat) (t u : Tok) : Gives («int.__format__» ⟨[.int (a : Int) t, .str ⟨#[98]⟩ u], []⟩) (.str (binS a)) := by
  rw [fmt_b_eq]
  refine gives_after_typeNameOf (T := "str") (fun s => typeIs_str s _ _) (by decide) fun _ => ?_
  refine gives_after_cut (T := "int") (fun s => typeIs_int s _ _) (by decide) fun n => ?_
  rw [decide_eq_false (by omega), fldB_eq]
  exact .of_eq rfl
section
variable {prog : Program} {w : World} {A : Around} {E : Value → Shared → Prop} {s : Shared} {env : Env}
theorem wpAny_formatField_b {a : Nat} {t : Tok} {Q : Value → Shared → Prop} (hz : (binS a).length ≤ sizeLine)
    (h : Q (.str (binS a) (s.toks + 1)) { s with toks := s.toks + 1 + 1 }) : wpAny (model prog w) A (formatField (.int (a : Int) t) ⟨#[98]⟩) Q E s := by
  show wpAny _ _ (holding [.int (a : Int) t] (pyFormat (.int (a : Int) t) ⟨#[98]⟩)) Q E s
  refine wpAny_holding ?_
  unfold pyFormat
  refine wpAny_bind (wpAny_mkStr ?_ (by decide))
  refine wpAny_bind (m := callSpecial? (.int (a : Int) t) (Str.ofString "__format__") [.str ⟨#[98]⟩ s.toks]) (wpAny_callSpecial?_slot (name := Str.ofString "__format__") (typeIs_int _ (a : Int) t) F.slot_int_format
    (call_gives F.slot_int_format (typeIs_int _ (a : Int) t) F.entry_int_format (F.args_int_format_2 _ _) (gives_fmt_b a t _) ⟨hz, ?_⟩))
  show wpAny _ _ (do if ← isInstance (.str (binS a) (s.toks + 1)) (.type "str") then return (.str (binS a) (s.toks + 1)) else _) Q E _
  exact wpAny_bind (wpAny_isInstance (typeIs_str _ _ _) isSubtype_str_str (wpAny_pure h))
theorem wpAny_FormattedValue_spec {value spec : Expr} {pos : Pos} {Q : Value → Shared → Prop}
    (h : wpAny (model prog w) A (eval value env) (fun v s₁ => wpAny (model prog w) A (eval spec env) (fun r s₂ => ∃ sp t, r = .str sp t ∧ wpAny (model prog w) A (formatField v sp) Q E s₂) E s₁) E s) :
    wpAny (model prog w) A (eval (.FormattedValue value (-1) (some spec) pos) env) Q E s := by
  rw [arm_eval_FormattedValue]
  refine wpAny_bind (wpAny_mono h (fun v s₁ h₁ => ?_) fun _ _ x => x)
  refine wpAny_bind (wpAny_standAt ?_)
  refine wpAny_bind (wpAny_holding (wpAny_pure ?_))
  show wpAny _ _ (do
    let .str sp _ ← holding [v] (eval spec env) | unsupported "internal:format-spec"
    standAt pos
    formatField v sp) Q E s₁
  refine wpAny_bind (wpAny_holding (wpAny_mono h₁ (fun r s₂ h₂ => ?_) fun _ _ x => x))
  obtain ⟨sp, t, rfl, h₃⟩ := h₂
  exact wpAny_bind (wpAny_standAt h₃)
end
section
variable {X : Cx}
/-- {i:b}: an integer that is not negative, as its binary digits -/
def tFmtB (te : TE) : TE := fun σ H Q => te σ H fun x H1 => ∃ i : Nat, x = .int (i : Int) ∧ (binS i).length ≤ sizeLine ∧ Q (.str (binS i)) H1
theorem str_b : Str.ofString "b" = ⟨#[98]⟩ := by decide +kernel
theorem pe_fmtB {e sp : Expr} {te : TE} {pos : Pos} (he : PE X e te) (hs : PE X sp (tC (.str "b"))) : PE X (.FormattedValue e (-1) (some sp) pos) (tFmtB te) := by
  refine ⟨fun pins s σ H Q I h => ?_⟩
  refine wpAny_FormattedValue_spec (thn (he.run pins s σ H _ I h) fun v s1 hv => ?_)
  obtain ⟨x, H1, I1, r1, i, rfl, hz, q⟩ := hv
  obtain ⟨t, rfl⟩ := r1
  refine thn (hs.run pins s1 σ H1 (fun x H2 => x = .str "b" ∧ H2 = H1) I1 ⟨rfl, rfl⟩) fun r s2 hr => ?_
  obtain ⟨y, H2, I2, r2, rfl, rfl⟩ := hr
  obtain ⟨t2, rfl⟩ := r2
  refine ⟨_, _, rfl, ?_⟩
  show wpAny _ _ (formatField (.int (i : Int) t) (Str.ofString "b")) _ _ _
  rw [str_b]
  exact wpAny_formatField_b hz ⟨.str (binS i), _, (I2.tok _).tok _, ⟨_, rfl⟩, q⟩
end
end
-- part blt
def letters : Str := "abcdefghijklmnopqrstuvwxyz"
theorem lett_at : ∀ k < 26, letters.cps[k]? = some (97 + k) := by decide +kernel
def tup86 (K : PySem.W.Frag) (H : Hp) (v : V) (R : List Stp) (z : Str) : Prop := ∃ t l, v = .ref t ∧ H t = some (.tup [.ref l, .str z]) ∧ H l = some (.lst ((R.map lineW).map V.str))
theorem two_app (x y : Nat) : (Str.empty ++ (⟨#[x]⟩ : Str)) ++ (⟨#[y]⟩ : Str) = ⟨#[x, y]⟩ := rfl
abbrev s_numb86 : Stmt := top 36
theorem sc_numb86 : FnScope ["rows", "rest", "first", "second", "name", "word", "names"] ["rows", "rest"] (defScope s_numb86) := ⟨rfl, rfl, rfl, by decide +kernel, rfl, by decide +kernel, by decide +kernel⟩
def spNumb (K : PySem.W.Frag) : Sp := fun vs H Q _ => ∃ (a r : Addr) (R : List Stp) (word : Str) (args : List Str), vs = [.ref a, .ref r] ∧ SqL K H a ((R.map lineW).map V.str) ∧ SqL K H r ((word :: args).map V.str) ∧ R.length < 260 ∧ word.length ≤ 10 ∧ args.length ≤ 2 ∧ (∀ z ∈ args, z.length ≤ 10) ∧
  ∀ v H', Same H H' → tup86 K H' v (R ++ [(nm86 R.length, word, args)]) (nm86 R.length) → Q v H'
theorem ok_numb86 {f : Addr} {fd : FuncData} {tL : Tok} (T : Txt mg) (nD : mg "divmod" = none) (hL : mg "_LETTERS" = some (.str "abcdefghijklmnopqrstuvwxyz" tL)) (F : Fun K "_numbered" "_numbered" s_numb86 f fd) : FnOk P w K mg base CX0 1 f fd ["rows", "rest"] (spNumb K) := by
  refine F.ok sc_numb86 (fun vs H Q E h => ?_) (fun cdv A outer s H vs Q E hr h => ?_)
  · obtain ⟨a, r, R, word, args, rfl, _⟩ := h
    rfl
  · obtain ⟨a, r, R, word, args, rfl, hS, hR, few, lw, la, lz, q⟩ := h
    refine ⟨_, (pss_cons (ps_asg (pe_callB call_divmod (by rfl) nD (by decide +kernel) (pa_cons (pe_callB call_len_seq (by rfl) T.len PySem.boot_len (pa_cons (pv 0) pa_nil)) (pa_cons (pe_callB call_len_str (by rfl) T.len PySem.boot_len (pa_cons (pe_glob (v := .str "abcdefghijklmnopqrstuvwxyz") (by rfl) hL ⟨_, rfl⟩) pa_nil)) pa_nil))) (pg_tup rfl (pgs_cons (pg_name (i := 2) sc_numb86.nd rfl (Or.inl rfl)) (pgs_cons (pg_name (i := 3) sc_numb86.nd rfl (Or.inl rfl)) pgs_nil))))
 (pss_cons (ps_set (i := 4) sc_numb86.nd rfl (Or.inl rfl) (pe_joined (.cons (pe_fmt (pe_ix ix_str (pe_glob (v := .str "abcdefghijklmnopqrstuvwxyz") (by rfl) hL ⟨_, rfl⟩) (pv 2) (fun _ _ => rfl))) (.cons (pe_fmt (pe_ix ix_str (pe_glob (v := .str "abcdefghijklmnopqrstuvwxyz") (by rfl) hL ⟨_, rfl⟩) (pv 3) (fun _ _ => rfl))) .nil))))
 (pss_cons (ps_asg (pv 1) (pg_star (n := 1) rfl (pgs_cons (pg_name (i := 5) sc_numb86.nd rfl (Or.inl rfl)) (pgs_star (pg_name (i := 6) sc_numb86.nd rfl (Or.inl rfl)) pgs_nil))))
 (pss_one (ps_ret (pe_tup (pa_cons (pe_lst (StX.pa_star (pv 0) (pa_cons (pe_join pe_str (pe_lst (pa_cons (pv 5) (pa_cons (pv 4) (StX.pa_star (pv 6) pa_nil))))) pa_nil))) (pa_cons (pv 4) pa_nil)))))))), ?_⟩
    have lS : ((R.map lineW).map V.str).length = R.length := by rw [List.length_map, List.length_map]
    refine ⟨_, rfl, a, _, rfl, .inl hS, _, rfl, by decide, _, _, rfl, ⟨by decide, by decide⟩, fun p np => ?_⟩
    have s1 := same_upd (o := .tup [.int (((R.map lineW).map V.str).length / ((Str.ofString "abcdefghijklmnopqrstuvwxyz").length : Int)), .int (((R.map lineW).map V.str).length % ((Str.ofString "abcdefghijklmnopqrstuvwxyz").length : Int))]) np
    have l26 : (Str.ofString "abcdefghijklmnopqrstuvwxyz").length = 26 := by decide +kernel
    rw [l26, lS] at s1 ⊢
    have c1 : R.length / 26 < 26 := by omega
    have c2 : R.length % 26 < 26 := by omega
    have at26 : ∀ k < 26, atI (Str.ofString "abcdefghijklmnopqrstuvwxyz").cps.toList ((k : Nat) : Int) = some (97 + k) := by decide +kernel
    have a1 := at26 _ c1
    have a2 := at26 _ c2
    have e1 : ((R.length : Int) / ((26 : Nat) : Int)) = ((R.length / 26 : Nat) : Int) := by omega
    have e2 : ((R.length : Int) % ((26 : Nat) : Int)) = ((R.length % 26 : Nat) : Int) := by omega
    rw [e1, e2] at s1 ⊢
    refine ⟨p, _, rfl, SqT.of upd_same, rfl, _, _, rfl, _, _, rfl, rfl, ?_⟩
    refine ⟨_, rfl, _, _, _, rfl, rfl, by rw [l26]; decide, a1, .inl ⟨_, rfl, by show 1 ≤ sizeLine; decide, ?_⟩⟩
    refine ⟨_, rfl, by show 1 ≤ sizeLine; decide, _, rfl, _, _, _, rfl, rfl, by rw [l26]; decide, a2, .inl ⟨_, rfl, by show 1 ≤ sizeLine; decide, _, rfl, by show 2 ≤ sizeLine; decide, ?_⟩⟩
    rw [two_app]
    unfold tJs
    have enm : (⟨#[97 + R.length / 26, 97 + R.length % 26]⟩ : Str) = nm86 R.length := rfl
    rw [enm]
    refine ⟨_, rfl, r, _, rfl, s1.seq hR, by simp, fun n nn => ?_⟩
    have s2 := s1.trans (same_upd (o := .lst (args.map V.str)) nn)
    refine ⟨_, _, rfl, _, _, rfl, rfl, ?_⟩
    generalize est : ((nm86 R.length, word, args) : Stp) = st at q
    have ea : List.drop 1 ((word :: args).map V.str) = args.map V.str := rfl
    have erow : V.str word :: V.str (nm86 R.length) :: (args.map V.str ++ []) = (rowW st).map V.str := by rw [List.append_nil, ← est]; rfl
    have lrow : (rowW st).length ≤ 4 := by rw [← est]; show args.length + 1 + 1 ≤ 4; omega
    have wrow : ∀ z ∈ rowW st, z.length ≤ 11 := fun z hz => by
      rw [← est] at hz
      rcases List.mem_cons.mp hz with e | hz
      · rw [e]; show word.length ≤ 11; omega
      · rcases List.mem_cons.mp hz with e | hz
        · rw [e]; exact (nm86_ok few).2.2.1
        · have := lz z hz; omega
    refine ⟨_, rfl, a, _, rfl, .inr (s2.seq hS), ⟨_, rfl⟩, _, rfl, _, rfl, _, rfl, n, args.map V.str, rfl, .inr (SqL.of upd_same), ?_⟩
    refine ⟨by rw [erow, List.length_map, sizeLine_eq]; omega, fun l nl => ?_⟩
    have gl := same_upd (o := .lst ((rowW st).map V.str)) nl
    refine ⟨_, l, rowW st, rfl, rfl, .inl (SqL.of (by rw [← erow]; exact upd_same)), ?_, ?_⟩
    · have z1 := sum_le (k := 11) (ys := rowW st) wrow
      have z3 : (" " : Str).length = 1 := by decide +kernel
      rw [z3]
      omega
    have s3 := s2.trans gl
    have el : (R.map lineW).map V.str ++ [V.str (Txt.join " " (rowW st))] = ((R ++ [st]).map lineW).map V.str := by
      rw [List.map_append, List.map_append]
      rfl
    refine ⟨by rw [el, List.length_map, List.length_map, List.length_append, sizeLine_eq]; show R.length + 1 ≤ _; omega, fun l2 nl2 => ⟨_, rfl, by show 2 ≤ sizeLine; decide, fun t nt => ?_⟩⟩
    rw [el] at nt ⊢
    rw [erow] at nl2 nt ⊢
    have s4 := s3.trans ((same_upd (o := .lst (((R ++ [st]).map lineW).map V.str)) nl2).trans (same_upd (o := .tup [.ref l2, .str (nm86 R.length)]) nt))
    exact q _ _ s4 ⟨t, l2, rfl, upd_same, by rw [upd_ne (ne_of_none upd_same nt)]; exact upd_same⟩
-- part bltn
theorem binS_len {n k : Nat} (h : n < 2 ^ (k + 1)) (hk : k ≤ 200) : (binS n).length ≤ sizeLine := by
  obtain ⟨ds, h1, _, _, h4, _⟩ := bin_digits k n h
  show (((Nat.toDigits 2 n).map Char.toNat).toArray).size ≤ _
  rw [List.size_toArray, h1, List.length_map, sizeLine_eq]
  omega
theorem BSt.nlen {R : List Stp} {name : Str} {v : Int} {m : Nat} (B : BSt R name v m) (few : R.length ≤ 259) : name.length ≤ 10 := by
  by_cases c : R = []
  · subst c
    rcases knownB_iff.mp B.kn with h | h
    · have a : ∀ z ∈ gvnS, z.length ≤ 10 := by decide +kernel
      exact a _ h
    · cases h
  · rw [B.lst c]
    show 2 ≤ 10
    decide
theorem word86 {z : Str} (h : z ∈ (["sum", "opposite", "zero", "one"] : List Str)) : WdOk z := by
  have a : ∀ z ∈ (["sum", "opposite", "zero", "one"] : List Str), z.length ≤ 11 ∧ (TL.tl z).all (fun c => decide (97 ≤ c)) = true := by decide +kernel
  obtain ⟨h1, h2⟩ := a z h
  exact ⟨h1, fun c hc => of_decide_eq_true (List.all_eq_true.mp h2 c hc)⟩
theorem nm86_wd {k : Nat} (h : k < 260) : WdOk (nm86 k) := ⟨(nm86_ok h).2.2.1, (nm86_ok h).2.2.2.1⟩
theorem BSt.known_wd {R : List Stp} {name : Str} {v : Int} {m : Nat} (B : BSt R name v m) (few : R.length ≤ 259) {z : Str} (h : z ∈ gvnS ∨ z ∈ namesS R) : WdOk z := by
  rcases h with h | h
  · unfold gvnS at h
    exact word86 (by rcases List.mem_cons.mp h with e | h; · simp [e]
                     · rw [List.mem_singleton.mp h]; simp)
  · obtain ⟨st, hst, rfl⟩ := List.mem_map.mp h
    obtain ⟨i, hi⟩ := List.getElem?_of_mem hst
    have := (List.getElem?_eq_some_iff.mp hi).1
    rw [B.nms i st hi]
    exact nm86_wd (by omega)
theorem BSt.rows {R : List Stp} {name : Str} {v : Int} {m : Nat} (B : BSt R name v m) (few : R.length ≤ 259) : ∀ st ∈ R, (rowW st).length ≤ 4 ∧ ∀ z ∈ rowW st, WdOk z := fun st hst => by
  obtain ⟨i, hi⟩ := List.getElem?_of_mem hst
  have o := B.wf i st hi
  have l2 : st.2.2.length ≤ 2 := by
    have k := o.k
    rcases B.nq st hst with e | e
    · rw [e, tks_sum] at k
      have := Option.some.inj k
      omega
    · rw [e, tks_opp] at k
      have := Option.some.inj k
      omega
  refine ⟨by show st.2.2.length + 1 + 1 ≤ 4; omega, fun z hz => ?_⟩
  rcases List.mem_cons.mp hz with e | hz
  · rw [e]
    exact word86 (by rcases B.nq st hst with e | e <;> simp [e])
  · rcases List.mem_cons.mp hz with e | hz
    · rw [e]
      exact B.known_wd few (.inr (List.mem_map.mpr ⟨st, hst, rfl⟩))
    · exact B.known_wd few (wfr_known_in B.wf hi hz)
/-- what built leaves -/
def Blt (n : Int) (R : List Stp) (name : Str) : Prop := BSt R name n (2 ^ 101) ∧ R ≠ [] ∧ R.length ≤ 210
theorem one86 : Str.ofString "1" = ⟨#[49]⟩ := by decide +kernel
theorem dig_eq {d : Nat} : decide (V.str ⟨#[48 + d]⟩ = V.str "1") = decide (d = 1) := by
  have e : (("1" : Str)) = ⟨#[49]⟩ := one86
  rw [e]
  by_cases c : d = 1
  · subst c
    rw [decide_eq_true rfl, decide_eq_true rfl]
  · rw [decide_eq_false c, decide_eq_false]
    intro h
    have h1 := V.str.inj h
    have h2 : (⟨#[48 + d]⟩ : Str).cps.toList = (⟨#[49]⟩ : Str).cps.toList := by rw [h1]
    have h3 : [48 + d] = [49] := h2
    injection h3 with h4
    omega
abbrev s_built86 : Stmt := top 37
theorem sc_built86 : FnScope ["n", "rows", "name", "digit"] ["n"] (defScope s_built86) := ⟨rfl, rfl, rfl, by decide +kernel, rfl, by decide +kernel, by decide +kernel⟩
def spBuilt : Sp := fun vs H Q _ => ∃ n : Int, vs = [.int n] ∧ n.natAbs < 2 ^ 100 ∧ ∀ R name H', Blt n R name → Same H H' → Q (.str (text84 R)) H'
theorem ok_built86 {f : Addr} {fd : FuncData} (T : Txt mg) (F : Fun K "built" "built" s_built86 f fd) (c_numb : Cl P w K mg base CX0 1 "_numbered" (spNumb K)) : FnOk P w K mg base CX0 2 f fd ["n"] spBuilt := by
  refine F.ok sc_built86 (fun vs H Q E h => ?_) (fun cdv A outer s H vs Q E hr h => ?_)
  · obtain ⟨n, rfl, _⟩ := h
    rfl
  · obtain ⟨n, rfl, hn, q⟩ := h
    refine ⟨_, (pss_cons (ps_par (i := 1) (j := 2) rfl sc_built86.nd rfl rfl (by decide) rfl rfl (pa_cons (pe_lst pa_nil) (pa_cons pe_str pa_nil)) rfl)
 (pss_cons (ps_for PassesOwn.never rfl (pi_str (pe_joined1 (pe_fmtB (pe_callB call_abs (by rfl) T.abs boot_abs (pa_cons (pv 0) pa_nil)) (pe_joined1 pe_str)))) (pg_name (i := 3) sc_built86.nd rfl (Or.inl rfl)) (pss_cons (ps_asg (pe_cl c_numb hr (pa_cons (pv 1) (pa_cons (pe_lst (pa_cons pe_str (pa_cons (pv 2) (pa_cons (pv 2) pa_nil)))) pa_nil))) (pg_tup rfl (pgs_cons (pg_name (i := 1) sc_built86.nd rfl (Or.inl rfl)) (pgs_cons (pg_name (i := 2) sc_built86.nd rfl (Or.inl rfl)) pgs_nil))))
 (pss_one (ps_if (pt_cmpR op_eq (pv 3) pe_str (nomark _)) (pss_one (ps_asg (pe_cl c_numb hr (pa_cons (pv 1) (pa_cons (pe_lst (pa_cons pe_str (pa_cons (pv 2) (pa_cons pe_str pa_nil)))) pa_nil))) (pg_tup rfl (pgs_cons (pg_name (i := 1) sc_built86.nd rfl (Or.inl rfl)) (pgs_cons (pg_name (i := 2) sc_built86.nd rfl (Or.inl rfl)) pgs_nil))))) pss_nil))))
 (Evl.pss_cut (ps_if (pt_cmpR op_lt (pv 0) pe_int (nomark _)) (pss_one (ps_asg (pe_cl c_numb hr (pa_cons (pv 1) (pa_cons (pe_lst (pa_cons pe_str (pa_cons (pv 2) pa_nil))) pa_nil))) (pg_tup rfl (pgs_cons (pg_name (i := 1) sc_built86.nd rfl (Or.inl rfl)) (pgs_cons (pg_name (i := 2) sc_built86.nd rfl (Or.inl rfl)) pgs_nil))))) pss_nil)
 (pss_one (ps_ret (pe_join pe_str (pv 1))))))), ?_⟩
    obtain ⟨ds, hd1, hd2, hd3, hd4, hd5⟩ := bin_digits 99 n.natAbs hn
    refine ⟨(by show 0 ≤ sizeLine; decide), fun D nD => ⟨_, _, rfl, ?_⟩⟩
    have gD := same_upd (o := .lst []) nD
    refine ⟨_, rfl, _, rfl, n.natAbs, (by rw [show (if n < 0 then -n else n) = (n.natAbs : Int) by split <;> omega]), binS_len (k := 99) hn (by decide), _, rfl, ?_⟩
    refine for_it walk_str (fun i σ G => Same H G ∧ ∃ l x3, σ = [some (.int n), some (.ref l), some (.str (bldA (ds.take i)).2), x3] ∧ G l = some (.lst (((bldA (ds.take i)).1.map lineW).map V.str))) ⟨gD, D, none, rfl, upd_same⟩ (fun i σ G _ _ => trivial) ?_ ?_
    · rintro i x σ G _ hi ⟨s1, l, x3, rfl, hl⟩ ⟨rfl, c, hc, rfl⟩
      have hi2 : i < ds.length := by
        have hi3 : i < (((Nat.toDigits 2 n.natAbs).map Char.toNat).toArray).size := hi
        rw [List.size_toArray, hd1, List.length_map] at hi3
        exact hi3
      obtain ⟨d, hd⟩ : ∃ d, ds[i]? = some d := ⟨ds[i], List.getElem?_eq_getElem hi2⟩
      have ec : c = 48 + d := by
        have e : (binS n.natAbs).cps[i]? = some (48 + d) := by
          show (((Nat.toDigits 2 n.natAbs).map Char.toNat).toArray)[i]? = _
          rw [List.getElem?_toArray, hd1, List.getElem?_map, hd] <;> rfl
        rw [e] at hc
        exact (Option.some.inj hc).symm
      subst ec
      have tk : ds.take (i + 1) = ds.take i ++ [d] := by rw [List.take_add_one, hd] <;> rfl
      obtain ⟨B, lB, _⟩ := bldA_ok i (ds.take i) (by rw [List.length_take]; omega) (by omega) (fun d h => hd2 d (List.mem_of_mem_take h))
      have dd := hd2 d (List.mem_of_getElem? hd)
      rw [tk, bldA_snoc]
      generalize bldA (ds.take i) = S2 at *
      have nl := B.nlen (by omega)
      refine ⟨_, rfl, _, rfl, _, rfl, (by show 3 ≤ sizeLine; decide), fun r nr => ⟨l, r, S2.1, "sum", [S2.2, S2.2], rfl, SqL.of ((same_upd nr) _ _ hl), SqL.of upd_same, by omega, by decide, by simp, fun z hz => by simp at hz; rw [hz]; exact nl, fun v G2 s2 tu => ?_⟩⟩
      have s3 := s1.trans ((same_upd nr).trans s2)
      obtain ⟨t, l2, rfl, ht, hl2⟩ := tu
      refine ⟨t, _, rfl, SqT.of ht, rfl, _, _, rfl, _, _, rfl, rfl, ?_⟩
      refine ⟨_, rfl, rfl, _, rfl, ?_⟩
      rw [dig_eq]
      have nl1 : (nm86 S2.1.length).length ≤ 10 := by show 2 ≤ 10; decide
      have l1 : (S2.1 ++ [(nm86 S2.1.length, Str.ofString "sum", [S2.2, S2.2])]).length = S2.1.length + 1 := by rw [List.length_append] <;> rfl
      by_cases c : d = 1
      · refine if_pos_of (decide_eq_true c) ?_
        refine ⟨_, rfl, _, rfl, (by show 3 ≤ sizeLine; decide), fun r2 nr2 => ⟨l2, r2, S2.1 ++ [(nm86 S2.1.length, Str.ofString "sum", [S2.2, S2.2])], "sum", [nm86 S2.1.length, "one"], rfl, SqL.of ((same_upd nr2) _ _ hl2), SqL.of upd_same, by omega, by decide, by simp, fun z hz => ?_, fun v G4 s4 tu => ?_⟩⟩
        · rcases List.mem_cons.mp hz with e | hz
          · rw [e]; exact nl1
          · rw [List.mem_singleton.mp hz]; decide +kernel
        · obtain ⟨t2, l3, rfl, ht2, hl3⟩ := tu
          have eD : bldD S2 d = stepT (stepT S2 "sum" [S2.2, S2.2]) "sum" [(stepT S2 "sum" [S2.2, S2.2]).2, "one"] := if_pos c
          rw [eD]
          exact ⟨t2, _, rfl, SqT.of ht2, rfl, _, _, rfl, _, _, rfl, rfl, s3.trans ((same_upd nr2).trans s4), l3, _, rfl, hl3⟩
      · refine if_neg_of (decide_eq_false c) ?_
        have eD : bldD S2 d = stepT S2 "sum" [S2.2, S2.2] := if_neg c
        rw [eD]
        exact ⟨s3, l2, _, rfl, hl2⟩
    · rintro σ G ⟨s1, l, x3, rfl, hl⟩
      have esz : (binS n.natAbs).cps.size = ds.length := by
        show (((Nat.toDigits 2 n.natAbs).map Char.toNat).toArray).size = _
        rw [List.size_toArray, hd1, List.length_map]
      rw [esz, List.take_length] at hl ⊢
      obtain ⟨B, lB, _⟩ := bldA_ok ds.length ds rfl (by omega) hd2
      rw [hd3] at B
      have neB : (bldA ds).1 ≠ [] := by
        obtain ⟨l, d, e⟩ : ∃ l d, ds = l ++ [d] := ⟨ds.dropLast, ds.getLast hd5, (List.dropLast_concat_getLast hd5).symm⟩
        rw [e, bldA_snoc]
        unfold bldD
        by_cases c : d = 1
        · simp only [if_pos c]
          unfold stepT
          simp
        · simp only [if_neg c]
          unfold stepT
          simp
      generalize bldA ds = S2 at *
      have pw : 2 ^ ds.length ≤ 2 ^ 100 := Nat.pow_le_pow_right (by decide) (by omega)
      have pw2 : (2 : Nat) ^ 100 ≤ 2 ^ 101 := Nat.pow_le_pow_right (by decide) (by omega)
      refine ⟨fun σ G => Same H G ∧ ∃ l R name x3, σ = [some (.int n), some (.ref l), some (.str name), x3] ∧ G l = some (.lst ((R.map lineW).map V.str)) ∧ Blt n R name, ?_, ?_⟩
      · refine ⟨_, rfl, _, _, rfl, rfl, _, rfl, ?_⟩
        by_cases c : n < 0
        · refine if_pos_of (decide_eq_true c) ?_
          have nl := B.nlen (by omega)
          refine ⟨_, rfl, _, rfl, (by show 2 ≤ sizeLine; decide), fun r nr => ⟨l, r, S2.1, "opposite", [S2.2], rfl, SqL.of ((same_upd nr) _ _ hl), SqL.of upd_same, by omega, by decide, by simp, fun z hz => by rw [List.mem_singleton.mp hz]; exact nl, fun v G2 s2 tu => ?_⟩⟩
          obtain ⟨t, l2, rfl, ht, hl2⟩ := tu
          refine ⟨t, _, rfl, SqT.of ht, rfl, _, _, rfl, _, _, rfl, rfl, s1.trans ((same_upd nr).trans s2), l2, _, _, _, rfl, hl2, ?_, by simp, by rw [List.length_append]; show S2.1.length + 1 ≤ 210; omega⟩
          refine B.snoc (by omega) tks_opp (.inr rfl) (fun r hr => by rw [List.mem_singleton.mp hr]; exact B.kn) (fun p hp => ?_) (by omega) (by omega)
          show bltF "opposite" [valF p S2.1 S2.2] p = _
          rw [B.val p hp, blt_opp hp, show -((n.natAbs : Nat) : Int) = n by omega]
        · refine if_neg_of (decide_eq_false c) ?_
          refine ⟨s1, l, S2.1, S2.2, _, rfl, hl, ?_, neB, by omega⟩
          have en : ((n.natAbs : Nat) : Int) = n := by omega
          rw [en] at B
          exact { B with bd := fun z x y h => by have := B.bd z x y h; omega }
      · rintro σ G ⟨s2, l, R, name, x3, rfl, hl, BL⟩
        obtain ⟨B2, ne, few⟩ := BL
        have rw86 := B2.rows (by omega)
        refine ⟨⟨_, rfl⟩, _, rfl, _, l, R.map lineW, rfl, rfl, .inl (SqL.of hl), ?_, q R name G ⟨B2, ne, few⟩ s2⟩
        have z1 := sum_le (k := 48) (ys := R.map lineW) fun y hy => by
          obtain ⟨st, hst, rfl⟩ := List.mem_map.mp hy
          exact line_len (rw86 st hst).1 (rw86 st hst).2
        have z3 : ("\n" : Str).length = 1 := by decide +kernel
        rw [List.length_map] at z1 ⊢
        rw [z3]
        omega
-- part joink
/-- y.join(xs), the frame named: for the body of a try -/
def rJoin (K : PySem.W.Frag) : V → List V → Hp → VK → Prop := fun x xs H Q => ∃ a p, ∃ ys : List Str, x = .str a ∧ xs = [.ref p] ∧ (SqL K H p (ys.map V.str) ∨ SqT K H p (ys.map V.str)) ∧ (ys.map (·.length)).sum + ys.length * a.length ≤ 16777216 ∧ Q (.str (Txt.join a ys)) H
theorem pe_joinK {X : Cx} {K : PySem.W.Frag} {o e : Expr} {to te : TE} {apos pos : Pos} (hK : X.K = K) (ho : PE X o to) (he : PE X e te) (hs : starEach [e] X.env = [(false, eval e X.env)] := by rfl) (hbase : attributeBase o "join" X.env (eval o X.env) = eval o X.env := by rfl) (hline : (apos.endLine == pos.line) = true := by rfl) :
    PE X (.Call (.Attribute o "join" apos) [e] [] pos) (tM1 (rJoin K) to te) := by
  subst hK
  exact pe_join ho he hs hbase hline
-- part k84i
/-! lists of data -/
def dO : Option (Int × Int) → PyData
  | none => .none
  | some (x, y) => .tuple ([x, y].map PyData.int)
def dI : Option (Int × Int) → PyData
  | none => .none
  | some (x, _) => .int x
theorem dp_fr {H : Hp} {v : V} {o : Option (Int × Int)} (h : FrV K H v o) : Dp K H v (dO o) := by
  match o, h with
  | none, h =>
    have e : v = .non := h
    rw [e]
    exact .non
  | some (x, y), ⟨t, e, ht⟩ =>
    rw [e]
    exact .tup ht (.cons (.int x) (.cons (.int y) .nil))
theorem dp_vo {H : Hp} (o : Option (Int × Int)) : Dp K H (valO o) (dI o) := by
  match o with
  | none => exact .non
  | some (x, y) => exact .int x
theorem dpAll_of {α : Type} {H : Hp} {f : α → PyData} : ∀ {us : List V} {l : List α}, AllS (fun v x => Dp K H v (f x)) us l → DpAll K H us (l.map f)
  | [], [], _ => .nil
  | [], b :: l, h => by have := h.1; cases this
  | u :: us, [], h => by have := h.1; cases this
  | u :: us, b :: l, h => by
    obtain ⟨v, h1, h2⟩ := h.2 0 b rfl
    cases h1
    refine .cons h2 (dpAll_of ⟨Nat.succ.inj h.1, fun i c hc => ?_⟩)
    obtain ⟨v, h3, h4⟩ := h.2 (i + 1) c hc
    exact ⟨v, h3, h4⟩
theorem dp_ls84 {α : Type} {H : Hp} {f : α → PyData} {a : Addr} {us : List V} {l : List α} (h : H a = some (.lst us)) (al : AllS (fun v x => Dp K H v (f x)) us l) : Dp K H (.ref a) (.list (l.map f)) := .lst (SqL.of h) (dpAll_of al)
theorem allS_map {α : Type} {S : V → α → Prop} {f : α → V} {l : List α} (h : ∀ x ∈ l, S (f x) x) : AllS S (l.map f) l := ⟨List.length_map _, fun i b hb => ⟨f b, by rw [List.getElem?_map, hb] <;> rfl, h b (List.mem_of_getElem? hb)⟩⟩
theorem lay_map {α : Type} {f : α → PyData} : ∀ {l : List α}, (∀ x ∈ l, (f x).canLay0 = true) → PyData.canLayAll0 (l.map f) = true
  | [], _ => by rw [List.map_nil, PyData.canLayAll0]
  | a :: l, h => by
    rw [List.map_cons, PyData.canLayAll0, h a List.mem_cons_self, lay_map fun x hx => h x (List.mem_cons_of_mem _ hx)] <;> rfl
theorem depth_map {α : Type} {f : α → PyData} {k : Nat} : ∀ {l : List α}, (∀ x ∈ l, (f x).depth ≤ k) → PyData.depthAll (l.map f) ≤ k
  | [], _ => by rw [List.map_nil, PyData.depthAll]; exact Nat.zero_le _
  | a :: l, h => by
    have h1 := h a List.mem_cons_self
    have h2 := depth_map (k := k) fun x hx => h x (List.mem_cons_of_mem a hx)
    rw [List.map_cons, PyData.depthAll]
    omega
theorem shaped_map {α : Type} {f : α → PyData} {l : List α} (h : ∀ x ∈ l, (f x).canLay0 = true ∧ (f x).depth ≤ 9) : SeqAt.shaped (.list (l.map f)) = true := by
  have h1 := lay_map fun x hx => (h x hx).1
  have h2 := depth_map fun x hx => (h x hx).2
  unfold SeqAt.shaped
  rw [PyData.canLay0, h1, PyData.depth]
  simp only [Bool.true_and, decide_eq_true_eq]
  omega
theorem eqv_map {α : Type} {f : α → PyData} {l : List α} (h : ∀ x ∈ l, (f x).canLay0 = true ∧ (f x).depth ≤ 9) : PyData.eqv (.list (l.map f)) (.list (l.map f)) = true :=
  SeqAt.eqv_refl _ (by rw [PyData.canLay0]; exact lay_map fun x hx => (h x hx).1)
theorem ok_dO (o : Option (Int × Int)) : (dO o).canLay0 = true ∧ (dO o).depth ≤ 9 := by
  match o with
  | none => exact ⟨by show PyData.none.canLay0 = true; rw [PyData.canLay0], by show PyData.none.depth ≤ 9; rw [PyData.depth]; omega⟩
  | some (x, y) =>
    constructor
    · show (PyData.tuple [.int x, .int y]).canLay0 = true
      simp [PyData.canLay0, PyData.canLayAll0]
    · show (PyData.tuple [.int x, .int y]).depth ≤ 9
      simp [PyData.depth, PyData.depthAll]
theorem ok_dI (o : Option (Int × Int)) : (dI o).canLay0 = true ∧ (dI o).depth ≤ 9 := by
  match o with
  | none => exact ⟨by show PyData.none.canLay0 = true; rw [PyData.canLay0], by show PyData.none.depth ≤ 9; rw [PyData.depth]; omega⟩
  | some (x, y) => exact ⟨by show (PyData.int x).canLay0 = true; rw [PyData.canLay0], by show (PyData.int x).depth ≤ 9; rw [PyData.depth]; omega⟩
theorem ok_dB (b : Bool) : (PyData.bool b).canLay0 = true ∧ (PyData.bool b).depth ≤ 9 := ⟨by rw [PyData.canLay0], by rw [PyData.depth]; omega⟩
theorem ok_dS {z : Str} (h : PyData.strOk z = true) : (PyData.str z).canLay0 = true ∧ (PyData.str z).depth ≤ 9 := ⟨by rw [PyData.canLay0, h], by rw [PyData.depth]; omega⟩
theorem shaped_dO (o : Option (Int × Int)) : SeqAt.shaped (dO o) = true := by
  obtain ⟨h1, h2⟩ := ok_dO o
  unfold SeqAt.shaped
  rw [h1, decide_eq_true (by omega)] <;> rfl
theorem eqv_dO (a b : Option (Int × Int)) : PyData.eqv (dO a) (dO b) = decide (a = b) := by
  match a, b with
  | none, none => simp [dO, PyData.eqv]
  | none, some (x, y) => simp [dO, PyData.eqv]
  | some (x, y), none => simp [dO, PyData.eqv]
  | some (x, y), some (u, v) =>
    show PyData.eqv (.tuple ([x, y].map PyData.int)) (.tuple ([u, v].map PyData.int)) = _
    rw [eqv_intsT]
    simp [Prod.ext_iff]
-- part useeq
section
variable {C a b : Addr} {e1 e2 : Bool} {l1 l2 : List Int} {H : Hp} {Q : VK}
theorem useEq (ch1 : CharsAt C H a e1 l1) (ch2 : CharsAt C H b e2 l2) (k : Q (.bl (decide (e1 = e2 ∧ l1 = l2))) H) : rOwn2 C (spCeq C) (.ref a) (.ref b) H Q := by
  obtain ⟨dx, t, h1, _⟩ := ch1.ob
  obtain ⟨dy, u, g1, _⟩ := ch2.ob
  exact ⟨a, b, _, _, _, _, rfl, rfl, h1, g1, a, b, e1, e2, l1, l2, rfl, ch1, ch2, k⟩
theorem useIn {p : Int} (ch1 : CharsAt C H a e1 l1) (k : Q (.bl (memB e1 l1 p)) H) : rOwnIn false C (spCont C) (.int p) (.ref a) H Q := by
  obtain ⟨dx, t, h1, _⟩ := ch1.ob
  exact ⟨a, dx, _, rfl, h1, a, e1, l1, p, rfl, ch1, _, rfl, k⟩
end
theorem not_pr0 : ¬ Pr (0 : Int) := fun h => absurd h.1 (by decide)
/-- a set is told by its members -/
theorem chars_ext {C a b : Addr} {H H' : Hp} {e1 e2 : Bool} {l1 l2 : List Int} (ch1 : CharsAt C H a e1 l1) (ch2 : CharsAt C H' b e2 l2) (h : ∀ p, Chr p → memB e1 l1 p = memB e2 l2 p) : e1 = e2 ∧ l1 = l2 := by
  have z1 : (0 : Int) ∉ l1 := fun m => not_pr0 (ch1.prm 0 m).1
  have z2 : (0 : Int) ∉ l2 := fun m => not_pr0 (ch2.prm 0 m).1
  have h0 := h 0 (.inl rfl)
  have e : e1 = e2 := by
    unfold memB at h0
    rw [decide_eq_false z1, decide_eq_false z2] at h0
    cases e1 <;> cases e2 <;> first | rfl | exact absurd h0 (by decide)
  refine ⟨e, sorted_uniq ch1.srt ch2.srt fun q => ?_⟩
  subst e
  have main : ∀ q, Pr q → (q ∈ l1 ↔ q ∈ l2) := fun q pq => by
    have hq := h q (.inr pq)
    unfold memB at hq
    by_cases m1 : q ∈ l1 <;> by_cases m2 : q ∈ l2
    · exact ⟨fun _ => m2, fun _ => m1⟩
    · rw [decide_eq_true m1, decide_eq_false m2] at hq
      cases e1 <;> exact absurd hq (by decide)
    · rw [decide_eq_false m1, decide_eq_true m2] at hq
      cases e1 <;> exact absurd hq (by decide)
    · exact ⟨fun h => absurd h m1, fun h => absurd h m2⟩
  exact ⟨fun m => (main q (ch1.prm q m).1).mp m, fun m => (main q (ch2.prm q m).1).mpr m⟩
-- part lbld
theorem cut8 (z : Str) : (TL.tl (cutS z none (some 8))).head? = (TL.tl z).head? := by
  unfold cutS
  rw [TL.tl_mk]
  have e : HT.sIx z.length z.length (some 8) = min 8 z.length := HT.sIx_nat z.length z.length 8
  rw [e, HT.sIx_none, List.drop_zero, Nat.sub_zero]
  have l : (TL.tl z).length = z.length := tl_len z
  show (List.take (min 8 z.length) (TL.tl z)).head? = _
  cases h : TL.tl z with
  | nil => rw [List.take_nil]
  | cons x xs =>
    rw [h, List.length_cons] at l
    have : min 8 z.length = (min 8 z.length - 1) + 1 := by omega
    rw [this]
    rfl
theorem line_head {st : Stp} (h : st.2.1 = "sum" ∨ st.2.1 = "opposite") : V.str (cutS (lineW st) none (some 8)) ≠ V.str "quotient" := by
  intro e
  have e1 := V.str.inj e
  have e2 : (TL.tl (cutS (lineW st) none (some 8))).head? = (TL.tl "quotient").head? := by rw [e1]
  rw [cut8] at e2
  have e3 : (TL.tl (lineW st)).head? = (TL.tl st.2.1).head? := by
    unfold lineW rowW
    rw [TL.join_eq, TL.tl_join]
    show (TL.joinL _ (TL.tl st.2.1 :: TL.tl st.1 :: st.2.2.map TL.tl)).head? = _
    show (TL.tl st.2.1 ++ (TL.tl " " ++ TL.joinL (TL.tl " ") (TL.tl st.1 :: st.2.2.map TL.tl))).head? = _
    rcases h with h | h <;> rw [h] <;> (have z : (TL.tl ("sum" : Str)) = [115, 117, 109] ∧ (TL.tl ("opposite" : Str)) = [111, 112, 112, 111, 115, 105, 116, 101] := by decide +kernel) <;> first | rw [z.1]; rfl | rw [z.2]; rfl
  rw [e3] at e2
  have z : (TL.tl ("sum" : Str)).head? ≠ (TL.tl ("quotient" : Str)).head? ∧ (TL.tl ("opposite" : Str)).head? ≠ (TL.tl ("quotient" : Str)).head? := by decide +kernel
  rcases h with h | h <;> rw [h] at e2
  · exact z.1 e2
  · exact z.2 e2
theorem at_last {xs : List V} {x : V} : atI (xs ++ [x]) (-1) = some x := by
  unfold atI ixN
  rw [if_neg (by decide), if_pos (by rw [List.length_append]; show -(((xs.length + 1 : Nat)) : Int) ≤ -1; omega)]
  have e : (-1 + ((xs ++ [x]).length : Int)).toNat = xs.length := by
    rw [List.length_append]
    show (-1 + ((xs.length + 1 : Nat) : Int)).toNat = _
    omega
  rw [e]
  show (xs ++ [x])[xs.length]? = _
  rw [List.getElem?_append_right (Nat.le_refl _), Nat.sub_self] <;> rfl
abbrev s_lbld86 : Stmt := top 45
theorem sc_lbld86 : FnScope ["_law_n", "_law_text", "_law_line", "_law_ruler", "_law_last"] ["_law_n"] (defScope s_lbld86) := ⟨rfl, rfl, rfl, by decide +kernel, rfl, by decide +kernel, by decide +kernel⟩
def spLbld : Sp := fun vs H Q _ => ∃ n : Int, vs = [.int n] ∧ n.natAbs < 2 ^ 100 ∧ ∀ H', Same H H' → Q (.bl true) H'
theorem ok_lbld86 {f C CH CB CU CS : Addr} {fd : FuncData} (TT : Txt mg) (T : RulT K mg C) (TC : ChT K mg CH) (F : Fun K "_law_builds" "_law_builds" s_lbld86 f fd) (c_built : Cl P w K mg base CX0 2 "built" spBuilt) (c_ru : Ma P w K mg base 3 C (spRulI C CS)) (m_names : Me P w K mg base 1 C "names" (spRuNames C)) (m_asf : MeN P w K mg base 6 C "as_fraction" (spAsF C CU K)) (m_poss : MeN P w K mg base 7 C "possible" (spPossP C CH CU K)) (m_val : MeKw P w K mg base (L2N.CX P w) 6 C "value" 1 ["p"] (spRuVal C CB CU)) (c_every : Cm P w K mg base 5 CH "every" (spCevery CH true)) (c_eq : Me P w K mg base 1 CH "__eq__" (spCeq CH)) : FnOk P w K mg base CX0 9 f fd ["_law_n"] spLbld := by
  refine F.ok sc_lbld86 (fun vs H Q E h => ?_) (fun cdv A outer s H vs Q E hr h => ?_)
  · obtain ⟨n, rfl, _⟩ := h
    rfl
  · obtain ⟨n, rfl, hn, q⟩ := h
    refine ⟨_, (pss_cons (ps_set (i := 1) sc_lbld86.nd rfl (Or.inl rfl) (pe_cl c_built hr (pa_cons (pv 0) pa_nil)))
 (pss_cons (ps_if (pw_or (pt_not (pt_val (pe_callB call_isi (by rfl) TT.isinstance boot_isinstance (pa_cons (pv 1) (pa_cons (pe_bltn (v := .ty "str") (by rfl) TT.str boot_str rfl) pa_nil))))) (pw_or1 (pt_cmpR op_gt (pe_callB call_len_seq (by rfl) TT.len PySem.boot_len (pa_cons (pe_split (pv 1) pe_str) pa_nil)) pe_int (nomark _)))).pt (pss_one (ps_ret pe_bl)) pss_nil)
 (pss_cons (ps_if (pt_cmpR (op_neD (hu64 hr)) (pe_lc (own := [("_law_line", 2)]) (g := (gName 2)) rfl sc_lbld86.nd (pi_list (pe_split (pv 1) pe_str)) (blkOk_by (N := ["_law_n", "_law_text", "_law_line", "_law_ruler", "_law_last"]) (sc := defScope s_lbld86) (by decide +kernel)) (fun _ _ _ _ _ => (pg_name (i := 2) sc_lbld86.nd rfl (Or.inl rfl))) (fun _ _ _ _ _ => (pts_one (pt_cmpR op_eq (pe_slice sl_str (pv 2) po_none (po_some pe_int)) pe_str (nomark _)))) (fun _ _ _ _ _ => (pv 2))) (pe_lst pa_nil) (nomark _)) (pss_one (ps_ret pe_bl)) pss_nil)
 (pss_cons (ps_set (i := 3) sc_lbld86.nd rfl (Or.inl rfl) (pe_ma c_ru hr T.g (pa_cons (pv 1) pa_nil)))
 (pss_cons (ps_set (i := 4) sc_lbld86.nd rfl (Or.inl rfl) (pe_ix ix_list (pe_me0 m_names T.cl hr (pv 3) ) (pe_un un_neg pe_int) (fun _ _ => rfl)))
 (pss_cons (ps_if (pw_or (pt_cmpR (op_neD (hu64 hr)) (pe_meN m_asf T.cl hr (pv 3) (pa_cons (pv 4) pa_nil)) (pe_tup (pa_cons (pv 0) (pa_cons pe_int pa_nil))) (nomark _)) (pw_or1 (pt_not (pt_cmpR (op_eq_own c_eq hr) (pe_meN m_poss T.cl hr (pv 3) (pa_cons (pv 4) pa_nil)) (pe_cm0 c_every hr (pe_glob (v := .ref CH) (by rfl) TC.g rfl) ) (nomark _))))).pt (pss_one (ps_ret pe_bl)) pss_nil)
 (pss_one (ps_ret (pe_cmpR op_eq (pe_meKw m_val T.cl (by exact hr) (fun σ => passEN σ) (pv 3) (pa_cons (pv 4) pa_nil) (pk_cons pe_int pk_nil)) (pe_op op_mod (pe_callTy call_int1 (by rfl) TT.int boot_int (pa_cons (pv 0) pa_nil)) pe_int) (nomark _)))))))))), ?_⟩
    refine ⟨_, rfl, n, rfl, hn, fun R name G1 BL s1 => ?_⟩
    obtain ⟨B, ne, few⟩ := BL
    have rw86 := B.rows (by omega)
    have wd := fun st hst => (rw86 st hst).2
    obtain ⟨et, er⟩ := rowsW_text ne wd
    have fit := fits84 ne (by omega) rw86
    have lT : (text84 R).length + 2 ≤ sizeLine := by have := fit.l0; rw [sizeLine_eq]; omega
    refine ⟨_, rfl, _, _, _, _, true, rfl, .ty _, .base (.str _), kit_ty (by decide +kernel), _, rfl, ?_⟩
    refine iteF ?_
    refine ⟨_, rfl, ⟨_, rfl⟩, _, _, rfl, rfl, by decide +kernel, lT, fun p1 np1 => ⟨p1, _, rfl, .inl (SqL.of upd_same), _, _, rfl, rfl, _, rfl, ?_⟩⟩
    have g1 := same_upd (o := .lst ((Txt.split (text84 R) "\n").map V.str)) np1
    refine if_neg_of (decide_eq_false (by rw [et, List.length_map, List.length_map]; omega)) ?_
    refine ⟨_, rfl, ⟨_, rfl⟩, _, _, rfl, rfl, by decide +kernel, lT, fun p2 np2 => ?_⟩
    have g2 := g1.trans (same_upd (o := .lst ((Txt.split (text84 R) "\n").map V.str)) np2)
    have hp2 := upd_same (H := upd G1 p1 (.lst ((Txt.split (text84 R) "\n").map V.str))) (a := p2) (o := .lst ((Txt.split (text84 R) "\n").map V.str))
    rw [et] at hp2 g2 ⊢
    refine ⟨p2, rfl, ⟨_, SqL.of hp2⟩, fun D nD => ?_⟩
    have gD := same_upd (o := .lst []) nD
    generalize upd (upd G1 p1 _) p2 _ = G2 at *
    refine lc_it walk_list (fun i G => Same G2 G ∧ G D = some (.lst [])) ⟨gD, upd_same⟩ (fun i G _ h => SqL.of (h.1 _ _ hp2)) ?_ ?_
    · rintro i v _ G hi ⟨s2, hD⟩ ⟨rfl, hv⟩
      obtain ⟨z, rfl, hz⟩ := strAt hv
      rw [List.getElem?_map] at hz
      obtain ⟨st, hst, rfl⟩ := Option.map_eq_some_iff.mp hz
      have mst := List.mem_of_getElem? hst
      have ll := line_len (rw86 st mst).1 (wd st mst)
      refine ⟨rfl, _, rfl, 8, rfl, _, rfl, by rw [sizeLine_eq]; omega, rfl, _, rfl, ?_⟩
      exact if_neg_of (decide_eq_false (line_head (B.nq st mst))) ⟨s2, hD⟩
    · rintro G3 ⟨s3, hD⟩
      refine ⟨(by show 0 ≤ sizeLine; decide), fun p3 np3 => ?_⟩
      have g3 := same_upd (o := .lst []) np3
      refine ⟨_, _, dp_ls84 (f := PyData.str) (l := []) (g3 _ _ hD) AllS.nil, dp_ls84 (f := PyData.str) (l := []) upd_same AllS.nil, shaped_map (fun _ h => by cases h), shaped_map (fun _ h => by cases h), _, rfl, ?_⟩
      rw [eqv_map (l := []) (fun _ h => by cases h)]
      refine iteF ?_
      have s4 := g2.trans (s3.trans g3)
      generalize upd G3 p3 _ = G4 at *
      refine ⟨_, rfl, fun xr dxr nxr ndxr _ => ⟨xr, dxr, text84 R, rfl, upd_same, fit, fun R' hR' G5 ru keep => ⟨rfl, ?_⟩, fun i ws Ri o1 o2 o3 => ?_⟩⟩
      · have eR : R' = R := by
          rw [er, rdAll_rows B.wf] at hR'
          exact (Option.some.inj hR').symm
        subst eR
        have sm : Same G4 G5 := fun b o eb => keep b o (by rw [upd_ne (ne_of_none eb nxr), upd_ne (ne_of_none eb ndxr)]; exact eb) (ne_of_none eb nxr)
        obtain ⟨dru, dd, kvs0, oru, od, sa⟩ := ru.ob
        have bndR : BndR 0 R' := fun z x y e => by
          obtain ⟨h1, h2⟩ := B.bd z x y e
          have p1 : (2 : Nat) ^ 101 < 2 ^ 140 := by decide
          have p2 : 1 < (2 : Nat) ^ 140 := by decide
          subst h2
          generalize (2 : Nat) ^ 140 = T at *
          generalize (2 : Nat) ^ 101 = T2 at *
          omega
        have nq : ∀ st ∈ R', st.2.1 ≠ "quotient" := fun st hst e => by
          rcases B.nq st hst with h | h <;> rw [h] at e <;> exact absurd e (by decide)
        have zlen : name.length ≤ 1000 := by have := B.nlen (by omega); omega
        have nk : ∀ {α : Prop}, knownB (namesS R') name = false → α := fun h => absurd B.kn (by rw [h]; decide)
        have eN : ∃ ys, (namesS R').map V.str = ys ++ [V.str name] := by
          have e1 := (List.dropLast_concat_getLast ne).symm
          have e2 : R'[R'.length - 1]? = some (R'.getLast ne) := by
            rw [List.getLast_eq_getElem]
            exact List.getElem?_eq_getElem _
          have e3 := B.nms _ _ e2
          rw [← B.lst ne] at e3
          refine ⟨(namesS R'.dropLast).map V.str, ?_⟩
          have e4 : namesS R' = namesS R'.dropLast ++ [name] := by
            unfold namesS
            rw [← e3]
            conv => lhs; rw [e1]
            rw [List.map_append]
            rfl
          rw [e4, List.map_append]
          rfl
        obtain ⟨ys, eN⟩ := eN
        refine ⟨_, rfl, xr, dru, _, rfl, oru, ru_no _ (by decide +kernel), xr, R', rfl, ru, fun p np => ⟨_, rfl, p, _, _, _, rfl, rfl, SqL.of upd_same, by rw [eN]; exact at_last, ?_⟩⟩
        have gp := same_upd (o := .lst ((namesS R').map V.str)) np
        refine ⟨_, rfl, xr, dru, _, rfl, gp _ _ oru, ru_no _ (by decide +kernel), _, rfl, xr, R', name, rfl, ru.same gp, by omega, zlen, bndR, fun h => nk h, fun _ v G6 s6 fv => ?_⟩
        refine ⟨_, rfl, (by show 2 ≤ sizeLine; decide), fun tv ntv => ?_⟩
        have g7 := same_upd (o := .tup ([n, 1].map V.int)) ntv
        refine ⟨_, _, dp_fr (fv.same g7), dp_fr (o := some (n, 1)) ⟨tv, rfl, SqT.of upd_same⟩, shaped_dO _, shaped_dO _, _, rfl, ?_⟩
        have v0 : valF 0 R' name = some (n, 1) := by
          rw [B.val 0 (.inl rfl)]
          unfold redp
          rw [if_pos rfl]
        rw [eqv_dO, v0, decide_eq_true rfl]
        refine iteF ?_
        have s7 := gp.trans (s6.trans g7)
        refine ⟨_, rfl, xr, dru, _, rfl, s7 _ _ oru, ru_no _ (by decide +kernel), _, rfl, xr, R', name, rfl, ru.same s7, by omega, zlen, bndR, nq, fun h => nk h, fun _ r e l G8 ch ll mem s8 => ?_⟩
        refine ⟨rfl, rfl, fun r2 G9 ch2 s9 => ?_⟩
        obtain ⟨ee, el⟩ := chars_ext (ch.same s9) ch2 fun p hp => by
          rw [mem p hp, B.val p hp]
          rfl
        refine useEq (ch.same s9) ch2 ⟨_, rfl, ?_⟩
        rw [decide_eq_true ⟨ee, el⟩]
        refine if_neg_of rfl ?_
        have s10 := s7.trans (s8.trans s9)
        have pr7 : Pr 7 := pr_of_trial (n := 7) 2 (by decide +kernel)
        refine ⟨_, rfl, xr, dru, _, rfl, s10 _ _ oru, ru_no _ (by decide +kernel), _, rfl, rfl, rfl, xr, R', name, 7, rfl, ru.same s10, by omega, zlen, by decide, fun n => absurd pr7 n, fun _ u => nk u, fun _ _ G11 s11 => ?_⟩
        have v7 : valO (valF 7 R' name) = V.int (n % 7) := by
          rw [B.val 7 (.inr pr7)]
          unfold redp
          rw [if_neg (by decide)]
          rfl
        rw [v7]
        refine ⟨_, rfl, .inl ⟨_, rfl, _, _, rfl, rfl, (by show (0 : Int) < 7; decide), rfl, ?_⟩⟩
        rw [decide_eq_true rfl]
        exact q _ (s1.trans (s4.trans (sm.trans (s10.trans s11))))
      · exfalso
        obtain ⟨R', hR'⟩ := rdAll_take (rdAll_rows B.wf) (i + 1)
        rw [er] at o1 o2
        rw [List.take_add_one, o1] at hR'
        have z := rdAll_snoc ((R.map rowW).take i) ws
        rw [o2] at z
        have z2 : rdAll ((R.map rowW).take i ++ [ws]) = rdRow Ri ws := z
        rw [o3] at z2
        have hR2 : rdAll ((R.map rowW).take i ++ [ws]) = some R' := hR'
        rw [z2] at hR2
        cases hR2
-- part cuts
theorem cut_to {α : Type} (f : α → V) (L : List α) (k : Nat) : cutV (L.map f) none (some (k : Int)) = (L.take k).map f := by
  unfold cutV
  rw [HT.sIx_none, HT.sIx_nat, List.length_map, List.drop_zero, Nat.sub_zero, ← List.map_take]
  congr 1
  by_cases c : k ≤ L.length
  · rw [Nat.min_eq_left c]
  · rw [Nat.min_eq_right (by omega), List.take_length, List.take_of_length_le (by omega)]
theorem cut_mid {α : Type} (f : α → V) (L : List α) (a b : Nat) : cutV (L.map f) (some (a : Int)) (some (b : Int)) = ((L.drop a).take (b - a)).map f := by
  unfold cutV
  rw [HT.sIx_nat, HT.sIx_nat, List.length_map, ← List.map_drop, ← List.map_take]
  congr 1
  by_cases c : a ≤ L.length
  · rw [Nat.min_eq_left c]
    by_cases d : b ≤ L.length
    · rw [Nat.min_eq_left d]
    · rw [Nat.min_eq_right (by omega), List.take_of_length_le (by rw [List.length_drop]; exact Nat.le_refl _), List.take_of_length_le (by rw [List.length_drop]; omega)]
  · rw [Nat.min_eq_right (show L.length ≤ a by omega), List.drop_length, List.drop_eq_nil_of_le (show L.length ≤ a by omega), List.take_nil, List.take_nil]
-- part cutn
theorem cutV_to (xs : List V) (k : Nat) : cutV xs none (some (k : Int)) = xs.take k := by
  have := cut_to id xs k
  rwa [List.map_id, List.map_id] at this
theorem cutV_from (xs : List V) (k : Nat) : cutV xs (some (k : Int)) none = xs.drop k := by
  unfold cutV
  rw [HT.sIx_none, HT.sIx_nat]
  by_cases c : k ≤ xs.length
  · rw [Nat.min_eq_left c, List.take_of_length_le (by rw [List.length_drop]; exact Nat.le_refl _)]
  · rw [Nat.min_eq_right (show xs.length ≤ k by omega), List.drop_length, List.drop_eq_nil_of_le (show xs.length ≤ k by omega), List.take_nil]
-- part repS
/-! a text times a number -/
def repStr (x : Str) (n : Int) : Str := ⟨(List.replicate n.toNat x.cps).foldl (· ++ ·) #[]⟩
theorem repStr_one (x : Str) : repStr x 1 = x := by
  show (⟨#[] ++ x.cps⟩ : Str) = x
  rw [Array.empty_append]
theorem foldl_rep_size (x : Array CodePoint) : ∀ (m : Nat) (a : Array CodePoint), ((List.replicate m x).foldl (· ++ ·) a).size = a.size + m * x.size
  | 0, a => by simp
  | m + 1, a => by
    rw [List.replicate_succ, List.foldl_cons, foldl_rep_size x m, Array.size_append, Nat.succ_mul]
    omega
theorem repStr_len (z : Str) (n : Int) : (repStr z n).length = z.length * n.toNat := by
  show ((List.replicate n.toNat z.cps).foldl (· ++ ·) #[]).size = _
  rw [foldl_rep_size]
  show 0 + n.toNat * z.length = _
  rw [Nat.zero_add, Nat.mul_comm]
section
variable {X : Cx}
def rRepS : R2 := fun x y H Q => ∃ (z : Str) (n : Int), x = .str z ∧ y = .int n ∧ 1 ≤ n ∧ n ≤ 1000 ∧ z.length ≠ 0 ∧ z.length ≤ 1000 ∧ Q (.str (repStr z n)) H
theorem op_repS : OpR X (binaryOp .Mult) rRepS := by
  intro pins s σ H x y v u Q I rx ry h
  obtain ⟨z, n, rfl, rfl, n1, n2, z1, z2, q⟩ := h
  obtain ⟨t, rfl⟩ := rx
  obtain ⟨t', rfl⟩ := ry
  refine PySem.P.mul_str ?_ (fun _ _ => ?_) (fun _ _ => ?_) ?_
  · rw [decide_eq_false (by omega), decide_eq_false (by omega)] <;> rfl
  · intro g
    have e1 : (2 ^ 63 - 1 : Int) / 1000 ≤ (2 ^ 63 - 1) / n := by
      refine Int.le_ediv_of_mul_le (by omega) ?_
      have e3 : (2 ^ 63 - 1 : Int) / 1000 * n ≤ (2 ^ 63 - 1 : Int) / 1000 * 1000 := Int.mul_le_mul_of_nonneg_left n2 (by decide)
      have e4 : (2 ^ 63 - 1 : Int) / 1000 * 1000 ≤ 2 ^ 63 - 1 := by decide
      omega
    have e2 : (1000 : Int) ≤ (2 ^ 63 - 1) / 1000 := by decide
    omega
  · have hm : z.length * n.toNat ≤ 1000 * 1000 := Nat.mul_le_mul z2 (by omega)
    unfold Builtin.Str.tooLong
    rw [sizeLine_eq]
    exact decide_eq_false (by omega)
  · rw [if_neg (by omega)]
    by_cases c : n = 1
    · subst c
      rw [if_pos (by simp)]
      rw [repStr_one] at q
      exact ⟨.str z, H, I, ⟨_, rfl⟩, q⟩
    · rw [if_neg (by simp [c, z1])]
      have hs := repStr_len z n
      have hm : z.length * n.toNat ≤ 1000 * 1000 := Nat.mul_le_mul z2 (by omega)
      exact ⟨by show (repStr z n).length ≤ sizeLine; rw [hs, sizeLine_eq]; omega, .str (repStr z n), H, I.tok _, ⟨_, rfl⟩, q⟩
end
-- part k86a
/-! lines of words -/
def chr6 (i : Nat) : Str := ⟨#[97 + i]⟩
def nm6 (i k : Nat) : Str := repStr (chr6 i) ((2 + 2 * k : Nat) : Int)
def menu6 : List Str := ["sum", "zero", "one", "a", "b", "", "product", "Sum", "quotient", "opposite", "abcdefghi", "x1", "z"]
def WS : List Str := menu6 ++ (List.range 11).flatMap fun i => (List.range 4).map fun k => nm6 i k
def WdP (z : Str) : Bool := decide (z.length ≤ 11) && (TL.tl z).all (fun c => decide (33 ≤ c)) && PyData.strOk z && ((nameB z && Txt.islower z) == (!decide (z = "") && decide (z.length ≤ 8) && (TL.tl z).all fun c => decide (c ∈ letters.cps.toList)))
theorem ws_all : ∀ z ∈ WS, WdP z = true := by decide +kernel
theorem ws_ok {z : Str} (h : z ∈ WS) : z.length ≤ 11 ∧ (∀ c ∈ TL.tl z, 33 ≤ c) ∧ PyData.strOk z = true ∧ (nameB z && Txt.islower z) = (!decide (z = "") && decide (z.length ≤ 8) && (TL.tl z).all fun c => decide (c ∈ letters.cps.toList)) := by
  have w := ws_all z h
  unfold WdP at w
  simp only [Bool.and_eq_true] at w
  obtain ⟨⟨⟨h1, h2⟩, h3⟩, h4⟩ := w
  exact ⟨of_decide_eq_true h1, fun c hc => of_decide_eq_true (List.all_eq_true.mp h2 c hc), h3, eq_of_beq h4⟩
def linesS (L : List (List Str)) : List Str := L.map (Txt.join " ")
structure GoodW (m : Nat) (ws : List Str) : Prop where
  ne : ws ≠ []
  few : ws.length ≤ m
  ws : ∀ z ∈ ws, z ∈ WS
def GoodL (n m : Nat) (L : List (List Str)) : Prop := L.length ≤ n ∧ ∀ ws ∈ L, GoodW m ws
theorem GoodW.split {m : Nat} {ws : List Str} (h : GoodW m ws) : Txt.split (Txt.join " " ws) " " = ws :=
  TL.split_join (s := 32) (S := []) wd_sp (by decide +kernel) h.ne fun p hp c => by
    have := (ws_ok (h.ws p hp)).2.1 32 c
    omega
theorem GoodW.len {m : Nat} {ws : List Str} (h : GoodW m ws) : (Txt.join " " ws).length ≤ m * 12 := by
  have z := join_ln (y := " ") (k := 11) (ps := ws) fun p hp => (ws_ok (h.ws p hp)).1
  have e : (" " : Str).length = 1 := by decide +kernel
  rw [e] at z
  have := Nat.mul_le_mul_right 12 h.few
  omega
theorem GoodW.nl {m : Nat} {ws : List Str} (h : GoodW m ws) : 10 ∉ TL.tl (Txt.join " " ws) := fun c => by
  rw [TL.join_eq, TL.tl_join] at c
  rcases joinL_mem c with c | ⟨p, hp, hc⟩
  · rw [wd_sp] at c
    exact absurd (List.mem_singleton.mp c) (by decide)
  · obtain ⟨x, hx, rfl⟩ := List.mem_map.mp hp
    have := (ws_ok (h.ws x hx)).2.1 10 hc
    omega
/-- where the first line stands that is no step, or -1 -/
def fltAt : List (List Str) → List Stp → Nat → Int
  | [], _, _ => -1
  | ws :: r, R, i => match rdRow R ws with
    | some R' => fltAt r R' (i + 1)
    | none => (i : Int)
def fltS (L : List (List Str)) : Int := fltAt L [] 0
theorem fltAt_run {L : List (List Str)} : ∀ {i : Nat} {R : List Stp}, rdAll (L.take i) = some R → i ≤ L.length → fltS L = fltAt (L.drop i) R i
  | 0, R, h, _ => by
    have h : some ([] : List Stp) = some R := h
    cases h
    rfl
  | i + 1, R, h, hi => by
    have e := List.getElem?_eq_getElem (l := L) (i := i) (by omega)
    have h1 := h
    rw [List.take_add_one, e] at h1
    have h2 : rdAll (L.take i ++ [L[i]]) = some R := h1
    rw [rdAll_snoc] at h2
    cases q : rdAll (L.take i) with
    | none => rw [q] at h2; cases h2
    | some Ri =>
      rw [q] at h2
      have h3 : rdRow Ri L[i] = some R := h2
      rw [fltAt_run q (by omega), List.drop_eq_getElem_cons (by omega)]
      show (match rdRow Ri L[i] with | some R' => fltAt (L.drop (i + 1)) R' (i + 1) | none => (i : Int)) = _
      rw [h3]
theorem fltS_all {L : List (List Str)} {R : List Stp} (h : rdAll L = some R) : fltS L = -1 := by
  rw [fltAt_run (i := L.length) (R := R) (by rw [List.take_length]; exact h) (Nat.le_refl _), List.drop_length] <;> rfl
theorem fltS_at {L : List (List Str)} {i : Nat} {ws : List Str} {R : List Stp} (h1 : L[i]? = some ws) (h2 : rdAll (L.take i) = some R) (h3 : rdRow R ws = none) : fltS L = (i : Int) := by
  obtain ⟨hi, e⟩ := List.getElem?_eq_some_iff.mp h1
  rw [fltAt_run h2 (by omega), List.drop_eq_getElem_cons hi, e]
  show (match rdRow R ws with | some R' => fltAt (L.drop (i + 1)) R' (i + 1) | none => (i : Int)) = _
  rw [h3]
def kv6 : List (Key × V) := [(Sum.inr "sum", .int 4), (Sum.inr "product", .int 4), (Sum.inr "quotient", .int 4), (Sum.inr "opposite", .int 3)]
theorem merge6 : mergeK [] kv6 = kv6 := rfl
theorem many6 (z : Str) : (valV kv6 (Sum.inr z : Key)).getD (V.int 0) = V.int (match tksS z with | some k => (k : Int) + 2 | none => 0) := by
  have ne : ∀ {y : Str}, ¬ z = y → ¬ ((Sum.inr y : Key) = Sum.inr z) := fun h e => h (Sum.inr.inj e).symm
  unfold kv6 tksS
  by_cases a : z = "sum"
  · subst a
    rw [valV_pos rfl, if_pos rfl] <;> rfl
  · rw [valV_neg (ne a), if_neg a]
    by_cases b : z = "product"
    · subst b
      rw [valV_pos rfl, if_pos rfl] <;> rfl
    · rw [valV_neg (ne b), if_neg b]
      by_cases c : z = "quotient"
      · subst c
        rw [valV_pos rfl, if_pos rfl] <;> rfl
      · rw [valV_neg (ne c), if_neg c]
        by_cases d : z = "opposite"
        · subst d
          rw [valV_pos rfl, if_pos rfl] <;> rfl
        · rw [valV_neg (ne d), if_neg d] <;> rfl
theorem inV_strs (p : Str) : ∀ l : List Str, inV (.str p) (l.map V.str) = decide (p ∈ l)
  | [] => rfl
  | a :: l => by
    show (eqV (.str a) (.str p) || inV (.str p) (l.map V.str)) = _
    rw [inV_strs p l, Bool.eq_iff_iff, Bool.or_eq_true, decide_eq_true_iff, decide_eq_true_iff, List.mem_cons]
    have e : eqV (.str a) (.str p) = decide (a = p) := rfl
    rw [e, decide_eq_true_iff]
    exact ⟨fun h => h.imp Eq.symm id, fun h => h.imp Eq.symm id⟩
theorem all_flatS (l : List Str) : (l.map V.str).all flatV = true := by
  rw [List.all_map]
  exact List.all_eq_true.mpr fun _ _ => rfl
theorem known6 (ns : List Str) (z : Str) : decide (z ∈ gvnS ++ ns) = knownB ns z := by
  unfold knownB
  rw [← Bool.decide_or]
  exact decide_eq_decide.mpr List.mem_append
theorem tks12 {z : Str} {k : Nat} (h : tksS z = some k) : k = 1 ∨ k = 2 := by
  unfold tksS at h
  split at h
  · exact .inr (Option.some.inj h).symm
  · split at h
    · exact .inr (Option.some.inj h).symm
    · split at h
      · exact .inr (Option.some.inj h).symm
      · split at h
        · exact .inl (Option.some.inj h).symm
        · cases h
theorem stepB_none {w : Str} {r ns : List Str} (h : tksS w = none) : stepB (w :: r) ns = false := by
  cases r with
  | nil => rfl
  | cons n r => rw [stepB_cons, h]
theorem stepB_some {w n : Str} {r ns : List Str} {k : Nat} (h : tksS w = some k) : stepB (w :: n :: r) ns = (!(knownB ns n) && nameB n && Txt.islower n && decide (r.length = k) && r.all (knownB ns)) := by rw [stepB_cons, h]
theorem rdRow_no {R : List Stp} {ws : List Str} (h : stepB ws (namesS R) = false) : rdRow R ws = none := by
  unfold rdRow
  rw [if_neg (by rw [h]; decide)]
theorem rdRow_yes {R : List Stp} {w n : Str} {r : List Str} (h : stepB (w :: n :: r) (namesS R) = true) : rdRow R (w :: n :: r) = some (R ++ [(n, w, r)]) := by
  unfold rdRow
  rw [if_pos h]
  rfl
theorem eqv_nil (F : List Str) : PyData.eqv (.list (F.map PyData.str)) (.list (([] : List Str).map PyData.str)) = F.isEmpty := by
  cases F with
  | nil => exact eqv_map (l := []) (fun _ h => by cases h)
  | cons y ys =>
    show PyData.eqv (.list (.str y :: ys.map PyData.str)) (.list []) = false
    simp [PyData.eqv, PyData.eqvAll]
theorem rdAll_next {L : List (List Str)} {i : Nat} {ws : List Str} {R R' : List Stp} (h1 : L[i]? = some ws) (h2 : rdAll (L.take i) = some R) (h3 : rdRow R ws = some R') : rdAll (L.take (i + 1)) = some R' := by
  rw [List.take_add_one, h1]
  show rdAll (L.take i ++ [ws]) = _
  rw [rdAll_snoc, h2]
  exact h3
abbrev s_lflt86 : Stmt := top 42
theorem sc_lflt86 : FnScope ["_law_lines", "_law_names", "_law_at", "_law_words", "_law_many", "_law_mark", "_law_name"] ["_law_lines"] (defScope s_lflt86) := ⟨rfl, rfl, rfl, by decide +kernel, rfl, by decide +kernel, by decide +kernel⟩
def spLflt (K : PySem.W.Frag) : Sp := fun vs H Q _ => ∃ (a : Addr) (L : List (List Str)), vs = [.ref a] ∧ SqL K H a ((linesS L).map V.str) ∧ GoodL 20 20 L ∧ ∀ H', Same H H' → Q (.int (fltS L)) H'
theorem ok_lflt86 {f : Addr} {fd : FuncData} (T : Txt mg) (n_all : mg "all" = none) (F : Fun K "_law_fault" "_law_fault" s_lflt86 f fd) : FnOk P w K mg base CX0 1 f fd ["_law_lines"] (spLflt K) := by
  refine F.ok sc_lflt86 (fun vs H Q E h => ?_) (fun cdv A outer s H vs Q E hr h => ?_)
  · obtain ⟨a, L, rfl, _⟩ := h
    rfl
  · obtain ⟨a, L, rfl, hS, ⟨nl, gl⟩, q⟩ := h
    refine ⟨_, (pss_cons (ps_set (i := 1) sc_lflt86.nd rfl (Or.inr rfl) (pe_lst (pa_cons pe_str (pa_cons pe_str pa_nil))))
 (pss_cons (ps_for PassesOwn.never rfl (pi_range1 rfl T.range (pa_cons (pe_callB call_len_seq (by rfl) T.len PySem.boot_len (pa_cons (pv 0) pa_nil)) pa_nil)) (pg_name (i := 2) sc_lflt86.nd rfl (Or.inl rfl)) (pss_cons (ps_set (i := 3) sc_lflt86.nd rfl (Or.inl rfl) (pe_split (pe_ix ix_list (pv 0) (pv 2) (fun _ _ => rfl)) pe_str))
 (pss_cons (ps_set (i := 4) sc_lflt86.nd rfl (Or.inl rfl) (pe_dget2 (by exact hu1 hr) (pe_disp (pps_cons pe_str pe_int (pps_cons pe_str pe_int (pps_cons pe_str pe_int (pps_cons pe_str pe_int pps_nil)))) (by rfl) (by rfl) (List.cons_ne_nil _ _) (by decide)) (pe_ix ix_list (pv 3) pe_int (fun _ _ => rfl)) pe_int ⟨rfl, rfl, rfl, rfl⟩))
 (pss_cons (ps_if (pw_or (pt_cmpR op_ne (pe_callB call_len_seq (by rfl) T.len PySem.boot_len (pa_cons (pv 3) pa_nil)) (pv 4) (nomark _)) (pw_or (pt_cmpR op_in_seq (pe_ix ix_list (pv 3) pe_int (fun _ _ => rfl)) (pv 1) (by with_unfolding_all rfl)) (pw_or (pt_cmpR op_eq (pe_ix ix_list (pv 3) pe_int (fun _ _ => rfl)) pe_str (nomark _)) (pw_or1 (pt_cmpR op_gt (pe_callB call_len_str (by rfl) T.len PySem.boot_len (pa_cons (pe_ix ix_list (pv 3) pe_int (fun _ _ => rfl)) pa_nil)) pe_int (nomark _)))))).pt (pss_one (ps_ret (pv 2))) pss_nil)
 (pss_cons (ps_if (pt_not (pt_val (pe_callB (cr_all rfl) (by rfl) n_all (by decide +kernel) (pa_cons (pe_lc (own := [("_law_mark", 5)]) (g := (gName 5)) (tt := tYes) rfl sc_lflt86.nd (pi_str (pe_ix (r := rIxL K) (by exact ix_list) (pv 3) pe_int (fun _ _ => rfl))) (blkOk_by (N := ["_law_lines", "_law_names", "_law_at", "_law_words", "_law_many", "_law_mark", "_law_name"]) (sc := defScope s_lflt86) (by decide +kernel)) (fun _ _ _ _ _ => (pg_name (i := 5) sc_lflt86.nd rfl (Or.inl rfl))) (fun _ _ _ _ _ => pts_nil) (fun _ _ _ _ _ => (pe_cmpR op_in_sign (pv 5) pe_str (by with_unfolding_all rfl)))) pa_nil)))) (pss_one (ps_ret (pv 2))) pss_nil)
 (pss_cons (ps_if (pt_cmpR (op_neD (hu64 hr)) (pe_lc (own := [("_law_name", 6)]) (g := (gName 6)) rfl sc_lflt86.nd (pi_list (pe_slice sl_list (pv 3) (po_some pe_int) po_none)) (blkOk_by (N := ["_law_lines", "_law_names", "_law_at", "_law_words", "_law_many", "_law_mark", "_law_name"]) (sc := defScope s_lflt86) (by decide +kernel)) (fun _ _ _ _ _ => (pg_name (i := 6) sc_lflt86.nd rfl (Or.inl rfl))) (fun _ _ _ _ _ => (pts_one (pt_cmpR (r := rIn K true) (by exact op_notIn_seq) (pv 6) (pv 1) (by with_unfolding_all rfl)))) (fun _ _ _ _ _ => (pv 6))) (pe_lst pa_nil) (nomark _)) (pss_one (ps_ret (pv 2))) pss_nil)
 (pss_one (ps_expr (pe_bm PySem.F.plainAttrs_list PySem.F.slot_list_append PySem.F.type_list_append mt_append (pv 1) (pa_cons (pe_ix ix_list (pv 3) pe_int (fun _ _ => rfl)) pa_nil))))))))))
 (pss_one (ps_ret (pe_un un_neg pe_int))))), ?_⟩
    have lL : ((linesS L).map V.str).length = L.length := by unfold linesS; rw [List.length_map, List.length_map]
    refine ⟨(by show 2 ≤ sizeLine; decide), fun N nN => ?_⟩
    have gN := same_upd (o := .lst [.str "zero", .str "one"]) nN
    refine ⟨_, rfl, a, _, rfl, .inl (gN.seq hS), _, rfl, (by omega), (by omega), ?_⟩
    refine for_range (lo := 0) (n := _) (fun i σ G => ∃ (R : List Stp) (x2 x3 x4 x5 x6 : Option V), σ = [some (.ref a), some (.ref N), x2, x3, x4, x5, x6] ∧ Same H G ∧ G N = some (.lst ((gvnS ++ namesS R).map V.str)) ∧ rdAll (L.take i) = some R ∧ R.length = i) ⟨[], none, none, none, none, none, rfl, gN, upd_same, rfl, rfl⟩ ?_ ?_
    · rintro i σ G hi ⟨R, x2, x3, x4, x5, x6, rfl, s1, hN, hR, lR⟩
      have hi : i < L.length := by
        have hi' : i < ((linesS L).map V.str).length := by simpa using hi
        rwa [lL] at hi'
      have hLi := List.getElem?_eq_getElem hi
      generalize eW : L[i] = ws at hLi
      have gw := gl ws (List.mem_of_getElem? hLi)
      have lw := gw.len
      have at_i : atI ((linesS L).map V.str) (0 + (i : Int)) = some (V.str (Txt.join " " ws)) := by
        rw [Int.zero_add]
        unfold linesS
        rw [List.map_map]
        exact atI_nat (map_at (f := V.str ∘ Txt.join " ") hLi)
      have no : stepB ws (namesS R) = false → ∀ G', Same H G' → Q (.int (0 + (i : Int))) G' := fun e G' s => by
        have z := q G' s
        rw [fltS_at hLi hR (rdRow_no e)] at z
        rw [Int.zero_add]
        exact z
      refine ⟨_, rfl, _, rfl, a, _, _, _, rfl, rfl, s1.seq hS, at_i, ⟨_, rfl⟩, _, _, rfl, rfl, by decide +kernel, by rw [sizeLine_eq]; omega, fun p np => ?_⟩
      rw [gw.split]
      have gp := same_upd (o := .lst (ws.map V.str)) np
      have hN := gp _ _ hN
      have s1 := s1.trans gp
      have hp : upd G p (.lst (ws.map V.str)) p = some (.lst (ws.map V.str)) := upd_same
      clear np gp
      generalize upd G p (.lst (ws.map V.str)) = G1 at *
      obtain ⟨w0, r0, rfl⟩ : ∃ w0 r0, ws = w0 :: r0 := by
        cases ws with
        | nil => exact absurd rfl gw.ne
        | cons w r => exact ⟨w, r, rfl⟩
      refine fun D nD => ⟨upd_same, kv6, rfl, by decide, D, rfl, .inl ⟨_, .inl upd_same⟩, _, rfl, p, (w0 :: r0).map V.str, 0, .str w0, rfl, rfl, SqL.of ?_, atI_nat (j := 0) rfl, _, DGet.k (k := Sum.inr w0) upd_same, ?_⟩
      · rw [upd_upd, upd_ne (ne_of_none hp nD)]
        exact hp
      rw [merge6, many6, upd_upd]
      have gD := same_upd (o := .dK kv6) nD
      have hN := gD _ _ hN
      have hp := gD _ _ hp
      have s1 := s1.trans gD
      clear nD gD
      generalize upd G1 D (.dK kv6) = G2 at *
      refine ⟨_, rfl, p, _, rfl, .inl (SqL.of hp), _, rfl, rfl, _, rfl, ?_⟩
      have ll : ((w0 :: r0).map V.str).length = r0.length + 1 := by rw [List.length_map] <;> rfl
      rw [ll]
      cases tk : tksS w0 with
      | none =>
        refine if_pos_of (show (!decide (V.int ((r0.length + 1 : Nat) : Int) = V.int 0)) = true from by rw [decide_eq_false (fun e => by have := V.int.inj e; omega)]; rfl) (if_pos_of rfl ⟨_, rfl, no (stepB_none tk) _ s1⟩)
      | some k =>
        have k12 := tks12 tk
        by_cases cl : r0.length = k + 1
        · refine if_neg_of (by rw [decide_eq_true (congrArg V.int (show ((r0.length + 1 : Nat) : Int) = (k : Int) + 2 by omega))]; decide) ?_
          obtain ⟨nm, r, rfl⟩ : ∃ nm r, r0 = nm :: r := by
            cases r0 with
            | nil => cases cl
            | cons w r => exact ⟨w, r, rfl⟩
          have lr : r.length = k := Nat.succ.inj cl
          have sB := stepB_some (n := nm) (r := r) (ns := namesS R) tk
          have hnm := gw.ws nm (by simp)
          obtain ⟨z1, z2, z3, z4⟩ := ws_ok hnm
          have at1 : atI ((w0 :: nm :: r).map V.str) 1 = some (V.str nm) := atI_nat (j := 1) rfl
          refine ⟨_, rfl, p, _, 1, .str nm, rfl, rfl, SqL.of hp, at1, _, rfl, N, _, rfl, .inl (SqL.of hN), rfl, all_flatS _, ?_⟩
          rw [if_neg (by decide), inV_strs, known6]
          cases kn : knownB (namesS R) nm with
          | true => exact ⟨_, rfl, if_pos_of rfl (if_pos_of rfl ⟨_, rfl, no (by rw [sB, kn]; rfl) _ s1⟩)⟩
          | false =>
            rw [kn, Bool.not_false, Bool.true_and, z4] at sB
            refine ⟨_, rfl, if_neg_of (by decide) ⟨_, rfl, p, _, 1, .str nm, rfl, rfl, SqL.of hp, at1, rfl, _, rfl, ?_⟩⟩
            by_cases ce : nm = ""
            · exact if_pos_of (by rw [ce]; exact decide_eq_true rfl) (if_pos_of rfl ⟨_, rfl, no (by rw [sB, decide_eq_true ce]; rfl) _ s1⟩)
            · refine if_neg_of (by rw [decide_eq_false (fun e => ce (V.str.inj e))]) ⟨_, rfl, p, _, 1, .str nm, rfl, rfl, SqL.of hp, at1, nm, rfl, by rw [sizeLine_eq]; omega, _, _, rfl, rfl, _, rfl, ?_⟩
              rw [decide_eq_false ce, Bool.not_false, Bool.true_and] at sB
              by_cases c8 : nm.length ≤ 8
              · refine if_neg_of (by rw [decide_eq_false (by omega)]) ?_
                rw [decide_eq_true c8, Bool.true_and] at sB
                refine ⟨_, rfl, p, _, 1, .str nm, rfl, rfl, SqL.of hp, at1, nm, rfl, fun D nD => lcMap walk_str (((TL.tl nm).map fun c => decide (c ∈ letters.cps.toList)).map V.bl) (by rw [List.length_map, List.length_map]; exact Array.length_toList) nD (fun _ _ => trivial) ?_ ?_⟩
                · rintro i x H3 H4 hi s3 hD3 ⟨rfl, c, hc, rfl⟩
                  have hc' : (TL.tl nm)[i]? = some c := by
                    show nm.cps.toList[i]? = some c
                    rw [Array.getElem?_toList]
                    exact hc
                  refine ⟨rfl, _, rfl, c, _, rfl, rfl, ?_⟩
                  exact mapEnd nD (by rw [List.length_map, List.length_map]; have := tl_len nm; omega) s3 hD3 (map_at (f := V.bl) (by rw [List.getElem?_map, hc'] <;> rfl))
                · intro H3 s3 hD3
                  refine ⟨D, _, rfl, SqL.of hD3, _, rfl, ?_⟩
                  have ea : (((TL.tl nm).map fun c => decide (c ∈ letters.cps.toList)).all id) = (TL.tl nm).all fun c => decide (c ∈ letters.cps.toList) := by
                    rw [List.all_map]
                    rfl
                  rw [ea]
                  have hp := s3 _ _ hp
                  have hN := s3 _ _ hN
                  have s1 := s1.trans s3
                  cases al : (TL.tl nm).all fun c => decide (c ∈ letters.cps.toList) with
                  | false =>
                    refine if_pos_of rfl ?_
                    exact ⟨_, rfl, no (by rw [sB, al]; rfl) _ s1⟩
                  | true =>
                    rw [al, Bool.true_and, decide_eq_true lr, Bool.true_and] at sB
                    refine if_neg_of (by decide) ?_
                    refine ⟨_, rfl, _, rfl, p, _, rfl, SqL.of hp, fun l nl2 => ?_⟩
                    have ecut : cutV ((w0 :: nm :: r).map V.str) (some 2) none = r.map V.str := cutV_from _ 2
                    rw [ecut]
                    have gl2 := same_upd (o := .lst (r.map V.str)) nl2
                    have hl : upd H3 l (.lst (r.map V.str)) l = some (.lst (r.map V.str)) := upd_same
                    have hp := gl2 _ _ hp
                    have hN := gl2 _ _ hN
                    have s1 := s1.trans gl2
                    generalize upd H3 l (.lst (r.map V.str)) = G4 at *
                    refine ⟨l, rfl, ⟨_, SqL.of hl⟩, fun E1 nE => lc_it walk_list (fun j G' => Same G4 G' ∧ G' E1 = some (.lst (((r.take j).filter fun z => !knownB (namesS R) z).map V.str))) ⟨same_upd nE, upd_same⟩ (fun j G' _ h => SqL.of (h.1 _ _ hl)) ?_ ?_⟩
                    · rintro j x _ G' hj ⟨s4, hE⟩ ⟨rfl, hx⟩
                      obtain ⟨y, rfl, hy⟩ := strAt hx
                      have tky : r.take (j + 1) = r.take j ++ [y] := by rw [List.take_add_one, hy] <;> rfl
                      refine ⟨rfl, _, rfl, _, rfl, N, _, rfl, .inl (SqL.of (s4 _ _ hN)), rfl, all_flatS _, ?_⟩
                      rw [if_pos rfl, inV_strs, known6]
                      refine ⟨_, rfl, ?_⟩
                      cases ky : knownB (namesS R) y with
                      | true =>
                        refine if_neg_of (by decide) ⟨s4, ?_⟩
                        rw [tky, List.filter_append, List.filter_cons, ky]
                        have e : (r.take j).filter (fun z => !knownB (namesS R) z) ++ ([] : List Str).filter (fun z => !knownB (namesS R) z) = (r.take j).filter (fun z => !knownB (namesS R) z) := List.append_nil _
                        exact hE.trans (congrArg (fun l : List Str => some (HO.lst (l.map V.str))) e.symm)
                      | false =>
                        refine if_pos_of rfl ?_
                        refine ⟨_, rfl, _, hE, ?_, fun b o hb => ?_, ?_⟩
                        · have h1 := List.length_filter_le (fun z => !knownB (namesS R) z) (r.take j)
                          rw [List.length_take] at h1
                          rw [List.length_map, sizeLine_eq]
                          omega
                        · rw [upd_ne (ne_of_none hb nE)]
                          exact s4 b o hb
                        · rw [tky, List.filter_append, List.filter_cons, ky, List.map_append]
                          exact upd_same
                    · rintro G5 ⟨s5, hE⟩
                      rw [List.length_map, List.take_length] at hE
                      refine ⟨(by show 0 ≤ sizeLine; decide), fun p3 np3 => ?_⟩
                      have g3 := same_upd (o := .lst []) np3
                      have okF : ∀ z ∈ (r.filter fun z => !knownB (namesS R) z), (PyData.str z).canLay0 = true ∧ (PyData.str z).depth ≤ 9 := fun z hz => ok_dS (ws_ok (gw.ws z (by
                        have := (List.mem_filter.mp hz).1
                        simp [this]))).2.2.1
                      refine ⟨_, _, dp_ls84 (f := PyData.str) (g3 _ _ hE) (allS_map fun z _ => .str z), dp_ls84 (f := PyData.str) (l := []) upd_same AllS.nil, shaped_map okF, shaped_map (fun _ h => by cases h), _, rfl, ?_⟩
                      have s1 := s1.trans (s5.trans g3)
                      have hp := g3 _ _ (s5 _ _ hp)
                      have hN := g3 _ _ (s5 _ _ hN)
                      generalize upd G5 p3 _ = G6 at *
                      rw [eqv_nil]
                      cases eF : (r.filter fun z => !knownB (namesS R) z).isEmpty with
                      | false =>
                        refine if_pos_of rfl ?_
                        refine ⟨_, rfl, no ?_ _ s1⟩
                        rw [sB, List.all_eq_false]
                        obtain ⟨y, ys, eF⟩ : ∃ y ys, (r.filter fun z => !knownB (namesS R) z) = y :: ys := by
                          cases h : r.filter fun z => !knownB (namesS R) z with
                          | nil => rw [h] at eF; cases eF
                          | cons y ys => exact ⟨y, ys, rfl⟩
                        have my : y ∈ r.filter fun z => !knownB (namesS R) z := by rw [eF]; exact List.mem_cons_self
                        obtain ⟨h1, h2⟩ := List.mem_filter.mp my
                        refine ⟨y, h1, fun h => ?_⟩
                        rw [h] at h2
                        cases h2
                      | true =>
                        refine if_neg_of (by decide) ?_
                        have all : r.all (knownB (namesS R)) = true := List.all_eq_true.mpr fun y hy => by
                          have h1 := List.filter_eq_nil_iff.mp (List.isEmpty_iff.mp eF) y hy
                          cases h : knownB (namesS R) y
                          · rw [h] at h1; exact absurd rfl h1
                          · rfl
                        rw [all] at sB
                        refine ⟨_, rfl, .inl ⟨rfl, _, SqL.of hN⟩, _, rfl, p, _, 1, _, rfl, rfl, SqL.of hp, at1, N, _, _, rfl, rfl, hN, ?_, ?_⟩
                        · have : (namesS R).length = R.length := by unfold namesS; rw [List.length_map]
                          rw [List.length_map, List.length_append, this, sizeLine_eq]
                          show 2 + R.length < _
                          omega
                        · refine ⟨R ++ [(nm, w0, r)], _, _, _, _, _, rfl, fun b o hb => ?_, ?_, rdAll_next hLi hR (rdRow_yes sB), by rw [List.length_append, lR]; rfl⟩
                          · rw [upd_ne (ne_of_none hb nN)]
                            exact s1 b o hb
                          · rw [upd_same]
                            unfold namesS
                            simp only [List.map_append, List.append_assoc, List.map_cons, List.map_nil]
              · refine if_pos_of (decide_eq_true (by omega)) ?_
                exact ⟨_, rfl, no (by rw [sB, decide_eq_false c8]; rfl) _ s1⟩
        · refine if_pos_of (show (!decide (V.int ((r0.length + 1 : Nat) : Int) = V.int ((k : Int) + 2))) = true from by rw [decide_eq_false (fun e => by have := V.int.inj e; omega)]; rfl) (if_pos_of rfl ⟨_, rfl, no ?_ _ s1⟩)
          cases r0 with
          | nil => rfl
          | cons n r =>
            rw [stepB_some tk, decide_eq_false (fun e => cl (by rw [← e]; rfl)), Bool.and_false]
            rfl
    · rintro σ G ⟨R, x2, x3, x4, x5, x6, rfl, s1, hN, hR, lR⟩
      have e : ((((linesS L).map V.str).length : Int)).toNat = L.length := by rw [lL]; omega
      rw [e, List.take_length] at hR
      have z := q G s1
      rw [fltS_all hR] at z
      exact ⟨_, rfl, z⟩
-- part tryas
/-! try .. except A as n: .. except B as m: .. (exceptions whose context is None) -/
/-- the suite's wish, its name's place filled before and emptied behind -/
def gone (i : Nat) (ts : Addr → Value → Option Addr → TS) : Addr → Value → Option Addr → TS := fun a cls d D σ H =>
  ts a cls d { nx := fun τ G => D.nx (τ.set i none) G, rt := D.rt, bk := fun τ G => D.bk (τ.set i none) G, ct := fun τ G => D.ct (τ.set i none) G } (σ.set i (some (.ref a))) H
abbrev Clauses := List (Value × (Addr → Value → Option Addr → TS))
inductive HAs (X : Cx) : List ExceptHandler → Clauses → Prop
  | none : HAs X [] []
  | more {x n : Str} {i : Nat} {c : Value} {ts : Addr → Value → Option Addr → TS} {b0 : Stmt} {bs : List Stmt} {q1 q2 : Pos} {rest : List ExceptHandler} {l : Clauses}
      (place : X.N[i]? = some n) (isLocal : X.env.kindOf n = some .local) (named : Names X x c)
      (su : ∀ (a : Addr) (oe : Obj) (cls : Value) (d : Option Addr) (pn : List (Addr × Obj)), L2N.Zn cls d oe → (∃ vs, oe.data = .fields vs) → PSs (X.suite a ((a, oe) :: pn)) (b0 :: bs) (ts a cls d)) (others : HAs X rest l) :
      HAs X (.ExceptHandler (some (.Name x q1)) (some n) (b0 :: bs) q2 :: rest) ((c, gone i ts) :: l)
  | plain {x : Str} {c : Value} {ts : Addr → Value → Option Addr → TS} {b0 : Stmt} {bs : List Stmt} {q1 q2 : Pos} {rest : List ExceptHandler} {l : Clauses}
      (named : Names X x c)
      (su : ∀ (a : Addr) (oe : Obj) (cls : Value) (d : Option Addr) (pn : List (Addr × Obj)), L2N.Zn cls d oe → (∃ vs, oe.data = .fields vs) → PSs (X.suite a ((a, oe) :: pn)) (b0 :: bs) (ts a cls d)) (others : HAs X rest l) :
      HAs X (.ExceptHandler (some (.Name x q1)) none (b0 :: bs) q2 :: rest) ((c, ts) :: l)
section
variable {X : Cx} {pins : List (Addr × Obj)} {D : Ends}
/-- the suite is over: the name is emptied -/
theorem suite_over {a : Addr} {oe : Obj} {i : Nat} {n : Str} {q : Pos} {τ : L2.St} {G : Hp} {t : Shared} {R : Shared → Prop} (ok : X.Ok) (J : Inv (X.suite a ((a, oe) :: (X.pn ++ pins))) [] τ G t) (nd : X.N.Nodup) (place : X.N[i]? = some n) (isLocal : X.env.kindOf n = some .local)
    (k : ∀ t', Inv X pins (τ.set i none) G t' → R t') : wpAny (model X.prog X.w) X.A (do bindName X.env n .none; unbindBehindTheSuite X.env n q) (fun _ t' => R t') X.xe t :=
  gone_ok (J.unsuite ok) nd place isLocal k
end
section
variable {X : Cx} {body : List Stmt} {first : ExceptHandler} {others : List ExceptHandler} {l : Clauses} {pos : Pos} {tb : WX → TS} {Wout : WX}
theorem ps_try_ms (stk : X.stack = X.env :: X.outer) (frm : X.env.frame = some X.env.locals) (nd : X.N.Nodup) (out : L2N.Takes X Wout)
    (bodies : ∀ (W : WX) (pn : List (Addr × Obj)) (xe : Value → Shared → Prop), L2N.Takes (X.tr pn xe) W → PassesOwn (model X.prog X.w) X.A X.env xe → PSs (X.tr pn xe) body (tb W))
    (cl : HAs X (first :: others) l) : PS X (.Try body (first :: others) [] [] pos) (fun D σ H => tb (wMany X.K Wout D l) D σ H) := by
  refine ⟨fun pins s σ H D I h => wpAny_Try_except ?_⟩
  have fits := I.ok
  have frames : X.A.frames = some (X.env :: X.outer) := by
    rw [fits.frames, stk]
  refine wpAny_mono ((bodies (wMany X.K Wout D l) (X.pn ++ pins) _ (fun u t flying => ?_) PassesOwn.looking).run [] s σ H D (I.toTry _) h) (fun f t went => ?_) (fun _ _ z => z)
  · -- it is caught here, or by none
    obtain ⟨a, B, t0, pins0, τ, G, cls, d, rfl, J0, old, up0, air, fresh, oss, bare, wish⟩ := flying
    have J : Inv X pins τ G t0 := J0.ofTry fits
    have air1 : Sky B (X.env :: X.outer) a (L2N.Zn cls d) X.env.locals t.heap := by
      rw [← stk]
      exact air
    show wpAny (model X.prog X.w) X.A (noteFrame (.ref a) X.env) _ _ _
    refine L2N.Sky.land L2N.Zn.steady frames frm air1 fun g held up1 => ?_
    have J1 : Inv X pins τ G { t with heap := g } := J.landed old held.1 (up0.trans up1) oss bare
    obtain ⟨o1, v1, at1, zn1, da1⟩ := held.there
    have apart : a ∉ frs (X.env :: X.outer) := fun hm => by
      obtain ⟨_, o2, e2, no⟩ := held.2.2.1.mem hm
      rw [at1] at e2
      cases e2
      exact no _ da1
    have notL : a ≠ X.env.locals := fun z => apart (List.mem_filterMap.mpr ⟨X.env, List.mem_cons_self, by rw [frm, z]⟩)
    have notF : a ∉ X.fs := fun hm => by
      obtain ⟨e, he, q⟩ := List.mem_filterMap.mp hm
      exact apart (List.mem_filterMap.mpr ⟨e, List.mem_cons_of_mem _ he, q⟩)
    have S1 := J1.suite at1 da1 fresh notL notF
    have go : ∀ {hs : List ExceptHandler} {ws : Clauses}, HAs X hs ws → wMany X.K Wout D ws cls d τ G → wpAny (model X.prog X.w) X.A (handleBy (.ref a) X.env hs) (SP X pins D) X.xe { t with heap := g } := by
      intro hs ws hk
      induction hk with
      | none =>
        intro wish
        refine wpAny_handleBy_nil ?_
        obtain ⟨_, _, _, o2, v2, T, oT, tv, e2, _, d2, one, _⟩ := id held
        unfold PySem.passOn
        refine wpAny_bind (wpAny_field e2 d2 one ?_)
        rw [if_neg (show ¬ ((Value.ref T == Value.none) = true) by simp)]
        have on : wpAny (model X.prog X.w) X.A (setFlight (.ref a) X.env.frame) (fun _ t4 => wpAny (model X.prog X.w) X.A (throw (.ref a) : Sem Flow) (SP X pins D) X.xe t4) X.xe { t with heap := g } := by
          rw [frm]
          exact HandSPX.setFlight_upZ held fun g4 fl4 up4 => wpAny_throw (out _ _ ⟨a, B, t0, pins, τ, G, cls, d, rfl, J, old, (up0.trans up1).trans up4, .inr (.inr (by rw [stk]; exact fl4)), fresh, oss, bare, wish⟩)
        first
          | exact wpAny_bind (wpAny_pure (wpAny_bind on))
          | exact wpAny_bind on
      | @more x n i c ts b0 bs q1 q2 rest l2 place isLocal named su more ih =>
        intro wish
        obtain ⟨b, says, yes, no⟩ := wish
        refine wpAny_handleBy_cons (codeAny_handlers_test ?_) (fun z => nomatch z)
        have kind : PySem.W.Looks (model X.prog X.w) g (typeOf (.ref a)) cls := fun _ _ _ _ keep q => wpAny_typeOf_ref (keep _ _ at1) (by rw [zn1.1]; exact q)
        have asks := PySem.W.exm_one (M := model X.prog X.w) J1.kIn kind says
        have read : ∀ {Q R : Value → Shared → Prop}, Q c { t with heap := g } → wpAny (model X.prog X.w) (X.A.mark (some (.ref a))) (eval (.Name x q1) X.env) Q R { t with heap := g } := fun {Q R} q => by
          obtain ⟨gl, db, own | ⟨m0, bv, nn⟩⟩ := named
          · exact ld_glob (X := X.suite a ((a, o1) :: (X.pn ++ pins))) S1 gl own q db
          · exact ld_blt (X := X.suite a ((a, o1) :: (X.pn ++ pins))) S1 gl m0 bv q nn db
        refine read (asks.here ?_)
        cases b with
        | false => exact ih (no rfl)
        | true =>
          refine codeAny_handlers_suite_as (HandSPX.lands_againZ held fun g4 held4 up4 => ?_)
          have J4 : Inv X pins τ G { t with heap := g4 } := J.landed old held4.1 ((up0.trans up1).trans up4) oss bare
          obtain ⟨o4, v4, at4, zn4, da4⟩ := held4.there
          refine store_ok (X := X.suite a ((a, o4) :: (X.pn ++ pins))) (v := .ref a) (J4.suite at4 da4 fresh notL notF) nd place (.inl isLocal) rfl (fun t5 S5 => ?_) (.inr isLocal)
          refine wpAny_mono ((su a o4 cls d (X.pn ++ pins) zn4 ⟨_, da4⟩).run [] t5 _ G _ S5 (yes rfl a fresh)) (fun f t6 went => ?_) (fun _ _ z => False.elim z)
          cases f with
          | ret u =>
            obtain ⟨v6, τ6, G6, S6, r6, q6⟩ := went
            exact suite_over (pins := pins) fits S6 nd place isLocal fun t7 J7 => ⟨_, _, _, J7, r6, q6⟩
          | next =>
            obtain ⟨τ6, G6, S6, q6⟩ := went
            exact suite_over (pins := pins) fits S6 nd place isLocal fun t7 J7 => ⟨_, _, J7, q6⟩
          | brk =>
            obtain ⟨τ6, G6, S6, q6⟩ := went
            exact suite_over (pins := pins) fits S6 nd place isLocal fun t7 J7 => ⟨_, _, J7, q6⟩
          | cont =>
            obtain ⟨τ6, G6, S6, q6⟩ := went
            exact suite_over (pins := pins) fits S6 nd place isLocal fun t7 J7 => ⟨_, _, J7, q6⟩
      | @plain x c ts b0 bs q1 q2 rest l2 named su more ih =>
        intro wish
        obtain ⟨b, says, yes, no⟩ := wish
        refine wpAny_handleBy_cons (codeAny_handlers_test ?_) (fun z => nomatch z)
        have kind : PySem.W.Looks (model X.prog X.w) g (typeOf (.ref a)) cls := fun _ _ _ _ keep q => wpAny_typeOf_ref (keep _ _ at1) (by rw [zn1.1]; exact q)
        have asks := PySem.W.exm_one (M := model X.prog X.w) J1.kIn kind says
        have read : ∀ {Q R : Value → Shared → Prop}, Q c { t with heap := g } → wpAny (model X.prog X.w) (X.A.mark (some (.ref a))) (eval (.Name x q1) X.env) Q R { t with heap := g } := fun {Q R} q => by
          obtain ⟨gl, db, own | ⟨m0, bv, nn⟩⟩ := named
          · exact ld_glob (X := X.suite a ((a, o1) :: (X.pn ++ pins))) S1 gl own q db
          · exact ld_blt (X := X.suite a ((a, o1) :: (X.pn ++ pins))) S1 gl m0 bv q nn db
        refine read (asks.here ?_)
        cases b with
        | false => exact ih (no rfl)
        | true =>
          refine codeAny_handlers_suite (HandSPX.lands_againZ held fun g4 held4 up4 => ?_)
          have J4 : Inv X pins τ G { t with heap := g4 } := J.landed old held4.1 ((up0.trans up1).trans up4) oss bare
          obtain ⟨o4, v4, at4, zn4, da4⟩ := held4.there
          refine wpAny_mono ((su a o4 cls d (X.pn ++ pins) zn4 ⟨_, da4⟩).run [] _ _ G _ (J4.suite at4 da4 fresh notL notF) (yes rfl a fresh)) (fun f t6 went => ?_) (fun _ _ z => False.elim z)
          cases f with
          | ret u =>
            obtain ⟨v6, τ6, G6, S6, r6, q6⟩ := went
            exact ⟨_, _, _, S6.unsuite fits, r6, q6⟩
          | next =>
            obtain ⟨τ6, G6, S6, q6⟩ := went
            exact ⟨_, _, S6.unsuite fits, q6⟩
          | brk =>
            obtain ⟨τ6, G6, S6, q6⟩ := went
            exact ⟨_, _, S6.unsuite fits, q6⟩
          | cont =>
            obtain ⟨τ6, G6, S6, q6⟩ := went
            exact ⟨_, _, S6.unsuite fits, q6⟩
    exact go cl wish
  · cases f with
    | ret u =>
      obtain ⟨v, τ, G, J, r, q⟩ := went
      exact ⟨v, τ, G, J.ofTry fits, r, q⟩
    | next =>
      obtain ⟨τ, G, J, q⟩ := went
      exact wpAny_execs_nil ⟨τ, G, J.ofTry fits, q⟩
    | brk =>
      obtain ⟨τ, G, J, q⟩ := went
      exact ⟨τ, G, J.ofTry fits, q⟩
    | cont =>
      obtain ⟨τ, G, J, q⟩ := went
      exact ⟨τ, G, J.ofTry fits, q⟩
end
-- part pinc
/-! defs that are called within an except suite and are given the caught exception -/
abbrev SpE := Addr → Value → Option Addr → Sp
structure FnP (P : Program) (w : World) (K : PySem.W.Frag) (mg : Str → Option Value) (base : Heap) (k : Nat) (f : Addr) (fd : FuncData) (ps : List Str) (sp : SpE) : Prop where
  len : ∀ a cls d vs H Q E, sp a cls d vs H Q E → vs.length = ps.length
  run : ∀ (A : Around) (outer : List Env) (s : Shared) (H : Hp) (args : Args) (us : List Value) (vs : List V) (Q : VK) (E : XK) (p : Addr × Obj) (cls : Value) (d : Option Addr), L2H.RoomH k A → L2H.Hot1 A p → L2N.Zn cls d p.2 →
    L2H.PinOk outer H s p → Env0 P w K mg base A outer s H → BindsTo s fd args (ps.zip us) → Vals vs us → sp p.1 cls d vs H Q E → codeAny (model P w) A (.call (.ref f) args) (CR CX0 outer P w H s Q E) s
theorem fnp_of {P : Program} {w : World} {K : PySem.W.Frag} {mg : Str → Option Value} {base : Heap} {x qual : Str} {st : Stmt} {f : Addr} {fd : FuncData} {N ps : List Str} {k : Nat} {sp : SpE} (F : Fun K x qual st f fd) (S : FnScope N ps (defScope st)) (len : ∀ a cls d vs H Q E, sp a cls d vs H Q E → vs.length = ps.length)
    (body : ∀ (cdv : Value) (A : Around) (outer : List Env) (s : Shared) (H : Hp) (vs : List V) (Q : VK) (E : XK) (p : Addr × Obj) (cls : Value) (d : Option Addr), L2H.Hot1 A p → L2N.Zn cls d p.2 → L2H.RoomH k (A.deeper (envOfC qual (defScope st) s.heap.objs.size f cdv)) → sp p.1 cls d vs H Q E →
      ∃ t, PSs (L2H.cxH CX0 P w K mg base N qual (defScope st) f cdv A outer s H E p) (defBody st) t ∧ t { nx := fun _ G => Q .non G, rt := Q } (L2.start N vs) H) : FnP P w K mg base (k + 1) f fd ps sp := by
  obtain ⟨oc, od, kV, doc, pm, an, cdv, ct, osl, rfl, lk, hcd⟩ := F.ex
  refine ⟨len, fun A outer s H args us vs Q E p cls d room hot zn pin e0 bound rel asks => ?_⟩
  have keeps : ∀ b o, base.get? b = some o → s.heap.get? b = some o := fun b o e => (e0.bs b o e).1
  have there : K.In s.heap := e0.mod.kin.keeps keeps
  have kinds : ∀ y ∈ ps.zip us, (defScope st).names.lookup y.1 = some .local ∨ ((defScope st).names.lookup y.1 = some .cell ∧ ((cellsFrom (s.heap.objs.size + 1) (defScope st).names []).lookup y.1).isSome = true) := fun y hy =>
    match S.par y.1 (List.of_mem_zip hy).1 with
    | .inl q => .inl q
    | .inr q => .inr ⟨q, PySem.W.cellsFrom_some _ _ _ (.inl q)⟩
  refine codeAny_call_function room.depth (there _ _ lk) rfl S.co S.gen rfl (PySem.W.codeRec_of there hcd) (bound _ _ _ _ (wpAny_newFunctionEnv_cells S.kind kinds fun env same s1 laid => ?_))
  subst same
  refine ⟨(e0.mod.nolimit.keeps keeps).keeps laid.toInCall.keep, codeAny_func ?_⟩
  obtain ⟨t, walked, reading⟩ := body cdv A outer s H vs Q E p cls d hot zn (room.deeper _) asks
  have many : vs.length = ps.length := len _ _ _ _ _ _ _ asks
  refine wpAny_mono (walked.run [] s1 (L2.start N vs) H _ (L2H.inv_startH S pin e0 many rel laid) reading) (fun fl s2 went => ?_) fun _ _ z => z
  cases fl with
  | ret u =>
    obtain ⟨v, τ, G, J, rv, q⟩ := went
    exact ⟨v, G, J.os, J.bare, J.base, J.hok, rv, q⟩
  | next =>
    obtain ⟨τ, G, J, q⟩ := went
    exact ⟨V.non, G, J.os, J.bare, J.base, J.hok, rfl, q⟩
  | brk =>
    obtain ⟨_, _, _, no⟩ := went
    exact no.elim
  | cont =>
    obtain ⟨_, _, _, no⟩ := went
    exact no.elim
/-- the exception that is handled, as a context bears it -/
def Held (X : Cx) (a : Addr) (cls : Value) (d : Option Addr) : Prop := ∃ oe : Obj, X.A.handled = some (.ref a) ∧ L2N.Zn cls d oe ∧ (∃ vs, oe.data = .fields vs) ∧ (a, oe) ∈ X.pn
theorem held_suite {X : Cx} {a : Addr} {oe : Obj} {cls : Value} {d : Option Addr} {pn : List (Addr × Obj)} (z : L2N.Zn cls d oe) (f : ∃ vs, oe.data = .fields vs) : Held (X.suite a ((a, oe) :: pn)) a cls d := ⟨oe, rfl, z, f, List.mem_cons_self⟩
theorem held_def {CX : CXT} {P : Program} {w : World} {K : PySem.W.Frag} {mg : Str → Option Value} {base : Heap} {N : List Str} {qual : Str} {sc : Scope} {f : Addr} {cd : Value} {A : Around} {outer : List Env} {s : Shared} {H : Hp} {E : XK} {p : Addr × Obj} {cls : Value} {d : Option Addr} (hot : L2H.Hot1 A p) (z : L2N.Zn cls d p.2) :
    Held (L2H.cxH CX P w K mg base N qual sc f cd A outer s H E p) p.1 cls d := by
  obtain ⟨h, vs, e, _⟩ := hot
  exact ⟨p.2, h, z, ⟨vs, e⟩, List.mem_singleton.mpr rfl⟩
structure ClP (P : Program) (w : World) (K : PySem.W.Frag) (mg : Str → Option Value) (base : Heap) (k : Nat) (x : Str) (sp : SpE) : Prop where
  ex : ∃ (f : Addr) (fd : FuncData) (ps : List Str), FnP P w K mg base k f fd ps sp ∧ mg x = some (.ref f) ∧ PySem.W.keepIn K (.ref f) = true ∧ Binds K fd ps []
section
variable {X : Cx} {a : Addr} {cls : Value} {d : Option Addr}
def tCallE (sp : SpE) (a : Addr) (cls : Value) (d : Option Addr) (t : TA) : TE := fun σ H Q => t σ H fun vs G => sp a cls d vs G Q E0
theorem pe_clP {k j : Nat} {x : Str} {sp : SpE} {q pos : Pos} {e : Expr} {es : List Expr} {t : TA} (c : ClP X.prog X.w X.K X.mg X.base k x sp) (held : Held X a cls d) (hr : L2H.RoomH j X.A) (ha : PA X (e :: es) t) (hk : k ≤ j := by decide) (hg : Gl X x := by rfl)
    (hdb : (x == ("__debug__" : Str)) = false := by decide) (he : starEach (e :: es) X.env = (false, eval e X.env) :: starEach es X.env := by rfl) (hpl : (backTo pos (starEach es X.env)).any (·.1) = false := by rfl) :
    PE X (.Call (.Name x q) (e :: es) [] pos) (tCallE sp a cls d t) := by
  obtain ⟨f, fd, ps, F, hm, kp, b⟩ := c.ex
  obtain ⟨oe, hh, zn, ⟨v0, e0⟩, mem⟩ := held
  refine ⟨fun pins s σ H Q I h => wpAny_Call_Name_kw (ld_glob I hg hm (PySem.W.callWith_K (h₀ := X.base) I.ok.mod.kin kp (thn (ha.run pos pins s σ H _ I h) fun us s1 ⟨vs, G, J, rel, asks⟩ => ⟨J.kIn, ?_⟩) he hpl) hdb)⟩
  have pinned := J.pin (a, oe) (List.mem_append_left _ mem)
  have ok : L2H.PinOk X.stack G s1 (a, oe) := ⟨pinned.1, pinned.2.1, fun hm => (List.mem_cons.mp (J.stkSub a hm)).elim pinned.2.2.1 pinned.2.2.2.1, pinned.2.2.2.2⟩
  have many : us.length = ps.length := by
    rw [← Paired.length rel]
    exact F.len _ _ _ _ _ _ _ asks
  have bound := b s1 us J.kIn (by rw [List.append_nil]; exact many)
  rw [List.append_nil] at bound
  refine wpAny_call (codeAny_mono (F.run X.A X.stack s1 G ⟨us, []⟩ us vs Q _ (a, oe) cls d (hr.mono hk) ⟨hh, v0, e0, zn.2.2 v0 e0⟩ zn ok J.env0 bound rel asks) fun r s2 back => ?_)
  cases r with
  | error er => exact pass0 pins σ G s1 er s2 J back
  | ok fl =>
    cases fl with
    | ret u => exact J.after back
    | next => exact False.elim back
    | brk => exact False.elim back
    | cont => exact False.elim back
end
-- part lawbits
abbrev s_lisint : Stmt := top 41
theorem sc_lisint : FnScope ["_law_actual"] ["_law_actual"] (defScope s_lisint) := ⟨rfl, rfl, rfl, by decide +kernel, rfl, by decide +kernel, by decide +kernel⟩
/-- of an int it is True -/
def spIsInt : Sp := fun vs H Q _ => ∃ n : Int, vs = [.int n] ∧ Q (.bl true) H
theorem ok_lisint {f : Addr} {fd : FuncData} (T : Txt mg) (F : Fun K "_law_is_integer" "_law_is_integer" s_lisint f fd) : FnOk P w K mg base CX0 1 f fd ["_law_actual"] spIsInt := by
  refine F.ok sc_lisint (fun vs H Q E h => ?_) (fun cdv A outer s H vs Q E hr h => ?_)
  · obtain ⟨n, rfl, _⟩ := h
    rfl
  · obtain ⟨n, rfl, q⟩ := h
    refine ⟨_, (pss_one (ps_ret (pe_and (pe_callB call_isi (by rfl) T.isinstance boot_isinstance (pa_cons (pv 0) (pa_cons (pe_bltn (v := .ty "int") (by rfl) T.int boot_int rfl) pa_nil))) (pe_one (pe_not (pe_callB call_isi (by rfl) T.isinstance boot_isinstance (pa_cons (pv 0) (pa_cons (pe_bltn (v := .ty "bool") (by rfl) T.bool boot_bool rfl) pa_nil)))))))), ?_⟩
    refine ⟨_, rfl, _, _, _, _, true, rfl, .ty _, .base (.int _), kit_ty (by decide +kernel), _, rfl, if_pos_of rfl ?_⟩
    exact ⟨_, rfl, _, _, _, _, false, rfl, .ty _, .base (.int _), kit_ty (by decide +kernel), _, rfl, q⟩
-- part lisintE
/-! _law_is_integer, called within an except suite -/
def spIsIntE : SpE := fun _ _ _ => spIsInt
theorem ok_lisintE {f : Addr} {fd : FuncData} (T : Txt mg) (F : Fun K "_law_is_integer" "_law_is_integer" s_lisint f fd) : FnP P w K mg base 1 f fd ["_law_actual"] spIsIntE := by
  refine fnp_of F sc_lisint (fun a cls d vs H Q E h => ?_) (fun cdv A outer s H vs Q E p cls d hot zn hr h => ?_)
  · obtain ⟨n, rfl, _⟩ := h
    rfl
  · obtain ⟨n, rfl, q⟩ := h
    refine ⟨_, (pss_one (ps_ret (pe_and (pe_callB call_isi (by rfl) T.isinstance boot_isinstance (pa_cons (pv 0) (pa_cons (pe_bltn (v := .ty "int") (by rfl) T.int boot_int rfl) pa_nil))) (pe_one (pe_not (pe_callB call_isi (by rfl) T.isinstance boot_isinstance (pa_cons (pv 0) (pa_cons (pe_bltn (v := .ty "bool") (by rfl) T.bool boot_bool rfl) pa_nil)))))))), ?_⟩
    refine ⟨_, rfl, _, _, _, _, true, rfl, .ty _, .base (.int _), kit_ty (by decide +kernel), _, rfl, if_pos_of rfl ?_⟩
    exact ⟨_, rfl, _, _, _, _, false, rfl, .ty _, .base (.int _), kit_ty (by decide +kernel), _, rfl, q⟩
-- part ltld
theorem room_suite86 {X : Cx} {j : Nat} {a : Addr} {l : List (Addr × Obj)} (hr : Room j X.A) : L2H.RoomH j (X.suite a l).A := ⟨hr.dp, hr.un⟩
theorem GoodL.len {n m : Nat} {L : List (List Str)} (h : GoodL n m L) : ∀ z ∈ linesS L, z.length ≤ m * 12 := fun z hz => by
  obtain ⟨ws, hw, rfl⟩ := List.mem_map.mp hz
  exact (h.2 ws hw).len
theorem GoodL.split {n m : Nat} {L : List (List Str)} (h : GoodL n m L) (ne : L ≠ []) : Txt.split (Txt.join "\n" (linesS L)) "\n" = linesS L := by
  refine TL.split_join (s := 10) (S := []) wd_nl (by decide +kernel) (fun e => ne (List.map_eq_nil_iff.mp e)) fun p hp c => ?_
  obtain ⟨ws, hw, rfl⟩ := List.mem_map.mp hp
  exact (h.2 ws hw).nl c
theorem GoodL.rows {n m : Nat} {L : List (List Str)} (h : GoodL n m L) (ne : L ≠ []) : rowsW (Txt.join "\n" (linesS L)) = L := by
  unfold rowsW
  rw [h.split ne]
  unfold linesS
  rw [List.map_map]
  conv => rhs; rw [← List.map_id L]
  exact List.map_congr_left fun ws hw => (h.2 ws hw).split
theorem GoodL.fit {n m : Nat} {L : List (List Str)} (h : GoodL n m L) (ne : L ≠ []) (hn : n ≤ 20) (hm : m ≤ 20) : FitsT (Txt.join "\n" (linesS L)) := by
  have e := h.split ne
  have hl := h.1
  have z1 : ("\n" : Str).length = 1 := by decide +kernel
  have lz : ∀ z ∈ linesS L, z.length ≤ 240 := fun z hz => Nat.le_trans (h.len z hz) (by have := Nat.mul_le_mul_right 12 hm; omega)
  have ll : (linesS L).length = L.length := by unfold linesS; rw [List.length_map]
  refine ⟨?_, ?_, ?_⟩
  · have z := join_ln (y := "\n") (k := 240) (ps := linesS L) lz
    rw [z1, ll] at z
    have := Nat.mul_le_mul_right 241 (Nat.le_trans hl hn)
    omega
  · rw [e, ll]
    omega
  · intro row hr
    rw [e] at hr
    have l1 := lz row hr
    obtain ⟨ws, hw, rfl⟩ := List.mem_map.mp hr
    have gw := h.2 ws hw
    have fw := gw.few
    rw [gw.split]
    refine ⟨by omega, by omega, fun y hy => ?_⟩
    have := (ws_ok (gw.ws y hy)).1
    omega
theorem rdAll_len : ∀ (n : Nat) {rows : List (List Str)} {R : List Stp}, rows.length = n → rdAll rows = some R → R.length = n ∧ ∀ (i : Nat) (ws : List Str), rows[i]? = some ws → ∃ w nm r, ws = w :: nm :: r ∧ R[i]? = some (nm, w, r)
  | 0, rows, R, h, e => by
    have z := List.length_eq_zero_iff.mp h
    subst z
    have e : some ([] : List Stp) = some R := e
    cases e
    exact ⟨rfl, fun i ws h => by cases h⟩
  | n + 1, rows, R, h, e => by
    have ne : rows ≠ [] := fun z => by rw [z] at h; cases h
    obtain ⟨l, d, rfl⟩ : ∃ l d, rows = l ++ [d] := ⟨rows.dropLast, rows.getLast ne, (List.dropLast_concat_getLast ne).symm⟩
    rw [List.length_append] at h
    have hl : l.length = n := by
      have : [d].length = 1 := rfl
      omega
    rw [rdAll_snoc] at e
    cases q : rdAll l with
    | none => rw [q] at e; cases e
    | some R0 =>
      rw [q] at e
      have e : rdRow R0 d = some R := e
      obtain ⟨l0, a0⟩ := rdAll_len n hl q
      obtain ⟨w, nm, r, ed, _, eR⟩ := rdRow_ok e
      subst eR
      refine ⟨by rw [List.length_append, l0]; rfl, fun i ws hi => ?_⟩
      by_cases c : i < l.length
      · rw [List.getElem?_append_left c] at hi
        obtain ⟨w', n', r', e1, e2⟩ := a0 i ws hi
        exact ⟨w', n', r', e1, by rw [List.getElem?_append_left (by omega)]; exact e2⟩
      · have hlt := (List.getElem?_eq_some_iff.mp hi).1
        rw [List.length_append] at hlt
        have ei : i = l.length := by
          have : [d].length = 1 := rfl
          omega
        subst ei
        rw [List.getElem?_append_right (Nat.le_refl _), Nat.sub_self] at hi
        cases hi
        exact ⟨w, nm, r, ed, by rw [List.getElem?_append_right (by omega), l0, hl, Nat.sub_self]; rfl⟩
abbrev s_ltld86 : Stmt := top 43
theorem sc_ltld86 : FnScope ["_law_lines", "_law_ruler", "e", "_law_line"] ["_law_lines"] (defScope s_ltld86) := ⟨rfl, rfl, rfl, by decide +kernel, rfl, by decide +kernel, by decide +kernel⟩
def spLtld (K : PySem.W.Frag) : Sp := fun vs H Q _ => ∃ (a : Addr) (L : List (List Str)), vs = [.ref a] ∧ SqL K H a ((linesS L).map V.str) ∧ GoodL 20 20 L ∧ L ≠ [] ∧ ∀ H', Same H H' → Q (.int (fltS L)) H'
theorem ok_ltld86 {f C CS fS : Addr} {fd : FuncData} (TT : Txt mg) (T : RulT K mg C) (TX : ErrC K mg "BadStep" "at" CS fS) (F : Fun K "_law_told" "_law_told" s_ltld86 f fd) (c_ru : Ma P w K mg base 3 C (spRulI C CS)) (m_names : Me P w K mg base 1 C "names" (spRuNames C)) (c_isint : ClP P w K mg base 1 "_law_is_integer" spIsIntE) :
    FnOk P w K mg base CX0 7 f fd ["_law_lines"] (spLtld K) := by
  refine F.ok sc_ltld86 (fun vs H Q E h => ?_) (fun cdv A outer s H vs Q E hr h => ?_)
  · obtain ⟨a, L, rfl, _⟩ := h
    rfl
  · obtain ⟨a, L, rfl, hS, gl, ne, q⟩ := h
    refine ⟨_, (Evl.pss_cut (L2N.ps_try_as (i := 2) rfl rfl sc_ltld86.nd rfl rfl ⟨rfl, by decide, Or.inl TX.g⟩ takes0N
  (fun W pn xe tk _ => (pss_one (ps_set (i := 1) sc_ltld86.nd rfl (Or.inl rfl) (pe_maX c_ru hr tk T.g (pa_cons (pe_joinK (K := K) rfl pe_str (pv 0)) pa_nil)))))
  (fun a oe cls d pn hz hf => (pss_cons (ps_if (pt_not (pt_val (pe_clP c_isint (held_suite hz hf) (room_suite86 (j := 6) hr) (pa_cons (pe_xf TX.xf TX.no hz.zc hf (pv 2)) pa_nil)))) (pss_one (ps_ret (pe_un un_neg pe_int))) pss_nil)
 (pss_one (ps_ret (pe_xf TX.xf TX.no hz.zc hf (pv 2)))))))
 (pss_cons (ps_if (pt_cmpR (op_neD (hu64 hr)) (pe_me0 m_names T.cl hr (pv 1) ) (pe_lc (own := [("_law_line", 3)]) (g := (gName 3)) (tt := tYes) rfl sc_ltld86.nd (pi_list (pv 0)) (blkOk_by (N := ["_law_lines", "_law_ruler", "e", "_law_line"]) (sc := defScope s_ltld86) (by decide +kernel)) (fun _ _ _ _ _ => (pg_name (i := 3) sc_ltld86.nd rfl (Or.inl rfl))) (fun _ _ _ _ _ => pts_nil) (fun _ _ _ _ _ => (pe_ix (r := rIxL K) (by exact ix_list) (pe_split (pv 3) pe_str) pe_int (fun _ _ => rfl)))) (nomark _)) (pss_one (ps_ret (pe_un un_neg pe_int))) pss_nil)
 (pss_one (ps_ret (pe_un un_neg pe_int))))), ?_⟩
    have fit := gl.fit ne (by decide) (by decide)
    have ers := gl.rows ne
    have ll : (linesS L).length = L.length := by unfold linesS; rw [List.length_map]
    have l20 := gl.1
    refine ⟨fun σ G => ∃ R xr x2 x3, rdAll L = some R ∧ Same H G ∧ RulAt C G xr R ∧ σ = [some (.ref a), some (.ref xr), x2, x3], ?_, ?_⟩
    · refine ⟨⟨_, rfl⟩, _, rfl, _, a, linesS L, rfl, rfl, .inl hS, ?_, fun xr dxr nxr ndxr _ => ⟨xr, dxr, _, rfl, upd_same, fit, fun R hR G ru keep => ⟨rfl, ?_⟩, fun i ws Ri o1 o2 o3 d G keep hd => ?_⟩⟩
      · have z1 := sum_le (k := 240) (ys := linesS L) fun y hy => gl.len y hy
        have z3 : ("\n" : Str).length = 1 := by decide +kernel
        rw [z3, ll]
        rw [ll] at z1
        omega
      · rw [ers] at hR
        have sm : Same H G := fun b o eb => keep b o (by rw [upd_ne (ne_of_none eb nxr), upd_ne (ne_of_none eb ndxr)]; exact eb) (ne_of_none eb nxr)
        exact ⟨R, xr, _, _, hR, sm, ru, rfl⟩
      · rw [ers] at o1 o2
        have sm : Same H G := fun b o eb => keep b o (by rw [upd_ne (ne_of_none eb nxr), upd_ne (ne_of_none eb ndxr)]; exact eb) (ne_of_none eb nxr)
        refine ⟨true, TX.te, fun _ y ny => ?_, fun z => Bool.noConfusion z⟩
        refine ⟨_, rfl, rfl, rfl, d, _, _, rfl, hd, rfl, (i : Int), rfl, _, rfl, if_neg_of rfl ?_⟩
        have z := q G sm
        rw [fltS_at o1 o2 o3] at z
        exact ⟨_, rfl, rfl, rfl, d, _, _, rfl, hd, rfl, z⟩
    · rintro σ G ⟨R, xr, x2, x3, hR, s1, ru, rfl⟩
      obtain ⟨dru, dd, kvs0, oru, od, sa⟩ := ru.ob
      obtain ⟨lR, row⟩ := rdAll_len L.length rfl hR
      have lns : (namesS R).length = R.length := by unfold namesS; rw [List.length_map]
      refine ⟨_, rfl, xr, dru, _, rfl, oru, ru_no _ (by decide +kernel), xr, R, rfl, ru, fun p np => ?_⟩
      have gp := same_upd (o := .lst ((namesS R).map V.str)) np
      have hp : upd G p (.lst ((namesS R).map V.str)) p = some (.lst ((namesS R).map V.str)) := upd_same
      have s2 := s1.trans gp
      generalize upd G p (.lst ((namesS R).map V.str)) = G2 at *
      refine ⟨_, rfl, a, rfl, ⟨_, s2.seq hS⟩, fun D nD => lcMap (walk_list (xs := (linesS L).map V.str)) ((namesS R).map V.str) (by rw [List.length_map, List.length_map, lns, lR, ll]) nD (fun H s => s.seq (s2.seq hS)) ?_ ?_⟩
      · rintro i v _ G3 hi s3 hD ⟨rfl, hv⟩
        obtain ⟨z, rfl, hz⟩ := strAt hv
        unfold linesS at hz
        rw [List.getElem?_map] at hz
        obtain ⟨ws, hw, rfl⟩ := Option.map_eq_some_iff.mp hz
        obtain ⟨w, nm, r, rfl, hst⟩ := row i ws hw
        have gw := gl.2 _ (List.mem_of_getElem? hw)
        have lw := gw.len
        refine ⟨rfl, _, rfl, ⟨_, rfl⟩, _, _, rfl, rfl, by decide +kernel, by rw [sizeLine_eq]; omega, fun q2 nq2 => ?_⟩
        rw [gw.split]
        have g2 := same_upd (o := .lst ((w :: nm :: r).map V.str)) nq2
        refine ⟨q2, (w :: nm :: r).map V.str, 1, .str nm, rfl, rfl, SqL.of upd_same, atI_nat (j := 1) rfl, ?_⟩
        exact mapEnd nD (by rw [List.length_map, lns]; omega) (s3.trans g2) (g2 _ _ hD) (map_at (f := V.str) (names_at hst))
      · intro G3 s3 hD
        have okn : ∀ z ∈ namesS R, (PyData.str z).canLay0 = true ∧ (PyData.str z).depth ≤ 9 := fun z hz => by
          obtain ⟨st, hst, rfl⟩ := List.mem_map.mp hz
          obtain ⟨i, hi⟩ := List.getElem?_of_mem hst
          have il := (List.getElem?_eq_some_iff.mp hi).1
          have e := List.getElem?_eq_getElem (l := L) (i := i) (by omega)
          obtain ⟨w, nm, r, ew, e2⟩ := row i _ e
          rw [hi] at e2
          cases e2
          have gw := gl.2 _ (List.mem_of_getElem? e)
          rw [ew] at gw
          exact ok_dS (ws_ok (gw.ws nm (by simp))).2.2.1
        refine ⟨_, _, dp_ls84 (f := PyData.str) (s3 _ _ hp) (allS_map fun z _ => .str z), dp_ls84 (f := PyData.str) hD (allS_map fun z _ => .str z), shaped_map okn, shaped_map okn, _, rfl, ?_⟩
        rw [eqv_map okn]
        refine iteF ?_
        have z := q G3 (s2.trans s3)
        rw [fltS_all hR] at z
        exact ⟨_, rfl, z⟩
-- part lchg
theorem join_nil : Txt.join " " [] = Txt.join " " [""] := by decide +kernel
def nw (ws : List Str) : List Str := if ws = [] then [""] else ws
theorem join_nw (ws : List Str) : Txt.join " " (nw ws) = Txt.join " " ws := by
  unfold nw
  split
  · rename_i h
    rw [h, join_nil]
  · rfl
theorem GoodW.mono {m m' : Nat} {ws : List Str} (h : GoodW m ws) (l : m ≤ m') : GoodW m' ws := ⟨h.ne, Nat.le_trans h.few l, h.ws⟩
theorem goodW_nw {m : Nat} {ws : List Str} (h : ws.length ≤ m + 1) (a : ∀ z ∈ ws, z ∈ WS) : GoodW (m + 1) (nw ws) := by
  unfold nw
  split
  · exact ⟨by simp, by simp, fun z hz => by rw [List.mem_singleton.mp hz]; decide +kernel⟩
  · rename_i n
    exact ⟨n, h, a⟩
theorem goodL_of {n m : Nat} {L L' : List (List Str)} (h : GoodL n m L) (l : L'.length ≤ n + 1) (a : ∀ ws ∈ L', ws ∈ L ∨ GoodW (m + 1) ws) : GoodL (n + 1) (m + 1) L' :=
  ⟨l, fun ws hw => (a ws hw).elim (fun k => (h.2 ws k).mono (Nat.le_succ m)) id⟩
theorem cutS_from (L : List Str) (k : Nat) : cutV (L.map V.str) (some (k : Int)) none = (L.drop k).map V.str := by rw [cutV_from, List.map_drop]
theorem lines_set (L : List (List Str)) (k : Nat) (x : List Str) : (linesS L).take k ++ [Txt.join " " x] ++ (linesS L).drop (k + 1) = linesS (L.take k ++ [nw x] ++ L.drop (k + 1)) := by
  unfold linesS
  rw [List.map_append, List.map_append, List.map_take, List.map_drop, List.map_cons, List.map_nil, join_nw]
theorem mem_ws3 {ws : List Str} {j l : Nat} {x : Str} (h : ∀ z ∈ ws, z ∈ WS) (hx : x ∈ WS) : ∀ z ∈ ws.take j ++ [x] ++ ws.drop l, z ∈ WS := fun z hz => by
  rcases List.mem_append.mp hz with hz | hz
  · rcases List.mem_append.mp hz with hz | hz
    · exact h z (List.mem_of_mem_take hz)
    · rw [List.mem_singleton.mp hz]; exact hx
  · exact h z (List.mem_of_mem_drop hz)
theorem mem_ws2 {ws : List Str} {j l : Nat} (h : ∀ z ∈ ws, z ∈ WS) : ∀ z ∈ ws.take j ++ ws.drop l, z ∈ WS := fun z hz => by
  rcases List.mem_append.mp hz with hz | hz
  · exact h z (List.mem_of_mem_take hz)
  · exact h z (List.mem_of_mem_drop hz)
theorem mem_L3 {L : List (List Str)} {m j l : Nat} {x : List Str} (hx : x ∈ L ∨ GoodW (m + 1) x) : ∀ w ∈ L.take j ++ [x] ++ L.drop l, w ∈ L ∨ GoodW (m + 1) w := fun w hw => by
  rcases List.mem_append.mp hw with hw | hw
  · rcases List.mem_append.mp hw with hw | hw
    · exact .inl (List.mem_of_mem_take hw)
    · rw [List.mem_singleton.mp hw]; exact hx
  · exact .inl (List.mem_of_mem_drop hw)
abbrev s_lchg86 : Stmt := top 44
theorem sc_lchg86 : FnScope ["_law_lines", "_law_drawn", "_law_at", "_law_words", "_law_place", "_law_menu", "_law_word"] ["_law_lines", "_law_drawn"] (defScope s_lchg86) := ⟨rfl, rfl, rfl, by decide +kernel, rfl, by decide +kernel, by decide +kernel⟩
def spLchg (K : PySem.W.Frag) : Sp := fun vs H Q _ => ∃ (a d : Addr) (L : List (List Str)) (n m : Nat) (d0 d1 d2 d3 : Int), vs = [.ref a, .ref d] ∧ SqL K H a ((linesS L).map V.str) ∧ GoodL n m L ∧ L ≠ [] ∧ n ≤ 20 ∧ m ≤ 19 ∧ SqL K H d ([d0, d1, d2, d3].map V.int) ∧
  ∀ r L' H', Same H H' → H' r = some (.lst ((linesS L').map V.str)) → GoodL (n + 1) (m + 1) L' → L' ≠ [] → Q (.ref r) H'
theorem ok_lchg86 {f : Addr} {fd : FuncData} (TT : Txt mg) (F : Fun K "_law_changed" "_law_changed" s_lchg86 f fd) : FnOk P w K mg base CX0 1 f fd ["_law_lines", "_law_drawn"] (spLchg K) := by
  refine F.ok sc_lchg86 (fun vs H Q E h => ?_) (fun cdv A outer s H vs Q E hr h => ?_)
  · obtain ⟨a, d, L, n, m, d0, d1, d2, d3, rfl, _⟩ := h
    rfl
  · obtain ⟨a, d, L, n, m, d0, d1, d2, d3, rfl, hS, gl, ne, n20, m20, hd, q⟩ := h
    refine ⟨_, (pss_cons (ps_set (i := 2) sc_lchg86.nd rfl (Or.inl rfl) (pe_op op_mod (pe_ix ix_list (pv 1) pe_int (fun _ _ => rfl)) (pe_callB call_len_seq (by rfl) TT.len PySem.boot_len (pa_cons (pv 0) pa_nil))))
 (pss_cons (ps_set (i := 3) sc_lchg86.nd rfl (Or.inl rfl) (pe_split (pe_ix ix_list (pv 0) (pv 2) (fun _ _ => rfl)) pe_str))
 (pss_cons (ps_set (i := 4) sc_lchg86.nd rfl (Or.inl rfl) (pe_op op_mod (pe_ix ix_list (pv 1) pe_int (fun _ _ => rfl)) (pe_op op_add (pe_callB call_len_seq (by rfl) TT.len PySem.boot_len (pa_cons (pv 3) pa_nil)) pe_int)))
 (pss_cons (ps_set (i := 5) sc_lchg86.nd rfl (Or.inl rfl) (pe_lst (pa_cons pe_str (pa_cons pe_str (pa_cons pe_str (pa_cons pe_str (pa_cons pe_str (pa_cons pe_str (pa_cons pe_str (pa_cons pe_str (pa_cons pe_str (pa_cons pe_str (pa_cons pe_str (pa_cons pe_str (pa_cons pe_str pa_nil)))))))))))))))
 (pss_cons (ps_set (i := 6) sc_lchg86.nd rfl (Or.inl rfl) (pe_ix ix_list (pv 5) (pe_op op_mod (pe_ix ix_list (pv 1) pe_int (fun _ _ => rfl)) pe_int) (fun _ _ => rfl)))
 (pss_cons (ps_if (pt_cmpR op_eq (pe_ix ix_list (pv 1) pe_int (fun _ _ => rfl)) pe_int (nomark _)) (pss_cons (ps_set (i := 3) sc_lchg86.nd rfl (Or.inl rfl) (pe_op op_cat (pe_op op_cat (pe_slice sl_list (pv 3) po_none (po_some (pv 4))) (pe_lst (pa_cons (pv 6) pa_nil))) (pe_slice sl_list (pv 3) (po_some (pv 4)) po_none)))
 (pss_one (ps_ret (pe_op op_cat (pe_op op_cat (pe_slice sl_list (pv 0) po_none (po_some (pv 2))) (pe_lst (pa_cons (pe_join pe_str (pv 3)) pa_nil))) (pe_slice sl_list (pv 0) (po_some (pe_op op_add (pv 2) pe_int)) po_none))))) pss_nil)
 (pss_cons (ps_if (pt_cmpR op_eq (pe_ix ix_list (pv 1) pe_int (fun _ _ => rfl)) pe_int (nomark _)) (pss_cons (ps_set (i := 3) sc_lchg86.nd rfl (Or.inl rfl) (pe_op op_cat (pe_slice sl_list (pv 3) po_none (po_some (pv 4))) (pe_slice sl_list (pv 3) (po_some (pe_op op_add (pv 4) pe_int)) po_none)))
 (pss_one (ps_ret (pe_op op_cat (pe_op op_cat (pe_slice sl_list (pv 0) po_none (po_some (pv 2))) (pe_lst (pa_cons (pe_join pe_str (pv 3)) pa_nil))) (pe_slice sl_list (pv 0) (po_some (pe_op op_add (pv 2) pe_int)) po_none))))) pss_nil)
 (pss_cons (ps_if (pt_cmpR op_eq (pe_ix ix_list (pv 1) pe_int (fun _ _ => rfl)) pe_int (nomark _)) (pss_cons (ps_set (i := 3) sc_lchg86.nd rfl (Or.inl rfl) (pe_op op_cat (pe_op op_cat (pe_slice sl_list (pv 3) po_none (po_some (pv 4))) (pe_lst (pa_cons (pv 6) pa_nil))) (pe_slice sl_list (pv 3) (po_some (pe_op op_add (pv 4) pe_int)) po_none)))
 (pss_one (ps_ret (pe_op op_cat (pe_op op_cat (pe_slice sl_list (pv 0) po_none (po_some (pv 2))) (pe_lst (pa_cons (pe_join pe_str (pv 3)) pa_nil))) (pe_slice sl_list (pv 0) (po_some (pe_op op_add (pv 2) pe_int)) po_none))))) pss_nil)
 (pss_cons (ps_if (pw_and (pt_cmpR op_eq (pe_ix ix_list (pv 1) pe_int (fun _ _ => rfl)) pe_int (nomark _)) (pw_and1 (pt_cmpR op_gt (pe_callB call_len_seq (by rfl) TT.len PySem.boot_len (pa_cons (pv 0) pa_nil)) pe_int (nomark _)))).pt (pss_one (ps_ret (pe_op op_cat (pe_slice sl_list (pv 0) po_none (po_some (pv 2))) (pe_slice sl_list (pv 0) (po_some (pe_op op_add (pv 2) pe_int)) po_none)))) pss_nil)
 (pss_cons (ps_if (pt_cmpR op_eq (pe_ix ix_list (pv 1) pe_int (fun _ _ => rfl)) pe_int (nomark _)) (pss_one (ps_ret (pe_op op_cat (pe_op op_cat (pe_slice sl_list (pv 0) po_none (po_some (pv 2))) (pe_lst (pa_cons (pe_ix ix_list (pv 0) (pv 2) (fun _ _ => rfl)) pa_nil))) (pe_slice sl_list (pv 0) (po_some (pv 2)) po_none)))) pss_nil)
 (pss_one (ps_ret (pe_op op_cat (pe_op op_cat (pe_slice sl_list (pv 0) po_none (po_some (pv 2))) (pe_revL (pe_slice sl_list (pv 0) (po_some (pv 2)) (po_some (pe_op op_add (pv 2) pe_int))))) (pe_slice sl_list (pv 0) (po_some (pe_op op_add (pv 2) pe_int)) po_none)))))))))))))), ?_⟩
    have ll : ((linesS L).map V.str).length = L.length := by unfold linesS; rw [List.length_map, List.length_map]
    have l0 : 0 < L.length := List.length_pos_iff.mpr ne
    have ld : ∀ {i : Nat}, (([d0, d1, d2, d3].map V.int)[i]?) = ([d0, d1, d2, d3][i]?).map V.int := fun {i} => List.getElem?_map ..
    have pl : (0 : Int) < (((linesS L).map V.str).length : Int) := by rw [ll]; omega
    obtain ⟨k, hk, kl⟩ : ∃ k : Nat, d1 % (((linesS L).map V.str).length : Int) = (k : Int) ∧ k < L.length := by
      have h1 := Int.emod_nonneg d1 (show (((linesS L).map V.str).length : Int) ≠ 0 by omega)
      have h2 := Int.emod_lt_of_pos d1 pl
      exact ⟨(d1 % (((linesS L).map V.str).length : Int)).toNat, by omega, by omega⟩
    have hLk := List.getElem?_eq_getElem kl
    generalize eW : L[k] = ws at hLk
    have gw := gl.2 ws (List.mem_of_getElem? hLk)
    have lw := gw.len
    have fw := gw.few
    have n20' := gl.1
    have at_k : atI ((linesS L).map V.str) (k : Int) = some (V.str (Txt.join " " ws)) := by
      unfold linesS
      rw [List.map_map]
      exact atI_nat (map_at (f := V.str ∘ Txt.join " ") hLk)
    refine ⟨_, rfl, d, _, 1, .int d1, rfl, rfl, hd, atI_nat (j := 1) rfl, _, rfl, a, _, rfl, .inl hS, _, _, rfl, rfl, pl, ?_⟩
    dsimp only
    rw [hk]
    refine ⟨_, rfl, _, rfl, a, _, _, _, rfl, rfl, hS, at_k, ⟨_, rfl⟩, _, _, rfl, rfl, by decide +kernel, by have := Nat.mul_le_mul_right 12 (show m ≤ 20 by omega); rw [sizeLine_eq]; omega, fun p np => ?_⟩
    rw [gw.split]
    have s1 := same_upd (o := .lst (ws.map V.str)) np
    have hp : upd H p (.lst (ws.map V.str)) p = some (.lst (ws.map V.str)) := upd_same
    generalize upd H p (.lst (ws.map V.str)) = G1 at *
    have pw : (0 : Int) < ((ws.map V.str).length : Int) + 1 := by omega
    obtain ⟨j, hj, jl⟩ : ∃ j : Nat, d2 % (((ws.map V.str).length : Int) + 1) = (j : Int) ∧ j ≤ ws.length := by
      have h1 := Int.emod_nonneg d2 (show ((ws.map V.str).length : Int) + 1 ≠ 0 by omega)
      have h2 := Int.emod_lt_of_pos d2 pw
      have h3 : (ws.map V.str).length = ws.length := List.length_map _
      exact ⟨(d2 % (((ws.map V.str).length : Int) + 1)).toNat, by omega, by omega⟩
    refine ⟨_, rfl, d, _, 2, .int d2, rfl, rfl, s1.seq hd, atI_nat (j := 2) rfl, _, rfl, p, _, rfl, .inl (SqL.of hp), _, _, rfl, rfl, _, _, rfl, rfl, pw, ?_⟩
    dsimp only
    rw [hj]
    refine ⟨(by show 13 ≤ sizeLine; decide), fun mn nmn => ?_⟩
    have eM : [V.str "sum", V.str "zero", V.str "one", V.str "a", V.str "b", V.str "", V.str "product", V.str "Sum", V.str "quotient", V.str "opposite", V.str "abcdefghi", V.str "x1", V.str "z"] = menu6.map V.str := rfl
    rw [eM]
    have s2 := s1.trans (same_upd (o := .lst (menu6.map V.str)) nmn)
    have hp2 := same_upd (o := .lst (menu6.map V.str)) nmn _ _ hp
    have hmn : upd G1 mn (.lst (menu6.map V.str)) mn = some (.lst (menu6.map V.str)) := upd_same
    obtain ⟨xw, hxw, mw⟩ := at_some (xs := menu6.map V.str) (v := d3 % 13) (Int.emod_nonneg _ (by decide)) (Int.emod_lt_of_pos _ (by decide))
    obtain ⟨wd, hwd, rfl⟩ := List.mem_map.mp mw
    have hwd : wd ∈ WS := List.mem_append_left _ hwd
    refine ⟨_, rfl, _, rfl, d, _, 3, .int d3, rfl, rfl, s2.seq hd, atI_nat (j := 3) rfl, _, _, rfl, rfl, (by show (0 : Int) < 13; decide), mn, _, _, _, rfl, rfl, SqL.of hmn, hxw, ?_⟩
    have hp := hp2
    clear hp2
    have wsz : ∀ {x : Nat}, x ≤ 1000 → x ≤ sizeLine := fun h => by rw [sizeLine_eq]; omega
    have l5 : (linesS L).length = L.length := by unfold linesS; rw [List.length_map]
    have joinsz : ∀ {xs : List Str}, xs.length ≤ m + 1 → (∀ z ∈ xs, z ∈ WS) → (xs.map (·.length)).sum + xs.length * (" " : Str).length ≤ 16777216 := fun {xs} h1 h2 => by
      have z1 := sum_le (k := 11) (ys := xs) fun y hy => (ws_ok (h2 y hy)).1
      have z3 : (" " : Str).length = 1 := by decide +kernel
      rw [z3]
      omega
    dsimp only
    generalize upd G1 mn (.lst (menu6.map V.str)) = G2 at *
    refine ⟨_, rfl, d, _, 0, .int d0, rfl, rfl, s2.seq hd, atI_nat (j := 0) rfl, rfl, _, rfl, ?_⟩
    by_cases c0 : d0 = 0
    · refine if_pos_of (decide_eq_true (congrArg V.int c0)) ?_
      refine ⟨_, rfl, _, rfl, _, rfl, p, _, rfl, SqL.of hp, fun a1 n_a1 => ?_⟩
      rw [cut_to]
      have g_a1 := same_upd (o := .lst ((ws.take j).map V.str)) n_a1
      have hp := g_a1 _ _ hp
      have h_a1 : upd G2 a1 (.lst ((ws.take j).map V.str)) a1 = some (.lst ((ws.take j).map V.str)) := upd_same
      have s_a1 := s2.trans g_a1
      generalize upd G2 a1 (.lst ((ws.take j).map V.str)) = G_a1 at *
      refine ⟨_, rfl, (by show 1 ≤ sizeLine; decide), fun a2 n_a2 => ?_⟩
      rw [show [V.str wd] = [wd].map V.str from rfl]
      have g_a2 := same_upd (o := .lst ([wd].map V.str)) n_a2
      have hp := g_a2 _ _ hp
      have h_a1 := g_a2 _ _ h_a1
      have h_a2 : upd G_a1 a2 (.lst ([wd].map V.str)) a2 = some (.lst ([wd].map V.str)) := upd_same
      have s_a2 := s_a1.trans g_a2
      generalize upd G_a1 a2 (.lst ([wd].map V.str)) = G_a2 at *
      refine ⟨a1, a2, _, _, rfl, rfl, h_a1, h_a2, wsz (by simp only [List.length_map, List.length_append, List.length_take, List.length_drop, List.length_reverse, List.length_cons, List.length_nil]; omega), fun a3 n_a3 => ?_⟩
      rw [show (ws.take j).map V.str ++ [wd].map V.str = ((ws.take j) ++ [wd]).map V.str from List.map_append.symm]
      have g_a3 := same_upd (o := .lst (((ws.take j) ++ [wd]).map V.str)) n_a3
      have hp := g_a3 _ _ hp
      have h_a1 := g_a3 _ _ h_a1
      have h_a2 := g_a3 _ _ h_a2
      have h_a3 : upd G_a2 a3 (.lst (((ws.take j) ++ [wd]).map V.str)) a3 = some (.lst (((ws.take j) ++ [wd]).map V.str)) := upd_same
      have s_a3 := s_a2.trans g_a3
      generalize upd G_a2 a3 (.lst (((ws.take j) ++ [wd]).map V.str)) = G_a3 at *
      refine ⟨_, rfl, _, rfl, _, rfl, p, _, rfl, SqL.of hp, fun a4 n_a4 => ?_⟩
      rw [cutS_from]
      have g_a4 := same_upd (o := .lst ((ws.drop j).map V.str)) n_a4
      have hp := g_a4 _ _ hp
      have h_a1 := g_a4 _ _ h_a1
      have h_a2 := g_a4 _ _ h_a2
      have h_a3 := g_a4 _ _ h_a3
      have h_a4 : upd G_a3 a4 (.lst ((ws.drop j).map V.str)) a4 = some (.lst ((ws.drop j).map V.str)) := upd_same
      have s_a4 := s_a3.trans g_a4
      generalize upd G_a3 a4 (.lst ((ws.drop j).map V.str)) = G_a4 at *
      refine ⟨a3, a4, _, _, rfl, rfl, h_a3, h_a4, wsz (by simp only [List.length_map, List.length_append, List.length_take, List.length_drop, List.length_reverse, List.length_cons, List.length_nil]; omega), fun a5 n_a5 => ?_⟩
      rw [show (ws.take j ++ [wd]).map V.str ++ (ws.drop j).map V.str = ((ws.take j ++ [wd]) ++ (ws.drop j)).map V.str from List.map_append.symm]
      have g_a5 := same_upd (o := .lst (((ws.take j ++ [wd]) ++ (ws.drop j)).map V.str)) n_a5
      have hp := g_a5 _ _ hp
      have h_a1 := g_a5 _ _ h_a1
      have h_a2 := g_a5 _ _ h_a2
      have h_a3 := g_a5 _ _ h_a3
      have h_a4 := g_a5 _ _ h_a4
      have h_a5 : upd G_a4 a5 (.lst (((ws.take j ++ [wd]) ++ (ws.drop j)).map V.str)) a5 = some (.lst (((ws.take j ++ [wd]) ++ (ws.drop j)).map V.str)) := upd_same
      have s_a5 := s_a4.trans g_a5
      generalize upd G_a4 a5 (.lst (((ws.take j ++ [wd]) ++ (ws.drop j)).map V.str)) = G_a5 at *
      have fx : ((ws.take j ++ [wd]) ++ ws.drop j).length ≤ m + 1 := by simp only [List.length_append, List.length_take, List.length_drop, List.length_cons, List.length_nil]; omega
      have mx := mem_ws3 gw.ws hwd (j := j) (l := j)
      generalize (ws.take j ++ [wd]) ++ (ws.drop j) = xs at *
      refine ⟨_, rfl, _, rfl, _, rfl, a, _, rfl, s_a5.seq hS, fun b1 n_b1 => ?_⟩
      rw [cut_to]
      have g_b1 := same_upd (o := .lst (((linesS L).take k).map V.str)) n_b1
      have h_a5 := g_b1 _ _ h_a5
      have h_b1 : upd G_a5 b1 (.lst (((linesS L).take k).map V.str)) b1 = some (.lst (((linesS L).take k).map V.str)) := upd_same
      have s_b1 := s_a5.trans g_b1
      generalize upd G_a5 b1 (.lst (((linesS L).take k).map V.str)) = G_b1 at *
      refine ⟨⟨_, rfl⟩, _, rfl, _, a5, xs, rfl, rfl, .inl (SqL.of h_a5), joinsz fx mx, (by show 1 ≤ sizeLine; decide), fun b2 n_b2 => ?_⟩
      rw [show [V.str (Txt.join " " xs)] = [(Txt.join " " xs)].map V.str from rfl]
      have g_b2 := same_upd (o := .lst ([(Txt.join " " xs)].map V.str)) n_b2
      have h_a5 := g_b2 _ _ h_a5
      have h_b1 := g_b2 _ _ h_b1
      have h_b2 : upd G_b1 b2 (.lst ([(Txt.join " " xs)].map V.str)) b2 = some (.lst ([(Txt.join " " xs)].map V.str)) := upd_same
      have s_b2 := s_b1.trans g_b2
      generalize upd G_b1 b2 (.lst ([(Txt.join " " xs)].map V.str)) = G_b2 at *
      refine ⟨b1, b2, _, _, rfl, rfl, h_b1, h_b2, wsz (by simp only [List.length_map, List.length_append, List.length_take, List.length_drop, List.length_reverse, List.length_cons, List.length_nil]; omega), fun b3 n_b3 => ?_⟩
      rw [show ((linesS L).take k).map V.str ++ [Txt.join " " xs].map V.str = (((linesS L).take k) ++ [Txt.join " " xs]).map V.str from List.map_append.symm]
      have g_b3 := same_upd (o := .lst ((((linesS L).take k) ++ [Txt.join " " xs]).map V.str)) n_b3
      have h_a5 := g_b3 _ _ h_a5
      have h_b1 := g_b3 _ _ h_b1
      have h_b2 := g_b3 _ _ h_b2
      have h_b3 : upd G_b2 b3 (.lst ((((linesS L).take k) ++ [Txt.join " " xs]).map V.str)) b3 = some (.lst ((((linesS L).take k) ++ [Txt.join " " xs]).map V.str)) := upd_same
      have s_b3 := s_b2.trans g_b3
      generalize upd G_b2 b3 (.lst ((((linesS L).take k) ++ [Txt.join " " xs]).map V.str)) = G_b3 at *
      refine ⟨_, rfl, _, rfl, _, _, rfl, rfl, _, rfl, a, _, rfl, s_b3.seq hS, fun b4 n_b4 => ?_⟩
      dsimp only
      rw [show (k : Int) + 1 = ((k + 1 : Nat) : Int) by omega]
      rw [cutS_from]
      have g_b4 := same_upd (o := .lst (((linesS L).drop (k + 1)).map V.str)) n_b4
      have h_a5 := g_b4 _ _ h_a5
      have h_b1 := g_b4 _ _ h_b1
      have h_b2 := g_b4 _ _ h_b2
      have h_b3 := g_b4 _ _ h_b3
      have h_b4 : upd G_b3 b4 (.lst (((linesS L).drop (k + 1)).map V.str)) b4 = some (.lst (((linesS L).drop (k + 1)).map V.str)) := upd_same
      have s_b4 := s_b3.trans g_b4
      generalize upd G_b3 b4 (.lst (((linesS L).drop (k + 1)).map V.str)) = G_b4 at *
      refine ⟨b3, b4, _, _, rfl, rfl, h_b3, h_b4, wsz (by simp only [List.length_map, List.length_append, List.length_take, List.length_drop, List.length_reverse, List.length_cons, List.length_nil]; omega), fun b5 n_b5 => ?_⟩
      rw [show ((linesS L).take k ++ [Txt.join " " xs]).map V.str ++ ((linesS L).drop (k + 1)).map V.str = (((linesS L).take k ++ [Txt.join " " xs]) ++ ((linesS L).drop (k + 1))).map V.str from List.map_append.symm]
      have g_b5 := same_upd (o := .lst ((((linesS L).take k ++ [Txt.join " " xs]) ++ ((linesS L).drop (k + 1))).map V.str)) n_b5
      have h_a5 := g_b5 _ _ h_a5
      have h_b1 := g_b5 _ _ h_b1
      have h_b2 := g_b5 _ _ h_b2
      have h_b3 := g_b5 _ _ h_b3
      have h_b4 := g_b5 _ _ h_b4
      have h_b5 : upd G_b4 b5 (.lst ((((linesS L).take k ++ [Txt.join " " xs]) ++ ((linesS L).drop (k + 1))).map V.str)) b5 = some (.lst ((((linesS L).take k ++ [Txt.join " " xs]) ++ ((linesS L).drop (k + 1))).map V.str)) := upd_same
      have s_b5 := s_b4.trans g_b5
      generalize upd G_b4 b5 (.lst ((((linesS L).take k ++ [Txt.join " " xs]) ++ ((linesS L).drop (k + 1))).map V.str)) = G_b5 at *
      rw [lines_set] at h_b5
      exact q b5 _ _ s_b5 h_b5 (goodL_of gl (by simp only [List.length_append, List.length_take, List.length_drop, List.length_cons, List.length_nil]; omega) (mem_L3 (.inr (goodW_nw fx mx)))) (by simp)
    refine if_neg_of (decide_eq_false fun e => c0 (V.int.inj e)) ?_
    refine ⟨_, rfl, d, _, 0, .int d0, rfl, rfl, s2.seq hd, atI_nat (j := 0) rfl, rfl, _, rfl, ?_⟩
    by_cases c1 : d0 = 1
    · refine if_pos_of (decide_eq_true (congrArg V.int c1)) ?_
      refine ⟨_, rfl, _, rfl, _, rfl, p, _, rfl, SqL.of hp, fun a1 n_a1 => ?_⟩
      rw [cut_to]
      have g_a1 := same_upd (o := .lst ((ws.take j).map V.str)) n_a1
      have hp := g_a1 _ _ hp
      have h_a1 : upd G2 a1 (.lst ((ws.take j).map V.str)) a1 = some (.lst ((ws.take j).map V.str)) := upd_same
      have s_a1 := s2.trans g_a1
      generalize upd G2 a1 (.lst ((ws.take j).map V.str)) = G_a1 at *
      refine ⟨_, rfl, _, rfl, _, _, rfl, rfl, _, rfl, p, _, rfl, SqL.of hp, fun a4 n_a4 => ?_⟩
      dsimp only
      rw [show (j : Int) + 1 = ((j + 1 : Nat) : Int) by omega]
      rw [cutS_from]
      have g_a4 := same_upd (o := .lst ((ws.drop (j + 1)).map V.str)) n_a4
      have hp := g_a4 _ _ hp
      have h_a1 := g_a4 _ _ h_a1
      have h_a4 : upd G_a1 a4 (.lst ((ws.drop (j + 1)).map V.str)) a4 = some (.lst ((ws.drop (j + 1)).map V.str)) := upd_same
      have s_a4 := s_a1.trans g_a4
      generalize upd G_a1 a4 (.lst ((ws.drop (j + 1)).map V.str)) = G_a4 at *
      refine ⟨a1, a4, _, _, rfl, rfl, h_a1, h_a4, wsz (by simp only [List.length_map, List.length_append, List.length_take, List.length_drop, List.length_reverse, List.length_cons, List.length_nil]; omega), fun a5 n_a5 => ?_⟩
      rw [show (ws.take j).map V.str ++ (ws.drop (j + 1)).map V.str = ((ws.take j) ++ (ws.drop (j + 1))).map V.str from List.map_append.symm]
      have g_a5 := same_upd (o := .lst (((ws.take j) ++ (ws.drop (j + 1))).map V.str)) n_a5
      have hp := g_a5 _ _ hp
      have h_a1 := g_a5 _ _ h_a1
      have h_a4 := g_a5 _ _ h_a4
      have h_a5 : upd G_a4 a5 (.lst (((ws.take j) ++ (ws.drop (j + 1))).map V.str)) a5 = some (.lst (((ws.take j) ++ (ws.drop (j + 1))).map V.str)) := upd_same
      have s_a5 := s_a4.trans g_a5
      generalize upd G_a4 a5 (.lst (((ws.take j) ++ (ws.drop (j + 1))).map V.str)) = G_a5 at *
      have fx : ((ws.take j) ++ ws.drop (j + 1)).length ≤ m + 1 := by simp only [List.length_append, List.length_take, List.length_drop, List.length_cons, List.length_nil]; omega
      have mx := mem_ws2 gw.ws (j := j) (l := (j + 1))
      generalize (ws.take j) ++ (ws.drop (j + 1)) = xs at *
      refine ⟨_, rfl, _, rfl, _, rfl, a, _, rfl, s_a5.seq hS, fun b1 n_b1 => ?_⟩
      rw [cut_to]
      have g_b1 := same_upd (o := .lst (((linesS L).take k).map V.str)) n_b1
      have h_a5 := g_b1 _ _ h_a5
      have h_b1 : upd G_a5 b1 (.lst (((linesS L).take k).map V.str)) b1 = some (.lst (((linesS L).take k).map V.str)) := upd_same
      have s_b1 := s_a5.trans g_b1
      generalize upd G_a5 b1 (.lst (((linesS L).take k).map V.str)) = G_b1 at *
      refine ⟨⟨_, rfl⟩, _, rfl, _, a5, xs, rfl, rfl, .inl (SqL.of h_a5), joinsz fx mx, (by show 1 ≤ sizeLine; decide), fun b2 n_b2 => ?_⟩
      rw [show [V.str (Txt.join " " xs)] = [(Txt.join " " xs)].map V.str from rfl]
      have g_b2 := same_upd (o := .lst ([(Txt.join " " xs)].map V.str)) n_b2
      have h_a5 := g_b2 _ _ h_a5
      have h_b1 := g_b2 _ _ h_b1
      have h_b2 : upd G_b1 b2 (.lst ([(Txt.join " " xs)].map V.str)) b2 = some (.lst ([(Txt.join " " xs)].map V.str)) := upd_same
      have s_b2 := s_b1.trans g_b2
      generalize upd G_b1 b2 (.lst ([(Txt.join " " xs)].map V.str)) = G_b2 at *
      refine ⟨b1, b2, _, _, rfl, rfl, h_b1, h_b2, wsz (by simp only [List.length_map, List.length_append, List.length_take, List.length_drop, List.length_reverse, List.length_cons, List.length_nil]; omega), fun b3 n_b3 => ?_⟩
      rw [show ((linesS L).take k).map V.str ++ [Txt.join " " xs].map V.str = (((linesS L).take k) ++ [Txt.join " " xs]).map V.str from List.map_append.symm]
      have g_b3 := same_upd (o := .lst ((((linesS L).take k) ++ [Txt.join " " xs]).map V.str)) n_b3
      have h_a5 := g_b3 _ _ h_a5
      have h_b1 := g_b3 _ _ h_b1
      have h_b2 := g_b3 _ _ h_b2
      have h_b3 : upd G_b2 b3 (.lst ((((linesS L).take k) ++ [Txt.join " " xs]).map V.str)) b3 = some (.lst ((((linesS L).take k) ++ [Txt.join " " xs]).map V.str)) := upd_same
      have s_b3 := s_b2.trans g_b3
      generalize upd G_b2 b3 (.lst ((((linesS L).take k) ++ [Txt.join " " xs]).map V.str)) = G_b3 at *
      refine ⟨_, rfl, _, rfl, _, _, rfl, rfl, _, rfl, a, _, rfl, s_b3.seq hS, fun b4 n_b4 => ?_⟩
      dsimp only
      rw [show (k : Int) + 1 = ((k + 1 : Nat) : Int) by omega]
      rw [cutS_from]
      have g_b4 := same_upd (o := .lst (((linesS L).drop (k + 1)).map V.str)) n_b4
      have h_a5 := g_b4 _ _ h_a5
      have h_b1 := g_b4 _ _ h_b1
      have h_b2 := g_b4 _ _ h_b2
      have h_b3 := g_b4 _ _ h_b3
      have h_b4 : upd G_b3 b4 (.lst (((linesS L).drop (k + 1)).map V.str)) b4 = some (.lst (((linesS L).drop (k + 1)).map V.str)) := upd_same
      have s_b4 := s_b3.trans g_b4
      generalize upd G_b3 b4 (.lst (((linesS L).drop (k + 1)).map V.str)) = G_b4 at *
      refine ⟨b3, b4, _, _, rfl, rfl, h_b3, h_b4, wsz (by simp only [List.length_map, List.length_append, List.length_take, List.length_drop, List.length_reverse, List.length_cons, List.length_nil]; omega), fun b5 n_b5 => ?_⟩
      rw [show ((linesS L).take k ++ [Txt.join " " xs]).map V.str ++ ((linesS L).drop (k + 1)).map V.str = (((linesS L).take k ++ [Txt.join " " xs]) ++ ((linesS L).drop (k + 1))).map V.str from List.map_append.symm]
      have g_b5 := same_upd (o := .lst ((((linesS L).take k ++ [Txt.join " " xs]) ++ ((linesS L).drop (k + 1))).map V.str)) n_b5
      have h_a5 := g_b5 _ _ h_a5
      have h_b1 := g_b5 _ _ h_b1
      have h_b2 := g_b5 _ _ h_b2
      have h_b3 := g_b5 _ _ h_b3
      have h_b4 := g_b5 _ _ h_b4
      have h_b5 : upd G_b4 b5 (.lst ((((linesS L).take k ++ [Txt.join " " xs]) ++ ((linesS L).drop (k + 1))).map V.str)) b5 = some (.lst ((((linesS L).take k ++ [Txt.join " " xs]) ++ ((linesS L).drop (k + 1))).map V.str)) := upd_same
      have s_b5 := s_b4.trans g_b5
      generalize upd G_b4 b5 (.lst ((((linesS L).take k ++ [Txt.join " " xs]) ++ ((linesS L).drop (k + 1))).map V.str)) = G_b5 at *
      rw [lines_set] at h_b5
      exact q b5 _ _ s_b5 h_b5 (goodL_of gl (by simp only [List.length_append, List.length_take, List.length_drop, List.length_cons, List.length_nil]; omega) (mem_L3 (.inr (goodW_nw fx mx)))) (by simp)
    refine if_neg_of (decide_eq_false fun e => c1 (V.int.inj e)) ?_
    refine ⟨_, rfl, d, _, 0, .int d0, rfl, rfl, s2.seq hd, atI_nat (j := 0) rfl, rfl, _, rfl, ?_⟩
    by_cases c2 : d0 = 2
    · refine if_pos_of (decide_eq_true (congrArg V.int c2)) ?_
      refine ⟨_, rfl, _, rfl, _, rfl, p, _, rfl, SqL.of hp, fun a1 n_a1 => ?_⟩
      rw [cut_to]
      have g_a1 := same_upd (o := .lst ((ws.take j).map V.str)) n_a1
      have hp := g_a1 _ _ hp
      have h_a1 : upd G2 a1 (.lst ((ws.take j).map V.str)) a1 = some (.lst ((ws.take j).map V.str)) := upd_same
      have s_a1 := s2.trans g_a1
      generalize upd G2 a1 (.lst ((ws.take j).map V.str)) = G_a1 at *
      refine ⟨_, rfl, (by show 1 ≤ sizeLine; decide), fun a2 n_a2 => ?_⟩
      rw [show [V.str wd] = [wd].map V.str from rfl]
      have g_a2 := same_upd (o := .lst ([wd].map V.str)) n_a2
      have hp := g_a2 _ _ hp
      have h_a1 := g_a2 _ _ h_a1
      have h_a2 : upd G_a1 a2 (.lst ([wd].map V.str)) a2 = some (.lst ([wd].map V.str)) := upd_same
      have s_a2 := s_a1.trans g_a2
      generalize upd G_a1 a2 (.lst ([wd].map V.str)) = G_a2 at *
      refine ⟨a1, a2, _, _, rfl, rfl, h_a1, h_a2, wsz (by simp only [List.length_map, List.length_append, List.length_take, List.length_drop, List.length_reverse, List.length_cons, List.length_nil]; omega), fun a3 n_a3 => ?_⟩
      rw [show (ws.take j).map V.str ++ [wd].map V.str = ((ws.take j) ++ [wd]).map V.str from List.map_append.symm]
      have g_a3 := same_upd (o := .lst (((ws.take j) ++ [wd]).map V.str)) n_a3
      have hp := g_a3 _ _ hp
      have h_a1 := g_a3 _ _ h_a1
      have h_a2 := g_a3 _ _ h_a2
      have h_a3 : upd G_a2 a3 (.lst (((ws.take j) ++ [wd]).map V.str)) a3 = some (.lst (((ws.take j) ++ [wd]).map V.str)) := upd_same
      have s_a3 := s_a2.trans g_a3
      generalize upd G_a2 a3 (.lst (((ws.take j) ++ [wd]).map V.str)) = G_a3 at *
      refine ⟨_, rfl, _, rfl, _, _, rfl, rfl, _, rfl, p, _, rfl, SqL.of hp, fun a4 n_a4 => ?_⟩
      dsimp only
      rw [show (j : Int) + 1 = ((j + 1 : Nat) : Int) by omega]
      rw [cutS_from]
      have g_a4 := same_upd (o := .lst ((ws.drop (j + 1)).map V.str)) n_a4
      have hp := g_a4 _ _ hp
      have h_a1 := g_a4 _ _ h_a1
      have h_a2 := g_a4 _ _ h_a2
      have h_a3 := g_a4 _ _ h_a3
      have h_a4 : upd G_a3 a4 (.lst ((ws.drop (j + 1)).map V.str)) a4 = some (.lst ((ws.drop (j + 1)).map V.str)) := upd_same
      have s_a4 := s_a3.trans g_a4
      generalize upd G_a3 a4 (.lst ((ws.drop (j + 1)).map V.str)) = G_a4 at *
      refine ⟨a3, a4, _, _, rfl, rfl, h_a3, h_a4, wsz (by simp only [List.length_map, List.length_append, List.length_take, List.length_drop, List.length_reverse, List.length_cons, List.length_nil]; omega), fun a5 n_a5 => ?_⟩
      rw [show (ws.take j ++ [wd]).map V.str ++ (ws.drop (j + 1)).map V.str = ((ws.take j ++ [wd]) ++ (ws.drop (j + 1))).map V.str from List.map_append.symm]
      have g_a5 := same_upd (o := .lst (((ws.take j ++ [wd]) ++ (ws.drop (j + 1))).map V.str)) n_a5
      have hp := g_a5 _ _ hp
      have h_a1 := g_a5 _ _ h_a1
      have h_a2 := g_a5 _ _ h_a2
      have h_a3 := g_a5 _ _ h_a3
      have h_a4 := g_a5 _ _ h_a4
      have h_a5 : upd G_a4 a5 (.lst (((ws.take j ++ [wd]) ++ (ws.drop (j + 1))).map V.str)) a5 = some (.lst (((ws.take j ++ [wd]) ++ (ws.drop (j + 1))).map V.str)) := upd_same
      have s_a5 := s_a4.trans g_a5
      generalize upd G_a4 a5 (.lst (((ws.take j ++ [wd]) ++ (ws.drop (j + 1))).map V.str)) = G_a5 at *
      have fx : ((ws.take j ++ [wd]) ++ ws.drop (j + 1)).length ≤ m + 1 := by simp only [List.length_append, List.length_take, List.length_drop, List.length_cons, List.length_nil]; omega
      have mx := mem_ws3 gw.ws hwd (j := j) (l := (j + 1))
      generalize (ws.take j ++ [wd]) ++ (ws.drop (j + 1)) = xs at *
      refine ⟨_, rfl, _, rfl, _, rfl, a, _, rfl, s_a5.seq hS, fun b1 n_b1 => ?_⟩
      rw [cut_to]
      have g_b1 := same_upd (o := .lst (((linesS L).take k).map V.str)) n_b1
      have h_a5 := g_b1 _ _ h_a5
      have h_b1 : upd G_a5 b1 (.lst (((linesS L).take k).map V.str)) b1 = some (.lst (((linesS L).take k).map V.str)) := upd_same
      have s_b1 := s_a5.trans g_b1
      generalize upd G_a5 b1 (.lst (((linesS L).take k).map V.str)) = G_b1 at *
      refine ⟨⟨_, rfl⟩, _, rfl, _, a5, xs, rfl, rfl, .inl (SqL.of h_a5), joinsz fx mx, (by show 1 ≤ sizeLine; decide), fun b2 n_b2 => ?_⟩
      rw [show [V.str (Txt.join " " xs)] = [(Txt.join " " xs)].map V.str from rfl]
      have g_b2 := same_upd (o := .lst ([(Txt.join " " xs)].map V.str)) n_b2
      have h_a5 := g_b2 _ _ h_a5
      have h_b1 := g_b2 _ _ h_b1
      have h_b2 : upd G_b1 b2 (.lst ([(Txt.join " " xs)].map V.str)) b2 = some (.lst ([(Txt.join " " xs)].map V.str)) := upd_same
      have s_b2 := s_b1.trans g_b2
      generalize upd G_b1 b2 (.lst ([(Txt.join " " xs)].map V.str)) = G_b2 at *
      refine ⟨b1, b2, _, _, rfl, rfl, h_b1, h_b2, wsz (by simp only [List.length_map, List.length_append, List.length_take, List.length_drop, List.length_reverse, List.length_cons, List.length_nil]; omega), fun b3 n_b3 => ?_⟩
      rw [show ((linesS L).take k).map V.str ++ [Txt.join " " xs].map V.str = (((linesS L).take k) ++ [Txt.join " " xs]).map V.str from List.map_append.symm]
      have g_b3 := same_upd (o := .lst ((((linesS L).take k) ++ [Txt.join " " xs]).map V.str)) n_b3
      have h_a5 := g_b3 _ _ h_a5
      have h_b1 := g_b3 _ _ h_b1
      have h_b2 := g_b3 _ _ h_b2
      have h_b3 : upd G_b2 b3 (.lst ((((linesS L).take k) ++ [Txt.join " " xs]).map V.str)) b3 = some (.lst ((((linesS L).take k) ++ [Txt.join " " xs]).map V.str)) := upd_same
      have s_b3 := s_b2.trans g_b3
      generalize upd G_b2 b3 (.lst ((((linesS L).take k) ++ [Txt.join " " xs]).map V.str)) = G_b3 at *
      refine ⟨_, rfl, _, rfl, _, _, rfl, rfl, _, rfl, a, _, rfl, s_b3.seq hS, fun b4 n_b4 => ?_⟩
      dsimp only
      rw [show (k : Int) + 1 = ((k + 1 : Nat) : Int) by omega]
      rw [cutS_from]
      have g_b4 := same_upd (o := .lst (((linesS L).drop (k + 1)).map V.str)) n_b4
      have h_a5 := g_b4 _ _ h_a5
      have h_b1 := g_b4 _ _ h_b1
      have h_b2 := g_b4 _ _ h_b2
      have h_b3 := g_b4 _ _ h_b3
      have h_b4 : upd G_b3 b4 (.lst (((linesS L).drop (k + 1)).map V.str)) b4 = some (.lst (((linesS L).drop (k + 1)).map V.str)) := upd_same
      have s_b4 := s_b3.trans g_b4
      generalize upd G_b3 b4 (.lst (((linesS L).drop (k + 1)).map V.str)) = G_b4 at *
      refine ⟨b3, b4, _, _, rfl, rfl, h_b3, h_b4, wsz (by simp only [List.length_map, List.length_append, List.length_take, List.length_drop, List.length_reverse, List.length_cons, List.length_nil]; omega), fun b5 n_b5 => ?_⟩
      rw [show ((linesS L).take k ++ [Txt.join " " xs]).map V.str ++ ((linesS L).drop (k + 1)).map V.str = (((linesS L).take k ++ [Txt.join " " xs]) ++ ((linesS L).drop (k + 1))).map V.str from List.map_append.symm]
      have g_b5 := same_upd (o := .lst ((((linesS L).take k ++ [Txt.join " " xs]) ++ ((linesS L).drop (k + 1))).map V.str)) n_b5
      have h_a5 := g_b5 _ _ h_a5
      have h_b1 := g_b5 _ _ h_b1
      have h_b2 := g_b5 _ _ h_b2
      have h_b3 := g_b5 _ _ h_b3
      have h_b4 := g_b5 _ _ h_b4
      have h_b5 : upd G_b4 b5 (.lst ((((linesS L).take k ++ [Txt.join " " xs]) ++ ((linesS L).drop (k + 1))).map V.str)) b5 = some (.lst ((((linesS L).take k ++ [Txt.join " " xs]) ++ ((linesS L).drop (k + 1))).map V.str)) := upd_same
      have s_b5 := s_b4.trans g_b5
      generalize upd G_b4 b5 (.lst ((((linesS L).take k ++ [Txt.join " " xs]) ++ ((linesS L).drop (k + 1))).map V.str)) = G_b5 at *
      rw [lines_set] at h_b5
      exact q b5 _ _ s_b5 h_b5 (goodL_of gl (by simp only [List.length_append, List.length_take, List.length_drop, List.length_cons, List.length_nil]; omega) (mem_L3 (.inr (goodW_nw fx mx)))) (by simp)
    refine if_neg_of (decide_eq_false fun e => c2 (V.int.inj e)) ?_
    have more : ∀ {P : Prop}, P → P := id
    refine ⟨_, rfl, d, _, 0, .int d0, rfl, rfl, s2.seq hd, atI_nat (j := 0) rfl, rfl, _, rfl, ?_⟩
    by_cases c3 : d0 = 3
    · refine if_pos_of (decide_eq_true (congrArg V.int c3)) ?_
      refine ⟨_, rfl, a, _, rfl, .inl (s2.seq hS), _, _, rfl, rfl, _, rfl, ?_⟩
      by_cases c5 : 1 < L.length
      · refine if_pos_of (decide_eq_true (by rw [ll]; omega)) ?_
        refine ⟨_, rfl, _, rfl, _, rfl, a, _, rfl, s2.seq hS, fun b1 n_b1 => ?_⟩
        rw [cut_to]
        have g_b1 := same_upd (o := .lst (((linesS L).take k).map V.str)) n_b1
        have h_b1 : upd G2 b1 (.lst (((linesS L).take k).map V.str)) b1 = some (.lst (((linesS L).take k).map V.str)) := upd_same
        have s_b1 := s2.trans g_b1
        generalize upd G2 b1 (.lst (((linesS L).take k).map V.str)) = G_b1 at *
        refine ⟨_, rfl, _, rfl, _, _, rfl, rfl, _, rfl, a, _, rfl, s_b1.seq hS, fun b2 n_b2 => ?_⟩
        dsimp only
        rw [show (k : Int) + 1 = ((k + 1 : Nat) : Int) by omega]
        rw [cutS_from]
        have g_b2 := same_upd (o := .lst (((linesS L).drop (k + 1)).map V.str)) n_b2
        have h_b1 := g_b2 _ _ h_b1
        have h_b2 : upd G_b1 b2 (.lst (((linesS L).drop (k + 1)).map V.str)) b2 = some (.lst (((linesS L).drop (k + 1)).map V.str)) := upd_same
        have s_b2 := s_b1.trans g_b2
        generalize upd G_b1 b2 (.lst (((linesS L).drop (k + 1)).map V.str)) = G_b2 at *
        refine ⟨b1, b2, _, _, rfl, rfl, h_b1, h_b2, wsz (by simp only [List.length_map, List.length_append, List.length_take, List.length_drop, List.length_reverse, List.length_cons, List.length_nil]; omega), fun b3 n_b3 => ?_⟩
        rw [show ((linesS L).take k).map V.str ++ ((linesS L).drop (k + 1)).map V.str = (((linesS L).take k) ++ ((linesS L).drop (k + 1))).map V.str from List.map_append.symm]
        have g_b3 := same_upd (o := .lst ((((linesS L).take k) ++ ((linesS L).drop (k + 1))).map V.str)) n_b3
        have h_b1 := g_b3 _ _ h_b1
        have h_b2 := g_b3 _ _ h_b2
        have h_b3 : upd G_b2 b3 (.lst ((((linesS L).take k) ++ ((linesS L).drop (k + 1))).map V.str)) b3 = some (.lst ((((linesS L).take k) ++ ((linesS L).drop (k + 1))).map V.str)) := upd_same
        have s_b3 := s_b2.trans g_b3
        generalize upd G_b2 b3 (.lst ((((linesS L).take k) ++ ((linesS L).drop (k + 1))).map V.str)) = G_b3 at *
        rw [show (linesS L).take k ++ (linesS L).drop (k + 1) = linesS (L.take k ++ L.drop (k + 1)) by unfold linesS; rw [List.map_append, List.map_take, List.map_drop]] at h_b3
        refine q b3 _ _ s_b3 h_b3 (goodL_of gl (by simp only [List.length_append, List.length_take, List.length_drop, List.length_reverse, List.length_cons, List.length_nil]; omega) fun w hw => .inl ?_) (fun e => ?_)
        · rcases List.mem_append.mp hw with hw | hw
          · exact List.mem_of_mem_take hw
          · exact List.mem_of_mem_drop hw
        · have z := congrArg List.length e
          simp only [List.length_append, List.length_take, List.length_drop, List.length_nil] at z
          omega
      · refine if_neg_of (decide_eq_false (by rw [ll]; omega)) ?_
        refine ⟨_, rfl, d, _, 0, .int d0, rfl, rfl, s2.seq hd, atI_nat (j := 0) rfl, rfl, _, rfl, ?_⟩
        by_cases c4 : d0 = 4
        · refine if_pos_of (decide_eq_true (congrArg V.int c4)) ?_
          refine ⟨_, rfl, _, rfl, _, rfl, a, _, rfl, s2.seq hS, fun b1 n_b1 => ?_⟩
          rw [cut_to]
          have g_b1 := same_upd (o := .lst (((linesS L).take k).map V.str)) n_b1
          have h_b1 : upd G2 b1 (.lst (((linesS L).take k).map V.str)) b1 = some (.lst (((linesS L).take k).map V.str)) := upd_same
          have s_b1 := s2.trans g_b1
          generalize upd G2 b1 (.lst (((linesS L).take k).map V.str)) = G_b1 at *
          refine ⟨_, rfl, _, rfl, a, _, _, _, rfl, rfl, s_b1.seq hS, at_k, (by show 1 ≤ sizeLine; decide), fun b2 n_b2 => ?_⟩
          rw [show [V.str (Txt.join " " ws)] = [(Txt.join " " ws)].map V.str from rfl]
          have g_b2 := same_upd (o := .lst ([(Txt.join " " ws)].map V.str)) n_b2
          have h_b1 := g_b2 _ _ h_b1
          have h_b2 : upd G_b1 b2 (.lst ([(Txt.join " " ws)].map V.str)) b2 = some (.lst ([(Txt.join " " ws)].map V.str)) := upd_same
          have s_b2 := s_b1.trans g_b2
          generalize upd G_b1 b2 (.lst ([(Txt.join " " ws)].map V.str)) = G_b2 at *
          refine ⟨b1, b2, _, _, rfl, rfl, h_b1, h_b2, wsz (by simp only [List.length_map, List.length_append, List.length_take, List.length_drop, List.length_reverse, List.length_cons, List.length_nil]; omega), fun b3 n_b3 => ?_⟩
          rw [show ((linesS L).take k).map V.str ++ [Txt.join " " ws].map V.str = (((linesS L).take k) ++ [Txt.join " " ws]).map V.str from List.map_append.symm]
          have g_b3 := same_upd (o := .lst ((((linesS L).take k) ++ [Txt.join " " ws]).map V.str)) n_b3
          have h_b1 := g_b3 _ _ h_b1
          have h_b2 := g_b3 _ _ h_b2
          have h_b3 : upd G_b2 b3 (.lst ((((linesS L).take k) ++ [Txt.join " " ws]).map V.str)) b3 = some (.lst ((((linesS L).take k) ++ [Txt.join " " ws]).map V.str)) := upd_same
          have s_b3 := s_b2.trans g_b3
          generalize upd G_b2 b3 (.lst ((((linesS L).take k) ++ [Txt.join " " ws]).map V.str)) = G_b3 at *
          refine ⟨_, rfl, _, rfl, _, rfl, a, _, rfl, s_b3.seq hS, fun b4 n_b4 => ?_⟩
          rw [cutS_from]
          have g_b4 := same_upd (o := .lst (((linesS L).drop k).map V.str)) n_b4
          have h_b1 := g_b4 _ _ h_b1
          have h_b2 := g_b4 _ _ h_b2
          have h_b3 := g_b4 _ _ h_b3
          have h_b4 : upd G_b3 b4 (.lst (((linesS L).drop k).map V.str)) b4 = some (.lst (((linesS L).drop k).map V.str)) := upd_same
          have s_b4 := s_b3.trans g_b4
          generalize upd G_b3 b4 (.lst (((linesS L).drop k).map V.str)) = G_b4 at *
          refine ⟨b3, b4, _, _, rfl, rfl, h_b3, h_b4, wsz (by simp only [List.length_map, List.length_append, List.length_take, List.length_drop, List.length_reverse, List.length_cons, List.length_nil]; omega), fun b5 n_b5 => ?_⟩
          rw [show ((linesS L).take k ++ [Txt.join " " ws]).map V.str ++ ((linesS L).drop k).map V.str = (((linesS L).take k ++ [Txt.join " " ws]) ++ ((linesS L).drop k)).map V.str from List.map_append.symm]
          have g_b5 := same_upd (o := .lst ((((linesS L).take k ++ [Txt.join " " ws]) ++ ((linesS L).drop k)).map V.str)) n_b5
          have h_b1 := g_b5 _ _ h_b1
          have h_b2 := g_b5 _ _ h_b2
          have h_b3 := g_b5 _ _ h_b3
          have h_b4 := g_b5 _ _ h_b4
          have h_b5 : upd G_b4 b5 (.lst ((((linesS L).take k ++ [Txt.join " " ws]) ++ ((linesS L).drop k)).map V.str)) b5 = some (.lst ((((linesS L).take k ++ [Txt.join " " ws]) ++ ((linesS L).drop k)).map V.str)) := upd_same
          have s_b5 := s_b4.trans g_b5
          generalize upd G_b4 b5 (.lst ((((linesS L).take k ++ [Txt.join " " ws]) ++ ((linesS L).drop k)).map V.str)) = G_b5 at *
          rw [show (linesS L).take k ++ [Txt.join " " ws] ++ (linesS L).drop k = linesS (L.take k ++ [ws] ++ L.drop k) by unfold linesS; rw [List.map_append, List.map_append, List.map_take, List.map_drop, List.map_cons, List.map_nil]] at h_b5
          exact q b5 _ _ s_b5 h_b5 (goodL_of gl (by simp only [List.length_append, List.length_take, List.length_drop, List.length_reverse, List.length_cons, List.length_nil]; omega) (mem_L3 (.inl (List.mem_of_getElem? hLk)))) (by simp)
        refine if_neg_of (decide_eq_false fun e => c4 (V.int.inj e)) ?_
        refine ⟨_, rfl, _, rfl, _, rfl, a, _, rfl, s2.seq hS, fun b1 n_b1 => ?_⟩
        rw [cut_to]
        have g_b1 := same_upd (o := .lst (((linesS L).take k).map V.str)) n_b1
        have h_b1 : upd G2 b1 (.lst (((linesS L).take k).map V.str)) b1 = some (.lst (((linesS L).take k).map V.str)) := upd_same
        have s_b1 := s2.trans g_b1
        generalize upd G2 b1 (.lst (((linesS L).take k).map V.str)) = G_b1 at *
        refine ⟨_, rfl, _, rfl, _, rfl, _, rfl, _, _, rfl, rfl, _, rfl, a, _, rfl, s_b1.seq hS, fun b2 n_b2 => ?_⟩
        dsimp only
        rw [show (k : Int) + 2 = ((k + 2 : Nat) : Int) by omega, cut_mid, show k + 2 - k = 2 by omega]
        have g_b2 := same_upd (o := .lst ((((linesS L).drop k).take 2).map V.str)) n_b2
        have h_b1 := g_b2 _ _ h_b1
        have h_b2 : upd G_b1 b2 (.lst ((((linesS L).drop k).take 2).map V.str)) b2 = some (.lst ((((linesS L).drop k).take 2).map V.str)) := upd_same
        have s_b2 := s_b1.trans g_b2
        generalize upd G_b1 b2 (.lst ((((linesS L).drop k).take 2).map V.str)) = G_b2 at *
        refine ⟨b2, _, rfl, SqL.of h_b2, fun b3 n_b3 => ?_⟩
        rw [← List.map_reverse]
        have g_b3 := same_upd (o := .lst ((((linesS L).drop k).take 2).reverse.map V.str)) n_b3
        have h_b1 := g_b3 _ _ h_b1
        have h_b2 := g_b3 _ _ h_b2
        have h_b3 : upd G_b2 b3 (.lst ((((linesS L).drop k).take 2).reverse.map V.str)) b3 = some (.lst ((((linesS L).drop k).take 2).reverse.map V.str)) := upd_same
        have s_b3 := s_b2.trans g_b3
        generalize upd G_b2 b3 (.lst ((((linesS L).drop k).take 2).reverse.map V.str)) = G_b3 at *
        refine ⟨b1, b3, _, _, rfl, rfl, h_b1, h_b3, wsz (by simp only [List.length_map, List.length_append, List.length_take, List.length_drop, List.length_reverse, List.length_cons, List.length_nil]; omega), fun b4 n_b4 => ?_⟩
        rw [show ((linesS L).take k).map V.str ++ (((linesS L).drop k).take 2).reverse.map V.str = (((linesS L).take k) ++ (((linesS L).drop k).take 2).reverse).map V.str from List.map_append.symm]
        have g_b4 := same_upd (o := .lst ((((linesS L).take k) ++ (((linesS L).drop k).take 2).reverse).map V.str)) n_b4
        have h_b1 := g_b4 _ _ h_b1
        have h_b2 := g_b4 _ _ h_b2
        have h_b3 := g_b4 _ _ h_b3
        have h_b4 : upd G_b3 b4 (.lst ((((linesS L).take k) ++ (((linesS L).drop k).take 2).reverse).map V.str)) b4 = some (.lst ((((linesS L).take k) ++ (((linesS L).drop k).take 2).reverse).map V.str)) := upd_same
        have s_b4 := s_b3.trans g_b4
        generalize upd G_b3 b4 (.lst ((((linesS L).take k) ++ (((linesS L).drop k).take 2).reverse).map V.str)) = G_b4 at *
        refine ⟨_, rfl, _, rfl, _, _, rfl, rfl, _, rfl, a, _, rfl, s_b4.seq hS, fun b5 n_b5 => ?_⟩
        dsimp only
        rw [show (k : Int) + 2 = ((k + 2 : Nat) : Int) by omega]
        rw [cutS_from]
        have g_b5 := same_upd (o := .lst (((linesS L).drop (k + 2)).map V.str)) n_b5
        have h_b1 := g_b5 _ _ h_b1
        have h_b2 := g_b5 _ _ h_b2
        have h_b3 := g_b5 _ _ h_b3
        have h_b4 := g_b5 _ _ h_b4
        have h_b5 : upd G_b4 b5 (.lst (((linesS L).drop (k + 2)).map V.str)) b5 = some (.lst (((linesS L).drop (k + 2)).map V.str)) := upd_same
        have s_b5 := s_b4.trans g_b5
        generalize upd G_b4 b5 (.lst (((linesS L).drop (k + 2)).map V.str)) = G_b5 at *
        refine ⟨b4, b5, _, _, rfl, rfl, h_b4, h_b5, wsz (by simp only [List.length_map, List.length_append, List.length_take, List.length_drop, List.length_reverse, List.length_cons, List.length_nil]; omega), fun b6 n_b6 => ?_⟩
        rw [show ((linesS L).take k ++ (((linesS L).drop k).take 2).reverse).map V.str ++ ((linesS L).drop (k + 2)).map V.str = (((linesS L).take k ++ (((linesS L).drop k).take 2).reverse) ++ ((linesS L).drop (k + 2))).map V.str from List.map_append.symm]
        have g_b6 := same_upd (o := .lst ((((linesS L).take k ++ (((linesS L).drop k).take 2).reverse) ++ ((linesS L).drop (k + 2))).map V.str)) n_b6
        have h_b1 := g_b6 _ _ h_b1
        have h_b2 := g_b6 _ _ h_b2
        have h_b3 := g_b6 _ _ h_b3
        have h_b4 := g_b6 _ _ h_b4
        have h_b5 := g_b6 _ _ h_b5
        have h_b6 : upd G_b5 b6 (.lst ((((linesS L).take k ++ (((linesS L).drop k).take 2).reverse) ++ ((linesS L).drop (k + 2))).map V.str)) b6 = some (.lst ((((linesS L).take k ++ (((linesS L).drop k).take 2).reverse) ++ ((linesS L).drop (k + 2))).map V.str)) := upd_same
        have s_b6 := s_b5.trans g_b6
        generalize upd G_b5 b6 (.lst ((((linesS L).take k ++ (((linesS L).drop k).take 2).reverse) ++ ((linesS L).drop (k + 2))).map V.str)) = G_b6 at *
        rw [show (linesS L).take k ++ (((linesS L).drop k).take 2).reverse ++ (linesS L).drop (k + 2) = linesS (L.take k ++ ((L.drop k).take 2).reverse ++ L.drop (k + 2)) by unfold linesS; rw [List.map_append, List.map_append, List.map_take, List.map_drop, List.map_reverse, List.map_take, List.map_drop]] at h_b6
        refine q b6 _ _ s_b6 h_b6 (goodL_of gl (by simp only [List.length_append, List.length_take, List.length_drop, List.length_reverse, List.length_cons, List.length_nil]; omega) fun w hw => .inl ?_) (fun e => ?_)
        · rcases List.mem_append.mp hw with hw | hw
          · rcases List.mem_append.mp hw with hw | hw
            · exact List.mem_of_mem_take hw
            · exact List.mem_of_mem_drop (List.mem_of_mem_take (List.mem_reverse.mp hw))
          · exact List.mem_of_mem_drop hw
        · have z := congrArg List.length e
          simp only [List.length_append, List.length_take, List.length_drop, List.length_reverse, List.length_nil] at z
          omega
    · refine if_neg_of (decide_eq_false fun e => c3 (V.int.inj e)) (if_neg_of rfl ?_)
      refine ⟨_, rfl, d, _, 0, .int d0, rfl, rfl, s2.seq hd, atI_nat (j := 0) rfl, rfl, _, rfl, ?_⟩
      by_cases c4 : d0 = 4
      · refine if_pos_of (decide_eq_true (congrArg V.int c4)) ?_
        refine ⟨_, rfl, _, rfl, _, rfl, a, _, rfl, s2.seq hS, fun b1 n_b1 => ?_⟩
        rw [cut_to]
        have g_b1 := same_upd (o := .lst (((linesS L).take k).map V.str)) n_b1
        have h_b1 : upd G2 b1 (.lst (((linesS L).take k).map V.str)) b1 = some (.lst (((linesS L).take k).map V.str)) := upd_same
        have s_b1 := s2.trans g_b1
        generalize upd G2 b1 (.lst (((linesS L).take k).map V.str)) = G_b1 at *
        refine ⟨_, rfl, _, rfl, a, _, _, _, rfl, rfl, s_b1.seq hS, at_k, (by show 1 ≤ sizeLine; decide), fun b2 n_b2 => ?_⟩
        rw [show [V.str (Txt.join " " ws)] = [(Txt.join " " ws)].map V.str from rfl]
        have g_b2 := same_upd (o := .lst ([(Txt.join " " ws)].map V.str)) n_b2
        have h_b1 := g_b2 _ _ h_b1
        have h_b2 : upd G_b1 b2 (.lst ([(Txt.join " " ws)].map V.str)) b2 = some (.lst ([(Txt.join " " ws)].map V.str)) := upd_same
        have s_b2 := s_b1.trans g_b2
        generalize upd G_b1 b2 (.lst ([(Txt.join " " ws)].map V.str)) = G_b2 at *
        refine ⟨b1, b2, _, _, rfl, rfl, h_b1, h_b2, wsz (by simp only [List.length_map, List.length_append, List.length_take, List.length_drop, List.length_reverse, List.length_cons, List.length_nil]; omega), fun b3 n_b3 => ?_⟩
        rw [show ((linesS L).take k).map V.str ++ [Txt.join " " ws].map V.str = (((linesS L).take k) ++ [Txt.join " " ws]).map V.str from List.map_append.symm]
        have g_b3 := same_upd (o := .lst ((((linesS L).take k) ++ [Txt.join " " ws]).map V.str)) n_b3
        have h_b1 := g_b3 _ _ h_b1
        have h_b2 := g_b3 _ _ h_b2
        have h_b3 : upd G_b2 b3 (.lst ((((linesS L).take k) ++ [Txt.join " " ws]).map V.str)) b3 = some (.lst ((((linesS L).take k) ++ [Txt.join " " ws]).map V.str)) := upd_same
        have s_b3 := s_b2.trans g_b3
        generalize upd G_b2 b3 (.lst ((((linesS L).take k) ++ [Txt.join " " ws]).map V.str)) = G_b3 at *
        refine ⟨_, rfl, _, rfl, _, rfl, a, _, rfl, s_b3.seq hS, fun b4 n_b4 => ?_⟩
        rw [cutS_from]
        have g_b4 := same_upd (o := .lst (((linesS L).drop k).map V.str)) n_b4
        have h_b1 := g_b4 _ _ h_b1
        have h_b2 := g_b4 _ _ h_b2
        have h_b3 := g_b4 _ _ h_b3
        have h_b4 : upd G_b3 b4 (.lst (((linesS L).drop k).map V.str)) b4 = some (.lst (((linesS L).drop k).map V.str)) := upd_same
        have s_b4 := s_b3.trans g_b4
        generalize upd G_b3 b4 (.lst (((linesS L).drop k).map V.str)) = G_b4 at *
        refine ⟨b3, b4, _, _, rfl, rfl, h_b3, h_b4, wsz (by simp only [List.length_map, List.length_append, List.length_take, List.length_drop, List.length_reverse, List.length_cons, List.length_nil]; omega), fun b5 n_b5 => ?_⟩
        rw [show ((linesS L).take k ++ [Txt.join " " ws]).map V.str ++ ((linesS L).drop k).map V.str = (((linesS L).take k ++ [Txt.join " " ws]) ++ ((linesS L).drop k)).map V.str from List.map_append.symm]
        have g_b5 := same_upd (o := .lst ((((linesS L).take k ++ [Txt.join " " ws]) ++ ((linesS L).drop k)).map V.str)) n_b5
        have h_b1 := g_b5 _ _ h_b1
        have h_b2 := g_b5 _ _ h_b2
        have h_b3 := g_b5 _ _ h_b3
        have h_b4 := g_b5 _ _ h_b4
        have h_b5 : upd G_b4 b5 (.lst ((((linesS L).take k ++ [Txt.join " " ws]) ++ ((linesS L).drop k)).map V.str)) b5 = some (.lst ((((linesS L).take k ++ [Txt.join " " ws]) ++ ((linesS L).drop k)).map V.str)) := upd_same
        have s_b5 := s_b4.trans g_b5
        generalize upd G_b4 b5 (.lst ((((linesS L).take k ++ [Txt.join " " ws]) ++ ((linesS L).drop k)).map V.str)) = G_b5 at *
        rw [show (linesS L).take k ++ [Txt.join " " ws] ++ (linesS L).drop k = linesS (L.take k ++ [ws] ++ L.drop k) by unfold linesS; rw [List.map_append, List.map_append, List.map_take, List.map_drop, List.map_cons, List.map_nil]] at h_b5
        exact q b5 _ _ s_b5 h_b5 (goodL_of gl (by simp only [List.length_append, List.length_take, List.length_drop, List.length_reverse, List.length_cons, List.length_nil]; omega) (mem_L3 (.inl (List.mem_of_getElem? hLk)))) (by simp)
      refine if_neg_of (decide_eq_false fun e => c4 (V.int.inj e)) ?_
      refine ⟨_, rfl, _, rfl, _, rfl, a, _, rfl, s2.seq hS, fun b1 n_b1 => ?_⟩
      rw [cut_to]
      have g_b1 := same_upd (o := .lst (((linesS L).take k).map V.str)) n_b1
      have h_b1 : upd G2 b1 (.lst (((linesS L).take k).map V.str)) b1 = some (.lst (((linesS L).take k).map V.str)) := upd_same
      have s_b1 := s2.trans g_b1
      generalize upd G2 b1 (.lst (((linesS L).take k).map V.str)) = G_b1 at *
      refine ⟨_, rfl, _, rfl, _, rfl, _, rfl, _, _, rfl, rfl, _, rfl, a, _, rfl, s_b1.seq hS, fun b2 n_b2 => ?_⟩
      dsimp only
      rw [show (k : Int) + 2 = ((k + 2 : Nat) : Int) by omega, cut_mid, show k + 2 - k = 2 by omega]
      have g_b2 := same_upd (o := .lst ((((linesS L).drop k).take 2).map V.str)) n_b2
      have h_b1 := g_b2 _ _ h_b1
      have h_b2 : upd G_b1 b2 (.lst ((((linesS L).drop k).take 2).map V.str)) b2 = some (.lst ((((linesS L).drop k).take 2).map V.str)) := upd_same
      have s_b2 := s_b1.trans g_b2
      generalize upd G_b1 b2 (.lst ((((linesS L).drop k).take 2).map V.str)) = G_b2 at *
      refine ⟨b2, _, rfl, SqL.of h_b2, fun b3 n_b3 => ?_⟩
      rw [← List.map_reverse]
      have g_b3 := same_upd (o := .lst ((((linesS L).drop k).take 2).reverse.map V.str)) n_b3
      have h_b1 := g_b3 _ _ h_b1
      have h_b2 := g_b3 _ _ h_b2
      have h_b3 : upd G_b2 b3 (.lst ((((linesS L).drop k).take 2).reverse.map V.str)) b3 = some (.lst ((((linesS L).drop k).take 2).reverse.map V.str)) := upd_same
      have s_b3 := s_b2.trans g_b3
      generalize upd G_b2 b3 (.lst ((((linesS L).drop k).take 2).reverse.map V.str)) = G_b3 at *
      refine ⟨b1, b3, _, _, rfl, rfl, h_b1, h_b3, wsz (by simp only [List.length_map, List.length_append, List.length_take, List.length_drop, List.length_reverse, List.length_cons, List.length_nil]; omega), fun b4 n_b4 => ?_⟩
      rw [show ((linesS L).take k).map V.str ++ (((linesS L).drop k).take 2).reverse.map V.str = (((linesS L).take k) ++ (((linesS L).drop k).take 2).reverse).map V.str from List.map_append.symm]
      have g_b4 := same_upd (o := .lst ((((linesS L).take k) ++ (((linesS L).drop k).take 2).reverse).map V.str)) n_b4
      have h_b1 := g_b4 _ _ h_b1
      have h_b2 := g_b4 _ _ h_b2
      have h_b3 := g_b4 _ _ h_b3
      have h_b4 : upd G_b3 b4 (.lst ((((linesS L).take k) ++ (((linesS L).drop k).take 2).reverse).map V.str)) b4 = some (.lst ((((linesS L).take k) ++ (((linesS L).drop k).take 2).reverse).map V.str)) := upd_same
      have s_b4 := s_b3.trans g_b4
      generalize upd G_b3 b4 (.lst ((((linesS L).take k) ++ (((linesS L).drop k).take 2).reverse).map V.str)) = G_b4 at *
      refine ⟨_, rfl, _, rfl, _, _, rfl, rfl, _, rfl, a, _, rfl, s_b4.seq hS, fun b5 n_b5 => ?_⟩
      dsimp only
      rw [show (k : Int) + 2 = ((k + 2 : Nat) : Int) by omega]
      rw [cutS_from]
      have g_b5 := same_upd (o := .lst (((linesS L).drop (k + 2)).map V.str)) n_b5
      have h_b1 := g_b5 _ _ h_b1
      have h_b2 := g_b5 _ _ h_b2
      have h_b3 := g_b5 _ _ h_b3
      have h_b4 := g_b5 _ _ h_b4
      have h_b5 : upd G_b4 b5 (.lst (((linesS L).drop (k + 2)).map V.str)) b5 = some (.lst (((linesS L).drop (k + 2)).map V.str)) := upd_same
      have s_b5 := s_b4.trans g_b5
      generalize upd G_b4 b5 (.lst (((linesS L).drop (k + 2)).map V.str)) = G_b5 at *
      refine ⟨b4, b5, _, _, rfl, rfl, h_b4, h_b5, wsz (by simp only [List.length_map, List.length_append, List.length_take, List.length_drop, List.length_reverse, List.length_cons, List.length_nil]; omega), fun b6 n_b6 => ?_⟩
      rw [show ((linesS L).take k ++ (((linesS L).drop k).take 2).reverse).map V.str ++ ((linesS L).drop (k + 2)).map V.str = (((linesS L).take k ++ (((linesS L).drop k).take 2).reverse) ++ ((linesS L).drop (k + 2))).map V.str from List.map_append.symm]
      have g_b6 := same_upd (o := .lst ((((linesS L).take k ++ (((linesS L).drop k).take 2).reverse) ++ ((linesS L).drop (k + 2))).map V.str)) n_b6
      have h_b1 := g_b6 _ _ h_b1
      have h_b2 := g_b6 _ _ h_b2
      have h_b3 := g_b6 _ _ h_b3
      have h_b4 := g_b6 _ _ h_b4
      have h_b5 := g_b6 _ _ h_b5
      have h_b6 : upd G_b5 b6 (.lst ((((linesS L).take k ++ (((linesS L).drop k).take 2).reverse) ++ ((linesS L).drop (k + 2))).map V.str)) b6 = some (.lst ((((linesS L).take k ++ (((linesS L).drop k).take 2).reverse) ++ ((linesS L).drop (k + 2))).map V.str)) := upd_same
      have s_b6 := s_b5.trans g_b6
      generalize upd G_b5 b6 (.lst ((((linesS L).take k ++ (((linesS L).drop k).take 2).reverse) ++ ((linesS L).drop (k + 2))).map V.str)) = G_b6 at *
      rw [show (linesS L).take k ++ (((linesS L).drop k).take 2).reverse ++ (linesS L).drop (k + 2) = linesS (L.take k ++ ((L.drop k).take 2).reverse ++ L.drop (k + 2)) by unfold linesS; rw [List.map_append, List.map_append, List.map_take, List.map_drop, List.map_reverse, List.map_take, List.map_drop]] at h_b6
      refine q b6 _ _ s_b6 h_b6 (goodL_of gl (by simp only [List.length_append, List.length_take, List.length_drop, List.length_reverse, List.length_cons, List.length_nil]; omega) fun w hw => .inl ?_) (fun e => ?_)
      · rcases List.mem_append.mp hw with hw | hw
        · rcases List.mem_append.mp hw with hw | hw
          · exact List.mem_of_mem_take hw
          · exact List.mem_of_mem_drop (List.mem_of_mem_take (List.mem_reverse.mp hw))
        · exact List.mem_of_mem_drop hw
      · have z := congrArg List.length e
        simp only [List.length_append, List.length_take, List.length_drop, List.length_reverse, List.length_nil] at z
        omega
-- part law_k86
/-! the law -/
theorem nm6_all : ∀ i ∈ List.range 11, ∀ k ∈ List.range 4, (nameB (nm6 i k) && Txt.islower (nm6 i k) && decide (nm6 i k ∉ gvnS) && decide (nm6 i k ∈ WS)) = true := by decide +kernel
theorem nm6_first : ∀ i ∈ List.range 11, ∀ k ∈ List.range 4, (nm6 i k).cps.toList[0]? = some (97 + i) := by decide +kernel
theorem let6_at : ∀ i ∈ List.range 11, atI (Str.ofString "abcdefghijk").cps.toList ((i : Nat) : Int) = some (97 + i) := by decide +kernel
theorem nm6_ok {i k : Nat} (hi : i < 11) (hk : k < 4) : nameB (nm6 i k) = true ∧ Txt.islower (nm6 i k) = true ∧ nm6 i k ∉ gvnS ∧ nm6 i k ∈ WS := by
  have z := nm6_all i (List.mem_range.mpr hi) k (List.mem_range.mpr hk)
  simp only [Bool.and_eq_true] at z
  obtain ⟨⟨⟨h1, h2⟩, h3⟩, h4⟩ := z
  exact ⟨h1, h2, of_decide_eq_true h3, of_decide_eq_true h4⟩
/-- the law's names -/
def NmS (R : List Stp) : Prop := ∀ (i : Nat) (st : Stp), R[i]? = some st → i < 11 ∧ (∃ k < 4, st.1 = nm6 i k) ∧ st.2.1 ∈ menu6
theorem NmS.fresh {R : List Stp} (h : NmS R) {k : Nat} (l : R.length < 11) (hk : k < 4) : nm6 R.length k ∉ namesS R := fun hz => by
  unfold namesS at hz
  obtain ⟨st, h1, h2⟩ := List.mem_map.mp hz
  obtain ⟨i, hi⟩ := List.getElem?_of_mem h1
  obtain ⟨li, ⟨k', hk', e⟩, _⟩ := h i st hi
  have il := (List.getElem?_eq_some_iff.mp hi).1
  rw [e] at h2
  have e1 := nm6_first i (List.mem_range.mpr li) k' (List.mem_range.mpr hk')
  have e2 := nm6_first R.length (List.mem_range.mpr l) k (List.mem_range.mpr hk)
  rw [h2, e2] at e1
  have := Option.some.inj e1
  omega
theorem NmS.snoc {R : List Stp} {w : Str} {as : List Str} {k : Nat} (h : NmS R) (l : R.length < 11) (hk : k < 4) (hw : w ∈ menu6) : NmS (R ++ [(nm6 R.length k, w, as)]) := fun i st hi => by
  by_cases c : i < R.length
  · rw [List.getElem?_append_left c] at hi
    exact h i st hi
  · have hl := (List.getElem?_eq_some_iff.mp hi).1
    rw [List.length_append] at hl
    have e : i = R.length := by
      have : [((nm6 R.length k, w, as) : Stp)].length = 1 := rfl
      omega
    subst e
    rw [List.getElem?_append_right (Nat.le_refl _), Nat.sub_self] at hi
    cases hi
    exact ⟨l, ⟨k, hk, rfl⟩, hw⟩
theorem nm6_step {R : List Stp} {w : Str} {as : List Str} {k : Nat} (h : NmS R) (l : R.length < 11) (hk : k < 4) (tk : tksS w = some as.length) (kn : ∀ r ∈ as, r ∈ gvnS ++ namesS R) : StepOk R (nm6 R.length k, w, as) := by
  obtain ⟨o1, o2, o4, _⟩ := nm6_ok l hk
  exact ⟨tk, knownB_not.mpr ⟨o4, h.fresh l hk⟩, o1, o2, fun r hr => knownB_iff.mpr (List.mem_append.mp (kn r hr))⟩
theorem gvn_ws {z : Str} (h : z ∈ gvnS) : z ∈ WS := by
  have a : ∀ z ∈ gvnS, z ∈ menu6 := by decide +kernel
  exact List.mem_append_left _ (a z h)
theorem NmS.ws {R : List Stp} (h : NmS R) {z : Str} (hz : z ∈ namesS R) : z ∈ WS := by
  obtain ⟨st, hst, rfl⟩ := List.mem_map.mp hz
  obtain ⟨i, hi⟩ := List.getElem?_of_mem hst
  obtain ⟨l, ⟨k, hk, e⟩, _⟩ := h i st hi
  rw [e]
  exact (nm6_ok l hk).2.2.2
theorem NmS.good {R : List Stp} (wf : WFR R) (h : NmS R) : ∀ ws ∈ R.map rowW, GoodW 4 ws := fun ws hw => by
  obtain ⟨st, hst, rfl⟩ := List.mem_map.mp hw
  obtain ⟨i, hi⟩ := List.getElem?_of_mem hst
  have o := wf i st hi
  have k12 := tks12 o.k
  refine ⟨by unfold rowW; simp, by show st.2.2.length + 1 + 1 ≤ 4; omega, fun z hz => ?_⟩
  rcases List.mem_cons.mp hz with e | hz
  · rw [e]
    exact List.mem_append_left _ (h i st hi).2.2
  · rcases List.mem_cons.mp hz with e | hz
    · rw [e]
      exact h.ws (List.mem_map.mpr ⟨st, hst, rfl⟩)
    · rcases wfr_known_in wf hi hz with g | g
      · exact gvn_ws g
      · exact h.ws g
theorem lines_rows (R : List Stp) : linesS (R.map rowW) = R.map lineW := by
  unfold linesS
  rw [List.map_map] <;> rfl
theorem GoodL.mono {n m n' m' : Nat} {L : List (List Str)} (h : GoodL n m L) (h1 : n ≤ n') (h2 : m ≤ m') : GoodL n' m' L := ⟨Nat.le_trans h.1 h1, fun ws hw => (h.2 ws hw).mono h2⟩
theorem rule6 : ∀ w ∈ (["sum", "product", "quotient", "opposite"] : List Str), w ∈ menu6 ∧ w.length ≤ 11 := by decide +kernel
theorem tks_rule {w : Str} (h : w ∈ (["sum", "product", "quotient", "opposite"] : List Str)) : tksS w = some (if w = "opposite" then 1 else 2) := by
  have a : ∀ w ∈ (["sum", "product", "quotient", "opposite"] : List Str), tksS w = some (if w = "opposite" then 1 else 2) := by decide +kernel
  exact a w h
theorem empty6 : (linesS [[""]]).map V.str = [V.str ""] := by
  have e : Txt.join " " [""] = ("" : Str) := by decide +kernel
  show [V.str (Txt.join " " [""])] = _
  rw [e]
theorem flt_empty : fltS [[""]] = 0 := by
  have e : rdRow [] [""] = none := rfl
  exact fltS_at (i := 0) rfl rfl e
theorem gvn_wsE : ("" : Str) ∈ WS := List.mem_append_left _ (by decide +kernel)
theorem cutSI_mid (L : List Int) (a b : Nat) : cutV (L.map V.int) (some (a : Int)) (some (b : Int)) = ((L.drop a).take (b - a)).map V.int := cut_mid V.int L a b
abbrev s_law : Stmt := top 46
theorem sc_law : FnScope ["_law_script", "_law_head", "_law_names", "_law_lines", "_law_cell_here", "_law_drawn", "_law_rule", "_law_name", "_law_words"] ["_law_script"] (defScope s_law) := ⟨rfl, rfl, rfl, by decide +kernel, rfl, by decide +kernel, by decide +kernel⟩
theorem ok_law {f : Addr} {fd : FuncData} (TT : Txt mg) (F : Fun K "law" "law" s_law f fd) (c_cell : Cl P w K mg base CX0 1 "_law_cell" (spCellL K)) (c_draws : Cl P w K mg base CX0 1 "_law_draws" (spDraws K)) (c_builds : Cl P w K mg base CX0 9 "_law_builds" spLbld) (c_told : Cl P w K mg base CX0 7 "_law_told" (spLtld K)) (c_fault : Cl P w K mg base CX0 1 "_law_fault" (spLflt K)) (c_chg : Cl P w K mg base CX0 1 "_law_changed" (spLchg K)) : FnOk P w K mg base CX0 10 f fd ["_law_script"] (spLaw K) := by
  refine F.ok sc_law (fun vs H Q E h => ?_) (fun cdv A outer s H vs Q E hr h => ?_)
  · obtain ⟨a, ns, rfl, _⟩ := h
    rfl
  · obtain ⟨l0, ns, rfl, hS, few, q⟩ := h
    refine ⟨_, (pss_cons (ps_set (i := 1) sc_law.nd rfl (Or.inl rfl) (pe_cl c_draws hr (pa_cons (pe_cl c_cell hr (pa_cons (pv 0) (pa_cons pe_int pa_nil))) (pa_cons (pe_lst (pa_cons (pe_op op_sub (pe_op op_mul pe_int (pe_op op_pow pe_int pe_int)) pe_int) (pa_cons pe_int (pa_cons pe_int (pa_cons pe_int (pa_cons pe_int (pa_cons pe_int (pa_cons pe_int (pa_cons pe_int (pa_cons pe_int (pa_cons pe_int (pa_cons pe_int pa_nil)))))))))))) pa_nil))))
 (pss_cons (ps_if (pw_or (pt_not (pt_val (pe_cl c_builds hr (pa_cons (pe_op op_add (pe_op op_sub (pe_ix ix_list (pv 1) pe_int (fun _ _ => rfl)) (pe_op op_pow pe_int pe_int)) pe_int) pa_nil)))) (pw_or (pt_not (pt_val (pe_cl c_builds hr (pa_cons (pe_op op_sub (pe_ix ix_list (pv 1) pe_int (fun _ _ => rfl)) pe_int) pa_nil)))) (pw_or1 (pt_not (pt_val (pe_cl c_builds hr (pa_cons pe_int pa_nil))))))).pt (pss_one (ps_ret pe_bl)) pss_nil)
 (pss_cons (ps_set (i := 2) sc_law.nd rfl (Or.inl rfl) (pe_lst (pa_cons pe_str (pa_cons pe_str pa_nil))))
 (pss_cons (ps_set (i := 3) sc_law.nd rfl (Or.inl rfl) (pe_lst pa_nil))
 (pss_cons (ps_for PassesOwn.never rfl (pi_list (pe_op op_cat (pe_lst (pa_cons (pe_cl c_cell hr (pa_cons (pv 0) (pa_cons pe_int pa_nil))) pa_nil)) (pe_callTy call_list_of (by rfl) TT.list boot_list (pa_cons (pe_slice sl_list (pv 0) (po_some pe_int) (po_some (pe_op op_add pe_int (pe_ix ix_list (pv 1) pe_int (fun _ _ => rfl))))) pa_nil)))) (pg_name (i := 4) sc_law.nd rfl (Or.inl rfl)) (pss_cons (ps_set (i := 5) sc_law.nd rfl (Or.inl rfl) (pe_cl c_draws hr (pa_cons (pv 4) (pa_cons (pe_lst (pa_cons pe_int (pa_cons pe_int (pa_cons pe_int (pa_cons pe_int pa_nil))))) pa_nil))))
 (pss_cons (ps_set (i := 6) sc_law.nd rfl (Or.inl rfl) (pe_ix ix_list (pe_lst (pa_cons pe_str (pa_cons pe_str (pa_cons pe_str (pa_cons pe_str pa_nil))))) (pe_ix ix_list (pv 5) pe_int (fun _ _ => rfl)) (fun _ _ => rfl)))
 (pss_cons (ps_set (i := 7) sc_law.nd rfl (Or.inl rfl) (pe_op op_repS (pe_ix ix_str pe_str (pe_callB call_len_seq (by rfl) TT.len PySem.boot_len (pa_cons (pv 3) pa_nil)) (fun _ _ => rfl)) (pe_op op_add pe_int (pe_op op_mul pe_int (pe_ix ix_list (pv 5) pe_int (fun _ _ => rfl))))))
 (pss_cons (ps_set (i := 8) sc_law.nd rfl (Or.inl rfl) (pe_lst (pa_cons (pv 6) (pa_cons (pv 7) (pa_cons (pe_ix ix_list (pv 2) (pe_op op_mod (pe_ix ix_list (pv 5) pe_int (fun _ _ => rfl)) (pe_callB call_len_seq (by rfl) TT.len PySem.boot_len (pa_cons (pv 2) pa_nil))) (fun _ _ => rfl)) (pa_cons (pe_ix ix_list (pv 2) (pe_op op_mod (pe_ix ix_list (pv 5) pe_int (fun _ _ => rfl)) (pe_callB call_len_seq (by rfl) TT.len PySem.boot_len (pa_cons (pv 2) pa_nil))) (fun _ _ => rfl)) pa_nil))))))
 (pss_cons (ps_expr (pe_bm PySem.F.plainAttrs_list PySem.F.slot_list_append PySem.F.type_list_append mt_append (pv 3) (pa_cons (pe_join pe_str (pe_slice sl_list (pv 8) po_none (po_some (pe_op op_sub pe_int (pe_callTy call_int1 (by rfl) TT.int boot_int (pa_cons (pe_cmpR op_eq (pv 6) pe_str (nomark _)) pa_nil)))))) pa_nil)))
 (pss_one (ps_expr (pe_bm PySem.F.plainAttrs_list PySem.F.slot_list_append PySem.F.type_list_append mt_append (pv 2) (pa_cons (pv 7) pa_nil))))))))))
 (pss_cons (ps_if (pt_cmpR op_ne (pe_cl c_told hr (pa_cons (pv 3) pa_nil)) (pe_un un_neg pe_int) (nomark _)) (pss_one (ps_ret pe_bl)) pss_nil)
 (pss_cons (ps_for PassesOwn.never rfl (pi_list (pe_lst (pa_cons (pe_slice sl_list (pv 1) (po_some pe_int) (po_some pe_int)) (pa_cons (pe_slice sl_list (pv 1) (po_some pe_int) (po_some pe_int)) pa_nil)))) (pg_name (i := 5) sc_law.nd rfl (Or.inl rfl)) (pss_cons (ps_set (i := 3) sc_law.nd rfl (Or.inl rfl) (pe_cl c_chg hr (pa_cons (pv 3) (pa_cons (pv 5) pa_nil))))
 (pss_one (ps_if (pw_or (pt_cmpR op_ne (pe_cl c_told hr (pa_cons (pv 3) pa_nil)) (pe_cl c_fault hr (pa_cons (pv 3) pa_nil)) (nomark _)) (pw_or1 (pt_cmpR op_ne (pe_cl c_told hr (pa_cons (pv 3) pa_nil)) (pe_cl c_fault hr (pa_cons (pv 3) pa_nil)) (nomark _)))).pt (pss_one (ps_ret pe_bl)) pss_nil))))
 (pss_one (ps_ret (pe_cmpR op_eq (pe_cl c_told hr (pa_cons (pe_lst (pa_cons pe_str pa_nil)) pa_nil)) pe_int (nomark _))))))))))), ?_⟩
    have p30 : (10 : Int) ^ (30 : Int).toNat = 1000000000000000000000000000000 := by decide +kernel
    refine ⟨_, rfl, l0, ns, 0, rfl, hS, fun z => ⟨_, _, rfl, rfl, ⟨by decide, by decide, by decide⟩, _, _, rfl, rfl, .inl ⟨by decide, by decide⟩, _, _, rfl, rfl, (by show 11 ≤ sizeLine; decide), fun sl nsl => ?_⟩⟩
    have g1 := same_upd (o := .lst ([2 * (10 : Int) ^ (30 : Int).toNat - 1, 41, 5, 6, 997, 997, 997, 6, 997, 997, 997].map V.int)) nsl
    refine ⟨z, sl, [2 * (10 : Int) ^ (30 : Int).toNat - 1, 41, 5, 6, 997, 997, 997, 6, 997, 997, 997], rfl, SqL.of upd_same, by decide, by decide +kernel, fun dl ds G1 ndl dr s1 hdl => ?_⟩
    obtain ⟨l5, bd⟩ := dr
    match ds, l5 with
    | [d0, d1, d2, d3, d4, d5, d6, d7, d8, d9, d10], _ =>
    have b0 := bd 0 d0 _ rfl rfl
    have b1 : 0 ≤ d1 ∧ d1 < 41 := bd 1 d1 41 rfl rfl
    have b2 : 0 ≤ d2 ∧ d2 < 5 := bd 2 d2 5 rfl rfl
    rw [p30] at b0
    have k1 := g1.trans s1
    have bn0 : (d0 - 1000000000000000000000000000000 + 1).natAbs < 2 ^ 100 := by
      have p2 : (2 : Nat) ^ 100 = 1267650600228229401496703205376 := by decide +kernel
      rw [p2]
      omega
    have bn1 : (d1 - 20).natAbs < 2 ^ 100 := by
      have p2 : (2 : Nat) ^ 100 = 1267650600228229401496703205376 := by decide +kernel
      rw [p2]
      omega
    clear bd l5
    generalize eds : ([d0, d1, d2, d3, d4, d5, d6, d7, d8, d9, d10].map V.int) = vds at *
    have v0 : vds[0]? = some (V.int d0) := by rw [← eds]; rfl
    have v1 : vds[1]? = some (V.int d1) := by rw [← eds]; rfl
    have v2 : vds[2]? = some (V.int d2) := by rw [← eds]; rfl
    refine ⟨_, rfl, dl, _, 0, _, rfl, rfl, SqL.of hdl, atI_nat (j := 0) v0, _, _, rfl, rfl, ⟨by decide, by decide, by decide⟩, _, _, rfl, rfl, _, _, rfl, rfl, d0 - (10 : Int) ^ (30 : Int).toNat + 1, rfl, by rw [p30]; exact bn0, fun G2 s2 => ⟨_, rfl, iteF ?_⟩⟩
    have hdl := s2 _ _ hdl
    refine ⟨_, rfl, dl, _, 1, _, rfl, rfl, SqL.of hdl, atI_nat (j := 1) v1, _, _, rfl, rfl, d1 - 20, rfl, bn1, fun G3 s3 => ⟨_, rfl, iteF ?_⟩⟩
    have hdl := s3 _ _ hdl
    refine ⟨0, rfl, by decide, fun G4 s4 => ⟨_, rfl, iteF ?_⟩⟩
    have hdl := s4 _ _ hdl
    have k2 := k1.trans (s2.trans (s3.trans s4))
    clear s1 s2 s3 s4 k1 g1 nsl ndl
    have hS := k2.seq hS
    clear k2
    refine ⟨(by show 2 ≤ sizeLine; decide), fun N nN => ⟨(by show 0 ≤ sizeLine; decide), fun W nW => ?_⟩⟩
    have gN := same_upd (o := .lst (gvnS.map V.str)) nN
    have hN : upd (upd G4 N (.lst (gvnS.map V.str))) W (.lst []) N = some (.lst (gvnS.map V.str)) := (same_upd nW) _ _ upd_same
    have hW : upd (upd G4 N (.lst (gvnS.map V.str))) W (.lst []) W = some (.lst []) := upd_same
    have k3 := gN.trans (same_upd (o := .lst []) nW)
    have hS := k3.seq hS
    have hdl := k3 _ _ hdl
    have eg : [V.str "zero", V.str "one"] = gvnS.map V.str := rfl
    rw [eg]
    generalize upd (upd G4 N (.lst (gvnS.map V.str))) W (.lst []) = G5 at *
    clear nN nW gN k3
    refine ⟨_, rfl, l0, ns, 1, rfl, hS, fun c1 => ⟨(by show 1 ≤ sizeLine; decide), fun q1 nq1 => ?_⟩⟩
    have gq1 := same_upd (o := .lst ([c1].map V.int)) nq1
    have hq1 : upd G5 q1 (.lst ([c1].map V.int)) q1 = some (.lst ([c1].map V.int)) := upd_same
    have hS := gq1.seq hS
    have hdl := gq1 _ _ hdl
    have hN := gq1 _ _ hN
    have hW := gq1 _ _ hW
    rw [show [V.int c1] = [c1].map V.int from rfl]
    generalize upd G5 q1 (.lst ([c1].map V.int)) = G6 at *
    obtain ⟨j2, rfl⟩ : ∃ j2 : Nat, d2 = (j2 : Int) := ⟨d2.toNat, by omega⟩
    refine ⟨_, rfl, ((2 : Nat) : Int), rfl, _, rfl, dl, _, 2, _, rfl, rfl, SqL.of hdl, atI_nat (j := 2) v2, _, _, rfl, rfl, ((2 + j2 : Nat) : Int), rfl, l0, _, rfl, hS, fun q2 nq2 => ?_⟩
    rw [cutSI_mid, show 2 + j2 - 2 = j2 by omega]
    have gq2 := same_upd (o := .lst (((ns.drop 2).take j2).map V.int)) nq2
    refine ⟨q2, _, rfl, .inl (SqL.of upd_same), fun q3 nq3 => ?_⟩
    have gq3 := gq2.trans (same_upd (o := .lst (((ns.drop 2).take j2).map V.int)) nq3)
    have hq3 : upd (upd G6 q2 (.lst (((ns.drop 2).take j2).map V.int))) q3 (.lst (((ns.drop 2).take j2).map V.int)) q3 = some (.lst (((ns.drop 2).take j2).map V.int)) := upd_same
    have hq1 := gq3 _ _ hq1
    have hdl := gq3 _ _ hdl
    have hN := gq3 _ _ hN
    have hW := gq3 _ _ hW
    generalize upd (upd G6 q2 (.lst (((ns.drop 2).take j2).map V.int))) q3 (.lst (((ns.drop 2).take j2).map V.int)) = G7 at *
    have lc : ((ns.drop 2).take j2).length ≤ 4 := by rw [List.length_take]; omega
    generalize (ns.drop 2).take j2 = cs at *
    refine ⟨q1, q3, _, _, rfl, rfl, hq1, hq3, by rw [List.length_map, List.length_map, sizeLine_eq]; show 1 + cs.length ≤ _; omega, fun q4 nq4 => ?_⟩
    rw [show [c1].map V.int ++ cs.map V.int = (c1 :: cs).map V.int from rfl]
    have gq4 := same_upd (o := .lst ((c1 :: cs).map V.int)) nq4
    have hq4 : upd G7 q4 (.lst ((c1 :: cs).map V.int)) q4 = some (.lst ((c1 :: cs).map V.int)) := upd_same
    have hdl := gq4 _ _ hdl
    have hN := gq4 _ _ hN
    have hW := gq4 _ _ hW
    generalize upd G7 q4 (.lst ((c1 :: cs).map V.int)) = G8 at *
    have lcs : (c1 :: cs).length ≤ 5 := by show cs.length + 1 ≤ 5; omega
    have lc1 : 1 ≤ (c1 :: cs).length := by show 1 ≤ cs.length + 1; omega
    generalize c1 :: cs = cells at *
    have nNW : N ≠ W := fun e => by rw [e, hW] at hN; cases hN
    have nNq : N ≠ q4 := fun e => by rw [e, hq4] at hN; cases cells with
      | nil => cases hN
      | cons a l => cases hN
    have nNd : N ≠ dl := fun e => by rw [e, hdl, ← eds] at hN; cases hN
    have nWd : W ≠ dl := fun e => by rw [e, hdl, ← eds] at hW; cases hW
    have nWq : W ≠ q4 := fun e => by rw [e, hq4] at hW; cases cells with
      | nil => exact absurd lc1 (by decide)
      | cons a l => cases hW
    clear nq1 nq2 nq3 nq4 gq1 gq2 gq3 gq4 hq1 hq3
    refine ⟨q4, rfl, ⟨_, SqL.of hq4⟩, for_list (K := K) (a := q4) (xs := cells.map V.int) (fun i σ G => ∃ (R : List Stp) (x4 x5 x6 x7 x8 : Option V), σ = [some (.ref l0), some (.ref dl), some (.ref N), some (.ref W), x4, x5, x6, x7, x8] ∧ G q4 = some (.lst (cells.map V.int)) ∧ G dl = some (.lst vds) ∧ G N = some (.lst ((gvnS ++ namesS R).map V.str)) ∧ G W = some (.lst ((R.map lineW).map V.str)) ∧ WFR R ∧ NmS R ∧ R.length = i)
      ⟨[], none, none, none, none, none, rfl, hq4, hdl, hN, hW, wfr_nil, (fun i st h => by cases h), rfl⟩ (fun i σ G _ h => by obtain ⟨R, _, _, _, _, _, _, h, _⟩ := h; exact SqL.of h) ?_ ?_⟩
    · rintro i y σ G hi ⟨R, x4, x5, x6, x7, x8, rfl, hq4, hdl, hN, hW, wf, nm, lR⟩
      have il : i < cells.length := by
        have := (List.getElem?_eq_some_iff.mp hi).1
        rwa [List.length_map] at this
      rw [List.getElem?_map] at hi
      obtain ⟨c, hc, rfl⟩ := Option.map_eq_some_iff.mp hi
      have gz := fun (o : HO) (z : Addr) (nz : G z = none) => same_upd (o := o) nz
      refine ⟨_, rfl, (by show 4 ≤ sizeLine; decide), fun z1 nz1 => ?_⟩
      have g1 := same_upd (o := .lst ([4, 997, 997, 4].map V.int)) nz1
      refine ⟨c, z1, [4, 997, 997, 4], rfl, SqL.of upd_same, by decide, by decide, fun dd es G2 ndd dr s1 hdd => ?_⟩
      obtain ⟨l5, bd⟩ := dr
      match es, l5 with
      | [e0, e1, e2, e3], _ =>
      have b0 : 0 ≤ e0 ∧ e0 < 4 := bd 0 e0 4 rfl rfl
      have b3 : 0 ≤ e3 ∧ e3 < 4 := bd 3 e3 4 rfl rfl
      have k1 := g1.trans s1
      have hq4 := k1 _ _ hq4
      have hdl := k1 _ _ hdl
      have hN := k1 _ _ hN
      have hW := k1 _ _ hW
      clear bd g1 s1 k1 nz1 ndd gz
      -- the rule
      refine ⟨(by show 4 ≤ sizeLine; decide), fun z2 nz2 => ?_⟩
      have g2 := same_upd (o := .lst ((["sum", "product", "quotient", "opposite"] : List Str).map V.str)) nz2
      have hdd := g2 _ _ hdd
      have hq4 := g2 _ _ hq4
      have hdl := g2 _ _ hdl
      have hN := g2 _ _ hN
      have hW := g2 _ _ hW
      have hz2 : upd G2 z2 (.lst ((["sum", "product", "quotient", "opposite"] : List Str).map V.str)) z2 = some (.lst ((["sum", "product", "quotient", "opposite"] : List Str).map V.str)) := upd_same
      obtain ⟨xr, hxr, mr⟩ := at_some (xs := (["sum", "product", "quotient", "opposite"] : List Str).map V.str) (v := e0) b0.1 b0.2
      obtain ⟨rule, hrule, rfl⟩ := List.mem_map.mp mr
      have e4 : [V.str "sum", V.str "product", V.str "quotient", V.str "opposite"] = (["sum", "product", "quotient", "opposite"] : List Str).map V.str := rfl
      rw [e4]
      generalize upd G2 z2 (.lst ((["sum", "product", "quotient", "opposite"] : List Str).map V.str)) = G3 at *
      refine ⟨_, rfl, dd, _, 0, _, rfl, rfl, SqL.of hdd, atI_nat (j := 0) rfl, z2, _, _, _, rfl, rfl, SqL.of hz2, hxr, ?_⟩
      -- the name
      obtain ⟨k, rfl⟩ : ∃ k : Nat, e3 = (k : Int) := ⟨e3.toNat, by omega⟩
      have k4 : k < 4 := by omega
      have l11 : R.length < 11 := by omega
      have lW : ((R.map lineW).map V.str).length = R.length := by rw [List.length_map, List.length_map]
      refine ⟨_, rfl, W, _, rfl, .inl (SqL.of hW), _, ((R.length : Nat) : Int), _, rfl, (by rw [lW]), (by decide +kernel), let6_at R.length (List.mem_range.mpr l11), ?_⟩
      refine ⟨_, rfl, dd, _, 3, _, rfl, rfl, SqL.of hdd, atI_nat (j := 3) rfl, _, _, rfl, rfl, .inl ⟨by decide, by decide⟩, _, _, rfl, rfl, _, ((2 + 2 * k : Nat) : Int), rfl, rfl, by omega, by omega, (by show 1 ≠ 0; decide), (by show 1 ≤ 1000; decide), ?_⟩
      have enm : repStr (⟨#[97 + R.length]⟩ : Str) ((2 + 2 * k : Nat) : Int) = nm6 R.length k := rfl
      rw [enm]
      -- the words
      have lN : 0 < (((gvnS ++ namesS R).map V.str).length : Int) := by
        rw [List.length_map, List.length_append]
        show (0 : Int) < ((2 + _ : Nat) : Int)
        omega
      obtain ⟨xa, hxa, ma⟩ := at_some (xs := (gvnS ++ namesS R).map V.str) (v := e1 % (((gvnS ++ namesS R).map V.str).length : Int)) (Int.emod_nonneg _ (by omega)) (Int.emod_lt_of_pos _ lN)
      obtain ⟨xb, hxb, mb⟩ := at_some (xs := (gvnS ++ namesS R).map V.str) (v := e2 % (((gvnS ++ namesS R).map V.str).length : Int)) (Int.emod_nonneg _ (by omega)) (Int.emod_lt_of_pos _ lN)
      obtain ⟨za, hza, rfl⟩ := List.mem_map.mp ma
      obtain ⟨zb, hzb, rfl⟩ := List.mem_map.mp mb
      refine ⟨_, rfl, _, rfl, _, rfl, _, rfl, dd, _, 1, _, rfl, rfl, SqL.of hdd, atI_nat (j := 1) rfl, _, rfl, N, _, rfl, .inl (SqL.of hN), _, _, rfl, rfl, lN, N, _, _, _, rfl, rfl, SqL.of hN, hxa,
        _, rfl, _, rfl, dd, _, 2, _, rfl, rfl, SqL.of hdd, atI_nat (j := 2) rfl, _, rfl, N, _, rfl, .inl (SqL.of hN), _, _, rfl, rfl, lN, N, _, _, _, rfl, rfl, SqL.of hN, hxb, (by show 4 ≤ sizeLine; decide), fun wl nwl => ?_⟩
      have e5 : [V.str rule, V.str (nm6 R.length k), V.str za, V.str zb] = [rule, nm6 R.length k, za, zb].map V.str := rfl
      rw [e5]
      have g3 := same_upd (o := .lst ([rule, nm6 R.length k, za, zb].map V.str)) nwl
      have hq4 := g3 _ _ hq4
      have hdl := g3 _ _ hdl
      have hN := g3 _ _ hN
      have hW := g3 _ _ hW
      have hwl : upd G3 wl (.lst ([rule, nm6 R.length k, za, zb].map V.str)) wl = some (.lst ([rule, nm6 R.length k, za, zb].map V.str)) := upd_same
      generalize upd G3 wl (.lst ([rule, nm6 R.length k, za, zb].map V.str)) = G4' at *
      clear hdd hz2 g2 g3 nwl nz2
      have done : ∀ (n : Nat) (args : List Str) (sl2 : Addr) (nsl2 : G4' sl2 = none), tksS rule = some args.length → (∀ r ∈ args, r ∈ gvnS ++ namesS R) →
          ∃ (R' : List Stp) (x4' x5' x6' x7' x8' : Option V), [some (V.ref l0), some (V.ref dl), some (V.ref N), some (V.ref W), some (V.int c), some (V.ref dd), some (V.str rule), some (V.str (nm6 R.length k)), some (V.ref wl)] = [some (.ref l0), some (.ref dl), some (.ref N), some (.ref W), x4', x5', x6', x7', x8'] ∧
            upd (upd (upd G4' sl2 (.lst ((rule :: nm6 R.length k :: args).map V.str))) W (.lst ((R.map lineW).map V.str ++ [V.str (Txt.join " " (rule :: nm6 R.length k :: args))]))) N (.lst ((gvnS ++ namesS R).map V.str ++ [V.str (nm6 R.length k)])) q4 = some (.lst (cells.map V.int)) ∧
            upd (upd (upd G4' sl2 (.lst ((rule :: nm6 R.length k :: args).map V.str))) W (.lst ((R.map lineW).map V.str ++ [V.str (Txt.join " " (rule :: nm6 R.length k :: args))]))) N (.lst ((gvnS ++ namesS R).map V.str ++ [V.str (nm6 R.length k)])) dl = some (.lst vds) ∧
            upd (upd (upd G4' sl2 (.lst ((rule :: nm6 R.length k :: args).map V.str))) W (.lst ((R.map lineW).map V.str ++ [V.str (Txt.join " " (rule :: nm6 R.length k :: args))]))) N (.lst ((gvnS ++ namesS R).map V.str ++ [V.str (nm6 R.length k)])) N = some (.lst ((gvnS ++ namesS R').map V.str)) ∧
            upd (upd (upd G4' sl2 (.lst ((rule :: nm6 R.length k :: args).map V.str))) W (.lst ((R.map lineW).map V.str ++ [V.str (Txt.join " " (rule :: nm6 R.length k :: args))]))) N (.lst ((gvnS ++ namesS R).map V.str ++ [V.str (nm6 R.length k)])) W = some (.lst ((R'.map lineW).map V.str)) ∧ WFR R' ∧ NmS R' ∧ R'.length = i + 1 := fun n args sl2 nsl2 tk kn => by
        have o := nm6_step nm l11 k4 tk kn
        refine ⟨R ++ [(nm6 R.length k, rule, args)], _, _, _, _, _, rfl, ?_, ?_, ?_, ?_, wfr_snoc wf o, nm.snoc l11 k4 (rule6 rule hrule).1, by rw [List.length_append, lR]; rfl⟩
        · rw [upd_ne nNq.symm, upd_ne nWq.symm, upd_ne (ne_of_none hq4 nsl2)]
          exact hq4
        · rw [upd_ne nNd.symm, upd_ne nWd.symm, upd_ne (ne_of_none hdl nsl2)]
          exact hdl
        · rw [upd_same]
          unfold namesS
          simp only [List.map_append, List.append_assoc, List.map_cons, List.map_nil]
        · rw [upd_ne nNW.symm, upd_same]
          simp only [List.map_append, List.map_cons, List.map_nil]
          rfl
      have wl11 : ∀ {args : List Str}, (∀ r ∈ args, r ∈ gvnS ++ namesS R) → ∀ z ∈ rule :: nm6 R.length k :: args, z.length ≤ 11 := fun {args} h z hz => by
        rcases List.mem_cons.mp hz with e | hz
        · rw [e]; exact (rule6 rule hrule).2
        · rcases List.mem_cons.mp hz with e | hz
          · rw [e]; exact (ws_ok (nm6_ok l11 k4).2.2.2).1
          · rcases List.mem_append.mp (h z hz) with g | g
            · exact (ws_ok (gvn_ws g)).1
            · exact (ws_ok (nm.ws g)).1
      have lNs : ((gvnS ++ namesS R).map V.str).length < sizeLine := by
        have : (namesS R).length = R.length := by unfold namesS; rw [List.length_map]
        rw [List.length_map, List.length_append, this, sizeLine_eq]
        show 2 + R.length < _
        omega
      by_cases op : rule = "opposite"
      · have tk := tks_rule hrule
        rw [if_pos op] at tk
        refine ⟨_, rfl, .inl ⟨rfl, _, SqL.of hW⟩, ⟨_, rfl⟩, _, rfl, _, rfl, rfl, .inr ⟨_, rfl, _, _, rfl, rfl, ((3 : Nat) : Int), (by rw [op, decide_eq_true rfl]; rfl), wl, _, rfl, SqL.of hwl, fun sl2 nsl2 => ?_⟩⟩
        rw [cut_to, show [rule, nm6 R.length k, za, zb].take 3 = rule :: nm6 R.length k :: [za] from rfl]
        have kn : ∀ r ∈ [za], r ∈ gvnS ++ namesS R := fun r hr => by rw [List.mem_singleton.mp hr]; exact hza
        refine ⟨_, sl2, rule :: nm6 R.length k :: [za], rfl, rfl, .inl (SqL.of upd_same), ?_, W, _, _, rfl, rfl, ?_, by rw [lW, sizeLine_eq]; omega, ?_⟩
        · have z1 := sum_le (k := 11) (ys := rule :: nm6 R.length k :: [za]) (wl11 kn)
          have z3 : (" " : Str).length = 1 := by decide +kernel
          rw [z3]
          show _ + 3 * 1 ≤ _
          have z4 : (rule :: nm6 R.length k :: [za]).length = 3 := rfl
          omega
        · rw [upd_ne (ne_of_none hW nsl2)]
          exact hW
        · refine ⟨_, rfl, .inl ⟨rfl, _, SqL.of (by rw [upd_ne nNW, upd_ne (ne_of_none hN nsl2)]; exact hN)⟩, _, rfl, N, _, _, rfl, rfl, (by rw [upd_ne nNW, upd_ne (ne_of_none hN nsl2)]; exact hN), lNs, ?_⟩
          exact done i [za] sl2 nsl2 tk kn
      · have tk := tks_rule hrule
        rw [if_neg op] at tk
        refine ⟨_, rfl, .inl ⟨rfl, _, SqL.of hW⟩, ⟨_, rfl⟩, _, rfl, _, rfl, rfl, .inr ⟨_, rfl, _, _, rfl, rfl, ((4 : Nat) : Int), (by rw [decide_eq_false (fun e => op (V.str.inj e))]; rfl), wl, _, rfl, SqL.of hwl, fun sl2 nsl2 => ?_⟩⟩
        rw [cut_to, show [rule, nm6 R.length k, za, zb].take 4 = rule :: nm6 R.length k :: [za, zb] from rfl]
        have kn : ∀ r ∈ [za, zb], r ∈ gvnS ++ namesS R := fun r hr => by
          rcases List.mem_cons.mp hr with e | hr
          · rw [e]; exact hza
          · rw [List.mem_singleton.mp hr]; exact hzb
        refine ⟨_, sl2, rule :: nm6 R.length k :: [za, zb], rfl, rfl, .inl (SqL.of upd_same), ?_, W, _, _, rfl, rfl, ?_, by rw [lW, sizeLine_eq]; omega, ?_⟩
        · have z1 := sum_le (k := 11) (ys := rule :: nm6 R.length k :: [za, zb]) (wl11 kn)
          have z3 : (" " : Str).length = 1 := by decide +kernel
          rw [z3]
          show _ + 4 * 1 ≤ _
          have z4 : (rule :: nm6 R.length k :: [za, zb]).length = 4 := rfl
          omega
        · rw [upd_ne (ne_of_none hW nsl2)]
          exact hW
        · refine ⟨_, rfl, .inl ⟨rfl, _, SqL.of (by rw [upd_ne nNW, upd_ne (ne_of_none hN nsl2)]; exact hN)⟩, _, rfl, N, _, _, rfl, rfl, (by rw [upd_ne nNW, upd_ne (ne_of_none hN nsl2)]; exact hN), lNs, ?_⟩
          exact done i [za, zb] sl2 nsl2 tk kn
    · rintro σ G ⟨R, x4, x5, x6, x7, x8, rfl, hq4, hdl, hN, hW, wf, nm, lR⟩
      rw [List.length_map] at lR
      have ne : R.map rowW ≠ [] := fun e => by
        have := congrArg List.length e
        rw [List.length_map] at this
        have z : R.length = 0 := this
        omega
      have gl : GoodL 5 4 (R.map rowW) := ⟨by rw [List.length_map]; omega, nm.good wf⟩
      rw [← lines_rows] at hW
      have fl : fltS (R.map rowW) = -1 := fltS_all (rdAll_rows wf)
      refine ⟨_, rfl, W, R.map rowW, rfl, SqL.of hW, gl.mono (by decide) (by decide), ne, fun G2 s2 => ⟨_, rfl, rfl, _, rfl, ?_⟩⟩
      rw [fl]
      refine iteF ?_
      have hdl := s2 _ _ hdl
      have hW := s2 _ _ hW
      have m1 : cutV vds (some ((3 : Nat) : Int)) (some ((7 : Nat) : Int)) = [d3, d4, d5, d6].map V.int := by rw [← eds]; exact cutSI_mid [d0, d1, (j2 : Int), d3, d4, d5, d6, d7, d8, d9, d10] 3 7
      have m2 : cutV vds (some ((7 : Nat) : Int)) (some ((11 : Nat) : Int)) = [d7, d8, d9, d10].map V.int := by rw [← eds]; exact cutSI_mid [d0, d1, (j2 : Int), d3, d4, d5, d6, d7, d8, d9, d10] 7 11
      refine ⟨_, rfl, ((3 : Nat) : Int), rfl, ((7 : Nat) : Int), rfl, dl, _, rfl, SqL.of hdl, fun h1 n1 => ?_⟩
      rw [m1]
      have g1 := same_upd (o := .lst ([d3, d4, d5, d6].map V.int)) n1
      have hh1 : upd G2 h1 (.lst ([d3, d4, d5, d6].map V.int)) h1 = some (.lst ([d3, d4, d5, d6].map V.int)) := upd_same
      have hdl := g1 _ _ hdl
      have hW := g1 _ _ hW
      generalize upd G2 h1 (.lst ([d3, d4, d5, d6].map V.int)) = G3 at *
      refine ⟨_, rfl, ((7 : Nat) : Int), rfl, ((11 : Nat) : Int), rfl, dl, _, rfl, SqL.of hdl, fun h2 n2 => ?_⟩
      rw [m2]
      have g2 := same_upd (o := .lst ([d7, d8, d9, d10].map V.int)) n2
      have hh2 : upd G3 h2 (.lst ([d7, d8, d9, d10].map V.int)) h2 = some (.lst ([d7, d8, d9, d10].map V.int)) := upd_same
      have hh1 := g2 _ _ hh1
      have hW := g2 _ _ hW
      generalize upd G3 h2 (.lst ([d7, d8, d9, d10].map V.int)) = G4' at *
      refine ⟨(by show 2 ≤ sizeLine; decide), fun h3 n3 => ?_⟩
      have g3 := same_upd (o := .lst [V.ref h1, V.ref h2]) n3
      have hh3 : upd G4' h3 (.lst [V.ref h1, V.ref h2]) h3 = some (.lst [V.ref h1, V.ref h2]) := upd_same
      have hh1 := g3 _ _ hh1
      have hh2 := g3 _ _ hh2
      have hW := g3 _ _ hW
      generalize upd G4' h3 (.lst [V.ref h1, V.ref h2]) = G5' at *
      refine ⟨h3, rfl, ⟨_, SqL.of hh3⟩, for_list (K := K) (a := h3) (xs := [V.ref h1, V.ref h2]) (fun i σ G => Same G5' G ∧ ∃ (w : Addr) (L : List (List Str)) (x4 x5 x6 x7 x8 : Option V), σ = [some (.ref l0), some (.ref dl), some (.ref N), some (.ref w), x4, x5, x6, x7, x8] ∧ G w = some (.lst ((linesS L).map V.str)) ∧ GoodL (5 + i) (4 + i) L ∧ L ≠ [])
        ⟨Same.refl _, W, R.map rowW, _, _, _, _, _, rfl, hW, gl, ne⟩ (fun i σ G _ h => SqL.of (h.1 _ _ hh3)) ?_ ?_⟩
      · rintro i y σ G hi ⟨s5, w, L, y4, y5, y6, y7, y8, rfl, hw, gL, neL⟩
        have i2 : i < 2 := (List.getElem?_eq_some_iff.mp hi).1
        obtain ⟨h, a0, a1, a2, a3, rfl, hh⟩ : ∃ (h : Addr) (a0 a1 a2 a3 : Int), y = .ref h ∧ G h = some (.lst ([a0, a1, a2, a3].map V.int)) := by
          rcases (show i = 0 ∨ i = 1 by omega) with e | e <;> subst e <;> cases hi
          · exact ⟨h1, d3, d4, d5, d6, rfl, s5 _ _ hh1⟩
          · exact ⟨h2, d7, d8, d9, d10, rfl, s5 _ _ hh2⟩
        refine ⟨_, rfl, _, rfl, w, h, L, 5 + i, 4 + i, a0, a1, a2, a3, rfl, SqL.of hw, gL, neL, by omega, by omega, SqL.of hh, fun r L' G6' s6 hr' gL' neL' => ?_⟩
        have g20 : GoodL 20 20 L' := gL'.mono (by omega) (by omega)
        refine ⟨_, rfl, r, L', rfl, SqL.of hr', g20, neL', fun G7' s7 => ⟨_, rfl, r, L', rfl, SqL.of (s7 _ _ hr'), g20, fun G8' s8 => ⟨rfl, _, rfl, ?_⟩⟩⟩
        rw [decide_eq_true rfl]
        refine iteF ?_
        have hr2 := s8 _ _ (s7 _ _ hr')
        refine ⟨_, rfl, r, L', rfl, SqL.of hr2, g20, neL', fun G9' s9 => ⟨_, rfl, r, L', rfl, SqL.of (s9 _ _ hr2), g20, fun G10' s10 => ⟨rfl, _, rfl, ?_⟩⟩⟩
        rw [decide_eq_true rfl]
        refine iteF ?_
        have s11 := s6.trans (s7.trans (s8.trans (s9.trans s10)))
        exact ⟨s5.trans s11, r, L', _, _, _, _, _, rfl, s10 _ _ (s9 _ _ hr2), gL'.mono (by omega) (by omega), neL'⟩
      · rintro σ G ⟨s5, w, L, y4, y5, y6, y7, y8, rfl, hw, gL, neL⟩
        refine ⟨(by show 1 ≤ sizeLine; decide), fun e nE => ⟨e, [[""]], rfl, SqL.of (by rw [empty6]; exact upd_same), ⟨by decide, fun ws hw => by rw [List.mem_singleton.mp hw]; exact ⟨by simp, by decide, fun z hz => by rw [List.mem_singleton.mp hz]; exact gvn_wsE⟩⟩, by simp, fun G6' s6 => ⟨rfl, ?_⟩⟩⟩
        rw [flt_empty, decide_eq_true rfl]
        exact q _
end
theorem all_mk {P : Program} {w : World} {K : PySem.W.Frag} {h : Heap} {mg : Str → Option Value} {fa : Addr} (X : K.In h) (G : h.Ns mainGlobals mg) (hfa : mg "law" = some (.ref fa))
    {f_common : Addr} {od_common an_common : Option Addr} {sl_common : Array (Option Value)} {oc_common kV_common dc_common pm_common cd_common ct_common : Value}
    {f_comb : Addr} {od_comb an_comb : Option Addr} {sl_comb : Array (Option Value)} {oc_comb kV_comb dc_comb pm_comb cd_comb ct_comb : Value}
    {f_least : Addr} {od_least an_least : Option Addr} {sl_least : Array (Option Value)} {oc_least kV_least dc_least pm_least cd_least ct_least : Value}
    {f_prime : Addr} {od_prime an_prime : Option Addr} {sl_prime : Array (Option Value)} {oc_prime kV_prime dc_prime pm_prime cd_prime ct_prime : Value}
    {f_chkp : Addr} {od_chkp an_chkp : Option Addr} {sl_chkp : Array (Option Value)} {oc_chkp kV_chkp dc_chkp pm_chkp cd_chkp ct_chkp : Value}
    {f_rem0 : Addr} {od_rem0 an_rem0 : Option Addr} {sl_rem0 : Array (Option Value)} {oc_rem0 kV_rem0 dc_rem0 pm_rem0 cd_rem0 ct_rem0 : Value}
    {f_recipG : Addr} {od_recipG an_recipG : Option Addr} {sl_recipG : Array (Option Value)} {oc_recipG kV_recipG dc_recipG pm_recipG cd_recipG ct_recipG : Value}
    {f_isname : Addr} {od_isname an_isname : Option Addr} {sl_isname : Array (Option Value)} {oc_isname kV_isname dc_isname pm_isname cd_isname ct_isname : Value}
    {f_isstep : Addr} {od_isstep an_isstep : Option Addr} {sl_isstep : Array (Option Value)} {oc_isstep kV_isstep dc_isstep pm_isstep cd_isstep ct_isstep : Value}
    {f_frac : Addr} {od_frac an_frac : Option Addr} {sl_frac : Array (Option Value)} {oc_frac kV_frac dc_frac pm_frac cd_frac ct_frac : Value}
    {f_blt : Addr} {od_blt an_blt : Option Addr} {sl_blt : Array (Option Value)} {oc_blt kV_blt dc_blt pm_blt cd_blt ct_blt : Value}
    {f_divs : Addr} {od_divs an_divs : Option Addr} {sl_divs : Array (Option Value)} {oc_divs kV_divs dc_divs pm_divs cd_divs ct_divs : Value}
    {f_apart : Addr} {od_apart an_apart : Option Addr} {sl_apart : Array (Option Value)} {oc_apart kV_apart dc_apart pm_apart cd_apart ct_apart : Value}
    {f_wun : Addr} {od_wun an_wun : Option Addr} {sl_wun : Array (Option Value)} {oc_wun kV_wun dc_wun pm_wun cd_wun ct_wun : Value}
    {f_numb86 : Addr} {od_numb86 an_numb86 : Option Addr} {sl_numb86 : Array (Option Value)} {oc_numb86 kV_numb86 dc_numb86 pm_numb86 cd_numb86 ct_numb86 : Value}
    {f_built86 : Addr} {od_built86 an_built86 : Option Addr} {sl_built86 : Array (Option Value)} {oc_built86 kV_built86 dc_built86 pm_built86 cd_built86 ct_built86 : Value}
    {f_cell : Addr} {od_cell an_cell : Option Addr} {sl_cell : Array (Option Value)} {oc_cell kV_cell dc_cell pm_cell cd_cell ct_cell : Value}
    {f_draws : Addr} {od_draws an_draws : Option Addr} {sl_draws : Array (Option Value)} {oc_draws kV_draws dc_draws pm_draws cd_draws ct_draws : Value}
    {f_lisint : Addr} {od_lisint an_lisint : Option Addr} {sl_lisint : Array (Option Value)} {oc_lisint kV_lisint dc_lisint pm_lisint cd_lisint ct_lisint : Value}
    {f_lflt86 : Addr} {od_lflt86 an_lflt86 : Option Addr} {sl_lflt86 : Array (Option Value)} {oc_lflt86 kV_lflt86 dc_lflt86 pm_lflt86 cd_lflt86 ct_lflt86 : Value}
    {f_ltld86 : Addr} {od_ltld86 an_ltld86 : Option Addr} {sl_ltld86 : Array (Option Value)} {oc_ltld86 kV_ltld86 dc_ltld86 pm_ltld86 cd_ltld86 ct_ltld86 : Value}
    {f_lchg86 : Addr} {od_lchg86 an_lchg86 : Option Addr} {sl_lchg86 : Array (Option Value)} {oc_lchg86 kV_lchg86 dc_lchg86 pm_lchg86 cd_lchg86 ct_lchg86 : Value}
    {f_lbld86 : Addr} {od_lbld86 an_lbld86 : Option Addr} {sl_lbld86 : Array (Option Value)} {oc_lbld86 kV_lbld86 dc_lbld86 pm_lbld86 cd_lbld86 ct_lbld86 : Value}
    {f_law : Addr} {od_law an_law : Option Addr} {sl_law : Array (Option Value)} {oc_law kV_law dc_law pm_law cd_law ct_law : Value}
    {CF : Addr}
    {C_ibc f_ibc : Addr} {nm_ibc q_ibc : Str} {N_ibc : Addr} {bs_ibc sb_ibc : List Value} {sn_ibc : List Str} {ab_ibc : Bool} {co_ibc : Option Bool} {dd_ibc : Option Addr} {x0_ibc x1_ibc x2_ibc x3_ibc x5_ibc : Option Value} {od_ibc an_ibc : Option Addr} {sl_ibc : Array (Option Value)} {oc_ibc kV_ibc dc_ibc pm_ibc cd_ibc ct_ibc : Value}
    {C_ibs f_ibs : Addr} {nm_ibs q_ibs : Str} {N_ibs : Addr} {bs_ibs sb_ibs : List Value} {sn_ibs : List Str} {ab_ibs : Bool} {co_ibs : Option Bool} {dd_ibs : Option Addr} {x0_ibs x1_ibs x2_ibs x3_ibs x5_ibs : Option Value} {od_ibs an_ibs : Option Addr} {sl_ibs : Array (Option Value)} {oc_ibs kV_ibs dc_ibs pm_ibs cd_ibs ct_ibs : Value}
    {C_iun f_iun : Addr} {nm_iun q_iun : Str} {N_iun : Addr} {bs_iun sb_iun : List Value} {sn_iun : List Str} {ab_iun : Bool} {co_iun : Option Bool} {dd_iun : Option Addr} {x0_iun x1_iun x2_iun x3_iun x5_iun : Option Value} {od_iun an_iun : Option Addr} {sl_iun : Array (Option Value)} {oc_iun kV_iun dc_iun pm_iun cd_iun ct_iun : Value}
    {C_ibn f_ibn : Addr} {nm_ibn q_ibn : Str} {N_ibn : Addr} {bs_ibn sb_ibn : List Value} {sn_ibn : List Str} {ab_ibn : Bool} {co_ibn : Option Bool} {dd_ibn : Option Addr} {x0_ibn x1_ibn x2_ibn x3_ibn x5_ibn : Option Value} {od_ibn an_ibn : Option Addr} {sl_ibn : Array (Option Value)} {oc_ibn kV_ibn dc_ibn pm_ibn cd_ibn ct_ibn : Value}
    {C_ch : Addr}
    {f_cinit : Addr} {od_cinit an_cinit : Option Addr} {sl_cinit : Array (Option Value)} {oc_cinit kV_cinit dc_cinit pm_cinit cd_cinit ct_cinit : Value}
    {f_ceq : Addr} {od_ceq an_ceq : Option Addr} {sl_ceq : Array (Option Value)} {oc_ceq kV_ceq dc_ceq pm_ceq cd_ceq ct_ceq : Value}
    {f_cevery : Addr} {od_cevery an_cevery : Option Addr} {sl_cevery : Array (Option Value)} {oc_cevery kV_cevery dc_cevery pm_cevery cd_cevery ct_cevery : Value}
    {p_cevery : Addr} {r_cevery : List Value}
    {f_cnone : Addr} {od_cnone an_cnone : Option Addr} {sl_cnone : Array (Option Value)} {oc_cnone kV_cnone dc_cnone pm_cnone cd_cnone ct_cnone : Value}
    {p_cnone : Addr} {r_cnone : List Value}
    {C_ru : Addr}
    {f_ruinit : Addr} {od_ruinit an_ruinit : Option Addr} {sl_ruinit : Array (Option Value)} {oc_ruinit kV_ruinit dc_ruinit pm_ruinit cd_ruinit ct_ruinit : Value}
    {f_ruchk : Addr} {od_ruchk an_ruchk : Option Addr} {sl_ruchk : Array (Option Value)} {oc_ruchk kV_ruchk dc_ruchk pm_ruchk cd_ruchk ct_ruchk : Value}
    {f_ruway : Addr} {od_ruway an_ruway : Option Addr} {sl_ruway : Array (Option Value)} {oc_ruway kV_ruway dc_ruway pm_ruway cd_ruway ct_ruway : Value}
    {f_rufrs : Addr} {od_rufrs an_rufrs : Option Addr} {sl_rufrs : Array (Option Value)} {oc_rufrs kV_rufrs dc_rufrs pm_rufrs cd_rufrs ct_rufrs : Value}
    {f_runames : Addr} {od_runames an_runames : Option Addr} {sl_runames : Array (Option Value)} {oc_runames kV_runames dc_runames pm_runames cd_runames ct_runames : Value}
    {f_ruval : Addr} {od_ruval an_ruval : Option Addr} {sl_ruval : Array (Option Value)} {oc_ruval kV_ruval dc_ruval pm_ruval cd_ruval ct_ruval : Value}
    {f_ruasf : Addr} {od_ruasf an_ruasf : Option Addr} {sl_ruasf : Array (Option Value)} {oc_ruasf kV_ruasf dc_ruasf pm_ruasf cd_ruasf ct_ruasf : Value}
    {f_ruposs : Addr} {od_ruposs an_ruposs : Option Addr} {sl_ruposs : Array (Option Value)} {oc_ruposs kV_ruposs dc_ruposs pm_ruposs cd_ruposs ct_ruposs : Value}
    {tk0 tk1 tk2 tk3 : Tok}
    {DT : Addr} {esWT : Array DictEntry} {nWT : Nat}
    {ZA OA : Addr}
    {DG : Addr} {esWG : Array DictEntry} {nWG : Nat}
    {tTZ0 tTZ1 : Tok} {nTZ : Nat} {slTZ : Array (Option Value)} {odTZ : Option Addr}
    {tTO0 tTO1 : Tok} {nTO : Nat} {slTO : Array (Option Value)} {odTO : Option Addr}
    {tML tLt : Tok}
    (a_common : PySem.W.nsIn K mainGlobals "common" = some (some (.ref f_common))) (l_common : K.lookup f_common = some ⟨oc_common, od_common, .func (PySem.W.fnOf "common" "common" (defArgs s_common) (defBody s_common) (defScope s_common) .none kV_common dc_common pm_common an_common cd_common ct_common), sl_common⟩) (c_common : PySem.W.codeIn K cd_common "common" = true) (k_common : PySem.W.keepIn K (.ref f_common) = true)
    (a_comb : PySem.W.nsIn K mainGlobals "combination" = some (some (.ref f_comb))) (l_comb : K.lookup f_comb = some ⟨oc_comb, od_comb, .func (PySem.W.fnOf "combination" "combination" (defArgs s_comb) (defBody s_comb) (defScope s_comb) .none kV_comb dc_comb pm_comb an_comb cd_comb ct_comb), sl_comb⟩) (c_comb : PySem.W.codeIn K cd_comb "combination" = true) (k_comb : PySem.W.keepIn K (.ref f_comb) = true)
    (a_least : PySem.W.nsIn K mainGlobals "_least_divisor" = some (some (.ref f_least))) (l_least : K.lookup f_least = some ⟨oc_least, od_least, .func (PySem.W.fnOf "_least_divisor" "_least_divisor" (defArgs s_least) (defBody s_least) (defScope s_least) .none kV_least dc_least pm_least an_least cd_least ct_least), sl_least⟩) (c_least : PySem.W.codeIn K cd_least "_least_divisor" = true) (k_least : PySem.W.keepIn K (.ref f_least) = true)
    (a_prime : PySem.W.nsIn K mainGlobals "is_prime" = some (some (.ref f_prime))) (l_prime : K.lookup f_prime = some ⟨oc_prime, od_prime, .func (PySem.W.fnOf "is_prime" "is_prime" (defArgs s_prime) (defBody s_prime) (defScope s_prime) .none kV_prime dc_prime pm_prime an_prime cd_prime ct_prime), sl_prime⟩) (c_prime : PySem.W.codeIn K cd_prime "is_prime" = true) (k_prime : PySem.W.keepIn K (.ref f_prime) = true)
    (a_chkp : PySem.W.nsIn K mainGlobals "checked_prime" = some (some (.ref f_chkp))) (l_chkp : K.lookup f_chkp = some ⟨oc_chkp, od_chkp, .func (PySem.W.fnOf "checked_prime" "checked_prime" (defArgs s_chkp) (defBody s_chkp) (defScope s_chkp) .none kV_chkp dc_chkp pm_chkp an_chkp cd_chkp ct_chkp), sl_chkp⟩) (c_chkp : PySem.W.codeIn K cd_chkp "checked_prime" = true) (k_chkp : PySem.W.keepIn K (.ref f_chkp) = true)
    (a_rem0 : PySem.W.nsIn K mainGlobals "remainder" = some (some (.ref f_rem0))) (l_rem0 : K.lookup f_rem0 = some ⟨oc_rem0, od_rem0, .func (PySem.W.fnOf "remainder" "remainder" (defArgs s_rem0) (defBody s_rem0) (defScope s_rem0) .none kV_rem0 dc_rem0 pm_rem0 an_rem0 cd_rem0 ct_rem0), sl_rem0⟩) (c_rem0 : PySem.W.codeIn K cd_rem0 "remainder" = true) (k_rem0 : PySem.W.keepIn K (.ref f_rem0) = true)
    (a_recipG : PySem.W.nsIn K mainGlobals "reciprocal" = some (some (.ref f_recipG))) (l_recipG : K.lookup f_recipG = some ⟨oc_recipG, od_recipG, .func (PySem.W.fnOf "reciprocal" "reciprocal" (defArgs s_recipG) (defBody s_recipG) (defScope s_recipG) .none kV_recipG dc_recipG pm_recipG an_recipG cd_recipG ct_recipG), sl_recipG⟩) (c_recipG : PySem.W.codeIn K cd_recipG "reciprocal" = true) (k_recipG : PySem.W.keepIn K (.ref f_recipG) = true)
    (a_isname : PySem.W.nsIn K mainGlobals "is_name" = some (some (.ref f_isname))) (l_isname : K.lookup f_isname = some ⟨oc_isname, od_isname, .func (PySem.W.fnOf "is_name" "is_name" (defArgs s_isname) (defBody s_isname) (defScope s_isname) .none kV_isname dc_isname pm_isname an_isname cd_isname ct_isname), sl_isname⟩) (c_isname : PySem.W.codeIn K cd_isname "is_name" = true) (k_isname : PySem.W.keepIn K (.ref f_isname) = true)
    (a_isstep : PySem.W.nsIn K mainGlobals "_is_step" = some (some (.ref f_isstep))) (l_isstep : K.lookup f_isstep = some ⟨oc_isstep, od_isstep, .func (PySem.W.fnOf "_is_step" "_is_step" (defArgs s_isstep) (defBody s_isstep) (defScope s_isstep) .none kV_isstep dc_isstep pm_isstep an_isstep cd_isstep ct_isstep), sl_isstep⟩) (c_isstep : PySem.W.codeIn K cd_isstep "_is_step" = true) (k_isstep : PySem.W.keepIn K (.ref f_isstep) = true)
    (a_frac : PySem.W.nsIn K mainGlobals "_fraction" = some (some (.ref f_frac))) (l_frac : K.lookup f_frac = some ⟨oc_frac, od_frac, .func (PySem.W.fnOf "_fraction" "_fraction" (defArgs s_frac) (defBody s_frac) (defScope s_frac) .none kV_frac dc_frac pm_frac an_frac cd_frac ct_frac), sl_frac⟩) (c_frac : PySem.W.codeIn K cd_frac "_fraction" = true) (k_frac : PySem.W.keepIn K (.ref f_frac) = true)
    (a_blt : PySem.W.nsIn K mainGlobals "_built_of" = some (some (.ref f_blt))) (l_blt : K.lookup f_blt = some ⟨oc_blt, od_blt, .func (PySem.W.fnOf "_built_of" "_built_of" (defArgs s_blt) (defBody s_blt) (defScope s_blt) .none kV_blt dc_blt pm_blt an_blt cd_blt ct_blt), sl_blt⟩) (c_blt : PySem.W.codeIn K cd_blt "_built_of" = true) (k_blt : PySem.W.keepIn K (.ref f_blt) = true)
    (a_divs : PySem.W.nsIn K mainGlobals "prime_divisors" = some (some (.ref f_divs))) (l_divs : K.lookup f_divs = some ⟨oc_divs, od_divs, .func (PySem.W.fnOf "prime_divisors" "prime_divisors" (defArgs s_divs) (defBody s_divs) (defScope s_divs) .none kV_divs dc_divs pm_divs an_divs cd_divs ct_divs), sl_divs⟩) (c_divs : PySem.W.codeIn K cd_divs "prime_divisors" = true) (k_divs : PySem.W.keepIn K (.ref f_divs) = true)
    (a_apart : PySem.W.nsIn K mainGlobals "apart" = some (some (.ref f_apart))) (l_apart : K.lookup f_apart = some ⟨oc_apart, od_apart, .func (PySem.W.fnOf "apart" "apart" (defArgs s_apart) (defBody s_apart) (defScope s_apart) .none kV_apart dc_apart pm_apart an_apart cd_apart ct_apart), sl_apart⟩) (c_apart : PySem.W.codeIn K cd_apart "apart" = true) (k_apart : PySem.W.keepIn K (.ref f_apart) = true)
    (a_wun : PySem.W.nsIn K mainGlobals "where_units" = some (some (.ref f_wun))) (l_wun : K.lookup f_wun = some ⟨oc_wun, od_wun, .func (PySem.W.fnOf "where_units" "where_units" (defArgs s_wun) (defBody s_wun) (defScope s_wun) .none kV_wun dc_wun pm_wun an_wun cd_wun ct_wun), sl_wun⟩) (c_wun : PySem.W.codeIn K cd_wun "where_units" = true) (k_wun : PySem.W.keepIn K (.ref f_wun) = true)
    (a_numb86 : PySem.W.nsIn K mainGlobals "_numbered" = some (some (.ref f_numb86))) (l_numb86 : K.lookup f_numb86 = some ⟨oc_numb86, od_numb86, .func (PySem.W.fnOf "_numbered" "_numbered" (defArgs s_numb86) (defBody s_numb86) (defScope s_numb86) .none kV_numb86 dc_numb86 pm_numb86 an_numb86 cd_numb86 ct_numb86), sl_numb86⟩) (c_numb86 : PySem.W.codeIn K cd_numb86 "_numbered" = true) (k_numb86 : PySem.W.keepIn K (.ref f_numb86) = true)
    (a_built86 : PySem.W.nsIn K mainGlobals "built" = some (some (.ref f_built86))) (l_built86 : K.lookup f_built86 = some ⟨oc_built86, od_built86, .func (PySem.W.fnOf "built" "built" (defArgs s_built86) (defBody s_built86) (defScope s_built86) .none kV_built86 dc_built86 pm_built86 an_built86 cd_built86 ct_built86), sl_built86⟩) (c_built86 : PySem.W.codeIn K cd_built86 "built" = true) (k_built86 : PySem.W.keepIn K (.ref f_built86) = true)
    (a_cell : PySem.W.nsIn K mainGlobals "_law_cell" = some (some (.ref f_cell))) (l_cell : K.lookup f_cell = some ⟨oc_cell, od_cell, .func (PySem.W.fnOf "_law_cell" "_law_cell" (defArgs s_cell) (defBody s_cell) (defScope s_cell) .none kV_cell dc_cell pm_cell an_cell cd_cell ct_cell), sl_cell⟩) (c_cell : PySem.W.codeIn K cd_cell "_law_cell" = true) (k_cell : PySem.W.keepIn K (.ref f_cell) = true)
    (a_draws : PySem.W.nsIn K mainGlobals "_law_draws" = some (some (.ref f_draws))) (l_draws : K.lookup f_draws = some ⟨oc_draws, od_draws, .func (PySem.W.fnOf "_law_draws" "_law_draws" (defArgs s_draws) (defBody s_draws) (defScope s_draws) .none kV_draws dc_draws pm_draws an_draws cd_draws ct_draws), sl_draws⟩) (c_draws : PySem.W.codeIn K cd_draws "_law_draws" = true) (k_draws : PySem.W.keepIn K (.ref f_draws) = true)
    (a_lisint : PySem.W.nsIn K mainGlobals "_law_is_integer" = some (some (.ref f_lisint))) (l_lisint : K.lookup f_lisint = some ⟨oc_lisint, od_lisint, .func (PySem.W.fnOf "_law_is_integer" "_law_is_integer" (defArgs s_lisint) (defBody s_lisint) (defScope s_lisint) .none kV_lisint dc_lisint pm_lisint an_lisint cd_lisint ct_lisint), sl_lisint⟩) (c_lisint : PySem.W.codeIn K cd_lisint "_law_is_integer" = true) (k_lisint : PySem.W.keepIn K (.ref f_lisint) = true)
    (a_lflt86 : PySem.W.nsIn K mainGlobals "_law_fault" = some (some (.ref f_lflt86))) (l_lflt86 : K.lookup f_lflt86 = some ⟨oc_lflt86, od_lflt86, .func (PySem.W.fnOf "_law_fault" "_law_fault" (defArgs s_lflt86) (defBody s_lflt86) (defScope s_lflt86) .none kV_lflt86 dc_lflt86 pm_lflt86 an_lflt86 cd_lflt86 ct_lflt86), sl_lflt86⟩) (c_lflt86 : PySem.W.codeIn K cd_lflt86 "_law_fault" = true) (k_lflt86 : PySem.W.keepIn K (.ref f_lflt86) = true)
    (a_ltld86 : PySem.W.nsIn K mainGlobals "_law_told" = some (some (.ref f_ltld86))) (l_ltld86 : K.lookup f_ltld86 = some ⟨oc_ltld86, od_ltld86, .func (PySem.W.fnOf "_law_told" "_law_told" (defArgs s_ltld86) (defBody s_ltld86) (defScope s_ltld86) .none kV_ltld86 dc_ltld86 pm_ltld86 an_ltld86 cd_ltld86 ct_ltld86), sl_ltld86⟩) (c_ltld86 : PySem.W.codeIn K cd_ltld86 "_law_told" = true) (k_ltld86 : PySem.W.keepIn K (.ref f_ltld86) = true)
    (a_lchg86 : PySem.W.nsIn K mainGlobals "_law_changed" = some (some (.ref f_lchg86))) (l_lchg86 : K.lookup f_lchg86 = some ⟨oc_lchg86, od_lchg86, .func (PySem.W.fnOf "_law_changed" "_law_changed" (defArgs s_lchg86) (defBody s_lchg86) (defScope s_lchg86) .none kV_lchg86 dc_lchg86 pm_lchg86 an_lchg86 cd_lchg86 ct_lchg86), sl_lchg86⟩) (c_lchg86 : PySem.W.codeIn K cd_lchg86 "_law_changed" = true) (k_lchg86 : PySem.W.keepIn K (.ref f_lchg86) = true)
    (a_lbld86 : PySem.W.nsIn K mainGlobals "_law_builds" = some (some (.ref f_lbld86))) (l_lbld86 : K.lookup f_lbld86 = some ⟨oc_lbld86, od_lbld86, .func (PySem.W.fnOf "_law_builds" "_law_builds" (defArgs s_lbld86) (defBody s_lbld86) (defScope s_lbld86) .none kV_lbld86 dc_lbld86 pm_lbld86 an_lbld86 cd_lbld86 ct_lbld86), sl_lbld86⟩) (c_lbld86 : PySem.W.codeIn K cd_lbld86 "_law_builds" = true) (k_lbld86 : PySem.W.keepIn K (.ref f_lbld86) = true)
    (a_law : PySem.W.nsIn K mainGlobals "law" = some (some (.ref f_law))) (l_law : K.lookup f_law = some ⟨oc_law, od_law, .func (PySem.W.fnOf "law" "law" (defArgs s_law) (defBody s_law) (defScope s_law) .none kV_law dc_law pm_law an_law cd_law ct_law), sl_law⟩) (c_law : PySem.W.codeIn K cd_law "law" = true) (k_law : PySem.W.keepIn K (.ref f_law) = true)
    (aF : PySem.W.nsIn K mainGlobals "FieldError" = some (some (.ref CF))) (rF : PySem.W.readsIn K CF (.type "type") = true) (gF : PySem.W.specialIn K (.ref CF) "__getattribute__" = some (some (.builtin "type.__getattribute__"))) (iF : PySem.W.findCls K (.ref CF) (.type "type") "__init__" = some (.val (.builtin "ValueError.__init__")))
    (aC_ibc : PySem.W.nsIn K mainGlobals "BadCharacteristic" = some (some (.ref C_ibc))) (xC_ibc : K.lookup C_ibc = some (excClassObj nm_ibc q_ibc C_ibc N_ibc bs_ibc [.ref CF, .type "ValueError", .type "Exception", .type "BaseException", .type "object"] true sn_ibc sb_ibc ab_ibc co_ibc dd_ibc x0_ibc x1_ibc x2_ibc x3_ibc x5_ibc "ValueError.__new__")) (sa_ibc : PySem.W.findIn K (.ref C_ibc) "__setattr__" = some (some (.builtin "object.__setattr__"))) (ga_ibc : PySem.W.findIn K (.ref C_ibc) "__getattribute__" = some (some (.builtin "BaseException.__getattribute__"))) (gg_ibc : PySem.W.findIn K (.ref C_ibc) "__getattr__" = some none) (no_ibc : PySem.W.findIn K (.ref C_ibc) "p" = some none) (ic_ibc : PySem.W.findIn K (.ref C_ibc) "__init__" = some (some (.ref f_ibc))) (ti_ibc : PySem.W.typeIn K (.ref f_ibc) = some (.type "function")) (kc_ibc : PySem.W.keepIn K (.ref C_ibc) = true) (ec_ibc : PySem.W.subIn K (.ref C_ibc) (.type "BaseException") = some true) (tc_ibc : PySem.W.typeIn K (.ref C_ibc) = some (.type "type")) (hd_ibc : PySem.W.hasDictIn K C_ibc = true) (is_ibc : PySem.W.isClsIn K C_ibc = true) (sc_ibc : PySem.W.subIn K (.ref C_ibc) (.ref C_ibc) = some true) (l_ibc : K.lookup f_ibc = some ⟨oc_ibc, od_ibc, .func (PySem.W.fnOf "__init__" "BadCharacteristic.__init__" (defArgs s_ibc) (defBody s_ibc) (defScope s_ibc) .none kV_ibc dc_ibc pm_ibc an_ibc cd_ibc ct_ibc), sl_ibc⟩) (c_ibc : PySem.W.codeIn K cd_ibc "BadCharacteristic.__init__" = true) (k_ibc : PySem.W.keepIn K (.ref f_ibc) = true)
    (aC_ibs : PySem.W.nsIn K mainGlobals "BadStep" = some (some (.ref C_ibs))) (xC_ibs : K.lookup C_ibs = some (excClassObj nm_ibs q_ibs C_ibs N_ibs bs_ibs [.ref CF, .type "ValueError", .type "Exception", .type "BaseException", .type "object"] true sn_ibs sb_ibs ab_ibs co_ibs dd_ibs x0_ibs x1_ibs x2_ibs x3_ibs x5_ibs "ValueError.__new__")) (sa_ibs : PySem.W.findIn K (.ref C_ibs) "__setattr__" = some (some (.builtin "object.__setattr__"))) (ga_ibs : PySem.W.findIn K (.ref C_ibs) "__getattribute__" = some (some (.builtin "BaseException.__getattribute__"))) (gg_ibs : PySem.W.findIn K (.ref C_ibs) "__getattr__" = some none) (no_ibs : PySem.W.findIn K (.ref C_ibs) "at" = some none) (ic_ibs : PySem.W.findIn K (.ref C_ibs) "__init__" = some (some (.ref f_ibs))) (ti_ibs : PySem.W.typeIn K (.ref f_ibs) = some (.type "function")) (kc_ibs : PySem.W.keepIn K (.ref C_ibs) = true) (ec_ibs : PySem.W.subIn K (.ref C_ibs) (.type "BaseException") = some true) (tc_ibs : PySem.W.typeIn K (.ref C_ibs) = some (.type "type")) (hd_ibs : PySem.W.hasDictIn K C_ibs = true) (is_ibs : PySem.W.isClsIn K C_ibs = true) (sc_ibs : PySem.W.subIn K (.ref C_ibs) (.ref C_ibs) = some true) (l_ibs : K.lookup f_ibs = some ⟨oc_ibs, od_ibs, .func (PySem.W.fnOf "__init__" "BadStep.__init__" (defArgs s_ibs) (defBody s_ibs) (defScope s_ibs) .none kV_ibs dc_ibs pm_ibs an_ibs cd_ibs ct_ibs), sl_ibs⟩) (c_ibs : PySem.W.codeIn K cd_ibs "BadStep.__init__" = true) (k_ibs : PySem.W.keepIn K (.ref f_ibs) = true)
    (aC_iun : PySem.W.nsIn K mainGlobals "UnknownName" = some (some (.ref C_iun))) (xC_iun : K.lookup C_iun = some (excClassObj nm_iun q_iun C_iun N_iun bs_iun [.ref CF, .type "ValueError", .type "Exception", .type "BaseException", .type "object"] true sn_iun sb_iun ab_iun co_iun dd_iun x0_iun x1_iun x2_iun x3_iun x5_iun "ValueError.__new__")) (sa_iun : PySem.W.findIn K (.ref C_iun) "__setattr__" = some (some (.builtin "object.__setattr__"))) (ga_iun : PySem.W.findIn K (.ref C_iun) "__getattribute__" = some (some (.builtin "BaseException.__getattribute__"))) (gg_iun : PySem.W.findIn K (.ref C_iun) "__getattr__" = some none) (no_iun : PySem.W.findIn K (.ref C_iun) "name" = some none) (ic_iun : PySem.W.findIn K (.ref C_iun) "__init__" = some (some (.ref f_iun))) (ti_iun : PySem.W.typeIn K (.ref f_iun) = some (.type "function")) (kc_iun : PySem.W.keepIn K (.ref C_iun) = true) (ec_iun : PySem.W.subIn K (.ref C_iun) (.type "BaseException") = some true) (tc_iun : PySem.W.typeIn K (.ref C_iun) = some (.type "type")) (hd_iun : PySem.W.hasDictIn K C_iun = true) (is_iun : PySem.W.isClsIn K C_iun = true) (sc_iun : PySem.W.subIn K (.ref C_iun) (.ref C_iun) = some true) (l_iun : K.lookup f_iun = some ⟨oc_iun, od_iun, .func (PySem.W.fnOf "__init__" "UnknownName.__init__" (defArgs s_iun) (defBody s_iun) (defScope s_iun) .none kV_iun dc_iun pm_iun an_iun cd_iun ct_iun), sl_iun⟩) (c_iun : PySem.W.codeIn K cd_iun "UnknownName.__init__" = true) (k_iun : PySem.W.keepIn K (.ref f_iun) = true)
    (aC_ibn : PySem.W.nsIn K mainGlobals "BadNumber" = some (some (.ref C_ibn))) (xC_ibn : K.lookup C_ibn = some (excClassObj nm_ibn q_ibn C_ibn N_ibn bs_ibn [.ref CF, .type "ValueError", .type "Exception", .type "BaseException", .type "object"] true sn_ibn sb_ibn ab_ibn co_ibn dd_ibn x0_ibn x1_ibn x2_ibn x3_ibn x5_ibn "ValueError.__new__")) (sa_ibn : PySem.W.findIn K (.ref C_ibn) "__setattr__" = some (some (.builtin "object.__setattr__"))) (ga_ibn : PySem.W.findIn K (.ref C_ibn) "__getattribute__" = some (some (.builtin "BaseException.__getattribute__"))) (gg_ibn : PySem.W.findIn K (.ref C_ibn) "__getattr__" = some none) (no_ibn : PySem.W.findIn K (.ref C_ibn) "n" = some none) (ic_ibn : PySem.W.findIn K (.ref C_ibn) "__init__" = some (some (.ref f_ibn))) (ti_ibn : PySem.W.typeIn K (.ref f_ibn) = some (.type "function")) (kc_ibn : PySem.W.keepIn K (.ref C_ibn) = true) (ec_ibn : PySem.W.subIn K (.ref C_ibn) (.type "BaseException") = some true) (tc_ibn : PySem.W.typeIn K (.ref C_ibn) = some (.type "type")) (hd_ibn : PySem.W.hasDictIn K C_ibn = true) (is_ibn : PySem.W.isClsIn K C_ibn = true) (sc_ibn : PySem.W.subIn K (.ref C_ibn) (.ref C_ibn) = some true) (l_ibn : K.lookup f_ibn = some ⟨oc_ibn, od_ibn, .func (PySem.W.fnOf "__init__" "BadNumber.__init__" (defArgs s_ibn) (defBody s_ibn) (defScope s_ibn) .none kV_ibn dc_ibn pm_ibn an_ibn cd_ibn ct_ibn), sl_ibn⟩) (c_ibn : PySem.W.codeIn K cd_ibn "BadNumber.__init__" = true) (k_ibn : PySem.W.keepIn K (.ref f_ibn) = true)
    (K_aK : PySem.W.nsIn K mainGlobals "Chars" = some (some (.ref C_ch)))
    (K_pg : PySem.W.plainGet K C_ch Str.empty = true)
    (K_hd : PySem.W.hasDictIn K C_ch = true)
    (K_po : PySem.W.plainOver K C_ch = true)
    (K_sa : PySem.W.findIn K (.ref C_ch) "__setattr__" = some (some (.builtin "object.__setattr__")))
    (K_sf : PySem.W.selfFirst K C_ch = true)
    (K_ha : PySem.W.findIn K (.ref C_ch) "__class__" = some (some (.builtin "object.__class__")))
    (K_hn : PySem.W.specialIn K (.builtin "object.__class__") "__get__" = some (some (.builtin "getset_descriptor.__get__")))
    (K_htk : PySem.W.takesIn K (.builtin "object.__class__") = some true)
    (K_hm : PySem.W.mroIn K C_ch (.type "object") = some true)
    (K_mk : PySem.W.makesIn K C_ch = true)
    (K_kp : PySem.W.keepIn K (.ref C_ch) = true)
    (K_no_endless : PySem.W.findIn K (.ref C_ch) "endless" = some none)
    (K_no_primes : PySem.W.findIn K (.ref C_ch) "primes" = some none)
    (K_rd : PySem.W.readsIn K C_ch (.type "type") = true)
    (K_sg : PySem.W.specialIn K (.ref C_ch) "__getattribute__" = some (some (.builtin "type.__getattribute__")))
    (K_at_cinit : PySem.W.findIn K (.ref C_ch) "__init__" = some (some (.ref f_cinit)))
    (K_fn_cinit : PySem.W.isFn K (.ref f_cinit) = true)
    (K_l_cinit : K.lookup f_cinit = some ⟨oc_cinit, od_cinit, .func (PySem.W.fnOf "__init__" "Chars.__init__" (defArgs s_cinit) (defBody s_cinit) (defScope s_cinit) .none kV_cinit dc_cinit pm_cinit an_cinit cd_cinit ct_cinit), sl_cinit⟩)
    (K_c_cinit : PySem.W.codeIn K cd_cinit "Chars.__init__" = true)
    (K_k_cinit : PySem.W.keepIn K (.ref f_cinit) = true)
    (K_at_ceq : PySem.W.findIn K (.ref C_ch) "__eq__" = some (some (.ref f_ceq)))
    (K_fn_ceq : PySem.W.isFn K (.ref f_ceq) = true)
    (K_l_ceq : K.lookup f_ceq = some ⟨oc_ceq, od_ceq, .func (PySem.W.fnOf "__eq__" "Chars.__eq__" (defArgs s_ceq) (defBody s_ceq) (defScope s_ceq) .none kV_ceq dc_ceq pm_ceq an_ceq cd_ceq ct_ceq), sl_ceq⟩)
    (K_c_ceq : PySem.W.codeIn K cd_ceq "Chars.__eq__" = true)
    (K_k_ceq : PySem.W.keepIn K (.ref f_ceq) = true)
    (K_at_cevery : PySem.W.findCls K (.ref C_ch) (.type "type") "every" = some (.get (.builtin "classmethod.__get__") (.ref p_cevery) .none (.ref C_ch)))
    (K_rc_cevery : PySem.W.recIn K p_cevery "classmethod" = some (.ref f_cevery :: r_cevery))
    (K_fi_cevery : PySem.W.fnIn K f_cevery = true)
    (K_l_cevery : K.lookup f_cevery = some ⟨oc_cevery, od_cevery, .func (PySem.W.fnOf "every" "Chars.every" (defArgs s_cevery) (defBody s_cevery) (defScope s_cevery) .none kV_cevery dc_cevery pm_cevery an_cevery cd_cevery ct_cevery), sl_cevery⟩)
    (K_c_cevery : PySem.W.codeIn K cd_cevery "Chars.every" = true)
    (K_k_cevery : PySem.W.keepIn K (.ref f_cevery) = true)
    (K_at_cnone : PySem.W.findCls K (.ref C_ch) (.type "type") "none" = some (.get (.builtin "classmethod.__get__") (.ref p_cnone) .none (.ref C_ch)))
    (K_rc_cnone : PySem.W.recIn K p_cnone "classmethod" = some (.ref f_cnone :: r_cnone))
    (K_fi_cnone : PySem.W.fnIn K f_cnone = true)
    (K_l_cnone : K.lookup f_cnone = some ⟨oc_cnone, od_cnone, .func (PySem.W.fnOf "none" "Chars.none" (defArgs s_cnone) (defBody s_cnone) (defScope s_cnone) .none kV_cnone dc_cnone pm_cnone an_cnone cd_cnone ct_cnone), sl_cnone⟩)
    (K_c_cnone : PySem.W.codeIn K cd_cnone "Chars.none" = true)
    (K_k_cnone : PySem.W.keepIn K (.ref f_cnone) = true)
    (R_aK : PySem.W.nsIn K mainGlobals "Ruler" = some (some (.ref C_ru)))
    (R_pg : PySem.W.plainGet K C_ru Str.empty = true)
    (R_hd : PySem.W.hasDictIn K C_ru = true)
    (R_po : PySem.W.plainOver K C_ru = true)
    (R_sa : PySem.W.findIn K (.ref C_ru) "__setattr__" = some (some (.builtin "object.__setattr__")))
    (R_sf : PySem.W.selfFirst K C_ru = true)
    (R_ha : PySem.W.findIn K (.ref C_ru) "__class__" = some (some (.builtin "object.__class__")))
    (R_hn : PySem.W.specialIn K (.builtin "object.__class__") "__get__" = some (some (.builtin "getset_descriptor.__get__")))
    (R_htk : PySem.W.takesIn K (.builtin "object.__class__") = some true)
    (R_hm : PySem.W.mroIn K C_ru (.type "object") = some true)
    (R_mk : PySem.W.makesIn K C_ru = true)
    (R_kp : PySem.W.keepIn K (.ref C_ru) = true)
    (R_no__steps : PySem.W.findIn K (.ref C_ru) "_steps" = some none)
    (R_at_ruinit : PySem.W.findIn K (.ref C_ru) "__init__" = some (some (.ref f_ruinit)))
    (R_fn_ruinit : PySem.W.isFn K (.ref f_ruinit) = true)
    (R_l_ruinit : K.lookup f_ruinit = some ⟨oc_ruinit, od_ruinit, .func (PySem.W.fnOf "__init__" "Ruler.__init__" (defArgs s_ruinit) (defBody s_ruinit) (defScope s_ruinit) .none kV_ruinit dc_ruinit pm_ruinit an_ruinit cd_ruinit ct_ruinit), sl_ruinit⟩)
    (R_c_ruinit : PySem.W.codeIn K cd_ruinit "Ruler.__init__" = true)
    (R_k_ruinit : PySem.W.keepIn K (.ref f_ruinit) = true)
    (R_at_ruchk : PySem.W.findIn K (.ref C_ru) "_check_names" = some (some (.ref f_ruchk)))
    (R_fn_ruchk : PySem.W.isFn K (.ref f_ruchk) = true)
    (R_l_ruchk : K.lookup f_ruchk = some ⟨oc_ruchk, od_ruchk, .func (PySem.W.fnOf "_check_names" "Ruler._check_names" (defArgs s_ruchk) (defBody s_ruchk) (defScope s_ruchk) .none kV_ruchk dc_ruchk pm_ruchk an_ruchk cd_ruchk ct_ruchk), sl_ruchk⟩)
    (R_c_ruchk : PySem.W.codeIn K cd_ruchk "Ruler._check_names" = true)
    (R_k_ruchk : PySem.W.keepIn K (.ref f_ruchk) = true)
    (R_at_ruway : PySem.W.findIn K (.ref C_ru) "_way_to" = some (some (.ref f_ruway)))
    (R_fn_ruway : PySem.W.isFn K (.ref f_ruway) = true)
    (R_l_ruway : K.lookup f_ruway = some ⟨oc_ruway, od_ruway, .func (PySem.W.fnOf "_way_to" "Ruler._way_to" (defArgs s_ruway) (defBody s_ruway) (defScope s_ruway) .none kV_ruway dc_ruway pm_ruway an_ruway cd_ruway ct_ruway), sl_ruway⟩)
    (R_c_ruway : PySem.W.codeIn K cd_ruway "Ruler._way_to" = true)
    (R_k_ruway : PySem.W.keepIn K (.ref f_ruway) = true)
    (R_at_rufrs : PySem.W.findIn K (.ref C_ru) "_fractions" = some (some (.ref f_rufrs)))
    (R_fn_rufrs : PySem.W.isFn K (.ref f_rufrs) = true)
    (R_l_rufrs : K.lookup f_rufrs = some ⟨oc_rufrs, od_rufrs, .func (PySem.W.fnOf "_fractions" "Ruler._fractions" (defArgs s_rufrs) (defBody s_rufrs) (defScope s_rufrs) .none kV_rufrs dc_rufrs pm_rufrs an_rufrs cd_rufrs ct_rufrs), sl_rufrs⟩)
    (R_c_rufrs : PySem.W.codeIn K cd_rufrs "Ruler._fractions" = true)
    (R_k_rufrs : PySem.W.keepIn K (.ref f_rufrs) = true)
    (R_at_runames : PySem.W.findIn K (.ref C_ru) "names" = some (some (.ref f_runames)))
    (R_fn_runames : PySem.W.isFn K (.ref f_runames) = true)
    (R_l_runames : K.lookup f_runames = some ⟨oc_runames, od_runames, .func (PySem.W.fnOf "names" "Ruler.names" (defArgs s_runames) (defBody s_runames) (defScope s_runames) .none kV_runames dc_runames pm_runames an_runames cd_runames ct_runames), sl_runames⟩)
    (R_c_runames : PySem.W.codeIn K cd_runames "Ruler.names" = true)
    (R_k_runames : PySem.W.keepIn K (.ref f_runames) = true)
    (R_at_ruval : PySem.W.findIn K (.ref C_ru) "value" = some (some (.ref f_ruval)))
    (R_fn_ruval : PySem.W.isFn K (.ref f_ruval) = true)
    (R_l_ruval : K.lookup f_ruval = some ⟨oc_ruval, od_ruval, .func (PySem.W.fnOf "value" "Ruler.value" (defArgs s_ruval) (defBody s_ruval) (defScope s_ruval) .none kV_ruval dc_ruval pm_ruval an_ruval cd_ruval ct_ruval), sl_ruval⟩)
    (R_c_ruval : PySem.W.codeIn K cd_ruval "Ruler.value" = true)
    (R_k_ruval : PySem.W.keepIn K (.ref f_ruval) = true)
    (R_at_ruasf : PySem.W.findIn K (.ref C_ru) "as_fraction" = some (some (.ref f_ruasf)))
    (R_fn_ruasf : PySem.W.isFn K (.ref f_ruasf) = true)
    (R_l_ruasf : K.lookup f_ruasf = some ⟨oc_ruasf, od_ruasf, .func (PySem.W.fnOf "as_fraction" "Ruler.as_fraction" (defArgs s_ruasf) (defBody s_ruasf) (defScope s_ruasf) .none kV_ruasf dc_ruasf pm_ruasf an_ruasf cd_ruasf ct_ruasf), sl_ruasf⟩)
    (R_c_ruasf : PySem.W.codeIn K cd_ruasf "Ruler.as_fraction" = true)
    (R_k_ruasf : PySem.W.keepIn K (.ref f_ruasf) = true)
    (R_at_ruposs : PySem.W.findIn K (.ref C_ru) "possible" = some (some (.ref f_ruposs)))
    (R_fn_ruposs : PySem.W.isFn K (.ref f_ruposs) = true)
    (R_l_ruposs : K.lookup f_ruposs = some ⟨oc_ruposs, od_ruposs, .func (PySem.W.fnOf "possible" "Ruler.possible" (defArgs s_ruposs) (defBody s_ruposs) (defScope s_ruposs) .none kV_ruposs dc_ruposs pm_ruposs an_ruposs cd_ruposs ct_ruposs), sl_ruposs⟩)
    (R_c_ruposs : PySem.W.codeIn K cd_ruposs "Ruler.possible" = true)
    (R_k_ruposs : PySem.W.keepIn K (.ref f_ruposs) = true)
    (gWT : PySem.W.nsIn K mainGlobals "_TAKES" = some (some (.ref DT)))
    (lkWT : K.lookup DT = some ⟨.type "dict", none, .dict esWT nWT, #[]⟩)
    (dkWT : esWT.toList.map He.keyOf = He.keysIn w.params ["sum", "product", "quotient", "opposite"])
    (loWT : (DT == sysModules) = false)
    (vWT0 : PySem.W.nsIn K DT "sum" = some (some (.int 2 tk0)))
    (vWT1 : PySem.W.nsIn K DT "product" = some (some (.int 2 tk1)))
    (vWT2 : PySem.W.nsIn K DT "quotient" = some (some (.int 2 tk2)))
    (vWT3 : PySem.W.nsIn K DT "opposite" = some (some (.int 1 tk3)))
    (gWG : PySem.W.nsIn K mainGlobals "_GIVEN" = some (some (.ref DG)))
    (lkWG : K.lookup DG = some ⟨.type "dict", none, .dict esWG nWG, #[]⟩)
    (dkWG : esWG.toList.map He.keyOf = He.keysIn w.params ["zero", "one"])
    (loWG : (DG == sysModules) = false)
    (vWG0 : PySem.W.nsIn K DG "zero" = some (some (.ref ZA)))
    (vWG1 : PySem.W.nsIn K DG "one" = some (some (.ref OA)))
    (lkTZ : K.lookup ZA = some ⟨.type "tuple", odTZ, .seq #[.int 0 tTZ0, .int 1 tTZ1] nTZ, slTZ⟩)
    (lkTO : K.lookup OA = some ⟨.type "tuple", odTO, .seq #[.int 1 tTO0, .int 1 tTO1] nTO, slTO⟩)
    (z_int : PySem.W.nsIn K mainGlobals "int" = some none)
    (z_len : PySem.W.nsIn K mainGlobals "len" = some none)
    (z_abs : PySem.W.nsIn K mainGlobals "abs" = some none)
    (z_isinstance : PySem.W.nsIn K mainGlobals "isinstance" = some none)
    (z_bool : PySem.W.nsIn K mainGlobals "bool" = some none)
    (z_tuple : PySem.W.nsIn K mainGlobals "tuple" = some none)
    (z_list : PySem.W.nsIn K mainGlobals "list" = some none)
    (z_str : PySem.W.nsIn K mainGlobals "str" = some none)
    (z_range : PySem.W.nsIn K mainGlobals "range" = some none)
    (z_max : PySem.W.nsIn K mainGlobals "max" = some none)
    (z_min : PySem.W.nsIn K mainGlobals "min" = some none)
    (z_sorted : PySem.W.nsIn K mainGlobals "sorted" = some none)
    (z_set : PySem.W.nsIn K mainGlobals "set" = some none)
    (z_enumerate : PySem.W.nsIn K mainGlobals "enumerate" = some none)
    (z_reversed : PySem.W.nsIn K mainGlobals "reversed" = some none)
    (z_all : PySem.W.nsIn K mainGlobals "all" = some none)
    (z_dict : PySem.W.nsIn K mainGlobals "dict" = some none)
    (z_divmod : PySem.W.nsIn K mainGlobals "divmod" = some none)
    (g_isqrt : PySem.W.nsIn K mainGlobals "isqrt" = some (some (.builtin "math.isqrt")))
    (g_gcd : PySem.W.nsIn K mainGlobals "gcd" = some (some (.builtin "math.gcd")))
    (g_MOST_LETTERS : PySem.W.nsIn K mainGlobals "MOST_LETTERS" = some (some (.int 8 tML)))
    (g__LETTERS : PySem.W.nsIn K mainGlobals "_LETTERS" = some (some (.str "abcdefghijklmnopqrstuvwxyz" tLt))) :
    ∃ fd : FuncData, (∀ (s : Shared) (v : Value), BindsTo s fd ⟨[v], []⟩ [("_law_script", v)]) ∧ ∀ base : Heap, K.In base → base.Ns mainGlobals mg → FnOk P w K mg base CX0 10 fa fd ["_law_script"] (spLaw K) := by
  have e := hfa.symm.trans (PySem.W.mg_of X G a_law)
  cases e
  have T : Txt mg := ⟨PySem.W.mg_none_of X G z_int, PySem.W.mg_none_of X G z_len, PySem.W.mg_none_of X G z_abs, PySem.W.mg_none_of X G z_isinstance, PySem.W.mg_none_of X G z_bool, PySem.W.mg_none_of X G z_tuple, PySem.W.mg_none_of X G z_list, PySem.W.mg_none_of X G z_str, PySem.W.mg_none_of X G z_range, PySem.W.mg_none_of X G z_max, PySem.W.mg_none_of X G z_min, PySem.W.mg_none_of X G z_sorted, PySem.W.mg_none_of X G z_set⟩
  have n_enumerate := PySem.W.mg_none_of X G z_enumerate
  have n_reversed := PySem.W.mg_none_of X G z_reversed
  have n_all := PySem.W.mg_none_of X G z_all
  have n_dict := PySem.W.mg_none_of X G z_dict
  have n_divmod := PySem.W.mg_none_of X G z_divmod
  have TF : FErr K mg CF := ⟨PySem.W.mg_of X G aF, rF, gF, iF⟩
  have F_ibc := fun_mk (st := s_ibc) l_ibc c_ibc k_ibc
  have b_ibc := F_ibc.binds (ps := ["self", "p"]) fun _ _ _ _ _ _ us hl => match us, hl with | [_, _], _ => rfl
  have E_ibc : ErrC K mg "BadCharacteristic" "p" C_ibc f_ibc := ⟨PySem.W.mg_of X G aC_ibc, ⟨⟨_, _, _, _, _, _, _, _, _, _, _, _, _, _, _, xC_ibc, rfl⟩, sa_ibc, ec_ibc, tc_ibc, kc_ibc⟩, no_ibc, ic_ibc, ti_ibc, ⟨ga_ibc, gg_ibc, ec_ibc, hd_ibc⟩, exm_me ec_ibc is_ibc tc_ibc sc_ibc⟩
  have F_ibs := fun_mk (st := s_ibs) l_ibs c_ibs k_ibs
  have b_ibs := F_ibs.binds (ps := ["self", "at"]) fun _ _ _ _ _ _ us hl => match us, hl with | [_, _], _ => rfl
  have E_ibs : ErrC K mg "BadStep" "at" C_ibs f_ibs := ⟨PySem.W.mg_of X G aC_ibs, ⟨⟨_, _, _, _, _, _, _, _, _, _, _, _, _, _, _, xC_ibs, rfl⟩, sa_ibs, ec_ibs, tc_ibs, kc_ibs⟩, no_ibs, ic_ibs, ti_ibs, ⟨ga_ibs, gg_ibs, ec_ibs, hd_ibs⟩, exm_me ec_ibs is_ibs tc_ibs sc_ibs⟩
  have F_iun := fun_mk (st := s_iun) l_iun c_iun k_iun
  have b_iun := F_iun.binds (ps := ["self", "name"]) fun _ _ _ _ _ _ us hl => match us, hl with | [_, _], _ => rfl
  have E_iun : ErrC K mg "UnknownName" "name" C_iun f_iun := ⟨PySem.W.mg_of X G aC_iun, ⟨⟨_, _, _, _, _, _, _, _, _, _, _, _, _, _, _, xC_iun, rfl⟩, sa_iun, ec_iun, tc_iun, kc_iun⟩, no_iun, ic_iun, ti_iun, ⟨ga_iun, gg_iun, ec_iun, hd_iun⟩, exm_me ec_iun is_iun tc_iun sc_iun⟩
  have F_ibn := fun_mk (st := s_ibn) l_ibn c_ibn k_ibn
  have b_ibn := F_ibn.binds (ps := ["self", "n"]) fun _ _ _ _ _ _ us hl => match us, hl with | [_, _], _ => rfl
  have E_ibn : ErrC K mg "BadNumber" "n" C_ibn f_ibn := ⟨PySem.W.mg_of X G aC_ibn, ⟨⟨_, _, _, _, _, _, _, _, _, _, _, _, _, _, _, xC_ibn, rfl⟩, sa_ibn, ec_ibn, tc_ibn, kc_ibn⟩, no_ibn, ic_ibn, ti_ibn, ⟨ga_ibn, gg_ibn, ec_ibn, hd_ibn⟩, exm_me ec_ibn is_ibn tc_ibn sc_ibn⟩
  have TC : ChT K mg C_ch := ⟨PySem.W.mg_of X G K_aK, ⟨K_pg, K_hd, K_po, K_sa⟩, K_no_endless, K_no_primes, K_sf, ⟨⟨K_pg, K_hd, K_po, K_sa⟩, K_ha, K_hn, K_htk, K_hm, if_pos (beq_self_eq_true _)⟩⟩
  have F_cinit := fun_mk (st := s_cinit) K_l_cinit K_c_cinit K_k_cinit
  have b_cinit := F_cinit.binds (ps := ["self", "endless", "primes"]) fun _ _ _ _ _ _ us hl => match us, hl with | [_, _, _], _ => rfl
  have F_ceq := fun_mk (st := s_ceq) K_l_ceq K_c_ceq K_k_ceq
  have b_ceq := F_ceq.binds (ps := ["self", "other"]) fun _ _ _ _ _ _ us hl => match us, hl with | [_, _], _ => rfl
  have M_ceq : Meth K C_ch "__eq__" f_ceq := ⟨K_at_ceq, K_fn_ceq, K_k_ceq⟩
  have F_cevery := fun_mk (st := s_cevery) K_l_cevery K_c_cevery K_k_cevery
  have b_cevery := F_cevery.binds (ps := ["cls"]) fun _ _ _ _ _ _ us hl => match us, hl with | [_], _ => rfl
  have M_cevery : ClX.CMet K C_ch (.type "type") "every" p_cevery f_cevery := ⟨K_at_cevery, ⟨_, K_rc_cevery⟩, K_fi_cevery⟩
  have F_cnone := fun_mk (st := s_cnone) K_l_cnone K_c_cnone K_k_cnone
  have b_cnone := F_cnone.binds (ps := ["cls"]) fun _ _ _ _ _ _ us hl => match us, hl with | [_], _ => rfl
  have M_cnone : ClX.CMet K C_ch (.type "type") "none" p_cnone f_cnone := ⟨K_at_cnone, ⟨_, K_rc_cnone⟩, K_fi_cnone⟩
  have CR : ClX.CRead K C_ch (.type "type") := ⟨K_rd, K_sg⟩
  have TR : RulT K mg C_ru := ⟨PySem.W.mg_of X G R_aK, ⟨R_pg, R_hd, R_po, R_sa⟩, R_no__steps, R_sf, ⟨⟨R_pg, R_hd, R_po, R_sa⟩, R_ha, R_hn, R_htk, R_hm, if_pos (beq_self_eq_true _)⟩⟩
  have F_ruinit := fun_mk (st := s_ruinit) R_l_ruinit R_c_ruinit R_k_ruinit
  have b_ruinit := F_ruinit.binds (ps := ["self", "text"]) fun _ _ _ _ _ _ us hl => match us, hl with | [_, _], _ => rfl
  have F_ruchk := fun_mk (st := s_ruchk) R_l_ruchk R_c_ruchk R_k_ruchk
  have b_ruchk := F_ruchk.binds (ps := ["self", "names"]) fun _ _ _ _ _ _ us hl => match us, hl with | [_, _], _ => rfl
  have M_ruchk : Meth K C_ru "_check_names" f_ruchk := ⟨R_at_ruchk, R_fn_ruchk, R_k_ruchk⟩
  have F_ruway := fun_mk (st := s_ruway) R_l_ruway R_c_ruway R_k_ruway
  have b_ruway := F_ruway.binds (ps := ["self", "names"]) fun _ _ _ _ _ _ us hl => match us, hl with | [_, _], _ => rfl
  have M_ruway : Meth K C_ru "_way_to" f_ruway := ⟨R_at_ruway, R_fn_ruway, R_k_ruway⟩
  have F_rufrs := fun_mk (st := s_rufrs) R_l_rufrs R_c_rufrs R_k_rufrs
  have b_rufrs := F_rufrs.binds (ps := ["self", "names", "p"]) fun _ _ _ _ _ _ us hl => match us, hl with | [_, _, _], _ => rfl
  have M_rufrs : Meth K C_ru "_fractions" f_rufrs := ⟨R_at_rufrs, R_fn_rufrs, R_k_rufrs⟩
  have F_runames := fun_mk (st := s_runames) R_l_runames R_c_runames R_k_runames
  have b_runames := F_runames.binds (ps := ["self"]) fun _ _ _ _ _ _ us hl => match us, hl with | [_], _ => rfl
  have M_runames : Meth K C_ru "names" f_runames := ⟨R_at_runames, R_fn_runames, R_k_runames⟩
  have F_ruval := fun_mk (st := s_ruval) R_l_ruval R_c_ruval R_k_ruval
  have M_ruval : Meth K C_ru "value" f_ruval := ⟨R_at_ruval, R_fn_ruval, R_k_ruval⟩
  have F_ruasf := fun_mk (st := s_ruasf) R_l_ruasf R_c_ruasf R_k_ruasf
  have b_ruasf := F_ruasf.binds (ps := ["self", "name"]) fun _ _ _ _ _ _ us hl => match us, hl with | [_, _], _ => rfl
  have M_ruasf : Meth K C_ru "as_fraction" f_ruasf := ⟨R_at_ruasf, R_fn_ruasf, R_k_ruasf⟩
  have F_ruposs := fun_mk (st := s_ruposs) R_l_ruposs R_c_ruposs R_k_ruposs
  have b_ruposs := F_ruposs.binds (ps := ["self", "name"]) fun _ _ _ _ _ _ us hl => match us, hl with | [_, _], _ => rfl
  have M_ruposs : Meth K C_ru "possible" f_ruposs := ⟨R_at_ruposs, R_fn_ruposs, R_k_ruposs⟩
  have F_common := fun_mk (st := s_common) l_common c_common k_common
  have b_common := F_common.binds (ps := ["a", "b"]) fun _ _ _ _ _ _ us hl => match us, hl with | [_, _], _ => rfl
  have F_comb := fun_mk (st := s_comb) l_comb c_comb k_comb
  have b_comb := F_comb.binds (ps := ["a", "b"]) fun _ _ _ _ _ _ us hl => match us, hl with | [_, _], _ => rfl
  have F_least := fun_mk (st := s_least) l_least c_least k_least
  have b_least := F_least.binds (ps := ["n"]) fun _ _ _ _ _ _ us hl => match us, hl with | [_], _ => rfl
  have F_prime := fun_mk (st := s_prime) l_prime c_prime k_prime
  have b_prime := F_prime.binds (ps := ["n"]) fun _ _ _ _ _ _ us hl => match us, hl with | [_], _ => rfl
  have F_chkp := fun_mk (st := s_chkp) l_chkp c_chkp k_chkp
  have b_chkp := F_chkp.binds (ps := ["p"]) fun _ _ _ _ _ _ us hl => match us, hl with | [_], _ => rfl
  have F_rem0 := fun_mk (st := s_rem0) l_rem0 c_rem0 k_rem0
  have b_rem0 := F_rem0.binds (ps := ["n", "p"]) fun _ _ _ _ _ _ us hl => match us, hl with | [_, _], _ => rfl
  have F_recipG := fun_mk (st := s_recipG) l_recipG c_recipG k_recipG
  have b_recipG := F_recipG.binds (ps := ["n", "p"]) fun _ _ _ _ _ _ us hl => match us, hl with | [_, _], _ => rfl
  have F_isname := fun_mk (st := s_isname) l_isname c_isname k_isname
  have b_isname := F_isname.binds (ps := ["word"]) fun _ _ _ _ _ _ us hl => match us, hl with | [_], _ => rfl
  have F_isstep := fun_mk (st := s_isstep) l_isstep c_isstep k_isstep
  have b_isstep := F_isstep.binds (ps := ["words", "steps"]) fun _ _ _ _ _ _ us hl => match us, hl with | [_, _], _ => rfl
  have F_frac := fun_mk (st := s_frac) l_frac c_frac k_frac
  have b_frac := F_frac.binds (ps := ["upper", "lower", "p"]) fun _ _ _ _ _ _ us hl => match us, hl with | [_, _, _], _ => rfl
  have F_blt := fun_mk (st := s_blt) l_blt c_blt k_blt
  have b_blt := F_blt.binds (ps := ["word", "fractions", "p"]) fun _ _ _ _ _ _ us hl => match us, hl with | [_, _, _], _ => rfl
  have F_divs := fun_mk (st := s_divs) l_divs c_divs k_divs
  have b_divs := F_divs.binds (ps := ["n"]) fun _ _ _ _ _ _ us hl => match us, hl with | [_], _ => rfl
  have F_apart := fun_mk (st := s_apart) l_apart c_apart k_apart
  have b_apart := F_apart.binds (ps := ["n", "other"]) fun _ _ _ _ _ _ us hl => match us, hl with | [_, _], _ => rfl
  have F_wun := fun_mk (st := s_wun) l_wun c_wun k_wun
  have b_wun := F_wun.binds (ps := ["numbers"]) fun _ _ _ _ _ _ us hl => match us, hl with | [_], _ => rfl
  have F_numb86 := fun_mk (st := s_numb86) l_numb86 c_numb86 k_numb86
  have b_numb86 := F_numb86.binds (ps := ["rows", "rest"]) fun _ _ _ _ _ _ us hl => match us, hl with | [_, _], _ => rfl
  have F_built86 := fun_mk (st := s_built86) l_built86 c_built86 k_built86
  have b_built86 := F_built86.binds (ps := ["n"]) fun _ _ _ _ _ _ us hl => match us, hl with | [_], _ => rfl
  have F_cell := fun_mk (st := s_cell) l_cell c_cell k_cell
  have b_cell := F_cell.binds (ps := ["_law_script", "_law_k"]) fun _ _ _ _ _ _ us hl => match us, hl with | [_, _], _ => rfl
  have F_draws := fun_mk (st := s_draws) l_draws c_draws k_draws
  have b_draws := F_draws.binds (ps := ["_law_cell_here", "_law_sizes"]) fun _ _ _ _ _ _ us hl => match us, hl with | [_, _], _ => rfl
  have F_lisint := fun_mk (st := s_lisint) l_lisint c_lisint k_lisint
  have b_lisint := F_lisint.binds (ps := ["_law_actual"]) fun _ _ _ _ _ _ us hl => match us, hl with | [_], _ => rfl
  have F_lflt86 := fun_mk (st := s_lflt86) l_lflt86 c_lflt86 k_lflt86
  have b_lflt86 := F_lflt86.binds (ps := ["_law_lines"]) fun _ _ _ _ _ _ us hl => match us, hl with | [_], _ => rfl
  have F_ltld86 := fun_mk (st := s_ltld86) l_ltld86 c_ltld86 k_ltld86
  have b_ltld86 := F_ltld86.binds (ps := ["_law_lines"]) fun _ _ _ _ _ _ us hl => match us, hl with | [_], _ => rfl
  have F_lchg86 := fun_mk (st := s_lchg86) l_lchg86 c_lchg86 k_lchg86
  have b_lchg86 := F_lchg86.binds (ps := ["_law_lines", "_law_drawn"]) fun _ _ _ _ _ _ us hl => match us, hl with | [_, _], _ => rfl
  have F_lbld86 := fun_mk (st := s_lbld86) l_lbld86 c_lbld86 k_lbld86
  have b_lbld86 := F_lbld86.binds (ps := ["_law_n"]) fun _ _ _ _ _ _ us hl => match us, hl with | [_], _ => rfl
  have F_law := fun_mk (st := s_law) l_law c_law k_law
  have m_isqrt := PySem.W.mg_of X G g_isqrt
  have m_gcd := PySem.W.mg_of X G g_gcd
  have m_MOST_LETTERS := PySem.W.mg_of X G g_MOST_LETTERS
  have m__LETTERS := PySem.W.mg_of X G g__LETTERS
  refine ⟨PySem.W.fnOf "law" "law" (defArgs s_law) (defBody s_law) (defScope s_law) .none kV_law dc_law pm_law an_law cd_law ct_law, fun s v => .of_eq rfl, fun base _ _ => ?_⟩
  have x_ibc : Er P w K mg base "BadCharacteristic" "p" C_ibc := ⟨_, _, _, E_ibc, ok_ibc TF E_ibc.oex E_ibc.no F_ibc, b_ibc⟩
  have x_ibs : ErP P w K mg base "BadStep" "at" C_ibs okNat := ⟨_, _, _, E_ibs, ok_ibs TF E_ibs.oex E_ibs.no F_ibs, b_ibs⟩
  have x_iun : ErP P w K mg base "UnknownName" "name" C_iun okS := ⟨_, _, _, E_iun, ok_iun TF E_iun.oex E_iun.no F_iun, b_iun⟩
  have x_ibn : Er P w K mg base "BadNumber" "n" C_ibn := ⟨_, _, _, E_ibn, ok_ibn TF E_ibn.oex E_ibn.no F_ibn, b_ibn⟩
  have d_common : Cl P w K mg base CX0 1 "common" spCommon := ⟨_, _, _, ok_common m_gcd F_common, PySem.W.mg_of X G a_common, k_common, b_common⟩
  have d_comb : Cl P w K mg base CX0 1 "combination" spComb := ⟨_, _, _, ok_comb F_comb, PySem.W.mg_of X G a_comb, k_comb, b_comb⟩
  have d_least : Cl P w K mg base CX0 1 "_least_divisor" spLeast := ⟨_, _, _, ok_least T m_isqrt F_least, PySem.W.mg_of X G a_least, k_least, b_least⟩
  have d_prime : Cl P w K mg base CX0 2 "is_prime" spPrime := ⟨_, _, _, ok_prime F_prime d_least, PySem.W.mg_of X G a_prime, k_prime, b_prime⟩
  have d_chkp : Cl P w K mg base (L2N.CX P w) 3 "checked_prime" (spChkp C_ibc) := ⟨_, _, _, ok_chkp F_chkp d_prime x_ibc, PySem.W.mg_of X G a_chkp, k_chkp, b_chkp⟩
  have d_rem0 : Cl P w K mg base CX0 1 "remainder" spRemI := ⟨_, _, _, ok_remI F_rem0, PySem.W.mg_of X G a_rem0, k_rem0, b_rem0⟩
  have d_recipG : Cl P w K mg base CX0 2 "reciprocal" spRecipG := ⟨_, _, _, ok_recipG F_recipG d_comb, PySem.W.mg_of X G a_recipG, k_recipG, b_recipG⟩
  have d_isname : Cl P w K mg base CX0 1 "is_name" spIsName := ⟨_, _, _, ok_isname T m_MOST_LETTERS F_isname, PySem.W.mg_of X G a_isname, k_isname, b_isname⟩
  have d_frac : Cl P w K mg base CX0 3 "_fraction" (spFrac K) := ⟨_, _, _, ok_frac F_frac d_rem0 d_recipG d_common, PySem.W.mg_of X G a_frac, k_frac, b_frac⟩
  have d_blt : Cl P w K mg base CX0 4 "_built_of" (spBlt K) := ⟨_, _, _, ok_blt F_blt d_frac, PySem.W.mg_of X G a_blt, k_blt, b_blt⟩
  have d_divs : Cl P w K mg base (L2N.CX P w) 3 "prime_divisors" (spDivs C_ibn) := ⟨_, _, _, ok_divs T F_divs d_least x_ibn, PySem.W.mg_of X G a_divs, k_divs, b_divs⟩
  have d_apart : Cl P w K mg base CX0 2 "apart" spApart := ⟨_, _, _, ok_apart T F_apart d_common, PySem.W.mg_of X G a_apart, k_apart, b_apart⟩
  have d_cell : Cl P w K mg base CX0 1 "_law_cell" (spCellL K) := ⟨_, _, _, ok_cell T F_cell, PySem.W.mg_of X G a_cell, k_cell, b_cell⟩
  have d_draws : Cl P w K mg base CX0 1 "_law_draws" (spDraws K) := ⟨_, _, _, ok_draws T F_draws, PySem.W.mg_of X G a_draws, k_draws, b_draws⟩
  have d_lflt86 : Cl P w K mg base CX0 1 "_law_fault" (spLflt K) := ⟨_, _, _, ok_lflt86 T n_all F_lflt86, PySem.W.mg_of X G a_lflt86, k_lflt86, b_lflt86⟩
  have d_lchg86 : Cl P w K mg base CX0 1 "_law_changed" (spLchg K) := ⟨_, _, _, ok_lchg86 T F_lchg86, PySem.W.mg_of X G a_lchg86, k_lchg86, b_lchg86⟩
  have mWT := PySem.W.mg_of X G gWT
  have WWT : WDict K w DT tksV := wd_mk lkWT loWT dkWT (wd_cons ⟨_, vWT0, ⟨_, rfl⟩⟩ (wd_cons ⟨_, vWT1, ⟨_, rfl⟩⟩ (wd_cons ⟨_, vWT2, ⟨_, rfl⟩⟩ (wd_cons ⟨_, vWT3, ⟨_, rfl⟩⟩ wd_nil)))) (show ([("sum" : Str), ("product" : Str), ("quotient" : Str), ("opposite" : Str)] : List Str).Nodup by decide)
  have mWG := PySem.W.mg_of X G gWG
  have WWG : WDict K w DG (gvnV ZA OA) := wd_mk lkWG loWG dkWG (wd_cons ⟨_, vWG0, rfl⟩ (wd_cons ⟨_, vWG1, rfl⟩ wd_nil)) (show ([("zero" : Str), ("one" : Str)] : List Str).Nodup by decide)
  have kTZ : ∀ H, SqT K H ZA [.int 0, .int 1] := sqT_k2 lkTZ
  have kTO : ∀ H, SqT K H OA [.int 1, .int 1] := sqT_k2 lkTO
  have c_cit : Ma P w K mg base 3 C_ch (spCI C_ch C_ibc true K) := ⟨_, _, _, ⟨K_mk, K_at_cinit, K_fn_cinit, K_kp⟩, ok_cinit true T TC F_cinit d_prime x_ibc, b_cinit⟩
  have c_cil : Ma P w K mg base 3 C_ch (spCI C_ch C_ibc false K) := ⟨_, _, _, ⟨K_mk, K_at_cinit, K_fn_cinit, K_kp⟩, ok_cinit false T TC F_cinit d_prime x_ibc, b_cinit⟩
  have m_eq : Me P w K mg base 1 C_ch "__eq__" (spCeq C_ch) := ⟨_, _, _, M_ceq, ok_ceq T TC F_ceq, b_ceq⟩
  have m_every : Cm P w K mg base 5 C_ch "every" (spCevery C_ch true) := ⟨_, _, _, _, _, CR, M_cevery, ok_cevery TC F_cevery c_cit, b_cevery⟩
  have m_none : Cm P w K mg base 5 C_ch "none" (spCevery C_ch false) := ⟨_, _, _, _, _, CR, M_cnone, ok_cnone TC F_cnone c_cit, b_cnone⟩
  have d_isstep : Cl P w K mg base CX0 2 "_is_step" (spIsStep K) := ⟨_, _, _, ok_isstep T n_all WWT mWT WWG mWG F_isstep d_isname, PySem.W.mg_of X G a_isstep, k_isstep, b_isstep⟩
  have c_ru : Ma P w K mg base 3 C_ru (spRulI C_ru C_ibs) := ⟨_, _, _, ⟨R_mk, R_at_ruinit, R_fn_ruinit, R_kp⟩, ok_ruinit T n_enumerate TR F_ruinit d_isstep x_ibs, b_ruinit⟩
  have m_ruchk : MeN P w K mg base 3 C_ru "_check_names" (spRuChk C_ru C_iun K) := ⟨_, _, _, M_ruchk, ok_ruchk TR WWG mWG F_ruchk x_iun, b_ruchk⟩
  have m_ruway : Me P w K mg base 1 C_ru "_way_to" (spWay C_ru K) := ⟨_, _, _, M_ruway, ok_ruway T n_reversed TR F_ruway, b_ruway⟩
  have m_rufrs : Me P w K mg base 5 C_ru "_fractions" (spFrs C_ru K) := ⟨_, _, _, M_rufrs, ok_rufrs T n_dict TR WWG mWG kTZ kTO F_rufrs m_ruway d_blt, b_rufrs⟩
  have m_ruval : MeKw P w K mg base (L2N.CX P w) 6 C_ru "value" 1 ["p"] (spRuVal C_ru C_ibc C_iun) := ⟨_, _, _, M_ruval, ok_ruval TR F_ruval d_chkp m_ruchk m_rufrs, kbn_of fun s us ws l1 l2 => match us, ws, l1, l2 with | [_, _], [_], _, _ => .of_eq rfl⟩
  have d_wun : Cl P w K mg base CX0 6 "where_units" (spWun C_ch K) := ⟨_, _, _, ok_wun T TC F_wun c_cil m_none d_divs d_apart, PySem.W.mg_of X G a_wun, k_wun, b_wun⟩
  have m_runames : Me P w K mg base 1 C_ru "names" (spRuNames C_ru) := ⟨_, _, _, M_runames, ok_runames T TR F_runames, b_runames⟩
  have m_ruasf : MeN P w K mg base 6 C_ru "as_fraction" (spAsF C_ru C_iun K) := ⟨_, _, _, M_ruasf, ok_ruasf TR F_ruasf m_ruchk m_rufrs, b_ruasf⟩
  have m_ruposs : MeN P w K mg base 7 C_ru "possible" (spPossP C_ru C_ch C_iun K) := ⟨_, _, _, M_ruposs, ok_possP T TR TC F_ruposs m_ruchk m_ruway m_rufrs m_none d_wun, b_ruposs⟩
  have d_numb86 : Cl P w K mg base CX0 1 "_numbered" (spNumb K) := ⟨_, _, _, ok_numb86 T n_divmod m__LETTERS F_numb86, PySem.W.mg_of X G a_numb86, k_numb86, b_numb86⟩
  have d_built86 : Cl P w K mg base CX0 2 "built" spBuilt := ⟨_, _, _, ok_built86 T F_built86 d_numb86, PySem.W.mg_of X G a_built86, k_built86, b_built86⟩
  have d_lbld86 : Cl P w K mg base CX0 9 "_law_builds" spLbld := ⟨_, _, _, ok_lbld86 T TR TC F_lbld86 d_built86 c_ru m_runames m_ruasf m_ruposs m_ruval m_every m_eq, PySem.W.mg_of X G a_lbld86, k_lbld86, b_lbld86⟩
  have d_lisE : ClP P w K mg base 1 "_law_is_integer" spIsIntE := ⟨_, _, _, ok_lisintE T F_lisint, PySem.W.mg_of X G a_lisint, k_lisint, b_lisint⟩
  have d_ltld86 : Cl P w K mg base CX0 7 "_law_told" (spLtld K) := ⟨_, _, _, ok_ltld86 T TR E_ibs F_ltld86 c_ru m_runames d_lisE, PySem.W.mg_of X G a_ltld86, k_ltld86, b_ltld86⟩
  exact ok_law T F_law d_cell d_draws d_lbld86 d_ltld86 d_lflt86 d_lchg86
theorem walk {l : PySem.W.OpenLaw} {q : Program} {loose : List Str} {XP : (Str → Option Value) → Heap → Prop} {YP : World → Heap → Prop} {d : DefRec} {K : Params → PySem.W.Frag} (hn : l.most = some 63) (hdf : d.params.defaults = [])
    (hY : ∀ (w : World) (h : Heap), YP w h → (K w.params).In h)
    (F : ∀ (w : World) (mg : Str → Option Value) (fa : Addr) (h : Heap), (K w.params).In h → h.Ns mainGlobals mg → mg d.name = some (.ref fa) →
      ∃ fd : FuncData, (∀ (s : Shared) (u : Value), BindsTo s fd ⟨[u], []⟩ [("_law_script", u)]) ∧ ∀ base : Heap, (K w.params).In base → base.Ns mainGlobals mg → FnOk l.prog w (K w.params) mg base CX0 10 fa fd ["_law_script"] (spLaw (K w.params))) :
    PySem.W.WalkO q loose XP YP l.row.toRowW d [] (fun f vs => PySem.call f vs) :=
  L2.walk_of (n := 63) (k := 10) (x := "_law_script") (CX := fun _ => CX0) (sp := fun w => spLaw (K w.params)) hn (by decide) hdf ⟨rfl, by decide, by decide⟩ hY F (fun _ _ a ns hl _ hS => ⟨a, ns, rfl, hS, hl, fun _ => rfl⟩) fun _ _ _ _ _ z => z
end My
open PySem PySem.W PyProof.Rows
set_option maxRecDepth 100000 in
set_option maxHeartbeats 0 in
theorem PySem.Challenge.cw_everyfield_k86_texts_of_the_ruler_holds : PySem.Challenge.rw_everyfield_k86_texts_of_the_ruler.Holds := by
  w_on; o_law; k_head; (case hw => w_witness2)
  k_fill
  refine My.walk (l := PySem.Challenge.rw_everyfield_k86_texts_of_the_ruler) rfl rfl (fun w h Y => PySem.W.kIn_of Y) ?F
  case F =>
    intro w mg fa h KX G hmg
    refine' My.all_mk KX G hmg ?a_common ?l_common ?c_common ?k_common ?a_comb ?l_comb ?c_comb ?k_comb ?a_least ?l_least ?c_least ?k_least ?a_prime ?l_prime ?c_prime ?k_prime ?a_chkp ?l_chkp ?c_chkp ?k_chkp ?a_rem0 ?l_rem0 ?c_rem0 ?k_rem0 ?a_recipG ?l_recipG ?c_recipG ?k_recipG ?a_isname ?l_isname ?c_isname ?k_isname ?a_isstep ?l_isstep ?c_isstep ?k_isstep ?a_frac ?l_frac ?c_frac ?k_frac ?a_blt ?l_blt ?c_blt ?k_blt ?a_divs ?l_divs ?c_divs ?k_divs ?a_apart ?l_apart ?c_apart ?k_apart ?a_wun ?l_wun ?c_wun ?k_wun ?a_numb86 ?l_numb86 ?c_numb86 ?k_numb86 ?a_built86 ?l_built86 ?c_built86 ?k_built86 ?a_cell ?l_cell ?c_cell ?k_cell ?a_draws ?l_draws ?c_draws ?k_draws ?a_lisint ?l_lisint ?c_lisint ?k_lisint ?a_lflt86 ?l_lflt86 ?c_lflt86 ?k_lflt86 ?a_ltld86 ?l_ltld86 ?c_ltld86 ?k_ltld86 ?a_lchg86 ?l_lchg86 ?c_lchg86 ?k_lchg86 ?a_lbld86 ?l_lbld86 ?c_lbld86 ?k_lbld86 ?a_law ?l_law ?c_law ?k_law ?aF ?rF ?gF ?iF ?aC_ibc ?xC_ibc ?sa_ibc ?ga_ibc ?gg_ibc ?no_ibc ?ic_ibc ?ti_ibc ?kc_ibc ?ec_ibc ?tc_ibc ?hd_ibc ?is_ibc ?sc_ibc ?l_ibc ?c_ibc ?k_ibc ?aC_ibs ?xC_ibs ?sa_ibs ?ga_ibs ?gg_ibs ?no_ibs ?ic_ibs ?ti_ibs ?kc_ibs ?ec_ibs ?tc_ibs ?hd_ibs ?is_ibs ?sc_ibs ?l_ibs ?c_ibs ?k_ibs ?aC_iun ?xC_iun ?sa_iun ?ga_iun ?gg_iun ?no_iun ?ic_iun ?ti_iun ?kc_iun ?ec_iun ?tc_iun ?hd_iun ?is_iun ?sc_iun ?l_iun ?c_iun ?k_iun ?aC_ibn ?xC_ibn ?sa_ibn ?ga_ibn ?gg_ibn ?no_ibn ?ic_ibn ?ti_ibn ?kc_ibn ?ec_ibn ?tc_ibn ?hd_ibn ?is_ibn ?sc_ibn ?l_ibn ?c_ibn ?k_ibn ?K_aK ?K_pg ?K_hd ?K_po ?K_sa ?K_sf ?K_ha ?K_hn ?K_htk ?K_hm ?K_mk ?K_kp ?K_no_endless ?K_no_primes ?K_rd ?K_sg ?K_at_cinit ?K_fn_cinit ?K_l_cinit ?K_c_cinit ?K_k_cinit ?K_at_ceq ?K_fn_ceq ?K_l_ceq ?K_c_ceq ?K_k_ceq ?K_at_cevery ?K_rc_cevery ?K_fi_cevery ?K_l_cevery ?K_c_cevery ?K_k_cevery ?K_at_cnone ?K_rc_cnone ?K_fi_cnone ?K_l_cnone ?K_c_cnone ?K_k_cnone ?R_aK ?R_pg ?R_hd ?R_po ?R_sa ?R_sf ?R_ha ?R_hn ?R_htk ?R_hm ?R_mk ?R_kp ?R_no__steps ?R_at_ruinit ?R_fn_ruinit ?R_l_ruinit ?R_c_ruinit ?R_k_ruinit ?R_at_ruchk ?R_fn_ruchk ?R_l_ruchk ?R_c_ruchk ?R_k_ruchk ?R_at_ruway ?R_fn_ruway ?R_l_ruway ?R_c_ruway ?R_k_ruway ?R_at_rufrs ?R_fn_rufrs ?R_l_rufrs ?R_c_rufrs ?R_k_rufrs ?R_at_runames ?R_fn_runames ?R_l_runames ?R_c_runames ?R_k_runames ?R_at_ruval ?R_fn_ruval ?R_l_ruval ?R_c_ruval ?R_k_ruval ?R_at_ruasf ?R_fn_ruasf ?R_l_ruasf ?R_c_ruasf ?R_k_ruasf ?R_at_ruposs ?R_fn_ruposs ?R_l_ruposs ?R_c_ruposs ?R_k_ruposs ?gWT ?lkWT ?dkWT ?loWT ?vWT0 ?vWT1 ?vWT2 ?vWT3 ?gWG ?lkWG ?dkWG ?loWG ?vWG0 ?vWG1 ?lkTZ ?lkTO ?z_int ?z_len ?z_abs ?z_isinstance ?z_bool ?z_tuple ?z_list ?z_str ?z_range ?z_max ?z_min ?z_sorted ?z_set ?z_enumerate ?z_reversed ?z_all ?z_dict ?z_divmod ?g_isqrt ?g_gcd ?g_MOST_LETTERS ?g__LETTERS
    (case a_common => k_is)
    (case l_common => k_is)
    (case c_common => k_is)
    (case k_common => k_is)
    (case a_comb => k_is)
    (case l_comb => k_is)
    (case c_comb => k_is)
    (case k_comb => k_is)
    (case a_least => k_is)
    (case l_least => k_is)
    (case c_least => k_is)
    (case k_least => k_is)
    (case a_prime => k_is)
    (case l_prime => k_is)
    (case c_prime => k_is)
    (case k_prime => k_is)
    (case a_chkp => k_is)
    (case l_chkp => k_is)
    (case c_chkp => k_is)
    (case k_chkp => k_is)
    (case a_rem0 => k_is)
    (case l_rem0 => k_is)
    (case c_rem0 => k_is)
    (case k_rem0 => k_is)
    (case a_recipG => k_is)
    (case l_recipG => k_is)
    (case c_recipG => k_is)
    (case k_recipG => k_is)
    (case a_isname => k_is)
    (case l_isname => k_is)
    (case c_isname => k_is)
    (case k_isname => k_is)
    (case a_isstep => k_is)
    (case l_isstep => k_is)
    (case c_isstep => k_is)
    (case k_isstep => k_is)
    (case a_frac => k_is)
    (case l_frac => k_is)
    (case c_frac => k_is)
    (case k_frac => k_is)
    (case a_blt => k_is)
    (case l_blt => k_is)
    (case c_blt => k_is)
    (case k_blt => k_is)
    (case a_divs => k_is)
    (case l_divs => k_is)
    (case c_divs => k_is)
    (case k_divs => k_is)
    (case a_apart => k_is)
    (case l_apart => k_is)
    (case c_apart => k_is)
    (case k_apart => k_is)
    (case a_wun => k_is)
    (case l_wun => k_is)
    (case c_wun => k_is)
    (case k_wun => k_is)
    (case a_numb86 => k_is)
    (case l_numb86 => k_is)
    (case c_numb86 => k_is)
    (case k_numb86 => k_is)
    (case a_built86 => k_is)
    (case l_built86 => k_is)
    (case c_built86 => k_is)
    (case k_built86 => k_is)
    (case a_cell => k_is)
    (case l_cell => k_is)
    (case c_cell => k_is)
    (case k_cell => k_is)
    (case a_draws => k_is)
    (case l_draws => k_is)
    (case c_draws => k_is)
    (case k_draws => k_is)
    (case a_lisint => k_is)
    (case l_lisint => k_is)
    (case c_lisint => k_is)
    (case k_lisint => k_is)
    (case a_lflt86 => k_is)
    (case l_lflt86 => k_is)
    (case c_lflt86 => k_is)
    (case k_lflt86 => k_is)
    (case a_ltld86 => k_is)
    (case l_ltld86 => k_is)
    (case c_ltld86 => k_is)
    (case k_ltld86 => k_is)
    (case a_lchg86 => k_is)
    (case l_lchg86 => k_is)
    (case c_lchg86 => k_is)
    (case k_lchg86 => k_is)
    (case a_lbld86 => k_is)
    (case l_lbld86 => k_is)
    (case c_lbld86 => k_is)
    (case k_lbld86 => k_is)
    (case a_law => k_is)
    (case l_law => k_is)
    (case c_law => k_is)
    (case k_law => k_is)
    (case aF => k_is)
    (case rF => k_is)
    (case gF => k_is)
    (case iF => k_is)
    (case aC_ibc => k_is)
    (case xC_ibc => k_is)
    (case sa_ibc => k_is)
    (case ga_ibc => k_is)
    (case gg_ibc => k_is)
    (case no_ibc => k_is)
    (case ic_ibc => k_is)
    (case ti_ibc => k_is)
    (case kc_ibc => k_is)
    (case ec_ibc => k_is)
    (case tc_ibc => k_is)
    (case hd_ibc => k_is)
    (case is_ibc => k_is)
    (case sc_ibc => k_is)
    (case l_ibc => k_is)
    (case c_ibc => k_is)
    (case k_ibc => k_is)
    (case aC_ibs => k_is)
    (case xC_ibs => k_is)
    (case sa_ibs => k_is)
    (case ga_ibs => k_is)
    (case gg_ibs => k_is)
    (case no_ibs => k_is)
    (case ic_ibs => k_is)
    (case ti_ibs => k_is)
    (case kc_ibs => k_is)
    (case ec_ibs => k_is)
    (case tc_ibs => k_is)
    (case hd_ibs => k_is)
    (case is_ibs => k_is)
    (case sc_ibs => k_is)
    (case l_ibs => k_is)
    (case c_ibs => k_is)
    (case k_ibs => k_is)
    (case aC_iun => k_is)
    (case xC_iun => k_is)
    (case sa_iun => k_is)
    (case ga_iun => k_is)
    (case gg_iun => k_is)
    (case no_iun => k_is)
    (case ic_iun => k_is)
    (case ti_iun => k_is)
    (case kc_iun => k_is)
    (case ec_iun => k_is)
    (case tc_iun => k_is)
    (case hd_iun => k_is)
    (case is_iun => k_is)
    (case sc_iun => k_is)
    (case l_iun => k_is)
    (case c_iun => k_is)
    (case k_iun => k_is)
    (case aC_ibn => k_is)
    (case xC_ibn => k_is)
    (case sa_ibn => k_is)
    (case ga_ibn => k_is)
    (case gg_ibn => k_is)
    (case no_ibn => k_is)
    (case ic_ibn => k_is)
    (case ti_ibn => k_is)
    (case kc_ibn => k_is)
    (case ec_ibn => k_is)
    (case tc_ibn => k_is)
    (case hd_ibn => k_is)
    (case is_ibn => k_is)
    (case sc_ibn => k_is)
    (case l_ibn => k_is)
    (case c_ibn => k_is)
    (case k_ibn => k_is)
    (case K_aK => k_is)
    (case K_pg => k_is)
    (case K_hd => k_is)
    (case K_po => k_is)
    (case K_sa => k_is)
    (case K_sf => k_is)
    (case K_ha => k_is)
    (case K_hn => k_is)
    (case K_htk => k_is)
    (case K_hm => k_is)
    (case K_mk => k_is)
    (case K_kp => k_is)
    (case K_no_endless => k_is)
    (case K_no_primes => k_is)
    (case K_rd => k_is)
    (case K_sg => k_is)
    (case K_at_cinit => k_is)
    (case K_fn_cinit => k_is)
    (case K_l_cinit => k_is)
    (case K_c_cinit => k_is)
    (case K_k_cinit => k_is)
    (case K_at_ceq => k_is)
    (case K_fn_ceq => k_is)
    (case K_l_ceq => k_is)
    (case K_c_ceq => k_is)
    (case K_k_ceq => k_is)
    (case K_at_cevery => k_is)
    (case K_rc_cevery => k_is)
    (case K_fi_cevery => k_is)
    (case K_l_cevery => k_is)
    (case K_c_cevery => k_is)
    (case K_k_cevery => k_is)
    (case K_at_cnone => k_is)
    (case K_rc_cnone => k_is)
    (case K_fi_cnone => k_is)
    (case K_l_cnone => k_is)
    (case K_c_cnone => k_is)
    (case K_k_cnone => k_is)
    (case R_aK => k_is)
    (case R_pg => k_is)
    (case R_hd => k_is)
    (case R_po => k_is)
    (case R_sa => k_is)
    (case R_sf => k_is)
    (case R_ha => k_is)
    (case R_hn => k_is)
    (case R_htk => k_is)
    (case R_hm => k_is)
    (case R_mk => k_is)
    (case R_kp => k_is)
    (case R_no__steps => k_is)
    (case R_at_ruinit => k_is)
    (case R_fn_ruinit => k_is)
    (case R_l_ruinit => k_is)
    (case R_c_ruinit => k_is)
    (case R_k_ruinit => k_is)
    (case R_at_ruchk => k_is)
    (case R_fn_ruchk => k_is)
    (case R_l_ruchk => k_is)
    (case R_c_ruchk => k_is)
    (case R_k_ruchk => k_is)
    (case R_at_ruway => k_is)
    (case R_fn_ruway => k_is)
    (case R_l_ruway => k_is)
    (case R_c_ruway => k_is)
    (case R_k_ruway => k_is)
    (case R_at_rufrs => k_is)
    (case R_fn_rufrs => k_is)
    (case R_l_rufrs => k_is)
    (case R_c_rufrs => k_is)
    (case R_k_rufrs => k_is)
    (case R_at_runames => k_is)
    (case R_fn_runames => k_is)
    (case R_l_runames => k_is)
    (case R_c_runames => k_is)
    (case R_k_runames => k_is)
    (case R_at_ruval => k_is)
    (case R_fn_ruval => k_is)
    (case R_l_ruval => k_is)
    (case R_c_ruval => k_is)
    (case R_k_ruval => k_is)
    (case R_at_ruasf => k_is)
    (case R_fn_ruasf => k_is)
    (case R_l_ruasf => k_is)
    (case R_c_ruasf => k_is)
    (case R_k_ruasf => k_is)
    (case R_at_ruposs => k_is)
    (case R_fn_ruposs => k_is)
    (case R_l_ruposs => k_is)
    (case R_c_ruposs => k_is)
    (case R_k_ruposs => k_is)
    (case gWT => k_is)
    (case lkWT => k_is)
    (case dkWT => rfl)
    (case loWT => rfl)
    (case vWT0 => k_is)
    (case vWT1 => k_is)
    (case vWT2 => k_is)
    (case vWT3 => k_is)
    (case gWG => k_is)
    (case lkWG => k_is)
    (case dkWG => rfl)
    (case loWG => rfl)
    (case vWG0 => k_is)
    (case vWG1 => k_is)
    (case lkTZ => k_is)
    (case lkTO => k_is)
    (case z_int => k_is)
    (case z_len => k_is)
    (case z_abs => k_is)
    (case z_isinstance => k_is)
    (case z_bool => k_is)
    (case z_tuple => k_is)
    (case z_list => k_is)
    (case z_str => k_is)
    (case z_range => k_is)
    (case z_max => k_is)
    (case z_min => k_is)
    (case z_sorted => k_is)
    (case z_set => k_is)
    (case z_enumerate => k_is)
    (case z_reversed => k_is)
    (case z_all => k_is)
    (case z_dict => k_is)
    (case z_divmod => k_is)
    (case g_isqrt => k_is)
    (case g_gcd => k_is)
    (case g_MOST_LETTERS => k_is)
    (case g__LETTERS => k_is)
