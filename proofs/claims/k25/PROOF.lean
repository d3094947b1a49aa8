import PyProof.Rows.All
import Wide.All
import OpenK.AllK
import Wide.FinOn
import PyProof.NoPylong
import Flt.Len
import HandS.ForMost
import HandS.ForExc
import HandS.Wide
import HandS.Gcd
import HandS.IsInst
import HandS.Evl
import HandS.Flow
import HandS.Iter
import HandS.ExcInit
import HandS.ExcField
import HandS.ExcCtx
import HandS.HotCalls
import HandS.ExcInitHot
import HandS.TupLe
import HandS.TupAny
import HandS.Conv
import HandS.Strs
import HandS.SetFor
import HandS.Zip
import HandS.Star
import HandS.ClsMeth
import HandS.Codes
import HandS.SlotsOwn
import HandS.Walk
import HandS.StrMore
import HandS.FStr
import HandS.Style
import HandS.TryMany
import HandS.ExcIs
import Flt.RightSqrt
import PySem.Challenge.RW_everyfield_k25_sets_written_and_read
set_option Elab.async false
set_option linter.all false
set_option maxRecDepth 100000
set_option maxHeartbeats 4000000
set_option exponentiation.threshold 20000
namespace My
open PySem PySem.Spec PyProof.Rows L2
def top (i : Nat) : Stmt := PySem.Challenge.pw_everyfield_k25_sets_written_and_read.main.body.getD i (.Pass ⟨0, 0, 0, 0⟩)
def Pr (n : Int) : Prop := 2 ≤ n ∧ ∀ m : Int, 2 ≤ m → m < n → ¬ m ∣ n
noncomputable def prB (n : Int) : Bool := @decide (Pr n) (Classical.propDecidable _)
theorem prB_true {n : Int} (h : Pr n) : prB n = true := by unfold prB; exact @decide_eq_true _ (Classical.propDecidable _) h
theorem prB_false {n : Int} (h : ¬ Pr n) : prB n = false := by unfold prB; exact @decide_eq_false _ (Classical.propDecidable _) h
theorem prB_iff {n : Int} : prB n = true ↔ Pr n := by unfold prB; exact @decide_eq_true_iff _ (Classical.propDecidable _)
/-- r is the least divisor of n from 2 on -/
structure Least (n r : Int) : Prop where
  two : 2 ≤ r
  dvd : r ∣ n
  min : ∀ m : Int, 2 ≤ m → m < r → ¬ m ∣ n
theorem Least.le {n r : Int} (h : Least n r) (hn : 2 ≤ n) : r ≤ n := Int.le_of_dvd (by omega) h.dvd
theorem Least.pr {n r : Int} (h : Least n r) : Pr r := ⟨h.two, fun m h1 h2 h3 => h.min m h1 h2 (Int.dvd_trans h3 h.dvd)⟩
theorem Least.uniq {n r r' : Int} (h : Least n r) (h' : Least n r') : r = r' := by
  rcases Int.lt_trichotomy r r' with c | c | c
  · exact absurd h.dvd (h'.min r h.two c)
  · exact c
  · exact absurd h'.dvd (h.min r' h'.two c)
theorem Least.self {n r : Int} (h : Least n r) (hn : 2 ≤ n) : r = n ↔ Pr n := by
  constructor
  · intro e
    rw [e] at h
    exact h.pr
  · intro p
    have := h.le hn
    by_cases c : r = n
    · exact c
    · exact absurd h.dvd (p.2 r h.two (by omega))
/-- a proper divisor: one at most the root -/
theorem small_div {n m s : Int} (hn : 2 ≤ n) (h2 : 2 ≤ m) (hm : m < n) (hd : m ∣ n) (hs0 : 0 ≤ s) (hs : n < (s + 1) * (s + 1)) : ∃ d : Int, 2 ≤ d ∧ d ≤ s ∧ d ≤ m ∧ d ∣ n := by
  obtain ⟨k, e⟩ := hd
  have hk : 2 ≤ k := by
    rcases Int.lt_trichotomy k 1 with c | c | c
    · have : m * k ≤ m * 0 := Int.mul_le_mul_of_nonneg_left (by omega) (by omega)
      omega
    · subst c
      omega
    · omega
  by_cases c : m ≤ s
  · exact ⟨m, h2, c, Int.le_refl _, ⟨k, e⟩⟩
  · refine ⟨k, hk, ?_, ?_, ⟨m, by rw [e, Int.mul_comm]⟩⟩
    · by_cases c2 : k ≤ s
      · exact c2
      · have : (s + 1) * (s + 1) ≤ m * k := Int.mul_le_mul (by omega) (by omega) (by omega) (by omega)
        omega
    · by_cases c2 : k ≤ m
      · exact c2
      · have c3 : k ≤ s := by
          by_cases c4 : k ≤ s
          · exact c4
          · have : (s + 1) * (s + 1) ≤ m * k := Int.mul_le_mul (by omega) (by omega) (by omega) (by omega)
            omega
        omega
/-- the trial over the odd ints: what is left at its end -/
theorem least_of_odd {n s : Int} (hn : 2 ≤ n) (h2 : ¬ (2 : Int) ∣ n) (hs0 : 0 ≤ s) (hs : n < (s + 1) * (s + 1)) (h : ∀ i : Nat, 3 + (i : Int) * 2 ≤ s → ¬ (3 + (i : Int) * 2) ∣ n) : Least n n := by
  refine ⟨hn, Int.dvd_refl n, fun m h1 hm hd => ?_⟩
  obtain ⟨d, d2, ds, _, dn⟩ := small_div hn h1 hm hd hs0 hs
  have odd : d % 2 = 1 := by
    have := Int.emod_two_eq d
    rcases this with e | e
    · exact absurd (Int.dvd_trans (Int.dvd_of_emod_eq_zero e) dn) h2
    · exact e
  have e : d = 3 + ((((d - 3) / 2).toNat : Nat) : Int) * 2 := by omega
  exact h ((d - 3) / 2).toNat (by omega) (e ▸ dn)
theorem least_at {n : Int} {i : Nat} (h2 : ¬ (2 : Int) ∣ n) (hd : (3 + (i : Int) * 2) ∣ n) (h : ∀ j : Nat, j < i → ¬ (3 + (j : Int) * 2) ∣ n) : Least n (3 + (i : Int) * 2) := by
  refine ⟨by omega, hd, fun m h1 hm hdv => ?_⟩
  have odd : m % 2 = 1 := by
    have := Int.emod_two_eq m
    rcases this with e | e
    · exact absurd (Int.dvd_trans (Int.dvd_of_emod_eq_zero e) hdv) h2
    · exact e
  have e : m = 3 + ((((m - 3) / 2).toNat : Nat) : Int) * 2 := by omega
  exact h ((m - 3) / 2).toNat (by omega) (e ▸ hdv)
theorem least_two {n : Int} (h : (2 : Int) ∣ n) : Least n 2 := ⟨by omega, h, fun m h1 h2 => by omega⟩
/-- every int from 2 on has a least divisor -/
theorem least_ex {n : Int} (hn : 2 ≤ n) : ∃ r, Least n r := by
  have key : ∀ (k : Nat) (r : Int), n - r ≤ k → 2 ≤ r → r ≤ n → (∀ m : Int, 2 ≤ m → m < r → ¬ m ∣ n) → ∃ r, Least n r := by
    intro k
    induction k with
    | zero =>
      intro r h1 h2 h3 h4
      have : r = n := by omega
      subst this
      exact ⟨r, h2, Int.dvd_refl r, h4⟩
    | succ k ih =>
      intro r h1 h2 h3 h4
      by_cases c : r ∣ n
      · exact ⟨r, h2, c, h4⟩
      · by_cases e : r = n
        · exact absurd (e ▸ Int.dvd_refl r) c
        · refine ih (r + 1) (by omega) (by omega) (by omega) fun m hm1 hm2 => ?_
          by_cases e2 : m = r
          · rw [e2]
            exact c
          · exact h4 m hm1 (by omega)
  exact key (n - 2).toNat 2 (by omega) (by omega) hn (fun m h1 h2 => by omega)
/-- a check of a prime by trial, for the kernel -/
def trial (n : Nat) : Nat → Nat → Bool
  | 0, _ => false
  | f + 1, k => if n < k * k then true else if n % k = 0 then false else trial n f (k + 1)
theorem trial_ok {n : Nat} (hn : 2 ≤ n) : ∀ (f k : Nat), 2 ≤ k → (∀ m : Nat, 2 ≤ m → m < k → ¬ m ∣ n) → trial n f k = true → Pr (n : Int) := by
  intro f
  induction f with
  | zero => intro k _ _ h; exact absurd h (by simp [trial])
  | succ f ih =>
    intro k hk hm h
    unfold trial at h
    by_cases c : n < k * k
    · refine ⟨by omega, fun m h1 h2 h3 => ?_⟩
      obtain ⟨d, d2, ds, _, dn⟩ := small_div (n := n) (s := (k : Int) - 1) (by omega) h1 h2 h3 (by omega) (by
        rw [Int.sub_add_cancel]
        exact_mod_cast c)
      refine hm d.toNat (by omega) (by omega) ?_
      have : ((d.toNat : Nat) : Int) ∣ (n : Int) := by rw [Int.toNat_of_nonneg (by omega)]; exact dn
      exact Int.natCast_dvd_natCast.mp this
    · rw [if_neg c] at h
      by_cases c2 : n % k = 0
      · rw [if_pos c2] at h
        exact absurd h (by simp)
      · rw [if_neg c2] at h
        refine ih (k + 1) (by omega) (fun m h1 h2 h3 => ?_) h
        by_cases e : m = k
        · subst e
          exact c2 (Nat.mod_eq_zero_of_dvd h3)
        · exact hm m h1 (by omega) h3
theorem pr_of_trial {n : Nat} (f : Nat) (h : (decide (2 ≤ n) && trial n f 2) = true) : Pr (n : Int) := by
  rw [Bool.and_eq_true] at h
  exact trial_ok (of_decide_eq_true h.1) f 2 (by omega) (fun m h1 h2 => by omega) h.2
theorem pr_10007 : Pr 10007 := pr_of_trial (n := 10007) 200 (by decide +kernel)
/-- a prime divides a factor -/
theorem pr_mul {q a b : Int} (hq : Pr q) (h : q ∣ a * b) : q ∣ a ∨ q ∣ b := by
  by_cases c : q ∣ a
  · exact .inl c
  · refine .inr ?_
    have hco : Nat.Coprime q.natAbs a.natAbs := by
      have g1 : Nat.gcd q.natAbs a.natAbs ∣ q.natAbs := Nat.gcd_dvd_left _ _
      have g2 : Nat.gcd q.natAbs a.natAbs ∣ a.natAbs := Nat.gcd_dvd_right _ _
      have hq2 := hq.1
      generalize hg : Nat.gcd q.natAbs a.natAbs = g at *
      have gi : (g : Int) ∣ q := Int.natAbs_dvd_natAbs.mp (by rw [Int.natAbs_natCast]; exact g1)
      have ga : (g : Int) ∣ a := Int.natAbs_dvd_natAbs.mp (by rw [Int.natAbs_natCast]; exact g2)
      have gpos : 0 < g := by
        rcases Nat.eq_zero_or_pos g with z | z
        · rw [z] at gi
          have := Int.zero_dvd.mp gi
          omega
        · exact z
      have gle : (g : Int) ≤ q := Int.le_of_dvd (by omega) gi
      by_cases g1' : g = 1
      · unfold Nat.Coprime
        rw [hg, g1']
      · by_cases g2' : (g : Int) = q
        · rw [g2'] at ga
          exact absurd ga c
        · exact absurd gi (hq.2 g (by omega) (by omega))
    have h2 : q.natAbs ∣ a.natAbs * b.natAbs := by
      rw [← Int.natAbs_mul]
      exact Int.natAbs_dvd_natAbs.mpr h
    exact Int.natAbs_dvd_natAbs.mp (Nat.Coprime.dvd_of_dvd_mul_left hco h2)
theorem pr_dvd_pr {p q : Int} (hp : Pr p) (hq : Pr q) (h : q ∣ p) : q = p := by
  have := Int.le_of_dvd (by have := hp.1; omega) h
  by_cases c : q = p
  · exact c
  · exact absurd h (hp.2 q hq.1 (by omega))
/-- l tells the primes that divide n, ascending -/
def PD (n : Int) (l : List Int) : Prop := l.Pairwise (· < ·) ∧ ∀ q, q ∈ l ↔ Pr q ∧ q ∣ n
theorem sorted_uniq : ∀ {l m : List Int}, l.Pairwise (· < ·) → m.Pairwise (· < ·) → (∀ q, q ∈ l ↔ q ∈ m) → l = m
  | [], [], _, _, _ => rfl
  | [], b :: m, _, _, h => absurd ((h b).mpr List.mem_cons_self) (by simp)
  | a :: l, [], _, _, h => absurd ((h a).mp List.mem_cons_self) (by simp)
  | a :: l, b :: m, hl, hm, h => by
    rw [List.pairwise_cons] at hl hm
    have hab : a = b := by
      rcases List.mem_cons.mp ((h a).mp List.mem_cons_self) with e | e
      · exact e
      · rcases List.mem_cons.mp ((h b).mpr List.mem_cons_self) with e2 | e2
        · exact e2.symm
        · have := hm.1 a e
          have := hl.1 b e2
          omega
    subst hab
    rw [sorted_uniq hl.2 hm.2 fun q => ?_]
    constructor
    · intro hq
      have := hl.1 q hq
      rcases List.mem_cons.mp ((h q).mp (List.mem_cons_of_mem _ hq)) with e | e
      · omega
      · exact e
    · intro hq
      have := hm.1 q hq
      rcases List.mem_cons.mp ((h q).mpr (List.mem_cons_of_mem _ hq)) with e | e
      · omega
      · exact e
theorem PD.uniq {n : Int} {l m : List Int} (h : PD n l) (h' : PD n m) : l = m := sorted_uniq h.1 h'.1 fun q => (h.2 q).trans (h'.2 q).symm
/-- what holds between two turns: fs found, r left of n; every prime of r is at least d, those found are less -/
structure Fac (n : Int) (fs : List Int) (r d : Int) : Prop where
  pos : 1 ≤ r
  dv : r ∣ n
  asc : fs.Pairwise (· < ·)
  low : ∀ f ∈ fs, f < d
  mem : ∀ f ∈ fs, Pr f ∧ f ∣ n
  all : ∀ q, Pr q → q ∣ n → q ∣ r ∨ q ∈ fs
  up : ∀ q, Pr q → q ∣ r → d ≤ q
  len : (2 : Int) ^ fs.length * r ≤ n
theorem fac0 {n : Int} (hn : 1 ≤ n) : Fac n [] n 2 := ⟨hn, Int.dvd_refl n, List.Pairwise.nil, (fun _ h => nomatch h), (fun _ h => nomatch h), (fun q _ h => .inl h), (fun q h _ => h.1), by show (2 : Int) ^ 0 * n ≤ n; omega⟩
/-- within the inner loop: r0 at its start, p taken out -/
structure Tak (r0 p r : Int) : Prop where
  pos : 1 ≤ r
  dv : r ∣ r0
  keep : ∀ q, Pr q → q ∣ r0 → q ∣ r ∨ q = p
  half : r = r0 ∨ 2 * r ≤ r0
theorem tak0 {r0 p : Int} (h : 1 ≤ r0) : Tak r0 p r0 := ⟨h, Int.dvd_refl _, fun q _ h => .inl h, .inl rfl⟩
theorem tak_step {r0 p r : Int} (hp : Pr p) (h : Tak r0 p r) (hd : p ∣ r) : Tak r0 p (r / p) ∧ r / p < r := by
  have hp2 := hp.1
  have hpos := h.pos
  obtain ⟨k, e⟩ := hd
  have ek : r / p = k := by rw [e, Int.mul_ediv_cancel_left _ (by omega)]
  rw [ek]
  have k1 : 1 ≤ k := by
    by_cases c : 1 ≤ k
    · exact c
    · have : p * k ≤ p * 0 := Int.mul_le_mul_of_nonneg_left (by omega) (by omega)
      omega
  have k2 : 2 * k ≤ r := by
    have : 2 * k ≤ p * k := Int.mul_le_mul_of_nonneg_right hp2 (by omega)
    omega
  refine ⟨⟨k1, Int.dvd_trans ⟨p, by rw [e, Int.mul_comm]⟩ h.dv, fun q hq hd => ?_, .inr ?_⟩, by omega⟩
  · rcases h.keep q hq hd with c | c
    · rw [e] at c
      rcases pr_mul hq c with c2 | c2
      · exact .inr (pr_dvd_pr hp hq c2)
      · exact .inl c2
    · exact .inr c
  · rcases h.half with c | c <;> omega
/-- behind the inner loop -/
theorem fac_step {n : Int} {fs : List Int} {r0 d p r : Int} (F : Fac n fs r0 d) (hp : Pr p) (hd : p ∣ r0) (T : Tak r0 p r) (hn : ¬ p ∣ r) (hmin : ∀ q, Pr q → q ∣ r0 → p ≤ q) : Fac n (fs ++ [p]) r (p + 1) ∧ r < r0 := by
  have hr : 2 * r ≤ r0 := T.half.resolve_left fun e => hn (e ▸ hd)
  have hdp : d ≤ p := F.up p hp hd
  refine ⟨⟨T.pos, Int.dvd_trans T.dv F.dv, ?_, ?_, ?_, ?_, ?_, ?_⟩, by have := T.pos; omega⟩
  · rw [List.pairwise_append]
    refine ⟨F.asc, List.pairwise_singleton _ _, fun a ha b hb => ?_⟩
    rw [List.mem_singleton.mp hb]
    have := F.low a ha
    omega
  · intro f hf
    rcases List.mem_append.mp hf with h | h
    · have := F.low f h
      omega
    · rw [List.mem_singleton.mp h]
      omega
  · intro f hf
    rcases List.mem_append.mp hf with h | h
    · exact F.mem f h
    · rw [List.mem_singleton.mp h]
      exact ⟨hp, Int.dvd_trans hd F.dv⟩
  · intro q hq h
    rcases F.all q hq h with c | c
    · rcases T.keep q hq c with c2 | c2
      · exact .inl c2
      · exact .inr (List.mem_append_right _ (by rw [c2]; exact List.mem_singleton.mpr rfl))
    · exact .inr (List.mem_append_left _ c)
  · intro q hq h
    have h1 := hmin q hq (Int.dvd_trans h T.dv)
    by_cases c : q = p
    · exact absurd (c ▸ h) hn
    · omega
  · rw [List.length_append]
    show (2 : Int) ^ (fs.length + 1) * r ≤ n
    rw [Int.pow_succ, Int.mul_assoc]
    have h1 : (2 : Int) ^ fs.length * (2 * r) ≤ 2 ^ fs.length * r0 := Int.mul_le_mul_of_nonneg_left hr (Int.pow_nonneg (by decide))
    have := F.len
    omega
theorem fac_end {n : Int} {fs : List Int} {d : Int} (F : Fac n fs 1 d) : PD n fs := by
  refine ⟨F.asc, fun q => ⟨F.mem q, fun ⟨h1, h2⟩ => (F.all q h1 h2).resolve_left fun c => ?_⟩⟩
  have := Int.le_of_dvd (by decide) c
  have := h1.1
  omega
theorem fac_len {n : Int} {fs : List Int} {r d : Int} (F : Fac n fs r d) (hn : n < 2 ^ 62) : fs.length < 62 := by
  by_cases c : fs.length < 62
  · exact c
  · have h1 : (2 : Int) ^ 62 ≤ 2 ^ fs.length := by
      have : (2 : Nat) ^ 62 ≤ 2 ^ fs.length := Nat.pow_le_pow_right (by decide) (by omega)
      have h2 := Int.ofNat_le.mpr this
      rw [Int.natCast_pow, Int.natCast_pow] at h2
      exact h2
    have h2 : (2 : Int) ^ fs.length * 1 ≤ 2 ^ fs.length * r := Int.mul_le_mul_of_nonneg_left F.pos (Int.pow_nonneg (by decide))
    have := F.len
    omega
theorem fac_up {n : Int} {fs : List Int} {r d : Int} (F : Fac n fs r d) (h : ¬ d ∣ r) : Fac n fs r (d + 1) := by
  refine ⟨F.pos, F.dv, F.asc, fun f hf => by have := F.low f hf; omega, F.mem, F.all, fun q h1 h2 => ?_, F.len⟩
  have := F.up q h1 h2
  by_cases c : q = d
  · exact absurd (c ▸ h2) h
  · omega
/-- d divides what is left: it is a prime -/
theorem fac_pr {n : Int} {fs : List Int} {r d : Int} (F : Fac n fs r d) (h2 : 2 ≤ d) (h : d ∣ r) : Pr d := by
  obtain ⟨q, hq⟩ := least_ex h2
  have h1 := F.up q hq.pr (Int.dvd_trans hq.dvd h)
  have := hq.le h2
  have e : q = d := by omega
  exact e ▸ hq.pr
/-- d * d above what is left: that is a prime -/
theorem fac_jump {n : Int} {fs : List Int} {r d : Int} (F : Fac n fs r d) (h2 : 2 ≤ d) (hr : 1 < r) (h : r < d * d) : Pr r ∧ ∀ q, Pr q → q ∣ r → r ≤ q := by
  have hp : Pr r := by
    refine ⟨by omega, fun m h1 h3 h4 => ?_⟩
    obtain ⟨e, e2, es, _, en⟩ := small_div (n := r) (s := d - 1) (by omega) h1 h3 h4 (by omega) (by rw [Int.sub_add_cancel]; exact h)
    obtain ⟨q, hq⟩ := least_ex e2
    have := F.up q hq.pr (Int.dvd_trans hq.dvd en)
    have := hq.le e2
    omega
  exact ⟨hp, fun q hq hd => by have := pr_dvd_pr hp hq hd; omega⟩

structure Cl (P : Program) (w : World) (K : PySem.W.Frag) (mg : Str → Option Value) (base : Heap) (CX : CXT) (k : Nat) (x : Str) (sp : Sp) : Prop where
  ex : ∃ (f : Addr) (fd : FuncData) (ps : List Str), FnOk P w K mg base CX k f fd ps sp ∧ mg x = some (.ref f) ∧ PySem.W.keepIn K (.ref f) = true ∧ Binds K fd ps []
theorem pe_cl {X : Cx} {k j : Nat} {x : Str} {sp : Sp} {p pos : Pos} {e : Expr} {es : List Expr} {t : TA} (c : Cl X.prog X.w X.K X.mg X.base CX0 k x sp) (hr : Room j X.A) (ha : PA X (e :: es) t) (hk : k ≤ j := by decide) (hg : Gl X x := by rfl)
    (hdb : (x == ("__debug__" : Str)) = false := by decide) (he : starEach (e :: es) X.env = (false, eval e X.env) :: starEach es X.env := by rfl) (hpl : (backTo pos (starEach es X.env)).any (·.1) = false := by rfl) :
    PE X (.Call (.Name x p) (e :: es) [] pos) (tCall sp [] E0 t) := by
  obtain ⟨f, fd, ps, F, hm, kp, b⟩ := c.ex
  exact pe_call F (hr.mono hk) hg hm kp b .nil pass0 ha hdb he hpl
structure Txt (mg : Str → Option Value) : Prop where
  int : mg "int" = none
  len : mg "len" = none
  abs : mg "abs" = none
  isinstance : mg "isinstance" = none
  bool : mg "bool" = none
  tuple : mg "tuple" = none
  list : mg "list" = none
  str : mg "str" = none
  range : mg "range" = none
  max : mg "max" = none
  min : mg "min" = none
  sorted : mg "sorted" = none
  set : mg "set" = none
theorem if_pos_of {c : Bool} {A B : Prop} (hc : c = true) (h : A) : if c = true then A else B := by
  rw [if_pos hc]
  exact h
theorem if_neg_of {c : Bool} {A B : Prop} (hc : c = false) (h : B) : if c = true then A else B := by
  rw [hc, if_neg Bool.false_ne_true]
  exact h
theorem same_upd {H : Hp} {p : Addr} {o : HO} (h : H p = none) : Same H (upd H p o) := fun b u e => by
  rw [upd_ne (ne_of_none e h)]
  exact e
/-- a call of a def that may raise, where it doesn't -/
theorem pe_cl0 {X : Cx} {k j : Nat} {x : Str} {sp : Sp} {p pos : Pos} {e : Expr} {es : List Expr} {t : TA} (c : Cl X.prog X.w X.K X.mg X.base (L2.CX X.prog X.w) k x sp) (hr : Room j X.A) (ha : PA X (e :: es) t) (hk : k ≤ j := by decide) (hg : Gl X x := by rfl)
    (hdb : (x == ("__debug__" : Str)) = false := by decide) (he : starEach (e :: es) X.env = (false, eval e X.env) :: starEach es X.env := by rfl) (hpl : (backTo pos (starEach es X.env)).any (·.1) = false := by rfl) :
    PE X (.Call (.Name x p) (e :: es) [] pos) (tCall sp [] E0 t) := by
  obtain ⟨f, fd, ps, F, hm, kp, b⟩ := c.ex
  exact pe_call F (hr.mono hk) hg hm kp b .nil passL ha hdb he hpl
/-- a call of a def that may raise, in a def or try that takes it -/
theorem pe_clX {X : Cx} {W : WX} {k j : Nat} {x : Str} {sp : Sp} {p pos : Pos} {e : Expr} {es : List Expr} {t : TA} (c : Cl X.prog X.w X.K X.mg X.base (L2.CX X.prog X.w) k x sp) (hr : Room j X.A) (tk : Takes X W) (ha : PA X (e :: es) t) (hk : k ≤ j := by decide) (hg : Gl X x := by rfl)
    (hdb : (x == ("__debug__" : Str)) = false := by decide) (he : starEach (e :: es) X.env = (false, eval e X.env) :: starEach es X.env := by rfl) (hpl : (backTo pos (starEach es X.env)).any (·.1) = false := by rfl) :
    PE X (.Call (.Name x p) (e :: es) [] pos) (tCallS sp (WE W) t) := by
  obtain ⟨f, fd, ps, F, hm, kp, b⟩ := c.ex
  exact pe_callS F (hr.mono hk) hg hm kp b (fun σ => passAt tk σ) ha hdb he hpl
/-- FieldError, and what its __init__ is -/
structure FErr (K : PySem.W.Frag) (mg : Str → Option Value) (C : Addr) : Prop where
  g : mg "FieldError" = some (.ref C)
  rd : PySem.W.readsIn K C (.type "type") = true
  ga : PySem.W.specialIn K (.ref C) "__getattribute__" = some (some (.builtin "type.__getattribute__"))
  fi : PySem.W.findCls K (.ref C) (.type "type") "__init__" = some (.val (.builtin "ValueError.__init__"))
theorem pe_feinit {X : Cx} {CF : Addr} {e : Expr} {es : List Expr} {ta : TA} {p1 p2 pos : Pos} {pl : Sem Bool} (F : FErr X.K X.mg CF) (ha : PA X (e :: es) ta) (hg : Gl X "FieldError" := by rfl)
    (hc : eval (.Call (.Attribute (.Name "FieldError" p1) "__init__" p2) (e :: es) [] pos) X.env = (do
      let ov ← eval (.Name "FieldError" p1) X.env
      standAt p2.atName
      let (f, first) ← holding [ov] (getMethod ov "__init__" pl)
      callWith pos f first (backTo pos (starEach (e :: es) X.env)) (backToKw pos (keywordEach [] X.env))) := by rfl)
    (he : starEach (e :: es) X.env = (false, eval e X.env) :: starEach es X.env := by rfl) (hpl : (backTo pos (starEach es X.env)).any (·.1) = false := by rfl) :
    PE X (.Call (.Attribute (.Name "FieldError" p1) "__init__" p2) (e :: es) [] pos) (tVeI X.K ta) := by
  refine ⟨fun pins s σ H Q I h => ?_⟩
  refine PySem.W.methodCall_KW (ld_glob I hg F.g ?_ (by decide)) hc
  refine PySem.W.method_cls I.kIn F.ga (PySem.W.cls_value I.kIn F.rd F.fi (by decide +kernel) ?_)
  show wpAny _ _ (callWith pos (Value.builtin "ValueError.__init__") [] (backTo pos (starEach (e :: es) X.env)) []) _ _ _
  refine PyProof.Rows.callWith_method1 (thn (ha.run pos pins _ σ H _ (I.tok _) h) fun us s1 ⟨vs, H1, I1, r1, a, C, ws, ev, hl, T, ea, q⟩ => ?_) he hpl
  subst ev
  cases r1 with
  | @cons _ u0 _ ur ra rw' =>
    obtain rfl : u0 = Value.ref a := ra
    have hlen : ur.length ≤ sizeLine := by
      rw [← Paired.length rw', sizeLine_eq]
      omega
    exact oinit_ok T I1 ea hlen fun s' J => ⟨.non, H1, J, rfl, q⟩
/-- an own error class with one attribute, and its __init__ by its promise -/
def spInit (C : Addr) (fld : Str) : Sp := fun vs H Q _ => ∃ (a : Addr) (v : V), vs = [.ref a, v] ∧ H a = some (exo a C none) ∧
  ∀ d, H d = none → d ≠ a → Q .non (upd (upd H d (exd d [(fld, v)])) a (exo a C (some d)))
structure ErrC (K : PySem.W.Frag) (mg : Str → Option Value) (nm fld : Str) (C fI : Addr) : Prop where
  g : mg nm = some (.ref C)
  oex : OexC K C
  no : PySem.W.findIn K (.ref C) fld = some none
  iC : PySem.W.findIn K (.ref C) "__init__" = some (some (.ref fI))
  tI : PySem.W.typeIn K (.ref fI) = some (.type "function")
  xf : XfC K C
  te : PySem.W.exmOne K (.ref C) (.ref C) = some true
structure Er (P : Program) (w : World) (K : PySem.W.Frag) (mg : Str → Option Value) (base : Heap) (nm fld : Str) (C : Addr) : Prop where
  ex : ∃ (fI : Addr) (fd : FuncData) (ps : List Str), ErrC K mg nm fld C fI ∧ FnOk P w K mg base CX0 1 fI fd ps (spInit C fld) ∧ Binds K fd ps []
theorem Er.c {P : Program} {w : World} {K : PySem.W.Frag} {mg : Str → Option Value} {base : Heap} {nm fld : Str} {C : Addr} (e : Er P w K mg base nm fld C) : ∃ fI, ErrC K mg nm fld C fI := by
  obtain ⟨fI, _, _, T, _⟩ := e.ex
  exact ⟨fI, T⟩
theorem exm_me {K : PySem.W.Frag} {S : Addr} (h1 : PySem.W.subIn K (.ref S) (.type "BaseException") = some true) (h2 : PySem.W.isClsIn K S = true) (h3 : PySem.W.typeIn K (.ref S) = some (.type "type")) (h4 : PySem.W.subIn K (.ref S) (.ref S) = some true) :
    PySem.W.exmOne K (.ref S) (.ref S) = some true := by
  have e1 : (PySem.W.subIn K (.ref S) (.type "BaseException") == some true) = true := by rw [h1] <;> rfl
  have h2' : (PySem.W.clsIn K S).isSome = true := h2
  have e2 : ((PySem.W.clsIn K S).isSome && PySem.W.typeIn K (.ref S) == some (.type "type")) = true := by rw [h2', h3] <;> rfl
  unfold PySem.W.exmOne
  rw [if_pos e1]
  show (if ((PySem.W.clsIn K S).isSome && PySem.W.typeIn K (.ref S) == some (.type "type")) = true then PySem.W.subIn K (.ref S) (.ref S) else none) = some true
  rw [if_pos e2]
  exact h4
/-- raise C(v): the argument, then what C's own __init__ asks (mk1 answers it) -/
theorem ps_raise1 {X : Cx} {W : WX} {x fld : Str} {C : Addr} {j : Nat} {e : Expr} {ta : TA} {p pos pos' : Pos} (c : Er X.prog X.w X.K X.mg X.base x fld C) (hr : Room j X.A) (tk : Takes X W) (ha : PA X [e] ta) (hj : 2 ≤ j := by decide) (hcalm : X.calm = true := by rfl) (hg : Gl X x := by rfl)
    (hdb : (x == ("__debug__" : Str)) = false := by decide) (he : starEach [e] X.env = (false, eval e X.env) :: starEach [] X.env := by rfl) (hpl : (backTo pos (starEach [] X.env)).any (·.1) = false := by rfl) :
    PS X (.Raise (some (.Call (.Name x p) [e] [] pos)) none pos') (fun _ σ H => tMkO C (spInit C fld) [] ta σ H fun cls d H' => W cls d σ H') := by
  obtain ⟨fI, fd, ps, T, F, b⟩ := c.ex
  exact ps_raise hcalm tk (pmk_oex (X := X) (p := p) (pos := pos) T.oex T.iC T.tI F (hr.mono hj) b .nil (fun _ _ _ _ _ _ _ h => h.elim) hg T.g ha hdb he hpl)
theorem mk1 {C : Addr} {fld : Str} {v : V} {H1 : Hp} {Q : XK} (k : ∀ d H2, Same H1 H2 → H1 d = none → H2 d = some (.xd [(fld, v)]) → Q (.ref C) (some d) H2) :
    ([v] : List V).length ≤ 1000 ∧ ∀ a, H1 a = none → spInit C fld (.ref a :: ([v] ++ [])) (upd H1 a (exo a C none))
      (fun u H2 => u = .non ∧ ∃ (d : Addr) (fs : List (Str × V)), H2 a = some (exo a C (some d)) ∧ H2 d = some (exd d fs) ∧ H1 d = none ∧ Q (.ref C) (some d) (upd (del H2 a) d (.xd fs))) (fun _ _ _ => False) := by
  refine ⟨(by show 1 ≤ 1000; decide), fun a ha => ⟨a, v, rfl, upd_same, fun d hd hda => ⟨rfl, d, [(fld, v)], upd_same, ?_, ?_, ?_⟩⟩⟩
  · rw [upd_ne hda, upd_same]
  · rw [upd_ne hda] at hd
    exact hd
  · rw [upd_ne hda] at hd
    refine k d _ (fun b o e => ?_) hd upd_same
    have hba := ne_of_none e ha
    have hbd := ne_of_none e hd
    rw [upd_ne hbd, del_ne hba, upd_ne hba, upd_ne hbd, upd_ne hba]
    exact e
/-! the same for exceptions whose context is None -/
theorem passN {X : Cx} : Passes (L2N.CX X.prog X.w) X E0 := fun _ _ _ _ _ _ _ ⟨_, _, _, _, _, _, _, _, _, _, _, _, z⟩ => z.elim
theorem takes0N {X : Cx} : L2N.Takes X (fun _ _ _ _ => False) := fun _ _ ⟨_, _, _, _, _, _, _, _, _, _, _, _, _, _, _, _, z⟩ => z.elim
theorem okN {P : Program} {w : World} {K : PySem.W.Frag} {mg : Str → Option Value} {base : Heap} {x qual : Str} {st : Stmt} {f : Addr} {fd : FuncData} {N ps : List Str} {k : Nat} {sp : Sp} (F : Fun K x qual st f fd) (S : FnScope N ps (defScope st)) (len : ∀ vs H Q E, sp vs H Q E → vs.length = ps.length)
    (body : ∀ (cdv : Value) (A : Around) (outer : List Env) (s : Shared) (H : Hp) (vs : List V) (Q : VK) (E : XK), Room k (A.deeper (envOfC qual (defScope st) s.heap.objs.size f cdv)) → sp vs H Q E →
      ∃ t, PSs (cxOf (L2N.CX P w) P w K mg base N qual (defScope st) f cdv A outer s H E) (defBody st) t ∧ t { nx := fun _ H' => Q .non H', rt := Q } (start N vs) H) : FnOk P w K mg base (L2N.CX P w) (k + 1) f fd ps sp := by
  obtain ⟨oc, od, kV, doc, pm, an, cdv, ct, osl, rfl, lk, hcd⟩ := F.ex
  exact fn_of lk hcd S len fun A outer s H vs Q E hr h => body cdv A outer s H vs Q E hr h
/-- a call of such a def, where it doesn't raise -/
theorem pe_clN0 {X : Cx} {k j : Nat} {x : Str} {sp : Sp} {p pos : Pos} {e : Expr} {es : List Expr} {t : TA} (c : Cl X.prog X.w X.K X.mg X.base (L2N.CX X.prog X.w) k x sp) (hr : Room j X.A) (ha : PA X (e :: es) t) (hk : k ≤ j := by decide) (hg : Gl X x := by rfl)
    (hdb : (x == ("__debug__" : Str)) = false := by decide) (he : starEach (e :: es) X.env = (false, eval e X.env) :: starEach es X.env := by rfl) (hpl : (backTo pos (starEach es X.env)).any (·.1) = false := by rfl) :
    PE X (.Call (.Name x p) (e :: es) [] pos) (tCall sp [] E0 t) := by
  obtain ⟨f, fd, ps, F, hm, kp, b⟩ := c.ex
  exact pe_call F (hr.mono hk) hg hm kp b .nil passN ha hdb he hpl
theorem pe_clNX {X : Cx} {W : WX} {k j : Nat} {x : Str} {sp : Sp} {p pos : Pos} {e : Expr} {es : List Expr} {t : TA} (c : Cl X.prog X.w X.K X.mg X.base (L2N.CX X.prog X.w) k x sp) (hr : Room j X.A) (tk : L2N.Takes X W) (ha : PA X (e :: es) t) (hk : k ≤ j := by decide) (hg : Gl X x := by rfl)
    (hdb : (x == ("__debug__" : Str)) = false := by decide) (he : starEach (e :: es) X.env = (false, eval e X.env) :: starEach es X.env := by rfl) (hpl : (backTo pos (starEach es X.env)).any (·.1) = false := by rfl) :
    PE X (.Call (.Name x p) (e :: es) [] pos) (tCallS sp (WE W) t) := by
  obtain ⟨f, fd, ps, F, hm, kp, b⟩ := c.ex
  exact pe_callS F (hr.mono hk) hg hm kp b (fun σ => L2N.passAt tk σ) ha hdb he hpl
theorem pmk_oexN {X : Cx} {e : Expr} {es : List Expr} {ta : TA} {p pos : Pos} {x : Str} {C fI : Addr} {k : Nat} {fd : FuncData} {ps : List Str} {sp : Sp} {ds : List Value} {dvs : List V} (T : OexC X.K C) (iC : PySem.W.findIn X.K (.ref C) "__init__" = some (some (.ref fI))) (tI : PySem.W.typeIn X.K (.ref fI) = some (.type "function"))
    (F1 : FnOk X.prog X.w X.K X.mg X.base CX0 k fI fd ps sp) (hr : Room (k + 1) X.A) (hb : Binds X.K fd ps ds) (hd : Vals dvs ds) (hg : Gl X x) (hm : X.mg x = some (.ref C)) (ha : PA X (e :: es) ta)
    (hdb : (x == ("__debug__" : Str)) = false) (he : starEach (e :: es) X.env = (false, eval e X.env) :: starEach es X.env) (hpl : (backTo pos (starEach es X.env)).any (·.1) = false) :
    L2N.PMk X (.Call (.Name x p) (e :: es) [] pos) (tMkO C sp dvs ta) := by
  intro pins s σ H Q I h
  obtain ⟨nm, q, N, bs, bm, sn, sub, ab, col, dd, k0, k1, k2, k3, k5, hC, hbm⟩ := T.cls
  refine wpAny_Call_Name_kw (ld_glob I hg hm ?_ hdb)
  refine PySem.W.callWith_K (h₀ := X.base) I.ok.mod.kin T.kC (thn (ha.run pos pins s σ H _ I h) fun us st got => ?_) he hpl
  obtain ⟨vs, G1, I1, r1, hz, q1⟩ := got
  refine ⟨I1.kIn, ?_⟩
  show wpAny _ _ (call (.ref C) us) _ _ _
  obtain ⟨hp, g, dr, tk, os⟩ := st
  generalize ex : hp.objs.size + 1 = x1 at *
  have le1 : hp.objs.size ≤ x1 := by omega
  have sp1 := q1 x1 (I1.hok.fresh le1)
  have old : ∀ b o, hp.get? b = some o → ((hp.push (PySem.W.kdv_tup us)).push (PySem.HandSPX.excO C hp.objs.size)).get? b = some o := fun b o z =>
    Heap.get?_push_of_some _ (Heap.get?_push_of_some _ z)
  have new1 : ((hp.push (PySem.W.kdv_tup us)).push (PySem.HandSPX.excO C hp.objs.size)).get? x1 = some (PySem.HandSPX.excO C hp.objs.size) := by
    subst ex
    heap_get
  have I2 := I1.laid (t' := tk) (a := x1) (o := exo x1 C none) old le1 (exo_ok new1)
  have rel : Vals (V.ref x1 :: (vs ++ dvs)) (Value.ref x1 :: (us ++ ds)) := .cons rfl (r1.append hd)
  have few : us.length ≤ sizeLine := by
    have := Paired.length r1
    rw [sizeLine_eq]
    omega
  have many : (Value.ref x1 :: us ++ ds).length = ps.length := by
    have z := rel.length
    rw [F1.len _ _ _ _ sp1] at z
    exact z.symm
  have run := F1.run _ X.stack _ _ ⟨Value.ref x1 :: us, []⟩ (Value.ref x1 :: (us ++ ds)) _ _ (fun _ _ _ => False) (hr.make C us []) (I2.env0.make C us []) (hb _ (Value.ref x1 :: us) I2.kIn many) rel sp1
  refine wpAny_call (PySem.HandSPX.call_own F.excBase_ValueError (fun Y => PySem.HandSPX.refsVE_contains Y bm hbm) (I1.kIn _ _ hC) (PySem.W.looks_findIn I1.kIn iC) (fun self => PySem.W.bind_fn I1.kIn self tI) few ?_)
  subst ex
  refine codeAny_mono run fun r s' back => ?_
  cases r with
  | error er => exact False.elim back
  | ok fl =>
    cases fl with
    | ret u =>
      obtain ⟨v, H2, os2, bare2, un2, hok2, rv, ev, d, fs, ea, ed, hd1, q2⟩ := back
      subst ev
      obtain ⟨h2, g2, d2, t2, os'⟩ := s'
      obtain ⟨t0, G, J, kG, ge, hoe, na⟩ := mk_end0 (d2 := d2) (t2 := t2) I1 le1 old un2 hok2 os2 bare2 ea ed hd1
      exact ⟨rv, _, _, _, ⟨G, g2, d2, t2, os'⟩, _, .ref C, some d, rfl, J, kG, ge, hoe, ⟨rfl, rfl, fun vs z => by cases z; rfl⟩, rfl, rfl, na, rfl, bare2, raises_own T.exC T.tyC, q2⟩
    | next => exact False.elim back
    | brk => exact False.elim back
    | cont => exact False.elim back
theorem ps_raise1N {X : Cx} {W : WX} {x fld : Str} {C : Addr} {j : Nat} {e : Expr} {ta : TA} {p pos pos' : Pos} (c : Er X.prog X.w X.K X.mg X.base x fld C) (hr : Room j X.A) (tk : L2N.Takes X W) (ha : PA X [e] ta) (hj : 2 ≤ j := by decide) (hcalm : X.calm = true := by rfl) (hg : Gl X x := by rfl)
    (hdb : (x == ("__debug__" : Str)) = false := by decide) (he : starEach [e] X.env = (false, eval e X.env) :: starEach [] X.env := by rfl) (hpl : (backTo pos (starEach [] X.env)).any (·.1) = false := by rfl) :
    PS X (.Raise (some (.Call (.Name x p) [e] [] pos)) none pos') (fun _ σ H => tMkO C (spInit C fld) [] ta σ H fun cls d H' => W cls d σ H') := by
  obtain ⟨fI, fd, ps, T, F, b⟩ := c.ex
  exact L2N.ps_raise hcalm tk (pmk_oexN (X := X) (p := p) (pos := pos) T.oex T.iC T.tI F (hr.mono hj) b .nil hg T.g ha hdb he hpl)

section
variable {P : Program} {w : World} {K : PySem.W.Frag} {mg : Str → Option Value} {base : Heap}
/-- a pool: three values -/
def PoolAt (H : Hp) (p : Addr) : Prop := ∃ (c n : Int) (b : Bool), H p = some (.lst [.int c, .int n, .bl b])
def spPool : Sp := fun vs H Q _ => ∃ c : Int, vs = [.int c] ∧ ∀ p H', H p = none → Same H H' → PoolAt H' p → Q (.ref p) H'
abbrev s_pool : Stmt := top 16
theorem sc_pool : FnScope ["_law_cell_here"] ["_law_cell_here"] (defScope s_pool) := ⟨rfl, rfl, rfl, by decide +kernel, rfl, by decide +kernel, by decide +kernel⟩
theorem ok_pool {f : Addr} {fd : FuncData} (F : Fun K "_law_pool" "_law_pool" s_pool f fd) : FnOk P w K mg base CX0 1 f fd ["_law_cell_here"] spPool := by
  refine F.ok sc_pool (fun vs H Q E h => ?_) (fun cdv A outer s H vs Q E hr h => ?_)
  · obtain ⟨c, rfl, _⟩ := h
    rfl
  · obtain ⟨c, rfl, k⟩ := h
    refine ⟨_, (pss_one (ps_ret (pe_lst (pa_cons (pv 0) (pa_cons pe_int (pa_cons (pe_cmpR op_ge (pv 0) (pe_op op_pow pe_int pe_int) (nomark _)) pa_nil)))))), ?_⟩
    refine ⟨_, rfl, _, rfl, _, _, rfl, rfl, ⟨by decide, by decide, by decide⟩, _, _, rfl, rfl, (by show 3 ≤ sizeLine; decide), fun p hp => ?_⟩
    exact k p _ hp (same_upd hp) ⟨_, _, _, upd_same⟩

abbrev s_take : Stmt := top 17
theorem sc_take : FnScope ["_law_pool_here", "_law_limit", "_law_drawn", "_law_mixed"] ["_law_pool_here", "_law_limit"] (defScope s_take) := ⟨rfl, rfl, rfl, by decide +kernel, rfl, by decide +kernel, by decide +kernel⟩
def spTake : Sp := fun vs H Q _ => ∃ (p : Addr) (m : Int), vs = [.ref p, .int m] ∧ PoolAt H p ∧ 0 < m ∧ m.natAbs.log2 < 9000 ∧
  ∀ v H', 0 ≤ v → v < m → (∀ q, q ≠ p → H' q = H q) → PoolAt H' p → Q (.int v) H'
theorem mix_small (z : Int) : (z % 2147483647).natAbs < 2 ^ 64 := by
  have h1 := Int.emod_nonneg z (show (2147483647 : Int) ≠ 0 by decide)
  have h2 := Int.emod_lt_of_pos z (show (0 : Int) < 2147483647 by decide)
  have : (2147483647 : Nat) < 2 ^ 64 := by decide
  omega
theorem ok_take {f : Addr} {fd : FuncData} (T : Txt mg) (F : Fun K "_law_take" "_law_take" s_take f fd) : FnOk P w K mg base CX0 1 f fd ["_law_pool_here", "_law_limit"] spTake := by
  refine F.ok sc_take (fun vs H Q E h => ?_) (fun cdv A outer s H vs Q E hr h => ?_)
  · obtain ⟨p, m, rfl, _⟩ := h
    rfl
  · obtain ⟨p, m, rfl, ⟨c, n, b, hp⟩, hm, hb, k⟩ := h
    refine ⟨_, (pss_cons (ps_asg (pe_op op_add (pe_ix ix_list (pv 0) pe_int (fun _ _ => rfl)) pe_int) (pg_sub (pv 0) pe_int set_list))
 (pss_cons (ps_if (pt_val (pe_ix ix_list (pv 0) pe_int (fun _ _ => rfl))) (pss_cons (ps_set (i := 2) sc_take.nd rfl (Or.inl rfl) (pe_op op_mod (pe_callTy call_int1 (by rfl) T.int boot_int (pa_cons (pe_ix ix_list (pv 0) pe_int (fun _ _ => rfl)) pa_nil)) (pv 1)))
 (pss_cons (ps_asg (pe_op op_fdivW (pe_callTy call_int1 (by rfl) T.int boot_int (pa_cons (pe_ix ix_list (pv 0) pe_int (fun _ _ => rfl)) pa_nil)) (pv 1)) (pg_sub (pv 0) pe_int set_list))
 (pss_one (ps_ret (pv 2))))) pss_nil)
 (pss_cons (ps_set (i := 3) sc_take.nd rfl (Or.inl rfl) (pe_op op_mod (pe_callTy call_int1 (by rfl) T.int boot_int (pa_cons (pe_op op_add (pe_op op_add (pe_op op_mul (pe_ix ix_list (pv 0) pe_int (fun _ _ => rfl)) pe_int) (pe_op op_mul (pe_ix ix_list (pv 0) pe_int (fun _ _ => rfl)) pe_int)) pe_int) pa_nil)) pe_int))
 (pss_one (ps_ret (pe_op op_mod (pe_op op_fdivW (pe_callTy call_int1 (by rfl) T.int boot_int (pa_cons (pe_op op_mod (pe_op op_pow (pv 3) pe_int) pe_int) pa_nil)) pe_int) (pv 1))))))), ?_⟩
    refine ⟨_, rfl, p, _, _, _, rfl, rfl, SqL.of hp, rfl, _, _, rfl, rfl, _, rfl, p, _, _, _, rfl, rfl, hp, rfl, ?_⟩
    refine ⟨_, rfl, p, _, _, _, rfl, rfl, SqL.of upd_same, rfl, b, rfl, ?_⟩
    cases b with
    | true =>
      refine iteT ?_
      refine ⟨_, rfl, p, _, _, _, rfl, rfl, SqL.of upd_same, rfl, .inl ⟨_, rfl, _, rfl, _, _, rfl, rfl, hm, ?_⟩⟩
      refine ⟨_, rfl, p, _, _, _, rfl, rfl, SqL.of upd_same, rfl, .inl ⟨_, rfl, _, rfl, _, _, rfl, rfl, ⟨hm, hb⟩, _, rfl, p, _, _, _, rfl, rfl, upd_same, rfl, ?_⟩⟩
      refine ⟨_, rfl, k _ _ (Int.emod_nonneg _ (by omega)) (Int.emod_lt_of_pos _ hm) (fun q hq => ?_) ⟨_, _, _, upd_same⟩⟩
      rw [upd_ne hq, upd_ne hq]
    | false =>
      refine iteF ?_
      refine ⟨_, rfl, p, _, _, _, rfl, rfl, SqL.of upd_same, rfl, _, _, rfl, rfl, (.inr ⟨by decide, by decide⟩), _, rfl, p, _, _, _, rfl, rfl, SqL.of upd_same, rfl, _, _, rfl, rfl, (.inr ⟨by decide, by decide⟩), _, _, rfl, rfl, _, _, rfl, rfl, .inl ⟨_, rfl, _, _, rfl, rfl, (by show (0 : Int) < 2147483647; decide), ?_⟩⟩
      refine ⟨_, rfl, _, _, rfl, rfl, ⟨by decide, by decide, mix_small _⟩, _, _, rfl, rfl, (by show (0 : Int) < 2147483647; decide), .inl ⟨_, rfl, _, _, rfl, rfl, ⟨by decide, by decide⟩, _, rfl, _, _, rfl, rfl, hm, ?_⟩⟩
      refine k _ _ (Int.emod_nonneg _ (by omega)) (Int.emod_lt_of_pos _ hm) (fun q hq => ?_) ⟨_, _, _, upd_same⟩
      rw [upd_ne hq]

abbrev s_cell : Stmt := top 18
theorem sc_cell : FnScope ["_law_script", "_law_k"] ["_law_script", "_law_k"] (defScope s_cell) := ⟨rfl, rfl, rfl, by decide +kernel, rfl, by decide +kernel, by decide +kernel⟩
def spCellL (K : PySem.W.Frag) : Sp := fun vs H Q _ => ∃ (a : Addr) (ns : List Int) (k : Nat), vs = [.ref a, .int (k : Int)] ∧ SqL K H a (ns.map V.int) ∧ ∀ v, Q (.int v) H
theorem ok_cell {f : Addr} {fd : FuncData} (T : Txt mg) (F : Fun K "_law_cell" "_law_cell" s_cell f fd) : FnOk P w K mg base CX0 1 f fd ["_law_script", "_law_k"] (spCellL K) := by
  refine F.ok sc_cell (fun vs H Q E h => ?_) (fun cdv A outer s H vs Q E hr h => ?_)
  · obtain ⟨a, ns, k, rfl, _⟩ := h
    rfl
  · obtain ⟨a, ns, k, rfl, hS, q⟩ := h
    refine ⟨_, (pss_cons (ps_if (pt_cmpR op_lt (pv 1) (pe_callB call_len_seq (by rfl) T.len PySem.boot_len (pa_cons (pv 0) pa_nil)) (nomark _)) (pss_one (ps_ret (pe_ix ix_list (pv 0) (pv 1) (fun _ _ => rfl)))) pss_nil)
 (pss_one (ps_ret pe_int))), ?_⟩
    refine ⟨_, rfl, _, rfl, a, _, rfl, .inl hS, _, _, rfl, rfl, _, rfl, ?_⟩
    rw [List.length_map]
    by_cases c : k < ns.length
    · refine if_pos_of (decide_eq_true (by omega)) ?_
      refine ⟨_, rfl, _, rfl, a, _, _, .int ns[k], rfl, rfl, hS, atI_nat (by rw [List.getElem?_map, List.getElem?_eq_getElem c]; rfl), ?_⟩
      exact q _
    · refine if_neg_of (decide_eq_false (by omega)) ?_
      exact q _
def rIsqrt : List V → Hp → VK → Prop := fun vs H Q => ∃ a : Int, vs = [.int a] ∧ 0 ≤ a ∧ a < 2 ^ 64 ∧ ∀ r : Int, 0 ≤ r → r * r ≤ a → a < (r + 1) * (r + 1) → Q (.int r) H
theorem cr_isqrt {X : Cx} : CallR X (.builtin "math.isqrt") rIsqrt := by
  intro pins s σ H vs us Q I r h
  obtain ⟨a, rfl, h0, h1, q⟩ := h
  cases r with
  | cons r1 r2 =>
    cases r2
    obtain ⟨t, rfl⟩ := r1
    obtain ⟨s1, s2⟩ := Float64.isqrt_spec a.toNat
    refine PySem.W.mg_isqrt h0 h1 ⟨.int _, H, I.tok _, ⟨_, rfl⟩, q _ (Int.natCast_nonneg _) ?_ ?_⟩
    · have : ((Float64.isqrt a.toNat * Float64.isqrt a.toNat : Nat) : Int) ≤ ((a.toNat : Nat) : Int) := Int.ofNat_le.mpr s1
      rw [Int.natCast_mul, Int.toNat_of_nonneg h0] at this
      exact this
    · have : ((a.toNat : Nat) : Int) < (((Float64.isqrt a.toNat + 1) * (Float64.isqrt a.toNat + 1) : Nat) : Int) := Int.ofNat_lt.mpr s2
      rw [Int.natCast_mul, Int.natCast_add, Int.toNat_of_nonneg h0] at this
      exact this
abbrev s_least : Stmt := top 7
theorem sc_least : FnScope ["n", "d"] ["n"] (defScope s_least) := ⟨rfl, rfl, rfl, by decide +kernel, rfl, by decide +kernel, by decide +kernel⟩
def spLeast : Sp := fun vs H Q _ => ∃ n : Int, vs = [.int n] ∧ 2 ≤ n ∧ n < 2 ^ 62 ∧ ∀ r, Least n r → Q (.int r) H
theorem rgc_two {j : Int} (h0 : 0 ≤ j) (h1 : j < 2 ^ 62) : RgC 3 j 2 (if 3 < j then ((j - 3 - 1) / 2 + 1).toNat else 0) := by
  refine ⟨by decide, by decide, ?_, ?_⟩
  · unfold Builtin.Range.small Builtin.Range.rangeSize
    simp only [Builtin.Range.rangeFitsLong, Bool.and_eq_true, Bool.or_eq_true, decide_eq_true_eq, beq_iff_eq, show ((2 : Int) > 0) by decide, if_true]
    split <;> omega
  · unfold Builtin.Range.rangeSize
    rw [if_pos (by decide)]
    split <;> omega
theorem root_lt {r n : Int} (h0 : 0 ≤ r) (h : r * r ≤ n) (hn : n < 2 ^ 62) : r + 1 < 2 ^ 62 := by
  by_cases c : r < 2 ^ 32
  · omega
  · have : (2 ^ 32 : Int) * 2 ^ 32 ≤ r * r := Int.mul_le_mul (by omega) (by omega) (by decide) h0
    omega
theorem ok_least {f : Addr} {fd : FuncData} (T : Txt mg) (hsq : mg "isqrt" = some (.builtin "math.isqrt")) (F : Fun K "_least_divisor" "_least_divisor" s_least f fd) : FnOk P w K mg base CX0 1 f fd ["n"] spLeast := by
  refine F.ok sc_least (fun vs H Q E h => ?_) (fun cdv A outer s H vs Q E hr h => ?_)
  · obtain ⟨n, rfl, _⟩ := h
    rfl
  · obtain ⟨n, rfl, h2, hb, q⟩ := h
    refine ⟨_, (pss_cons (ps_if (pt_cmpR op_eq (pe_op op_mod (pv 0) pe_int) pe_int (nomark _)) (pss_one (ps_ret pe_int)) pss_nil)
 (pss_cons (ps_for PassesOwn.never rfl (pi_range3 rfl T.range (pa_cons pe_int (pa_cons (pe_op op_add (pe_callBfun cr_isqrt (by rfl) hsq (pa_cons (pv 0) pa_nil)) pe_int) (pa_cons pe_int pa_nil)))) (pg_name (i := 1) sc_least.nd rfl (Or.inl rfl)) (pss_one (ps_if (pt_cmpR op_eq (pe_op op_mod (pv 0) (pv 1)) pe_int (nomark _)) (pss_one (ps_ret (pv 1))) pss_nil)))
 (pss_one (ps_ret (pv 0))))), ?_⟩
    refine ⟨_, rfl, _, _, rfl, rfl, (by show (0 : Int) < 2; decide), rfl, _, rfl, ?_⟩
    by_cases c : (2 : Int) ∣ n
    · refine if_pos_of (decide_eq_true (congrArg V.int (Int.emod_eq_zero_of_dvd c))) ?_
      exact q _ (least_two c)
    · refine if_neg_of (decide_eq_false fun e => c (Int.dvd_of_emod_eq_zero (V.int.inj e))) ?_
      refine ⟨_, rfl, n, rfl, by omega, by omega, fun r r0 r1 r2 => ⟨_, _, rfl, rfl, 3, r + 1, 2, _, rfl, rgc_two (by omega) (root_lt r0 r1 hb), ?_⟩⟩
      refine for_rangeC (lo := 3) (c := 2) (fun i σ H' => H' = H ∧ ∃ x, σ = [some (.int n), x] ∧ ∀ j : Nat, j < i → ¬ (3 + (j : Int) * 2) ∣ n) ⟨rfl, _, rfl, fun j hj => absurd hj (Nat.not_lt_zero j)⟩ ?_ ?_
      · rintro i σ _ hi ⟨rfl, x, rfl, hx⟩
        refine ⟨_, rfl, _, rfl, _, _, rfl, rfl, (by show (0 : Int) < 3 + ((i : Nat) : Int) * 2; omega), rfl, _, rfl, ?_⟩
        by_cases c3 : (3 + (i : Int) * 2) ∣ n
        · refine if_pos_of (decide_eq_true (congrArg V.int (Int.emod_eq_zero_of_dvd c3))) ?_
          exact ⟨_, rfl, q _ (least_at c c3 hx)⟩
        · refine if_neg_of (decide_eq_false fun e => c3 (Int.dvd_of_emod_eq_zero (V.int.inj e))) ?_
          refine ⟨rfl, _, rfl, fun j hj => ?_⟩
          by_cases e : j = i
          · rw [e]
            exact c3
          · exact hx j (by omega)
      · rintro σ _ ⟨rfl, x, rfl, hx⟩
        refine ⟨_, rfl, q _ (least_of_odd h2 c r0 r2 fun i hi => hx i ?_)⟩
        split <;> omega
abbrev s_prime : Stmt := top 8
theorem sc_prime : FnScope ["n"] ["n"] (defScope s_prime) := ⟨rfl, rfl, rfl, by decide +kernel, rfl, by decide +kernel, by decide +kernel⟩
def spPrime : Sp := fun vs H Q _ => ∃ n : Int, vs = [.int n] ∧ n < 2 ^ 62 ∧ Q (.bl (prB n)) H
theorem ok_prime {f : Addr} {fd : FuncData} (F : Fun K "is_prime" "is_prime" s_prime f fd) (c_least : Cl P w K mg base CX0 1 "_least_divisor" spLeast) : FnOk P w K mg base CX0 2 f fd ["n"] spPrime := by
  refine F.ok sc_prime (fun vs H Q E h => ?_) (fun cdv A outer s H vs Q E hr h => ?_)
  · obtain ⟨n, rfl, _⟩ := h
    rfl
  · obtain ⟨n, rfl, hb, q⟩ := h
    refine ⟨_, (pss_one (ps_ret (pe_and (pe_cmpR op_gt (pv 0) pe_int (nomark _)) (pe_one (pe_cmpR op_eq (pe_cl c_least hr (pa_cons (pv 0) pa_nil)) (pv 0) (nomark _)))))), ?_⟩
    refine ⟨_, rfl, _, _, rfl, rfl, _, rfl, ?_⟩
    by_cases c : 1 < n
    · refine if_pos_of (decide_eq_true c) ?_
      refine ⟨_, rfl, n, rfl, by omega, hb, fun r hl => ⟨_, rfl, rfl, ?_⟩⟩
      have e : decide (V.int r = V.int n) = prB n := by
        by_cases p : Pr n
        · rw [prB_true p, (hl.self (by omega)).mpr p]
          exact decide_eq_true rfl
        · rw [prB_false p]
          exact decide_eq_false fun e => p ((hl.self (by omega)).mp (V.int.inj e))
      show Q (.bl (decide (V.int r = V.int n))) H
      rw [e]
      exact q
    · refine if_neg_of (decide_eq_false c) ?_
      have e : prB n = false := prB_false fun p => c (by have := p.1; omega)
      rw [e] at q
      exact q
abbrev s_lprime : Stmt := top 19
theorem sc_lprime : FnScope ["_law_n", "_law_k"] ["_law_n"] (defScope s_lprime) := ⟨rfl, rfl, rfl, by decide +kernel, rfl, by decide +kernel, by decide +kernel⟩
theorem pr_of_trials {n k : Int} (hn : 2 ≤ n) (hk : 2 ≤ k) (hs : n < k * k) (hm : ∀ m : Int, 2 ≤ m → m < k → ¬ m ∣ n) : Pr n := by
  refine ⟨hn, fun m h1 h2 h3 => ?_⟩
  obtain ⟨d, d2, ds, _, dn⟩ := small_div (n := n) (s := k - 1) hn h1 h2 h3 (by omega) (by rw [Int.sub_add_cancel]; exact hs)
  exact hm d d2 (by omega) dn
theorem root_le {k n : Int} (hk : 2 ≤ k) (h : k * k ≤ n) : k < n ∧ 2 * k ≤ n := by
  have : 2 * k ≤ k * k := Int.mul_le_mul_of_nonneg_right hk (by omega)
  omega
theorem ok_lprime {f : Addr} {fd : FuncData} (F : Fun K "_law_is_prime" "_law_is_prime" s_lprime f fd) : FnOk P w K mg base CX0 1 f fd ["_law_n"] spPrime := by
  refine F.ok sc_lprime (fun vs H Q E h => ?_) (fun cdv A outer s H vs Q E hr h => ?_)
  · obtain ⟨n, rfl, _⟩ := h
    rfl
  · obtain ⟨n, rfl, hb, q⟩ := h
    refine ⟨_, (pss_cons (ps_if (pt_cmpR op_lt (pv 0) pe_int (nomark _)) (pss_one (ps_ret pe_bl)) pss_nil)
 (pss_cons (ps_set (i := 1) sc_lprime.nd rfl (Or.inl rfl) pe_int)
 (pss_cons (ps_while PassesOwn.never (pt_cmpR op_le (pe_op op_mul (pv 1) (pv 1)) (pv 0) (nomark _)) (pss_cons (ps_if (pt_cmpR op_eq (pe_op op_mod (pv 0) (pv 1)) pe_int (nomark _)) (pss_one (ps_ret pe_bl)) pss_nil)
 (pss_one (ps_set (i := 1) sc_lprime.nd rfl (Or.inl rfl) (pe_op op_add (pv 1) pe_int)))))
 (pss_one (ps_ret pe_bl))))), ?_⟩
    refine ⟨_, rfl, _, _, rfl, rfl, _, rfl, ?_⟩
    by_cases c : n < 2
    · refine if_pos_of (decide_eq_true c) ?_
      rw [prB_false fun p => by have := p.1; omega] at q
      exact q
    · refine if_neg_of (decide_eq_false c) ?_
      refine while_by (fun σ H' => H' = H ∧ ∃ k : Int, σ = [some (.int n), some (.int k)] ∧ 2 ≤ k ∧ k ≤ n + 1 ∧ ∀ m : Int, 2 ≤ m → m < k → ¬ m ∣ n) (fun σ _ => match σ[1]? with | some (some (V.int k)) => (n + 2 - k).toNat | _ => 0)
        ⟨rfl, 2, rfl, by omega, by omega, fun m h1 h2 => by omega⟩ ?_ ?_
      · rintro σ _ ⟨rfl, k, rfl, k2, k3, hm⟩
        refine ⟨_, rfl, _, rfl, _, _, rfl, rfl, .inl ⟨by omega, by omega⟩, _, rfl, _, _, rfl, rfl, _, rfl, ?_⟩
        by_cases c2 : k * k ≤ n
        · refine if_pos_of (decide_eq_true c2) ?_
          have kn := root_le k2 c2
          refine ⟨_, rfl, _, rfl, _, _, rfl, rfl, (by show 0 < k; omega), rfl, _, rfl, ?_⟩
          by_cases c3 : k ∣ n
          · refine if_pos_of (decide_eq_true (congrArg V.int (Int.emod_eq_zero_of_dvd c3))) ?_
            rw [prB_false fun p => p.2 k k2 (by omega) c3] at q
            exact q
          · refine if_neg_of (decide_eq_false fun e => c3 (Int.dvd_of_emod_eq_zero (V.int.inj e))) ?_
            refine ⟨_, rfl, _, _, rfl, rfl, ⟨rfl, k + 1, rfl, by omega, by omega, fun m h1 h2 => ?_⟩, ?_⟩
            · by_cases e : m = k
              · rw [e]
                exact c3
              · exact hm m h1 (by omega)
            · show (n + 2 - (k + 1)).toNat < (n + 2 - k).toNat
              omega
        · refine if_neg_of (decide_eq_false c2) ?_
          rw [prB_true (pr_of_trials (by omega) k2 (by omega) hm)] at q
          exact q
      · rintro σ H1 Q1 Q2 h ⟨v, e1, v2, e2, i, j, e3, e4, hc, v3, e5, i2, j2, e6, e7, k, e8, qq⟩
        exact ⟨v, e1, v2, e2, i, j, e3, e4, hc, v3, e5, i2, j2, e6, e7, k, e8, h _ _ qq⟩
abbrev s_next : Stmt := top 20
theorem sc_next : FnScope ["_law_n", "_law_found"] ["_law_n"] (defScope s_next) := ⟨rfl, rfl, rfl, by decide +kernel, rfl, by decide +kernel, by decide +kernel⟩
def spNext : Sp := fun vs H Q _ => ∃ (n b : Int), vs = [.int n] ∧ Pr b ∧ n ≤ b ∧ b < 2 ^ 61 ∧ ∀ p : Int, Pr p → n ≤ p → p ≤ b → Q (.int p) H
theorem ok_next {f : Addr} {fd : FuncData} (T : Txt mg) (F : Fun K "_law_next_prime" "_law_next_prime" s_next f fd) (c_lprime : Cl P w K mg base CX0 1 "_law_is_prime" spPrime) : FnOk P w K mg base CX0 2 f fd ["_law_n"] spNext := by
  refine F.ok sc_next (fun vs H Q E h => ?_) (fun cdv A outer s H vs Q E hr h => ?_)
  · obtain ⟨n, b, rfl, _⟩ := h
    rfl
  · obtain ⟨n, b, rfl, hp, hn, hb, q⟩ := h
    refine ⟨_, (pss_cons (ps_set (i := 1) sc_next.nd rfl (Or.inl rfl) (pe_callB (call_max2 rfl) (by rfl) T.max boot_max (pa_cons pe_int (pa_cons (pv 0) pa_nil))))
 (pss_cons (ps_while PassesOwn.never (pt_not (pt_val (pe_cl c_lprime hr (pa_cons (pv 1) pa_nil)))) (pss_one (ps_set (i := 1) sc_next.nd rfl (Or.inl rfl) (pe_op op_add (pv 1) pe_int))))
 (pss_one (ps_ret (pv 1))))), ?_⟩
    refine ⟨_, rfl, _, _, rfl, ?_⟩
    refine while_by (fun σ H' => H' = H ∧ ∃ k : Int, σ = [some (.int n), some (.int k)] ∧ n ≤ k ∧ k ≤ b) (fun σ _ => match σ[1]? with | some (some (V.int k)) => (b - k).toNat | _ => 0)
      ⟨rfl, _, rfl, by split <;> omega, by have := hp.1; split <;> omega⟩ ?_ ?_
    · rintro σ _ ⟨rfl, k, rfl, k2, k3⟩
      refine ⟨_, rfl, k, rfl, by omega, _, rfl, ?_⟩
      by_cases c : Pr k
      · refine if_neg_of (by rw [prB_true c]; rfl) ?_
        exact ⟨_, rfl, q k c k2 k3⟩
      · refine if_pos_of (by rw [prB_false c]; rfl) ?_
        have : k ≠ b := fun e => c (e ▸ hp)
        refine ⟨_, rfl, _, _, rfl, rfl, ⟨rfl, k + 1, rfl, by omega, by omega⟩, ?_⟩
        show (b - (k + 1)).toNat < (b - k).toNat
        omega
    · rintro σ H1 Q1 Q2 h ⟨v, e1, n, e2, hl, k, e3, qq⟩
      exact ⟨v, e1, n, e2, hl, k, e3, h _ _ qq⟩
abbrev s_ibc : Stmt := inClass (top 4) 0
theorem sc_ibc : FnScope ["self", "p"] ["self", "p"] (defScope s_ibc) := ⟨rfl, rfl, rfl, by decide +kernel, rfl, by decide +kernel, by decide +kernel⟩
theorem ok_ibc {f C CF : Addr} {fd : FuncData} (TF : FErr K mg CF) (hC : OexC K C) (hno : PySem.W.findIn K (.ref C) "p" = some none) (F : Fun K "__init__" "BadCharacteristic.__init__" s_ibc f fd) : FnOk P w K mg base CX0 1 f fd ["self", "p"] (spInit C "p") := by
  refine F.ok sc_ibc (fun vs H Q E h => ?_) (fun cdv A outer s H vs Q E hr h => ?_)
  · obtain ⟨a, v, rfl, _⟩ := h
    rfl
  · obtain ⟨a, v, rfl, ha, q⟩ := h
    refine ⟨_, (pss_cons (ps_expr (pe_feinit TF (pa_cons (pv 0) (pa_cons pe_str pa_nil))))
 (pss_one (ps_ost (pv 0) (pv 1)))), ?_⟩
    refine ⟨_, rfl, a, C, _, rfl, (by show 1 ≤ 1000; decide), hC, ha, ?_⟩
    exact ⟨_, rfl, _, rfl, a, C, rfl, hC, hno, .inl ⟨ha, fun dx hn hne => q dx hn hne⟩⟩
theorem eqvAll_ints : ∀ l m : List Int, PyData.eqvAll (l.map PyData.int) (m.map PyData.int) = decide (l = m)
  | [], [] => by rw [List.map_nil, PyData.eqvAll]; rfl
  | [], b :: m => by rw [List.map_nil, List.map_cons, PyData.eqvAll] <;> first | (exact (decide_eq_false (by simp)).symm) | skip
  | a :: l, [] => by rw [List.map_nil, List.map_cons, PyData.eqvAll] <;> first | (exact (decide_eq_false (by simp)).symm) | skip
  | a :: l, b :: m => by
    rw [List.map_cons, List.map_cons, PyData.eqvAll, PyData.eqv, eqvAll_ints l m]
    by_cases c : a = b
    · subst c
      by_cases c2 : l = m
      · subst c2
        simp
      · simp [c2]
    · simp [c]
theorem eqv_ints (l m : List Int) : PyData.eqv (.list (l.map PyData.int)) (.list (m.map PyData.int)) = decide (l = m) := by
  rw [PyData.eqv]
  exact eqvAll_ints l m
theorem eqv_intsT (l m : List Int) : PyData.eqv (.tuple (l.map PyData.int)) (.tuple (m.map PyData.int)) = decide (l = m) := by
  rw [PyData.eqv]
  exact eqvAll_ints l m
theorem canLay_ints : ∀ l : List Int, PyData.canLayAll0 (l.map PyData.int) = true
  | [] => by rw [List.map_nil, PyData.canLayAll0]
  | a :: l => by rw [List.map_cons, PyData.canLayAll0, PyData.canLay0, canLay_ints l]; rfl
theorem depth_ints : ∀ l : List Int, PyData.depthAll (l.map PyData.int) = 0
  | [] => by rw [List.map_nil, PyData.depthAll]
  | a :: l => by rw [List.map_cons, PyData.depthAll, PyData.depth, depth_ints l]; rfl
theorem shaped_ints (l : List Int) : SeqAt.shaped (.list (l.map PyData.int)) = true := by
  unfold SeqAt.shaped
  rw [PyData.canLay0, canLay_ints, PyData.depth, depth_ints]
  rfl
theorem shaped_intsT (l : List Int) : SeqAt.shaped (.tuple (l.map PyData.int)) = true := by
  unfold SeqAt.shaped
  rw [PyData.canLay0, canLay_ints, PyData.depth, depth_ints]
  rfl
theorem dpAll_ints {K : PySem.W.Frag} {H : Hp} : ∀ l : List Int, DpAll K H (l.map V.int) (l.map PyData.int)
  | [] => .nil
  | a :: l => .cons (.int a) (dpAll_ints l)
theorem dp_lst {K : PySem.W.Frag} {H : Hp} {a : Addr} {l : List Int} (h : SqL K H a (l.map V.int)) : Dp K H (.ref a) (.list (l.map PyData.int)) := .lst h (dpAll_ints l)
theorem dp_tup {K : PySem.W.Frag} {H : Hp} {a : Addr} {l : List Int} (h : SqT K H a (l.map V.int)) : Dp K H (.ref a) (.tuple (l.map PyData.int)) := .tup h (dpAll_ints l)
theorem hu64 {k : Nat} {A : Around} (hr : Room k A) : A.units + 64 < cLine := by
  have := hr.un
  omega
theorem item_int {l : List Int} {i : Nat} {y : V} (h : (l.map V.int)[i]? = some y) : ∃ z : Int, y = .int z ∧ l[i]? = some z := by
  rw [List.getElem?_map] at h
  cases e : l[i]? with
  | none =>
    rw [e] at h
    cases h
  | some z =>
    rw [e] at h
    exact ⟨z, (Option.some.inj h).symm, rfl⟩
/-! set(xs) of a list of ints; the walk of the list, as for a tuple -/
/-- the empty set as it is made -/
def set0 (w : World) : Obj := { cls := .type "set", dict := none, data := .set #[] 0 (.fresh 0 0 (!w.params.followText "set-order")) }
open PySem.Calls in
theorem set_of_list {P : Program} {w : World} {A : Around} {E : Value → Shared → Prop} {s : Shared} {l : Addr} {items : Array Value} (ns : List Int) {Q : Value → Shared → Prop} (hh : A.handled = none)
    (hl : s.heap.IsList l items) (hit : IntsAre items.toList ns) (hb : ns.length + 1 < scanBound)
    (h : ∀ (h' : Heap) (tk c : Nat), SetR w h' s.heap.objs.size (fun j => decide (j ∈ ns)) c → c ≤ ns.length → (∀ b o, s.heap.get? b = some o → h'.get? b = some o) →
      Q (.ref s.heap.objs.size) { s with heap := h', toks := tk }) :
    wpAny (model P w) A (call (.type "set") [.ref l]) Q E s := by
  have size_eq : items.size = ns.length := by
    have z := IntsAre.length hit
    rwa [Array.length_toList] at z
  obtain ⟨c, tl, hmro⟩ := F.called_set.mro
  have made_set := F.called_set.made
  have sub_set := F.called_set.sub
  refine wpAny_call (codeAny_of_tree ?_)
  show wpAny _ _ (callAny (.type "set") _) _ _ _
  refine wpAny_pure ⟨Code.quiet_builtin _ (by decide +kernel), codeAny_builtin F.entry_type_call ?_⟩
  rw [Around.under_plain (weight_type_call_type "set" [.ref l] []) rfl]
  have not_type := F.called_set.notType
  have can_create := F.called_set.canCreate
  have type_call := F.typeCall_set_1 (.ref l)
  repeat (any_goals (first | assumption | wp_step))
  refine codeAny_mono (code_set_led1 (.ref l) (E := E) (Q₁ := fun obj st => obj = .ref s.heap.objs.size ∧ st = { s with heap := s.heap.push (set0 w) }) ⟨rfl, rfl⟩) fun r st hr => ?_
  cases r with
  | error e => exact hr
  | ok fl =>
    cases fl with
    | ret obj =>
      obtain ⟨rfl, rfl⟩ := hr
      have at_set : (s.heap.push (set0 w)).get? s.heap.objs.size = some (set0 w) := Heap.get?_push_size _ rfl
      have is_set : Shared.TypeIs { s with heap := s.heap.push (set0 w) } (.ref s.heap.objs.size) "set" := ⟨_, at_set, rfl⟩
      have init_look := F.called_set.init.lookup
      have init_bind := F.called_set.init.bind (.ref s.heap.objs.size)
      repeat (any_goals (first | assumption | wp_step))
      refine codeAny_mono (codeAny_call_builtin (R := wants (fun r t => r = .none ∧ ∃ h' tk c, t = { s with heap := h', toks := tk } ∧ SetR w h' s.heap.objs.size (fun j => decide (j ∈ ns)) c ∧
        c ≤ ns.length ∧ (∀ b o, s.heap.get? b = some o → h'.get? b = some o)) E) F.called_set.init.plain F.entry_set_init (check_set_init_1 is_set ?_)) fun r₂ s₂ hr₂ => ?_
      · obtain ⟨ol, hol, hcl, nl, hdl⟩ := hl
        obtain ⟨ocls, odict, odata, oslots⟩ := ol
        simp only at hcl hdl
        subst hcl
        subst hdl
        have hol' : (s.heap.push (set0 w)).get? l = some { cls := .type "list", dict := odict, data := .seq items nl, slots := oslots } := Heap.get?_push_of_some _ hol
        have no_set := F.sub_list_set
        have no_frozen := F.sub_list_frozenset
        have no_dict : (Value.type "list" == Value.type "dict") = false := by decide
        have list1 : (s.heap.push (set0 w)).IsList l items := ⟨_, hol', rfl, nl, rfl⟩
        unfold Builtin.«set.__init__» noKeywords Builtin.Frozenset.updateFrom
        generalize iter_is : pyIter = PI
        wp_walk
        subst iter_is
        refine wpAny_pyIter_list list1 ?_
        refine wpAny_bind (wpAny_runValue ?_)
        have l_old : l < s.heap.objs.size := Heap.lt_size hol
        have calm3 : A.in1.in1.in1.handled = none := by simp [hh]
        have next_is : (s.heap.push (set0 w)).objs.size = s.heap.objs.size + 1 := Heap.size_push ..
        have l_ne : l ≠ (s.heap.push (set0 w)).objs.size := by
          rw [next_is]
          exact Nat.ne_of_lt (Nat.lt_succ_of_lt l_old)
        have off : s.heap.objs.size ∉ [(s.heap.push (set0 w)).objs.size, l] := by
          rw [next_is]
          simp only [List.mem_cons, List.not_mem_nil, or_false, not_or]
          exact ⟨Nat.ne_of_lt (Nat.lt_succ_self _), Nat.ne_of_gt l_old⟩
        have vals : ∀ (i : Nat) (v : Value), items[i]? = some v → ∃ k t, ns[i]? = some k ∧ v = .int k t := fun i v hv => by
          have lt : i < ns.length := by
            rw [← size_eq]
            exact (Array.getElem?_eq_some_iff.mp hv).1
          obtain ⟨t, e⟩ := IntsAre.int_at hit i v (by rw [Array.getElem?_toList]; exact hv)
          refine ⟨ns[i], t, List.getElem?_eq_getElem lt, ?_⟩
          rw [e, List.getD_eq_getElem?_getD, List.getElem?_eq_getElem lt] <;> rfl
        refine set_update_ints ((Walks.list calm3 _ l l_ne items).toS) s.heap.objs.size off ns size_eq hb vals (items.size - 0) 0 _ (by omega) (Nat.zero_le _) ⟨⟨_, Heap.get?_push_size _ rfl, rfl, rfl⟩, (list1.push _)⟩ ?start ?done
        case start =>
          refine ⟨0, Nat.le_refl 0, setR_new_at ?_⟩
          exact Heap.get?_push_of_some _ at_set
        case done =>
          intro s' c' hm hc' hS'
          obtain ⟨h', g2, d', tk', os'⟩ := s'
          have eg : g2 = s.gens := hm.gens
          have ed : d' = s.drawn := hm.drawn
          have eo : os' = s.os := hm.os
          subst eg
          subst ed
          subst eo
          show wpAny _ _ _ _ _ _
          refine wpAny_pure ?_
          show wpAny _ _ (ret Value.none) _ _ _
          rw [size_eq] at hc'
          refine wpAny_pure ⟨rfl, h', tk', c', rfl, hS', hc', fun b o e => ?_⟩
          have old := Heap.lt_size e
          refine hm.heap b o ?_ (Heap.get?_push_of_some _ (Heap.get?_push_of_some _ e))
          rw [next_is]
          simp only [List.mem_cons, List.not_mem_nil, or_false, not_or]
          exact ⟨Nat.ne_of_lt old, Nat.ne_of_lt (Nat.lt_succ_of_lt old)⟩
      · cases r₂ with
        | error e => exact hr₂
        | ok fl₂ =>
          cases fl₂ with
          | ret r =>
            obtain ⟨rfl, h', tk, c', rfl, hS', hc', hk'⟩ := hr₂
            repeat (any_goals (first | assumption | wp_step))
            exact h _ _ _ hS' hc' hk'
          | _ => exact hr₂.elim
    | _ => exact hr.elim
/-- set(xs): xs a list or a tuple of ints -/
def rSetInts (K : PySem.W.Frag) (w : World) : List V → Hp → VK → Prop := fun xs H Q => ∃ (a : Addr) (ns : List Int), xs = [.ref a] ∧ (SqL K H a (ns.map V.int) ∨ SqT K H a (ns.map V.int)) ∧ ns.length ≤ 1000 ∧
  ∀ p c, H p = none → c ≤ ns.length → Q (.ref p) (upd H p (SetO w p (fun j => decide (j ∈ ns)) c))
theorem cr_setInts {X : Cx} (hc : X.calm = true) : CallR X (.type "set") (rSetInts X.K X.w) := by
  intro pins s σ H vs us Q I r h
  obtain ⟨a, ns, rfl, hq, hl, q⟩ := h
  cases r with
  | cons r1 r2 =>
    cases r2
    cases r1
    have few : ns.length + 1 < scanBound := by unfold scanBound; omega
    have fresh : H s.heap.objs.size = none := I.hok.fresh (Nat.le_refl _)
    have fin : ∀ (h' : Heap) (tk c : Nat), SetR X.w h' s.heap.objs.size (fun j => decide (j ∈ ns)) c → c ≤ ns.length → (∀ b o, s.heap.get? b = some o → h'.get? b = some o) →
        EP X pins σ Q (.ref s.heap.objs.size) { s with heap := h', toks := tk } := fun h' tk c hS hle keep =>
      ⟨.ref s.heap.objs.size, upd H s.heap.objs.size (SetO X.w s.heap.objs.size (fun j => decide (j ∈ ns)) c), I.laid (t' := tk) keep (Nat.le_refl _) (setO_new hS), rfl, q _ _ fresh hle⟩
    rcases hq with hq | hq
    · obtain ⟨its, r, pl, hz⟩ := I.list hq
      exact set_of_list ns (I.ok.hd hc) pl.isList (by simpa using RZ.intsAre_vals r) few fin
    · obtain ⟨its, r, pl, hz⟩ := I.tuple hq
      exact call_set_tupI ns (I.ok.hd hc) pl (by simpa using RZ.intsAre_vals r) few fin
/-! operators of an own class -/
/-- a method of the class at C, by its promise -/
structure Me (P : Program) (w : World) (K : PySem.W.Frag) (mg : Str → Option Value) (base : Heap) (k : Nat) (C : Addr) (m : Str) (sp : Sp) : Prop where
  ex : ∃ (f : Addr) (fd : FuncData) (ps : List Str), Meth K C m f ∧ FnOk P w K mg base CX0 k f fd ps sp ∧ Binds K fd ps []
section
variable {X : Cx} {C : Addr} {m : Str} {sp : Sp} {k j : Nat}
theorem inst_of {pins : List (Addr × Obj)} {σ : L2.St} {H : Hp} {s : Shared} {a dx : Addr} {fs : List (Str × V)} (I : Inv X pins σ H s) (e : H a = some (.ins C dx fs)) : ∃ ox od, PySem.W.InstAt s.heap a ox C od := by
  obtain ⟨mA, O, _⟩ := ins_get I.hok e
  obtain ⟨od, J, _⟩ := O.look
  exact ⟨_, _, J⟩
/-- x op y of two instances -/
def rOwn2 (C : Addr) (sp : Sp) : R2 := fun x y H Q => ∃ a b dx dy fs gs, x = .ref a ∧ y = .ref b ∧ H a = some (.ins C dx fs) ∧ H b = some (.ins C dy gs) ∧ sp [x, y] H Q E0
theorem op_own2 {op : Operator} (c : Me X.prog X.w X.K X.mg X.base k C m sp) (hr : Room j X.A) (sf : PySem.W.selfFirst X.K C = true) (hm : PySem.dunder op.info.2 = m := by decide +kernel) (hk : k ≤ j := by decide) : OpR X (binaryOp op) (rOwn2 C sp) := by
  obtain ⟨f, fd, ps, M, F, b⟩ := c.ex
  intro pins s σ H x y v u Q I rx ry h
  obtain ⟨a, b', dx, dy, fs, gs, rfl, rfl, ha, hb, q⟩ := h
  cases (show v = Value.ref a from rx)
  cases (show u = Value.ref b' from ry)
  obtain ⟨ox, od, J⟩ := inst_of I ha
  obtain ⟨oy, od', J'⟩ := inst_of I hb
  obtain ⟨mm, hF⟩ := I.fr
  refine PySem.W.binop_K hF I.ok.mod.kin J J'.type sf (by rw [hm]; exact M.at_) M.fn ?_
  refine wpAny_mono (run_fn (us := [.ref a, .ref b']) (vs := [.ref a, .ref b']) F (hr.mono hk) b .nil pass0 I (.cons rfl (.cons rfl .nil)) q) (fun u' s' z => ?_) fun _ _ x => x
  obtain ⟨z', H', I', rz, qz⟩ := z
  exact SlX.cmpback rz ⟨z', H', I', rz, qz⟩
/-- op x of an instance -/
def rOwn1 (C : Addr) (sp : Sp) : V → Hp → VK → Prop := fun x H Q => ∃ a dx fs, x = .ref a ∧ H a = some (.ins C dx fs) ∧ sp [x] H Q E0
theorem un_inv1 (c : Me X.prog X.w X.K X.mg X.base k C "__invert__" sp) (hr : Room j X.A) (hk : k ≤ j := by decide) : UnR X (unaryOp .Invert) (rOwn1 C sp) := by
  obtain ⟨f, fd, ps, M, F, b⟩ := c.ex
  intro pins s σ H x v Q I rx h
  obtain ⟨a, dx, fs, rfl, ha, q⟩ := h
  cases (show v = Value.ref a from rx)
  obtain ⟨ox, od, J⟩ := inst_of I ha
  obtain ⟨mm, hF⟩ := I.fr
  exact PySem.W.ksp_inv hF I.ok.mod.kin J M.at_ M.fn (run_fn (us := [.ref a]) (vs := [.ref a]) F (hr.mono hk) b .nil pass0 I (.cons rfl .nil) q)
theorem un_neg1 (c : Me X.prog X.w X.K X.mg X.base k C "__neg__" sp) (hr : Room j X.A) (hk : k ≤ j := by decide) : UnR X (unaryOp .USub) (rOwn1 C sp) := by
  obtain ⟨f, fd, ps, M, F, b⟩ := c.ex
  intro pins s σ H x v Q I rx h
  obtain ⟨a, dx, fs, rfl, ha, q⟩ := h
  cases (show v = Value.ref a from rx)
  obtain ⟨ox, od, J⟩ := inst_of I ha
  obtain ⟨mm, hF⟩ := I.fr
  exact PySem.W.ksp_neg hF I.ok.mod.kin J M.at_ M.fn (run_fn (us := [.ref a]) (vs := [.ref a]) F (hr.mono hk) b .nil pass0 I (.cons rfl .nil) q)
/-- x in y, y an instance: the answer a bool -/
def rOwnIn (neg : Bool) (C : Addr) (sp : Sp) : R2 := fun x y H Q => ∃ b dx fs, y = .ref b ∧ H b = some (.ins C dx fs) ∧ sp [y, x] H (fun v H' => ∃ c : Bool, v = .bl c ∧ Q (.bl (if neg then !c else c)) H') E0
theorem op_in_own (c : Me X.prog X.w X.K X.mg X.base k C "__contains__" sp) (hr : Room j X.A) (hk : k ≤ j := by decide) : OpR X (compareOp .In) (rOwnIn false C sp) := by
  obtain ⟨f, fd, ps, M, F, b⟩ := c.ex
  intro pins s σ H x y v u Q I rx ry h
  obtain ⟨a, dx, fs, rfl, ha, q⟩ := h
  cases (show u = Value.ref a from ry)
  obtain ⟨ox, od, J⟩ := inst_of I ha
  obtain ⟨mm, hF⟩ := I.fr
  refine PySem.W.in_K hF I.ok.mod.kin J M.at_ M.fn (wpAny_mono (run_fn (us := [.ref a, v]) (vs := [.ref a, x]) F (hr.mono hk) b .nil pass0 I (.cons rfl (.cons rx .nil)) q) (fun u' s' z => ?_) fun _ _ x => x)
  obtain ⟨z', H', I', rz, d, ez, qz⟩ := z
  subst ez
  cases (show u' = Value.bool d from rz)
  exact wpAny_truthy_bool ⟨.bl d, H', I', rfl, qz⟩
theorem op_notIn_own (c : Me X.prog X.w X.K X.mg X.base k C "__contains__" sp) (hr : Room j X.A) (hk : k ≤ j := by decide) : OpR X (compareOp .NotIn) (rOwnIn true C sp) := by
  obtain ⟨f, fd, ps, M, F, b⟩ := c.ex
  intro pins s σ H x y v u Q I rx ry h
  obtain ⟨a, dx, fs, rfl, ha, q⟩ := h
  cases (show u = Value.ref a from ry)
  obtain ⟨ox, od, J⟩ := inst_of I ha
  obtain ⟨mm, hF⟩ := I.fr
  refine PySem.W.notIn_K hF I.ok.mod.kin J M.at_ M.fn (wpAny_mono (run_fn (us := [.ref a, v]) (vs := [.ref a, x]) F (hr.mono hk) b .nil pass0 I (.cons rfl (.cons rx .nil)) q) (fun u' s' z => ?_) fun _ _ x => x)
  obtain ⟨z', H', I', rz, d, ez, qz⟩ := z
  subst ez
  cases (show u' = Value.bool d from rz)
  exact wpAny_truthy_bool ⟨.bl (!d), H', I', rfl, qz⟩
/-- x == y of two instances -/
theorem op_eq_own (c : Me X.prog X.w X.K X.mg X.base k C "__eq__" sp) (hr : Room j X.A) (hk : k ≤ j := by decide) : OpR X (compareOp .Eq) (rOwn2 C sp) := by
  obtain ⟨f, fd, ps, M, F, b⟩ := c.ex
  intro pins s σ H x y v u Q I rx ry h
  obtain ⟨a, b', dx, dy, fs, gs, rfl, rfl, ha, hb, q⟩ := h
  cases (show v = Value.ref a from rx)
  cases (show u = Value.ref b' from ry)
  obtain ⟨ox, od, J⟩ := inst_of I ha
  obtain ⟨oy, od', J'⟩ := inst_of I hb
  obtain ⟨mm, hF⟩ := I.fr
  show wpAny _ _ (richCompare .Eq (.ref a) (.ref b')) _ _ _
  refine PySem.W.cmp_K (op := .Eq) (tb := .ref C) hr.units0 hF I.ok.mod.kin J J'.type (by unfold PySem.W.notFirst; simp) M.at_ M.fn ?_
  refine wpAny_mono (run_fn (us := [.ref a, .ref b']) (vs := [.ref a, .ref b']) F (hr.mono hk) b .nil pass0 I (.cons rfl (.cons rfl .nil)) q) (fun u' s' z => ?_) fun _ _ x => x
  obtain ⟨z', H', I', rz, qz⟩ := z
  exact SlX.cmpback rz ⟨z', H', I', rz, qz⟩
/-- the truth of an instance, by its __bool__ -/
def rTruOwn (C : Addr) (sp : Sp) : V → Hp → (Bool → Hp → Prop) → Prop := fun x H Q => ∃ a dx fs, x = .ref a ∧ H a = some (.ins C dx fs) ∧ sp [x] H (fun v H' => ∃ c : Bool, v = .bl c ∧ Q c H') E0
theorem tru_own (c : Me X.prog X.w X.K X.mg X.base k C "__bool__" sp) (hr : Room j X.A) (hk : k ≤ j := by decide) : TruR X (rTruOwn C sp) := by
  obtain ⟨f, fd, ps, M, F, b⟩ := c.ex
  intro pins s σ H x v Q I rx h
  obtain ⟨a, dx, fs, rfl, ha, q⟩ := h
  cases (show v = Value.ref a from rx)
  obtain ⟨ox, od, J⟩ := inst_of I ha
  obtain ⟨mm, hF⟩ := I.fr
  refine PySem.W.truthy_K hF I.ok.mod.kin J M.at_ M.fn (wpAny_mono (run_fn (us := [.ref a]) (vs := [.ref a]) F (hr.mono hk) b .nil pass0 I (.cons rfl .nil) q) (fun u' s' z => ?_) fun _ _ x => x)
  obtain ⟨z', H', I', rz, d, ez, qz⟩ := z
  subst ez
  cases (show u' = Value.bool d from rz)
  exact ⟨H', I', qz⟩
end
/-- a class that makes instances, its __init__ by its promise (it may raise, and here doesn't) -/
structure Ma (P : Program) (w : World) (K : PySem.W.Frag) (mg : Str → Option Value) (base : Heap) (k : Nat) (C : Addr) (sp : Sp) : Prop where
  ex : ∃ (f : Addr) (fd : FuncData) (ps : List Str), Mk K C f ∧ FnOk P w K mg base (L2N.CX P w) k f fd ps sp ∧ Binds K fd ps []
section
variable {X : Cx} {C : Addr} {x : Str} {sp : Sp} {k j i : Nat} {p pos : Pos} {e : Expr} {es : List Expr} {t : TA}
theorem pe_ma (c : Ma X.prog X.w X.K X.mg X.base k C sp) (hr : Room j X.A) (hm : X.mg x = some (.ref C)) (ha : PA X (e :: es) t) (hk : k + 1 ≤ j := by decide) (hg : Gl X x := by rfl)
    (hdb : (x == ("__debug__" : Str)) = false := by decide) (he : starEach (e :: es) X.env = (false, eval e X.env) :: starEach es X.env := by rfl) (hpl : (backTo pos (starEach es X.env)).any (·.1) = false := by rfl) :
    PE X (.Call (.Name x p) (e :: es) [] pos) (tMake C sp [] E0 t) := by
  obtain ⟨f, fd, ps, M, F, b⟩ := c.ex
  exact pe_make M F (hr.mono hk) hg hm b .nil passN ha hdb he hpl
/-- cls(..), cls a parameter that holds the class -/
def tMakeL (i : Nat) (C : Addr) (sp : Sp) (t : TA) : TE := fun σ H Q => σ[i]? = some (some (.ref C)) ∧ tMake C sp [] E0 t σ H Q
theorem pe_maL (c : Ma X.prog X.w X.K X.mg X.base k C sp) (hr : Room j X.A) (hN : X.N[i]? = some x) (ha : PA X (e :: es) t) (hk : k + 1 ≤ j := by decide)
    (hv : Vis X.env.scope x := by first | exact Or.inl rfl | exact Or.inr (Or.inl rfl) | exact Or.inr (Or.inr rfl))
    (hdb : (x == ("__debug__" : Str)) = false := by decide) (hcd : (x == ("__classdict__" : Str)) = false := by decide)
    (he : starEach (e :: es) X.env = (false, eval e X.env) :: starEach es X.env := by rfl) (hpl : (backTo pos (starEach es X.env)).any (·.1) = false := by rfl) :
    PE X (.Call (.Name x p) (e :: es) [] pos) (tMakeL i C sp t) := by
  obtain ⟨f, fd, ps, M, F, b⟩ := c.ex
  refine ⟨fun pins s σ H Q I h => ?_⟩
  obtain ⟨at_i, rest⟩ := h
  refine wpAny_Call_Name_kw (thn ((pe_var (pos := p) hN hv hdb hcd).run pins s σ H (fun v G => v = .ref C ∧ G = H) I ⟨.ref C, at_i, rfl, rfl⟩) fun u s1 ⟨v, G, I1, r1, e1, e2⟩ => ?_)
  subst e1
  subst e2
  cases r1
  refine PySem.W.callWith_K (h₀ := X.base) I.ok.mod.kin M.kp (thn (ha.run pos pins s1 σ _ _ I1 rest) fun us s2 ⟨vs, G2, I2, r, q⟩ => ⟨I2.kIn, ?_⟩) he hpl
  exact run_make M F (hr.mono hk) b .nil passN I2 r q
end
/-- a call of a classmethod without arguments -/
structure Cm (P : Program) (w : World) (K : PySem.W.Frag) (mg : Str → Option Value) (base : Heap) (k : Nat) (C : Addr) (m : Str) (sp : Sp) : Prop where
  ex : ∃ (mc : Value) (p g : Addr) (fd : FuncData) (ps : List Str), ClX.CRead K C mc ∧ ClX.CMet K C mc m p g ∧ FnOk P w K mg base CX0 k g fd ps sp ∧ Binds K fd ps []
theorem fnR_of {P : Program} {w : World} {K : PySem.W.Frag} {mg : Str → Option Value} {base : Heap} {CX : CXT} {k : Nat} {f : Addr} {fd : FuncData} {ps : List Str} {sp : Sp} (F : FnOk P w K mg base CX k f fd ps sp) (b : Binds K fd ps []) : FnR P w K mg base CX k f sp :=
  fun A outer s H us vs Q E hr e0 r h => by
    have hl : us.length = ps.length := by
      rw [← r.length]
      exact F.len _ _ _ _ h
    have z := b s us (e0.mod.kin.keeps fun b o e => (e0.bs b o e).1) (by rw [List.append_nil]; exact hl)
    rw [List.append_nil] at z
    exact F.run A outer s H ⟨us, []⟩ us vs Q E hr e0 z r h
theorem pe_cm {X : Cx} {C : Addr} {m : Str} {sp : Sp} {k j : Nat} {o e : Expr} {es : List Expr} {ta : TE} {t : TA} {apos pos : Pos} {pl : Sem Bool} (c : Cm X.prog X.w X.K X.mg X.base k C m sp) (hr : Room j X.A) (he : PE X o ta) (ha : PA X (e :: es) t) (hk : k ≤ j := by decide)
    (hst : starEach (e :: es) X.env = (false, eval e X.env) :: starEach es X.env := by rfl) (hpl : (backTo pos (starEach es X.env)).any (·.1) = false := by rfl)
    (ht : eval (.Call (.Attribute o m apos) (e :: es) [] pos) X.env = (do
      let got ← eval o X.env
      standAt apos.atName
      let (fn, fst) ← holding [got] (getMethod got m pl)
      callWith pos fn fst (backTo pos (starEach (e :: es) X.env)) (backToKw pos (keywordEach [] X.env))) := by rfl) :
    PE X (.Call (.Attribute o m apos) (e :: es) [] pos) (ClX.tCMeth C sp E0 ta t) := by
  obtain ⟨mc, p, g, fd, ps, r, c, F, b⟩ := c.ex
  exact ClX.pe_cmeth he r c (fnR_of F b) (hr.mono hk) pass0 ha hst hpl ht
theorem pe_cm0 {X : Cx} {C : Addr} {m : Str} {sp : Sp} {k j : Nat} {o : Expr} {ta : TE} {apos pos : Pos} {pl : Sem Bool} (c : Cm X.prog X.w X.K X.mg X.base k C m sp) (hr : Room j X.A) (he : PE X o ta) (hk : k ≤ j := by decide)
    (ht : eval (.Call (.Attribute o m apos) [] [] pos) X.env = (do
      let got ← eval o X.env
      standAt apos.atName
      let (fn, fst) ← holding [got] (getMethod got m pl)
      callWith pos fn fst (backTo pos (starEach [] X.env)) (backToKw pos (keywordEach [] X.env))) := by rfl) :
    PE X (.Call (.Attribute o m apos) [] [] pos) (ClX.tCMeth C sp E0 ta tNil) := by
  obtain ⟨mc, p, g, fd, ps, r, c, F, b⟩ := c.ex
  refine ⟨fun pins s σ H Q I h => ?_⟩
  refine PySem.W.methodCall_KW (pl := pl) (thn (he.run pins s σ H _ I h) fun u s1 ⟨x, H1, I1, rx, ex, q⟩ => ?_) ht
  subst ex
  obtain rfl : u = Value.ref C := rx
  have notin : X.base.get? s1.heap.objs.size = none := by
    cases z : X.base.get? s1.heap.objs.size with
    | none => rfl
    | some o => exact absurd (Heap.lt_size (I1.bk _ o z)) (Nat.lt_irrefl _)
  refine ClX.getmethcm_ok I1 r c fun s2 I2 => ?_
  have hq := ClX.pin_at I2
  have hL : s1.heap.objs.size ≠ X.env.locals := (I2.pin (s1.heap.objs.size, PySem.W.methodObj (.ref g) (.ref C)) (List.mem_append_right _ List.mem_cons_self)).2.2.1
  show wpAny _ _ (callWith pos (Value.ref s1.heap.objs.size) [] (backTo pos (starEach [] X.env)) []) _ _ _
  refine PySem.W.callWith_M0 (K := X.K) (g := g) (self := .ref C) ?_ c.fi ?_
  · exact ⟨hq, I2.kIn⟩
  · have z := ClX.run_cm (us := []) (vs := []) (fnR_of F b) (hr.mono hk) pass0 I2 .nil q
    exact z
open PySem.Sem (wp) in
theorem meets_bool_tup (l : Addr) (items : Array Value) (fit : (items.size : Int) < 2 ^ 63) :
    Meets (Builtin.«bool.__new__» ⟨[.type "bool", .ref l], []⟩) (fun _ R s => IsTup s.heap l items ∧ R (.ok (.ret (.bool (!items.isEmpty)))) { s with toks := s.toks + 1 + 1 }) :=
  Meets.of_wp fun prog w A R s hs => by
    obtain ⟨hl, hs⟩ := hs
    obtain ⟨hp, g, d, tk, os⟩ := s
    have no_bool := F.conv_sub_bool
    repeat (any_goals (first | assumption | (with_reducible refine truthy_tuple hl fit ?_) | wp_step))
    all_goals first | exact ⟨_, rfl, hs⟩ | exact hs | skip
/-- bool(x): a bool, or a tuple -/
def rBoolT (K : PySem.W.Frag) : List V → Hp → VK → Prop := fun xs H Q => (∃ k, xs = [.bl k] ∧ Q (.bl k) H) ∨ ∃ (a : Addr) (zs : List V), xs = [.ref a] ∧ SqT K H a zs ∧ Q (.bl (!zs.isEmpty)) H
theorem cr_boolT {X : Cx} : CallR X (.type "bool") (rBoolT X.K) := by
  intro pins s σ H xs us Q I r h
  rcases h with ⟨k, rfl, q⟩ | ⟨a, zs, rfl, hq, q⟩
  · exact call_bool1 pins s σ H _ us Q I r (.inr ⟨k, rfl, q⟩)
  · obtain rfl := Vals.ref1 r
    obtain ⟨its, rv, pl, hz⟩ := I.tuple hq
    have hl := line63
    have hlen := rv.length
    have e : its.toArray.isEmpty = zs.isEmpty := by
      cases zs with
      | nil =>
        cases rv
        rfl
      | cons z zs =>
        cases rv
        rfl
    refine call_bool_1 (meets_bool_tup a its.toArray (by simp only [List.size_toArray]; omega)) ⟨pl, rfl, ?_⟩
    exact ⟨.bl (!zs.isEmpty), H, I.tok _, by rw [e]; rfl, q⟩
theorem chE : ¬ (("endless" : Str) = "primes") := by decide +kernel
/-- the attributes, in the order in which __init__ stores them -/
def chF (e : Bool) (t : Addr) : List (Str × V) := putF "primes" (.ref t) (putF "endless" (.bl e) [])
theorem chF_e (e : Bool) (t : Addr) : (chF e t).lookup ("endless" : Str) = some (.bl e) := by
  unfold chF
  rw [lookup_putF, if_neg chE, lookup_putF, if_pos rfl]
theorem chF_p (e : Bool) (t : Addr) : (chF e t).lookup ("primes" : Str) = some (.ref t) := by
  unfold chF
  rw [lookup_putF, if_pos rfl]
theorem chF_no (e : Bool) (t : Addr) {m : Str} (h1 : ¬ m = "primes") (h2 : ¬ m = "endless") : (chF e t).lookup m = none := by
  unfold chF
  rw [lookup_putF, if_neg h1, lookup_putF, if_neg h2]
  all_goals rfl
/-- a set of characteristics stands at a -/
structure CharsAt (C : Addr) (H : Hp) (a : Addr) (e : Bool) (l : List Int) : Prop where
  ob : ∃ dx t, H a = some (.ins C dx (chF e t)) ∧ H t = some (.tup (l.map V.int))
  srt : l.Pairwise (· < ·)
  prm : ∀ q ∈ l, Pr q ∧ q < 2 ^ 62
theorem CharsAt.same {C : Addr} {H H' : Hp} {a : Addr} {e : Bool} {l : List Int} (h : CharsAt C H a e l) (s : Same H H') : CharsAt C H' a e l := by
  obtain ⟨dx, t, h1, h2⟩ := h.ob
  exact ⟨⟨dx, t, s _ _ h1, s _ _ h2⟩, h.srt, h.prm⟩
/-- is p in the set -/
def memB (e : Bool) (l : List Int) (p : Int) : Bool := if e = true then !decide (p ∈ l) else decide (p ∈ l)
/-- what is told of the class -/
structure ChT (K : PySem.W.Frag) (mg : Str → Option Value) (C : Addr) : Prop where
  g : mg "Chars" = some (.ref C)
  cl : Cls K C
  nE : NoAttr K C "endless"
  nP : NoAttr K C "primes"
  sf : PySem.W.selfFirst K C = true
  isC : C8.InsC K C
abbrev s_cinit : Stmt := inClass (top 14) 0
theorem sc_cinit : FnScope ["self", "endless", "primes", "p"] ["self", "endless", "primes"] (defScope s_cinit) := ⟨rfl, rfl, rfl, by decide +kernel, rfl, by decide +kernel, by decide +kernel⟩
def spCI (C CB : Addr) (tup : Bool) (K : PySem.W.Frag) : Sp := fun vs H Q E => ∃ (x dx a : Addr) (e : Bool) (ns : List Int), vs = [.ref x, .bl e, .ref a] ∧ H x = some (.ins C dx []) ∧ (if tup = true then SqT K H a (ns.map V.int) else SqL K H a (ns.map V.int)) ∧
  (∀ q ∈ ns, q < 2 ^ 62) ∧ ns.length < 64 ∧
  ((∀ q ∈ ns, Pr q) → ∀ (l : List Int) (H' : Hp), (∀ q, q ∈ l ↔ q ∈ ns) → l.length ≤ ns.length → CharsAt C H' x e l → (∀ b o, H b = some o → b ≠ x → H' b = some o) → Q .non H') ∧
  (∀ (i : Nat) (b : Int), ns[i]? = some b → ¬ Pr b → (∀ (j : Nat) (q : Int), j < i → ns[j]? = some q → Pr q) → ∀ d H', Same H H' → H' d = some (.xd [("p", .int b)]) → E (.ref CB) (some d) H')
theorem cinit_end {C CB : Addr} {mg : Str → Option Value} {K : PySem.W.Frag} (T : ChT K mg C) {H : Hp} {x dx a : Addr} {e : Bool} {ns : List Int} {Q : VK} {y3 : Option V} (hx : H x = some (.ins C dx [])) (hS : SqL K H a (ns.map V.int) ∨ SqT K H a (ns.map V.int)) (few : ns.length < 64) (hp : ∀ q ∈ ns, Pr q ∧ q < 2 ^ 62)
    (q : ∀ (l : List Int) (H' : Hp), (∀ q, q ∈ l ↔ q ∈ ns) → l.length ≤ ns.length → CharsAt C H' x e l → (∀ b o, H b = some o → b ≠ x → H' b = some o) → Q .non H') :
    tSeq (sFld K (tVar 0) (tVar 1) "endless") (sFld K (tVar 0) (tThen (tCB (rSortedSet w) (tCons (tCB (rSetInts K w) (tCons (tVar 2) tNil)) tNil)) (kTup K)) "primes") { nx := fun _ H' => Q .non H', rt := Q } [some (.ref x), some (.bl e), some (.ref a), y3] H := by
  have hxa : x ≠ a ∨ True := .inr trivial
  refine ⟨_, rfl, _, rfl, x, C, dx, [], rfl, hx, T.cl, T.nE, (by show 0 < 1000; decide), ?_⟩
  have hS1 : SqL K (upd H x (.ins C dx (putF "endless" (.bl e) []))) a (ns.map V.int) ∨ SqT K (upd H x (.ins C dx (putF "endless" (.bl e) []))) a (ns.map V.int) := by
    rcases hS with h | h
    · refine .inl ?_
      rcases h with h | h
      · rcases h with h | ⟨o, h⟩
        · exact .inl (.inl (by rw [upd_ne (fun z => by rw [z, hx] at h; cases h)]; exact h))
        · exact .inl (.inr ⟨o, by rw [upd_ne (fun z => by rw [z, hx] at h; cases h)]; exact h⟩)
      · exact .inr h
    · refine .inr ?_
      rcases h with h | h
      · rcases h with h | ⟨o, h⟩
        · exact .inl (.inl (by rw [upd_ne (fun z => by rw [z, hx] at h; cases h)]; exact h))
        · exact .inl (.inr ⟨o, by rw [upd_ne (fun z => by rw [z, hx] at h; cases h)]; exact h⟩)
      · exact .inr h
  refine ⟨_, rfl, a, ns, rfl, hS1, (by omega), fun p c np hc => ?_⟩
  refine ⟨p, _, c, rfl, upd_same, (by omega), fun l p2 srt mem len np2 => ?_⟩
  have npx : p ≠ x := fun z => by
    rw [z, upd_same] at np
    cases np
  refine .inl ⟨p2, _, rfl, SqL.of upd_same, fun t nt => ?_⟩
  have g1 := same_upd (o := SetO w p (fun j => decide (j ∈ ns)) c) np
  have g2 := same_upd (o := .lst (l.map V.int)) np2
  have g3 := same_upd (o := .tup (l.map V.int)) nt
  have hx3 := g3 _ _ (g2 _ _ (g1 _ _ (upd_same (H := H) (a := x) (o := .ins C dx (putF "endless" (.bl e) [])))))
  refine ⟨_, rfl, x, C, dx, _, rfl, hx3, T.cl, T.nP, (by show 1 < 1000; decide), ?_⟩
  have ntx : t ≠ x := fun z => by
    rw [z] at nt
    rw [g2 _ _ (g1 _ _ (upd_same (H := H) (a := x) (o := .ins C dx (putF "endless" (.bl e) []))))] at nt
    cases nt
  refine q l _ (fun z => by rw [mem z]; exact decide_eq_true_iff) (by omega) ⟨⟨dx, t, upd_same, by rw [upd_ne ntx]; exact upd_same⟩, srt, fun z hz => hp z (of_decide_eq_true ((mem z).mp hz))⟩ fun b o hb hbx => ?_
  rw [upd_ne hbx]
  refine g3 _ _ (g2 _ _ (g1 _ _ ?_))
  rw [upd_ne hbx]
  exact hb
theorem ok_cinit {f C CB : Addr} {fd : FuncData} (tup : Bool) (TT : Txt mg) (T : ChT K mg C) (F : Fun K "__init__" "Chars.__init__" s_cinit f fd) (c_prime : Cl P w K mg base CX0 2 "is_prime" spPrime) (x_bc : Er P w K mg base "BadCharacteristic" "p" CB) : FnOk P w K mg base (L2N.CX P w) 3 f fd ["self", "endless", "primes"] (spCI C CB tup K) := by
  refine okN F sc_cinit (fun vs H Q E h => ?_) (fun cdv A outer s H vs Q E hr h => ?_)
  · obtain ⟨x, dx, a, e, ns, rfl, _⟩ := h
    rfl
  · obtain ⟨x, dx, a, e, ns, rfl, hx, hS, hb, few, q, qe⟩ := h
    have turn : ∀ (i : Nat) (y : V), (ns.map V.int)[i]? = some y → ∃ z : Int, y = .int z ∧ ns[i]? = some z ∧ z < 2 ^ 62 := fun i y hi => by
      rw [List.getElem?_map] at hi
      cases e : ns[i]? with
      | none =>
        rw [e] at hi
        cases hi
      | some z =>
        rw [e] at hi
        exact ⟨z, (Option.some.inj hi).symm, rfl, hb z (List.mem_of_getElem? e)⟩
    have all : (∀ (j : Nat) (q : Int), j < (ns.map V.int).length → ns[j]? = some q → Pr q) → ∀ q ∈ ns, Pr q := fun h q hq => by
      obtain ⟨j, hj⟩ := List.mem_iff_getElem?.mp hq
      exact h j q (by rw [List.length_map]; exact (List.getElem?_eq_some_iff.mp hj).1) hj
    cases tup with
    | false =>
      refine ⟨_, (pss_cons (ps_for (passes_of rfl) rfl (pi_list (pv 2)) (pg_name (i := 3) sc_cinit.nd rfl (Or.inl rfl)) (pss_one (ps_if (pt_not (pt_val (pe_cl c_prime hr (pa_cons (pv 3) pa_nil)))) (pss_one (ps_raise1N x_bc hr (L2N.takes_of rfl rfl rfl rfl) (pa_cons (pv 3) pa_nil))) pss_nil)))
 (pss_cons (ps_fld (pv 0) (pv 1) rfl)
 (pss_one (ps_fld (pv 0) (pe_tupleOf (by rfl) TT.tuple (pe_callB (cr_sortedSet rfl) (by rfl) TT.sorted boot_sorted (pa_cons (pe_callTy (cr_setInts rfl) (by rfl) TT.set boot_set (pa_cons (pv 2) pa_nil)) pa_nil))) rfl)))), ?_⟩
      have hS' : SqL K H a (ns.map V.int) := hS
      refine ⟨_, rfl, a, rfl, ⟨_, hS'⟩, for_list (K := K) (a := a) (xs := ns.map V.int) (fun i σ H' => H' = H ∧ (∃ y3, σ = [some (.ref x), some (.bl e), some (.ref a), y3]) ∧ ∀ (j : Nat) (q : Int), j < i → ns[j]? = some q → Pr q)
        ⟨rfl, ⟨none, rfl⟩, fun j q hj => absurd hj (Nat.not_lt_zero j)⟩ (fun i σ H' _ h => by rw [h.1]; exact hS') ?_ ?_⟩
      · rintro i y σ _ hi ⟨rfl, ⟨y3, rfl⟩, hp⟩
        obtain ⟨z, rfl, hz, hzb⟩ := turn i y hi
        refine ⟨_, rfl, z, rfl, hzb, _, rfl, ?_⟩
        by_cases c : Pr z
        · refine if_neg_of (by rw [prB_true c]; rfl) ?_
          refine ⟨rfl, ⟨_, rfl⟩, fun j q hj hq => ?_⟩
          by_cases ej : j = i
          · rw [ej, hz] at hq
            rw [← Option.some.inj hq]
            exact c
          · exact hp j q (by omega) hq
        · refine if_pos_of (by rw [prB_false c]; rfl) ?_
          refine ⟨_, rfl, ?_⟩
          exact mk1 fun d H2 s _ hd => qe i z hz c hp d H2 s hd
      · rintro σ _ ⟨rfl, ⟨y3, rfl⟩, hp⟩
        exact cinit_end (w := w) (CB := CB) T hx (.inl hS') few (fun z hz => ⟨all hp z hz, hb z hz⟩) (q (all hp))
    | true =>
      refine ⟨_, (pss_cons (ps_for (passes_of rfl) rfl (pi_tup (pv 2)) (pg_name (i := 3) sc_cinit.nd rfl (Or.inl rfl)) (pss_one (ps_if (pt_not (pt_val (pe_cl c_prime hr (pa_cons (pv 3) pa_nil)))) (pss_one (ps_raise1N x_bc hr (L2N.takes_of rfl rfl rfl rfl) (pa_cons (pv 3) pa_nil))) pss_nil)))
 (pss_cons (ps_fld (pv 0) (pv 1) rfl)
 (pss_one (ps_fld (pv 0) (pe_tupleOf (by rfl) TT.tuple (pe_callB (cr_sortedSet rfl) (by rfl) TT.sorted boot_sorted (pa_cons (pe_callTy (cr_setInts rfl) (by rfl) TT.set boot_set (pa_cons (pv 2) pa_nil)) pa_nil))) rfl)))), ?_⟩
      have hS' : SqT K H a (ns.map V.int) := hS
      refine ⟨_, rfl, a, rfl, ⟨_, hS'⟩, for_tup (K := K) (a := a) (xs := ns.map V.int) (fun i σ H' => H' = H ∧ (∃ y3, σ = [some (.ref x), some (.bl e), some (.ref a), y3]) ∧ ∀ (j : Nat) (q : Int), j < i → ns[j]? = some q → Pr q)
        ⟨rfl, ⟨none, rfl⟩, fun j q hj => absurd hj (Nat.not_lt_zero j)⟩ (fun i σ H' _ h => by rw [h.1]; exact hS') ?_ ?_⟩
      · rintro i y σ _ hi ⟨rfl, ⟨y3, rfl⟩, hp⟩
        obtain ⟨z, rfl, hz, hzb⟩ := turn i y hi
        refine ⟨_, rfl, z, rfl, hzb, _, rfl, ?_⟩
        by_cases c : Pr z
        · refine if_neg_of (by rw [prB_true c]; rfl) ?_
          refine ⟨rfl, ⟨_, rfl⟩, fun j q hj hq => ?_⟩
          by_cases ej : j = i
          · rw [ej, hz] at hq
            rw [← Option.some.inj hq]
            exact c
          · exact hp j q (by omega) hq
        · refine if_pos_of (by rw [prB_false c]; rfl) ?_
          refine ⟨_, rfl, ?_⟩
          exact mk1 fun d H2 s _ hd => qe i z hz c hp d H2 s hd
      · rintro σ _ ⟨rfl, ⟨y3, rfl⟩, hp⟩
        exact cinit_end (w := w) (CB := CB) T hx (.inr hS') few (fun z hz => ⟨all hp z hz, hb z hz⟩) (q (all hp))
abbrev s_ceq : Stmt := inClass (top 14) 13
theorem sc_ceq : FnScope ["self", "other"] ["self", "other"] (defScope s_ceq) := ⟨rfl, rfl, rfl, by decide +kernel, rfl, by decide +kernel, by decide +kernel⟩
def spCeq (C : Addr) : Sp := fun vs H Q _ => ∃ (a b : Addr) (e1 e2 : Bool) (l1 l2 : List Int), vs = [.ref a, .ref b] ∧ CharsAt C H a e1 l1 ∧ CharsAt C H b e2 l2 ∧ Q (.bl (decide (e1 = e2 ∧ l1 = l2))) H
theorem ok_ceq {f C : Addr} {fd : FuncData} (TT : Txt mg) (T : ChT K mg C) (F : Fun K "__eq__" "Chars.__eq__" s_ceq f fd) : FnOk P w K mg base CX0 1 f fd ["self", "other"] (spCeq C) := by
  refine F.ok sc_ceq (fun vs H Q E h => ?_) (fun cdv A outer s H vs Q E hr h => ?_)
  · obtain ⟨a, b, _, _, _, _, rfl, _⟩ := h
    rfl
  · obtain ⟨a, b, e1, e2, l1, l2, rfl, ch1, ch2, q⟩ := h
    obtain ⟨dx, t, h1, h2⟩ := ch1.ob
    obtain ⟨dy, u, g1, g2⟩ := ch2.ob
    refine ⟨_, (pss_one (ps_ret (pe_and (pe_callB (C8.call_isC T.isC) (by rfl) TT.isinstance boot_isinstance (pa_cons (pv 1) (pa_cons (pe_glob (v := .ref C) (by rfl) T.g rfl) pa_nil))) (pe_and (pe_cmpR op_eq (pe_fld (pv 0) rfl) (pe_fld (pv 1) rfl) (nomark _)) (pe_one (pe_cmpR (op_eqD (hu64 hr)) (pe_fld (pv 0) rfl) (pe_fld (pv 1) rfl) (nomark _))))))), ?_⟩
    refine ⟨_, rfl, b, dy, _, rfl, g1, _, rfl, if_pos_of rfl ?_⟩
    refine ⟨_, rfl, a, C, dx, _, _, rfl, h1, T.cl, T.nE, chF_e _ _, _, rfl, b, C, dy, _, _, rfl, g1, T.cl, T.nE, chF_e _ _, rfl, _, rfl, ?_⟩
    by_cases c : e1 = e2
    · refine if_pos_of (decide_eq_true (by rw [c])) ?_
      refine ⟨_, rfl, a, C, dx, _, _, rfl, h1, T.cl, T.nP, chF_p _ _, _, rfl, b, C, dy, _, _, rfl, g1, T.cl, T.nP, chF_p _ _, _, _, dp_tup (.inl (.inl h2)), dp_tup (.inl (.inl g2)), shaped_intsT _, shaped_intsT _, ?_⟩
      rw [eqv_intsT]
      have z : decide (e1 = e2 ∧ l1 = l2) = decide (l1 = l2) := by simp [c]
      rw [z] at q
      exact q
    · refine if_neg_of (decide_eq_false fun z => c (V.bl.inj z)) ?_
      rw [decide_eq_false fun z => c z.1] at q
      exact q
abbrev s_cbool : Stmt := inClass (top 14) 14
theorem sc_cbool : FnScope ["self"] ["self"] (defScope s_cbool) := ⟨rfl, rfl, rfl, by decide +kernel, rfl, by decide +kernel, by decide +kernel⟩
def spCbool (C : Addr) : Sp := fun vs H Q _ => ∃ (a : Addr) (e : Bool) (l : List Int), vs = [.ref a] ∧ CharsAt C H a e l ∧ Q (.bl (e || !l.isEmpty)) H
theorem ok_cbool {f C : Addr} {fd : FuncData} (TT : Txt mg) (T : ChT K mg C) (F : Fun K "__bool__" "Chars.__bool__" s_cbool f fd) : FnOk P w K mg base CX0 1 f fd ["self"] (spCbool C) := by
  refine F.ok sc_cbool (fun vs H Q E h => ?_) (fun cdv A outer s H vs Q E hr h => ?_)
  · obtain ⟨a, e, l, rfl, _⟩ := h
    rfl
  · obtain ⟨a, e, l, rfl, ch, q⟩ := h
    obtain ⟨dx, t, h1, h2⟩ := ch.ob
    refine ⟨_, (pss_one (ps_ret (pe_callTy cr_boolT (by rfl) TT.bool boot_bool (pa_cons (pe_orT (pe_fld (pv 0) rfl) (pe_one (pe_fld (pv 0) rfl))) pa_nil)))), ?_⟩
    refine ⟨_, rfl, a, C, dx, _, _, rfl, h1, T.cl, T.nE, chF_e _ _, e, rfl, ?_⟩
    cases e with
    | true => exact if_pos_of rfl (.inl ⟨_, rfl, q⟩)
    | false =>
      refine if_neg_of rfl ?_
      refine ⟨_, rfl, a, C, dx, _, _, rfl, h1, T.cl, T.nP, chF_p _ _, .inr ⟨t, _, rfl, .inl (.inl h2), ?_⟩⟩
      have z : (l.map V.int).isEmpty = l.isEmpty := by cases l <;> rfl
      rw [z]
      exact q
/-! bool(x) and x == y, where y is no instance; classmethods by FnR; C(..) in a try -/
section
variable {X : Cx} {C : Addr} {m : Str} {sp : Sp} {k j : Nat}
/-- bool(x) of an instance -/
def rBoolOwn (C : Addr) (sp : Sp) : List V → Hp → VK → Prop := fun xs H Q => ∃ a dx fs, xs = [.ref a] ∧ H a = some (.ins C dx fs) ∧ sp [.ref a] H (fun v H' => ∃ c : Bool, v = .bl c ∧ Q (.bl c) H') E0
theorem new_bool_any {prog : Program} {w : World} (x : Value) : MeetsIn prog w (Builtin.«bool.__new__» ⟨[.type "bool", x], []⟩)
    (fun A R s => wpAny (model prog w) A.in1 (truthy x) (fun b s1 => R (.ok (.ret (.bool b))) s1) (fun e s1 => R (.error e) s1) s) :=
  .of_wp fun A R s h => by
    have no_bool := F.conv_sub_bool
    unfold Builtin.«bool.__new__»
    generalize same : truthy = TX
    wp_walk
    subst same
    refine wpAny_mono h (fun b s1 hR => ?_) fun _ _ z => z
    exact wpAny_pure ⟨_, rfl, hR⟩
theorem cr_boolOwn (c : Me X.prog X.w X.K X.mg X.base k C "__bool__" sp) (hr : Room j X.A) (hk : k + 2 ≤ j := by decide) : CallR X (.type "bool") (rBoolOwn C sp) := by
  obtain ⟨f, fd, ps, M, F, b⟩ := c.ex
  intro pins s σ H xs us Q I r h
  obtain ⟨a, dx, fs, rfl, ha, q⟩ := h
  obtain rfl := Vals.ref1 r
  obtain ⟨ox, od, J⟩ := inst_of I ha
  obtain ⟨mm, hF⟩ := I.fr
  have many : ([Value.ref a] : List Value).length = ps.length := F.len [.ref a] _ _ _ q
  have bound := b s [.ref a] I.kIn (by rw [List.append_nil]; exact many)
  rw [List.append_nil] at bound
  refine callType_newIn PySem.F.called_bool PySem.F.newNe_bool (PySem.F.typeCall_bool_1 _) (PySem.F.newCall_bool_1 _) (fun obj => PySem.F.args_object_init_2 obj _) PySem.F.entry_bool_new (new_bool_any _) ?_
  refine PySem.W.truthy_K hF I.ok.mod.kin J M.at_ M.fn (wpAny_call (codeAny_mono (F.run _ X.stack s H ⟨[.ref a], []⟩ [.ref a] [.ref a] _ E0 ((hr.mono hk).in1.in1) (I.env0.in1.in1) bound (.cons rfl .nil) q) fun r s' hq => ?_))
  cases r with
  | error e => exact False.elim hq
  | ok fl =>
    cases fl with
    | ret u =>
      obtain ⟨z', H', I', rz, d, ez, qz⟩ := I.after hq
      subst ez
      cases (show u = Value.bool d from rz)
      exact ⟨rfl, .bl d, H', I', rfl, qz⟩
    | next => exact False.elim hq
    | brk => exact False.elim hq
    | cont => exact False.elim hq
/-- x == y, y a tuple -/
def rOwnT (C : Addr) (sp : Sp) : R2 := fun x y H Q => ∃ a b dx fs zs, x = .ref a ∧ y = .ref b ∧ H a = some (.ins C dx fs) ∧ H b = some (.tup zs) ∧ sp [x, y] H Q E0
theorem op_eq_ownT (c : Me X.prog X.w X.K X.mg X.base k C "__eq__" sp) (hr : Room j X.A) (nf : PySem.W.subIn X.K (.type "tuple") (.ref C) = some false) (hk : k ≤ j := by decide) : OpR X (compareOp .Eq) (rOwnT C sp) := by
  obtain ⟨f, fd, ps, M, F, b⟩ := c.ex
  intro pins s σ H x y v u Q I rx ry h
  obtain ⟨a, b', dx, fs, zs, rfl, rfl, ha, hb, q⟩ := h
  cases (show v = Value.ref a from rx)
  cases (show u = Value.ref b' from ry)
  obtain ⟨ox, od, J⟩ := inst_of I ha
  obtain ⟨_, _, _, o, h1, h2, _⟩ := (show ObjOk X.prog X.w H s.heap b' (.tup zs) from I.hok b' _ hb)
  obtain ⟨mm, hF⟩ := I.fr
  show wpAny _ _ (richCompare .Eq (.ref a) (.ref b')) _ _ _
  refine PySem.W.cmp_K (op := .Eq) (tb := .type "tuple") hr.units0 hF I.ok.mod.kin J (fun A Q E s k q => wpAny_typeOf_ref (k _ _ h1) (by rw [h2]; exact q)) (by unfold PySem.W.notFirst; rw [nf]; simp) M.at_ M.fn ?_
  refine wpAny_mono (run_fn (us := [.ref a, .ref b']) (vs := [.ref a, .ref b']) F (hr.mono hk) b .nil pass0 I (.cons rfl (.cons rfl .nil)) q) (fun u' s' z => ?_) fun _ _ x => x
  obtain ⟨z', H', I', rz, qz⟩ := z
  exact SlX.cmpback rz ⟨z', H', I', rz, qz⟩
end
/-- a classmethod by what its call does -/
structure CmR (P : Program) (w : World) (K : PySem.W.Frag) (mg : Str → Option Value) (base : Heap) (k : Nat) (C : Addr) (m : Str) (sp : Sp) : Prop where
  ex : ∃ (mc : Value) (p g : Addr), ClX.CRead K C mc ∧ ClX.CMet K C mc m p g ∧ FnR P w K mg base CX0 k g sp
theorem pe_cmR {X : Cx} {C : Addr} {m : Str} {sp : Sp} {k j : Nat} {o e : Expr} {es : List Expr} {ta : TE} {t : TA} {apos pos : Pos} {pl : Sem Bool} (c : CmR X.prog X.w X.K X.mg X.base k C m sp) (hr : Room j X.A) (he : PE X o ta) (ha : PA X (e :: es) t) (hk : k ≤ j := by decide)
    (hst : starEach (e :: es) X.env = (false, eval e X.env) :: starEach es X.env := by rfl) (hpl : (backTo pos (starEach es X.env)).any (·.1) = false := by rfl)
    (ht : eval (.Call (.Attribute o m apos) (e :: es) [] pos) X.env = (do
      let got ← eval o X.env
      standAt apos.atName
      let (fn, fst) ← holding [got] (getMethod got m pl)
      callWith pos fn fst (backTo pos (starEach (e :: es) X.env)) (backToKw pos (keywordEach [] X.env))) := by rfl) :
    PE X (.Call (.Attribute o m apos) (e :: es) [] pos) (ClX.tCMeth C sp E0 ta t) := by
  obtain ⟨mc, p, g, r, c, F⟩ := c.ex
  exact ClX.pe_cmeth he r c F (hr.mono hk) pass0 ha hst hpl ht
theorem pe_cmR0 {X : Cx} {C : Addr} {m : Str} {sp : Sp} {k j : Nat} {o : Expr} {ta : TE} {apos pos : Pos} {pl : Sem Bool} (c : CmR X.prog X.w X.K X.mg X.base k C m sp) (hr : Room j X.A) (he : PE X o ta) (hk : k ≤ j := by decide)
    (ht : eval (.Call (.Attribute o m apos) [] [] pos) X.env = (do
      let got ← eval o X.env
      standAt apos.atName
      let (fn, fst) ← holding [got] (getMethod got m pl)
      callWith pos fn fst (backTo pos (starEach [] X.env)) (backToKw pos (keywordEach [] X.env))) := by rfl) :
    PE X (.Call (.Attribute o m apos) [] [] pos) (ClX.tCMeth C sp E0 ta tNil) := by
  obtain ⟨mc, p, g, r, c, F⟩ := c.ex
  refine ⟨fun pins s σ H Q I h => ?_⟩
  refine PySem.W.methodCall_KW (pl := pl) (thn (he.run pins s σ H _ I h) fun u s1 ⟨x, H1, I1, rx, ex, q⟩ => ?_) ht
  subst ex
  obtain rfl : u = Value.ref C := rx
  refine ClX.getmethcm_ok I1 r c fun s2 I2 => ?_
  have hq := ClX.pin_at I2
  show wpAny _ _ (callWith pos (Value.ref s1.heap.objs.size) [] (backTo pos (starEach [] X.env)) []) _ _ _
  refine PySem.W.callWith_M0 (K := X.K) (g := g) (self := .ref C) ?_ c.fi ?_
  · exact ⟨hq, I2.kIn⟩
  · exact ClX.run_cm (us := []) (vs := []) F (hr.mono hk) pass0 I2 .nil q
/-- C(..) whose __init__ may raise, in a try that takes it -/
def tMakeS (C : Addr) (sp : Sp) (E : L2.St → XK) (t : TA) : TE := fun σ H Q => tMake C sp [] (E σ) t σ H Q
theorem pe_maX {X : Cx} {W : WX} {C : Addr} {x : Str} {sp : Sp} {k j : Nat} {p pos : Pos} {e : Expr} {es : List Expr} {t : TA} (c : Ma X.prog X.w X.K X.mg X.base k C sp) (hr : Room j X.A) (tk : L2N.Takes X W) (hm : X.mg x = some (.ref C)) (ha : PA X (e :: es) t) (hk : k + 1 ≤ j := by decide) (hg : Gl X x := by rfl)
    (hdb : (x == ("__debug__" : Str)) = false := by decide) (he : starEach (e :: es) X.env = (false, eval e X.env) :: starEach es X.env := by rfl) (hpl : (backTo pos (starEach es X.env)).any (·.1) = false := by rfl) :
    PE X (.Call (.Name x p) (e :: es) [] pos) (tMakeS C sp (WE W) t) := by
  obtain ⟨f, fd, ps, M, F, b⟩ := c.ex
  refine ⟨fun pins s σ H Q I h => ?_⟩
  refine wpAny_Call_Name_kw (ld_glob I hg hm ?_ hdb)
  refine PySem.W.callWith_K (h₀ := X.base) I.ok.mod.kin M.kp (thn (ha.run pos pins s σ H _ I h) fun us s1 ⟨vs, H1, I1, r, q⟩ => ⟨I1.kIn, ?_⟩) he hpl
  generalize ez : s1.heap.objs.size = z
  have le0 : s1.heap.objs.size ≤ z := by rw [ez]; exact Nat.le_refl z
  have asks := q (z + 1) z (I1.hok.fresh (Nat.le_succ_of_le le0)) (I1.hok.fresh le0) (Nat.ne_of_lt (Nat.lt_succ_self z))
  have laid := Inv.made (C := C) I1
  rw [ez] at laid
  have rel : Vals (V.ref (z + 1) :: vs) (Value.ref (z + 1) :: us) := .cons rfl r
  rw [List.append_nil] at asks
  have many : (Value.ref (z + 1) :: us).length = ps.length := by
    rw [← rel.length]
    exact F.len _ _ _ _ asks
  have bound := b _ (Value.ref (z + 1) :: us) laid.kIn (by rw [List.append_nil]; exact many)
  rw [List.append_nil] at bound
  have runs := F.run _ X.stack _ _ ⟨Value.ref (z + 1) :: us, []⟩ (Value.ref (z + 1) :: us) _ _ (WE W σ) ((hr.mono hk).make C us []) (laid.env0.make C us []) bound rel asks
  subst ez
  refine wpAny_call (make_map (f := f) I1.kIn M.makes M.init (beq_iff_eq.mp M.fn) (codeAny_mono runs fun r' s' back => ?_))
  cases r' with
  | error er => exact L2N.passAt tk σ pins _ _ er s' laid back
  | ok fl =>
    cases fl with
    | ret u =>
      obtain ⟨v, H', I3, rv, ev, q3⟩ := laid.after back
      subst ev
      cases (show u = Value.none from rv)
      exact ⟨rfl, .ref _, H', I3, rfl, q3⟩
    | next => exact False.elim back
    | brk => exact False.elim back
    | cont => exact False.elim back
theorem kit_ownF {C : Addr} {U : String} (h2 : PySem.W.isClsIn K C = true) (h3 : PySem.W.typeIn K (.ref C) = some (.type "type")) (h : PySem.W.subIn K (.type U) (.ref C) = some false) : PySem.W.kitOne K (.type U) (.ref C) = some false := by
  have h2' : (PySem.W.clsIn K C).isSome = true := h2
  have e2 : ((PySem.W.clsIn K C).isSome && PySem.W.typeIn K (.ref C) == some (.type "type")) = true := by rw [h2', h3] <;> rfl
  unfold PySem.W.kitOne
  rw [if_neg (by simp)]
  show (if ((PySem.W.clsIn K C).isSome && PySem.W.typeIn K (.ref C) == some (.type "type")) = true then PySem.W.subIn K (.type U) (.ref C) else none) = some false
  rw [if_pos e2]
  exact h
/-! try .. except A as n: .. except B as m: .. (exceptions whose context is None) -/
/-- the suite's wish, its name's place filled before and emptied behind -/
def gone (i : Nat) (ts : Addr → Value → Option Addr → TS) : Addr → Value → Option Addr → TS := fun a cls d D σ H =>
  ts a cls d { nx := fun τ G => D.nx (τ.set i none) G, rt := D.rt, bk := fun τ G => D.bk (τ.set i none) G, ct := fun τ G => D.ct (τ.set i none) G } (σ.set i (some (.ref a))) H
abbrev Clauses := List (Value × (Addr → Value → Option Addr → TS))
inductive HAs (X : Cx) : List ExceptHandler → Clauses → Prop
  | none : HAs X [] []
  | more {x n : Str} {i : Nat} {c : Value} {ts : Addr → Value → Option Addr → TS} {b0 : Stmt} {bs : List Stmt} {q1 q2 : Pos} {rest : List ExceptHandler} {l : Clauses}
      (place : X.N[i]? = some n) (isLocal : X.env.kindOf n = some .local) (named : Names X x c)
      (su : ∀ (a : Addr) (oe : Obj) (cls : Value) (d : Option Addr) (pn : List (Addr × Obj)), L2N.Zn cls d oe → (∃ vs, oe.data = .fields vs) → PSs (X.suite a ((a, oe) :: pn)) (b0 :: bs) (ts a cls d)) (others : HAs X rest l) :
      HAs X (.ExceptHandler (some (.Name x q1)) (some n) (b0 :: bs) q2 :: rest) ((c, gone i ts) :: l)
  | plain {x : Str} {c : Value} {ts : Addr → Value → Option Addr → TS} {b0 : Stmt} {bs : List Stmt} {q1 q2 : Pos} {rest : List ExceptHandler} {l : Clauses}
      (named : Names X x c)
      (su : ∀ (a : Addr) (oe : Obj) (cls : Value) (d : Option Addr) (pn : List (Addr × Obj)), L2N.Zn cls d oe → (∃ vs, oe.data = .fields vs) → PSs (X.suite a ((a, oe) :: pn)) (b0 :: bs) (ts a cls d)) (others : HAs X rest l) :
      HAs X (.ExceptHandler (some (.Name x q1)) none (b0 :: bs) q2 :: rest) ((c, ts) :: l)
section
variable {X : Cx} {pins : List (Addr × Obj)} {D : Ends}
/-- the suite is over: the name is emptied -/
theorem suite_over {a : Addr} {oe : Obj} {i : Nat} {n : Str} {q : Pos} {τ : L2.St} {G : Hp} {t : Shared} {R : Shared → Prop} (ok : X.Ok) (J : Inv (X.suite a ((a, oe) :: (X.pn ++ pins))) [] τ G t) (nd : X.N.Nodup) (place : X.N[i]? = some n) (isLocal : X.env.kindOf n = some .local)
    (k : ∀ t', Inv X pins (τ.set i none) G t' → R t') : wpAny (model X.prog X.w) X.A (do bindName X.env n .none; unbindBehindTheSuite X.env n q) (fun _ t' => R t') X.xe t :=
  gone_ok (J.unsuite ok) nd place isLocal k
end
section
variable {X : Cx} {body : List Stmt} {first : ExceptHandler} {others : List ExceptHandler} {l : Clauses} {pos : Pos} {tb : WX → TS} {Wout : WX}
theorem ps_try_ms (stk : X.stack = X.env :: X.outer) (frm : X.env.frame = some X.env.locals) (nd : X.N.Nodup) (out : L2N.Takes X Wout)
    (bodies : ∀ (W : WX) (pn : List (Addr × Obj)) (xe : Value → Shared → Prop), L2N.Takes (X.tr pn xe) W → PassesOwn (model X.prog X.w) X.A X.env xe → PSs (X.tr pn xe) body (tb W))
    (cl : HAs X (first :: others) l) : PS X (.Try body (first :: others) [] [] pos) (fun D σ H => tb (wMany X.K Wout D l) D σ H) := by
  refine ⟨fun pins s σ H D I h => wpAny_Try_except ?_⟩
  have fits := I.ok
  have frames : X.A.frames = some (X.env :: X.outer) := by
    rw [fits.frames, stk]
  refine wpAny_mono ((bodies (wMany X.K Wout D l) (X.pn ++ pins) _ (fun u t flying => ?_) PassesOwn.looking).run [] s σ H D (I.toTry _) h) (fun f t went => ?_) (fun _ _ z => z)
  · -- it is caught here, or by none
    obtain ⟨a, B, t0, pins0, τ, G, cls, d, rfl, J0, old, up0, air, fresh, oss, bare, wish⟩ := flying
    have J : Inv X pins τ G t0 := J0.ofTry fits
    have air1 : Sky B (X.env :: X.outer) a (L2N.Zn cls d) X.env.locals t.heap := by
      rw [← stk]
      exact air
    show wpAny (model X.prog X.w) X.A (noteFrame (.ref a) X.env) _ _ _
    refine L2N.Sky.land L2N.Zn.steady frames frm air1 fun g held up1 => ?_
    have J1 : Inv X pins τ G { t with heap := g } := J.landed old held.1 (up0.trans up1) oss bare
    obtain ⟨o1, v1, at1, zn1, da1⟩ := held.there
    have apart : a ∉ frs (X.env :: X.outer) := fun hm => by
      obtain ⟨_, o2, e2, no⟩ := held.2.2.1.mem hm
      rw [at1] at e2
      cases e2
      exact no _ da1
    have notL : a ≠ X.env.locals := fun z => apart (List.mem_filterMap.mpr ⟨X.env, List.mem_cons_self, by rw [frm, z]⟩)
    have notF : a ∉ X.fs := fun hm => by
      obtain ⟨e, he, q⟩ := List.mem_filterMap.mp hm
      exact apart (List.mem_filterMap.mpr ⟨e, List.mem_cons_of_mem _ he, q⟩)
    have S1 := J1.suite at1 da1 fresh notL notF
    have go : ∀ {hs : List ExceptHandler} {ws : Clauses}, HAs X hs ws → wMany X.K Wout D ws cls d τ G → wpAny (model X.prog X.w) X.A (handleBy (.ref a) X.env hs) (SP X pins D) X.xe { t with heap := g } := by
      intro hs ws hk
      induction hk with
      | none =>
        intro wish
        refine wpAny_handleBy_nil ?_
        obtain ⟨_, _, _, o2, v2, T, oT, tv, e2, _, d2, one, _⟩ := id held
        unfold PySem.passOn
        refine wpAny_bind (wpAny_field e2 d2 one ?_)
        rw [if_neg (show ¬ ((Value.ref T == Value.none) = true) by simp)]
        have on : wpAny (model X.prog X.w) X.A (setFlight (.ref a) X.env.frame) (fun _ t4 => wpAny (model X.prog X.w) X.A (throw (.ref a) : Sem Flow) (SP X pins D) X.xe t4) X.xe { t with heap := g } := by
          rw [frm]
          exact HandSPX.setFlight_upZ held fun g4 fl4 up4 => wpAny_throw (out _ _ ⟨a, B, t0, pins, τ, G, cls, d, rfl, J, old, (up0.trans up1).trans up4, .inr (.inr (by rw [stk]; exact fl4)), fresh, oss, bare, wish⟩)
        first
          | exact wpAny_bind (wpAny_pure (wpAny_bind on))
          | exact wpAny_bind on
      | @more x n i c ts b0 bs q1 q2 rest l2 place isLocal named su more ih =>
        intro wish
        obtain ⟨b, says, yes, no⟩ := wish
        refine wpAny_handleBy_cons (codeAny_handlers_test ?_) (fun z => nomatch z)
        have kind : PySem.W.Looks (model X.prog X.w) g (typeOf (.ref a)) cls := fun _ _ _ _ keep q => wpAny_typeOf_ref (keep _ _ at1) (by rw [zn1.1]; exact q)
        have asks := PySem.W.exm_one (M := model X.prog X.w) J1.kIn kind says
        have read : ∀ {Q R : Value → Shared → Prop}, Q c { t with heap := g } → wpAny (model X.prog X.w) (X.A.mark (some (.ref a))) (eval (.Name x q1) X.env) Q R { t with heap := g } := fun {Q R} q => by
          obtain ⟨gl, db, own | ⟨m0, bv, nn⟩⟩ := named
          · exact ld_glob (X := X.suite a ((a, o1) :: (X.pn ++ pins))) S1 gl own q db
          · exact ld_blt (X := X.suite a ((a, o1) :: (X.pn ++ pins))) S1 gl m0 bv q nn db
        refine read (asks.here ?_)
        cases b with
        | false => exact ih (no rfl)
        | true =>
          refine codeAny_handlers_suite_as (HandSPX.lands_againZ held fun g4 held4 up4 => ?_)
          have J4 : Inv X pins τ G { t with heap := g4 } := J.landed old held4.1 ((up0.trans up1).trans up4) oss bare
          obtain ⟨o4, v4, at4, zn4, da4⟩ := held4.there
          refine store_ok (X := X.suite a ((a, o4) :: (X.pn ++ pins))) (v := .ref a) (J4.suite at4 da4 fresh notL notF) nd place (.inl isLocal) rfl (fun t5 S5 => ?_) (.inr isLocal)
          refine wpAny_mono ((su a o4 cls d (X.pn ++ pins) zn4 ⟨_, da4⟩).run [] t5 _ G _ S5 (yes rfl a fresh)) (fun f t6 went => ?_) (fun _ _ z => False.elim z)
          cases f with
          | ret u =>
            obtain ⟨v6, τ6, G6, S6, r6, q6⟩ := went
            exact suite_over (pins := pins) fits S6 nd place isLocal fun t7 J7 => ⟨_, _, _, J7, r6, q6⟩
          | next =>
            obtain ⟨τ6, G6, S6, q6⟩ := went
            exact suite_over (pins := pins) fits S6 nd place isLocal fun t7 J7 => ⟨_, _, J7, q6⟩
          | brk =>
            obtain ⟨τ6, G6, S6, q6⟩ := went
            exact suite_over (pins := pins) fits S6 nd place isLocal fun t7 J7 => ⟨_, _, J7, q6⟩
          | cont =>
            obtain ⟨τ6, G6, S6, q6⟩ := went
            exact suite_over (pins := pins) fits S6 nd place isLocal fun t7 J7 => ⟨_, _, J7, q6⟩
      | @plain x c ts b0 bs q1 q2 rest l2 named su more ih =>
        intro wish
        obtain ⟨b, says, yes, no⟩ := wish
        refine wpAny_handleBy_cons (codeAny_handlers_test ?_) (fun z => nomatch z)
        have kind : PySem.W.Looks (model X.prog X.w) g (typeOf (.ref a)) cls := fun _ _ _ _ keep q => wpAny_typeOf_ref (keep _ _ at1) (by rw [zn1.1]; exact q)
        have asks := PySem.W.exm_one (M := model X.prog X.w) J1.kIn kind says
        have read : ∀ {Q R : Value → Shared → Prop}, Q c { t with heap := g } → wpAny (model X.prog X.w) (X.A.mark (some (.ref a))) (eval (.Name x q1) X.env) Q R { t with heap := g } := fun {Q R} q => by
          obtain ⟨gl, db, own | ⟨m0, bv, nn⟩⟩ := named
          · exact ld_glob (X := X.suite a ((a, o1) :: (X.pn ++ pins))) S1 gl own q db
          · exact ld_blt (X := X.suite a ((a, o1) :: (X.pn ++ pins))) S1 gl m0 bv q nn db
        refine read (asks.here ?_)
        cases b with
        | false => exact ih (no rfl)
        | true =>
          refine codeAny_handlers_suite (HandSPX.lands_againZ held fun g4 held4 up4 => ?_)
          have J4 : Inv X pins τ G { t with heap := g4 } := J.landed old held4.1 ((up0.trans up1).trans up4) oss bare
          obtain ⟨o4, v4, at4, zn4, da4⟩ := held4.there
          refine wpAny_mono ((su a o4 cls d (X.pn ++ pins) zn4 ⟨_, da4⟩).run [] _ _ G _ (J4.suite at4 da4 fresh notL notF) (yes rfl a fresh)) (fun f t6 went => ?_) (fun _ _ z => False.elim z)
          cases f with
          | ret u =>
            obtain ⟨v6, τ6, G6, S6, r6, q6⟩ := went
            exact ⟨_, _, _, S6.unsuite fits, r6, q6⟩
          | next =>
            obtain ⟨τ6, G6, S6, q6⟩ := went
            exact ⟨_, _, S6.unsuite fits, q6⟩
          | brk =>
            obtain ⟨τ6, G6, S6, q6⟩ := went
            exact ⟨_, _, S6.unsuite fits, q6⟩
          | cont =>
            obtain ⟨τ6, G6, S6, q6⟩ := went
            exact ⟨_, _, S6.unsuite fits, q6⟩
    exact go cl wish
  · cases f with
    | ret u =>
      obtain ⟨v, τ, G, J, r, q⟩ := went
      exact ⟨v, τ, G, J.ofTry fits, r, q⟩
    | next =>
      obtain ⟨τ, G, J, q⟩ := went
      exact wpAny_execs_nil ⟨τ, G, J.ofTry fits, q⟩
    | brk =>
      obtain ⟨τ, G, J, q⟩ := went
      exact ⟨τ, G, J.ofTry fits, q⟩
    | cont =>
      obtain ⟨τ, G, J, q⟩ := went
      exact ⟨τ, G, J.ofTry fits, q⟩
end
/-! str(x) of an own instance -/
section
variable {X : Cx} {C : Addr} {sp : Sp} {k j : Nat}
def rStrOwn (C : Addr) (sp : Sp) : List V → Hp → VK → Prop := fun xs H Q => ∃ a dx fs, xs = [.ref a] ∧ H a = some (.ins C dx fs) ∧ sp [.ref a] H (fun v H' => ∃ z : Str, v = .str z ∧ Q (.str z) H') E0
theorem cr_strOwn (c : Me X.prog X.w X.K X.mg X.base k C "__str__" sp) (hr : Room j X.A) (hk : k + 2 ≤ j := by decide) : CallR X (.type "str") (rStrOwn C sp) := by
  obtain ⟨f, fd, ps, M, F, b⟩ := c.ex
  intro pins s σ H xs us Q I r h
  obtain ⟨a, dx, fs, rfl, ha, q⟩ := h
  obtain rfl := Vals.ref1 r
  obtain ⟨ox, od, J⟩ := inst_of I ha
  have many : ([Value.ref a] : List Value).length = ps.length := F.len [.ref a] _ _ _ q
  have bound := b s [.ref a] I.kIn (by rw [List.append_nil]; exact many)
  rw [List.append_nil] at bound
  refine PySem.W.kso_call (hr.mono hk).in1.in1.units0 I.kIn J M.at_ M.fn (wpAny_call (codeAny_mono (F.run _ X.stack s H ⟨[.ref a], []⟩ [.ref a] [.ref a] _ E0 ((hr.mono hk).in1.in1) (I.env0.in1.in1) bound (.cons rfl .nil) q) fun r s' hq => ?_))
  cases r with
  | error e => exact False.elim hq
  | ok fl =>
    cases fl with
    | ret u =>
      obtain ⟨z', H', I', rz, z, ez, qz⟩ := I.after hq
      subst ez
      obtain ⟨t, ht⟩ := (show ∃ t, u = Value.str z t from rz)
      subst ht
      exact ⟨.str z, H', I', ⟨t, rfl⟩, qz⟩
    | next => exact False.elim hq
    | brk => exact False.elim hq
    | cont => exact False.elim hq
end
/-- y.join(xs), the frame named: for the body of a try -/
def rJoin (K : PySem.W.Frag) : V → List V → Hp → VK → Prop := fun x xs H Q => ∃ a p, ∃ ys : List Str, x = .str a ∧ xs = [.ref p] ∧ (SqL K H p (ys.map V.str) ∨ SqT K H p (ys.map V.str)) ∧ (ys.map (·.length)).sum + ys.length * a.length ≤ 16777216 ∧ Q (.str (Txt.join a ys)) H
theorem pe_joinK {X : Cx} {K : PySem.W.Frag} {o e : Expr} {to te : TE} {apos pos : Pos} (hK : X.K = K) (ho : PE X o to) (he : PE X e te) (hs : starEach [e] X.env = [(false, eval e X.env)] := by rfl) (hbase : attributeBase o "join" X.env (eval o X.env) = eval o X.env := by rfl) (hline : (apos.endLine == pos.line) = true := by rfl) :
    PE X (.Call (.Attribute o "join" apos) [e] [] pos) (tM1 (rJoin K) to te) := by
  subst hK
  exact pe_join ho he hs hbase hline
/-! own errors of one attribute whose __init__ asks something of the argument -/
def spInitP (C : Addr) (fld : Str) (ok : V → Prop) : Sp := fun vs H Q _ => ∃ (a : Addr) (v : V), vs = [.ref a, v] ∧ ok v ∧ H a = some (exo a C none) ∧
  ∀ d, H d = none → d ≠ a → Q .non (upd (upd H d (exd d [(fld, v)])) a (exo a C (some d)))
structure ErP (P : Program) (w : World) (K : PySem.W.Frag) (mg : Str → Option Value) (base : Heap) (nm fld : Str) (C : Addr) (ok : V → Prop) : Prop where
  ex : ∃ (fI : Addr) (fd : FuncData) (ps : List Str), ErrC K mg nm fld C fI ∧ FnOk P w K mg base CX0 1 fI fd ps (spInitP C fld ok) ∧ Binds K fd ps []
theorem ps_raiseP {X : Cx} {W : WX} {x fld : Str} {C : Addr} {ok : V → Prop} {j : Nat} {e : Expr} {ta : TA} {p pos pos' : Pos} (c : ErP X.prog X.w X.K X.mg X.base x fld C ok) (hr : Room j X.A) (tk : L2N.Takes X W) (ha : PA X [e] ta) (hj : 2 ≤ j := by decide) (hcalm : X.calm = true := by rfl) (hg : Gl X x := by rfl)
    (hdb : (x == ("__debug__" : Str)) = false := by decide) (he : starEach [e] X.env = (false, eval e X.env) :: starEach [] X.env := by rfl) (hpl : (backTo pos (starEach [] X.env)).any (·.1) = false := by rfl) :
    PS X (.Raise (some (.Call (.Name x p) [e] [] pos)) none pos') (fun _ σ H => tMkO C (spInitP C fld ok) [] ta σ H fun cls d H' => W cls d σ H') := by
  obtain ⟨fI, fd, ps, T, F, b⟩ := c.ex
  exact L2N.ps_raise hcalm tk (pmk_oexN (X := X) (p := p) (pos := pos) T.oex T.iC T.tI F (hr.mono hj) b .nil hg T.g ha hdb he hpl)
theorem mkP {C : Addr} {fld : Str} {ok : V → Prop} {v : V} {H1 : Hp} {Q : XK} (o : ok v) (k : ∀ d H2, Same H1 H2 → H1 d = none → H2 d = some (.xd [(fld, v)]) → Q (.ref C) (some d) H2) :
    ([v] : List V).length ≤ 1000 ∧ ∀ a, H1 a = none → spInitP C fld ok (.ref a :: ([v] ++ [])) (upd H1 a (exo a C none))
      (fun u H2 => u = .non ∧ ∃ (d : Addr) (fs : List (Str × V)), H2 a = some (exo a C (some d)) ∧ H2 d = some (exd d fs) ∧ H1 d = none ∧ Q (.ref C) (some d) (upd (del H2 a) d (.xd fs))) (fun _ _ _ => False) := by
  obtain ⟨h1, h2⟩ := mk1 (C := C) (fld := fld) (v := v) (H1 := H1) (Q := Q) k
  refine ⟨h1, fun a ha => ?_⟩
  obtain ⟨a', v', e, ha', q⟩ := h2 a ha
  exact ⟨a', v', e, by rw [show v' = v from by simpa using (List.cons.inj (List.cons.inj e).2).1.symm]; exact o, ha', q⟩
/-- an index that is written in a message -/
def okNat : V → Prop := fun v => ∃ n : Nat, v = .int (n : Int) ∧ n < 2 ^ 62
theorem log_nat {n : Nat} (h : n < 2 ^ 62) : (n : Int).natAbs.log2 < 1920 := by
  show n.log2 < 1920
  by_cases c : n = 0
  · rw [c]
    decide
  · have := (Nat.log2_lt c).mpr h
    omega
theorem str_len (x : Str) : x.length = (TL.tl x).length := TL.len_tl x
theorem num_len {n : Nat} (h : n < 2 ^ 62) : (Str.ofString (toString (n : Int))).length ≤ 19 := by
  rw [str_len, TL.tl_num]
  exact TL.numL_len (by decide) (Nat.lt_of_lt_of_le h (by decide))
theorem app_len (x y : Str) : (x ++ y).length = x.length + y.length := by
  rw [str_len, TL.tl_append, List.length_append, ← str_len, ← str_len]
theorem empty_app (x : Str) : Str.empty ++ x = x := TL.ext_tl (by rw [TL.tl_append] <;> rfl)
abbrev s_ibt : Stmt := inClass (top 5) 0
theorem sc_ibt : FnScope ["self", "at"] ["self", "at"] (defScope s_ibt) := ⟨rfl, rfl, rfl, by decide +kernel, rfl, by decide +kernel, by decide +kernel⟩
theorem ok_ibt {f C CF : Addr} {fd : FuncData} (TF : FErr K mg CF) (hC : OexC K C) (hno : PySem.W.findIn K (.ref C) "at" = some none) (F : Fun K "__init__" "BadText.__init__" s_ibt f fd) : FnOk P w K mg base CX0 1 f fd ["self", "at"] (spInitP C "at" okNat) := by
  refine F.ok sc_ibt (fun vs H Q E h => ?_) (fun cdv A outer s H vs Q E hr h => ?_)
  · obtain ⟨a, v, rfl, _⟩ := h
    rfl
  · obtain ⟨a, v, rfl, ⟨n, rfl, hn⟩, ha, q⟩ := h
    refine ⟨_, (pss_cons (ps_expr (pe_feinit TF (pa_cons (pv 0) (pa_cons (pe_joined (.cons pe_str (.cons (pe_fmt (pv 1)) .nil))) pa_nil))))
 (pss_one (ps_ost (pv 0) (pv 1)))), ?_⟩
    refine ⟨_, rfl, _, rfl, by rw [empty_app, sizeLine_eq]; decide +kernel, _, rfl, .inr ⟨_, rfl, log_nat hn, _, rfl, ?_, ?_⟩⟩
    · rw [empty_app, app_len, sizeLine_eq]
      have e : (("the text is not of the right form at index " : Str)).length ≤ 100 := by decide +kernel
      have := num_len hn
      omega
    · refine ⟨a, C, _, rfl, (by show 1 ≤ 1000; decide), hC, ha, ?_⟩
      exact ⟨_, rfl, _, rfl, a, C, rfl, hC, hno, .inl ⟨ha, fun dx hn hne => q dx hn hne⟩⟩
section
variable {X : Cx} {W : WX} {C : Addr} {x m : Str} {sp : Sp} {k j i : Nat} {p pos apos : Pos} {e o : Expr} {es : List Expr} {t : TA} {ta : TE} {pl : Sem Bool}
/-- the making itself, what its __init__ raises is taken -/
theorem run_maX {pins : List (Addr × Obj)} {σ : L2.St} {H : Hp} {s : Shared} {Q : VK} {us : List Value} {vs : List V} (c : Ma X.prog X.w X.K X.mg X.base k C sp) (hr : Room j X.A) (tk : L2N.Takes X W) (hk : k + 1 ≤ j) (I : Inv X pins σ H s) (r : Vals vs us)
    (q : ∀ x dx, H x = none → H dx = none → dx ≠ x → sp (.ref x :: (vs ++ [])) (upd (upd H dx (.own x)) x (.ins C dx [])) (fun u H' => u = .non ∧ Q (.ref x) H') (WE W σ)) :
    wpAny (model X.prog X.w) X.A (call (.ref C) us) (EP X pins σ Q) X.xe s := by
  obtain ⟨f, fd, ps, M, F, b⟩ := c.ex
  generalize ez : s.heap.objs.size = z
  have le0 : s.heap.objs.size ≤ z := by
    rw [ez]
    exact Nat.le_refl z
  have asks := q (z + 1) z (I.hok.fresh (Nat.le_succ_of_le le0)) (I.hok.fresh le0) (Nat.ne_of_lt (Nat.lt_succ_self z))
  have laid := Inv.made (C := C) I
  rw [ez] at laid
  rw [List.append_nil] at asks
  have rel : Vals (V.ref (z + 1) :: vs) (Value.ref (z + 1) :: us) := .cons rfl r
  have bound := b _ (Value.ref (z + 1) :: us) laid.kIn (by
    rw [List.append_nil, ← rel.length]
    exact F.len _ _ _ _ asks)
  rw [List.append_nil] at bound
  have runs := F.run _ X.stack _ _ ⟨Value.ref (z + 1) :: us, []⟩ (Value.ref (z + 1) :: us) _ _ (WE W σ) ((hr.mono hk).make C us []) (laid.env0.make C us []) bound rel asks
  subst ez
  refine wpAny_call (make_map (f := f) I.kIn M.makes M.init (beq_iff_eq.mp M.fn) (codeAny_mono runs fun r' s' back => ?_))
  cases r' with
  | error er => exact L2N.passAt tk σ pins _ _ er s' laid back
  | ok fl =>
    cases fl with
    | ret u =>
      obtain ⟨v, H', I3, rv, ev, q3⟩ := laid.after back
      subst ev
      cases (show u = Value.none from rv)
      exact ⟨rfl, .ref _, H', I3, rfl, q3⟩
    | next => exact False.elim back
    | brk => exact False.elim back
    | cont => exact False.elim back
/-- cls(..), cls a parameter that holds the class; what is raised is taken -/
def tMakeLS (i : Nat) (C : Addr) (sp : Sp) (E : L2.St → XK) (t : TA) : TE := fun σ H Q => σ[i]? = some (some (.ref C)) ∧ tMake C sp [] (E σ) t σ H Q
theorem pe_maLX (c : Ma X.prog X.w X.K X.mg X.base k C sp) (hr : Room j X.A) (tk : L2N.Takes X W) (hN : X.N[i]? = some x) (ha : PA X (e :: es) t) (hk : k + 1 ≤ j := by decide)
    (hv : Vis X.env.scope x := by first | exact Or.inl rfl | exact Or.inr (Or.inl rfl) | exact Or.inr (Or.inr rfl))
    (hdb : (x == ("__debug__" : Str)) = false := by decide) (hcd : (x == ("__classdict__" : Str)) = false := by decide)
    (he : starEach (e :: es) X.env = (false, eval e X.env) :: starEach es X.env := by rfl) (hpl : (backTo pos (starEach es X.env)).any (·.1) = false := by rfl) :
    PE X (.Call (.Name x p) (e :: es) [] pos) (tMakeLS i C sp (WE W) t) := by
  have kp : PySem.W.keepIn X.K (.ref C) = true := by
    obtain ⟨f, fd, ps, M, F, b⟩ := c.ex
    exact M.kp
  refine ⟨fun pins s σ H Q I h => ?_⟩
  obtain ⟨at_i, rest⟩ := h
  refine wpAny_Call_Name_kw (thn ((pe_var (pos := p) hN hv hdb hcd).run pins s σ H (fun v G => v = .ref C ∧ G = H) I ⟨.ref C, at_i, rfl, rfl⟩) fun u s1 ⟨v, G, I1, r1, e1, e2⟩ => ?_)
  subst e1
  subst e2
  cases r1
  exact PySem.W.callWith_K (h₀ := X.base) I.ok.mod.kin kp (thn (ha.run pos pins s1 σ _ _ I1 rest) fun us s2 ⟨vs, G2, I2, r, q⟩ => ⟨I2.kIn, run_maX c hr tk hk I2 r q⟩) he hpl
/-- a classmethod that may raise -/
structure CmN (P : Program) (w : World) (K : PySem.W.Frag) (mg : Str → Option Value) (base : Heap) (k : Nat) (C : Addr) (m : Str) (sp : Sp) : Prop where
  ex : ∃ (mc : Value) (p g : Addr) (fd : FuncData) (ps : List Str), ClX.CRead K C mc ∧ ClX.CMet K C mc m p g ∧ FnOk P w K mg base (L2N.CX P w) k g fd ps sp ∧ Binds K fd ps []
/-- .. where it doesn't -/
theorem pe_cmN0 (c : CmN X.prog X.w X.K X.mg X.base k C m sp) (hr : Room j X.A) (he : PE X o ta) (ha : PA X (e :: es) t) (hk : k ≤ j := by decide)
    (hst : starEach (e :: es) X.env = (false, eval e X.env) :: starEach es X.env := by rfl) (hpl : (backTo pos (starEach es X.env)).any (·.1) = false := by rfl)
    (ht : eval (.Call (.Attribute o m apos) (e :: es) [] pos) X.env = (do
      let got ← eval o X.env
      standAt apos.atName
      let (fn, fst) ← holding [got] (getMethod got m pl)
      callWith pos fn fst (backTo pos (starEach (e :: es) X.env)) (backToKw pos (keywordEach [] X.env))) := by rfl) :
    PE X (.Call (.Attribute o m apos) (e :: es) [] pos) (ClX.tCMeth C sp E0 ta t) := by
  obtain ⟨mc, p, g, fd, ps, r, c, F, b⟩ := c.ex
  exact ClX.pe_cmeth he r c (fnR_of F b) (hr.mono hk) passN ha hst hpl ht
def tCMethS (C : Addr) (sp : Sp) (E : L2.St → XK) (ta : TE) (t : TA) : TE := fun σ H Q => ClX.tCMeth C sp (E σ) ta t σ H Q
/-- .. in a try or def that takes what it raises -/
theorem pe_cmNX (c : CmN X.prog X.w X.K X.mg X.base k C m sp) (hr : Room j X.A) (tk : L2N.Takes X W) (he : PE X o ta) (ha : PA X (e :: es) t) (hk : k ≤ j := by decide)
    (hst : starEach (e :: es) X.env = (false, eval e X.env) :: starEach es X.env := by rfl) (hpl : (backTo pos (starEach es X.env)).any (·.1) = false := by rfl)
    (ht : eval (.Call (.Attribute o m apos) (e :: es) [] pos) X.env = (do
      let got ← eval o X.env
      standAt apos.atName
      let (fn, fst) ← holding [got] (getMethod got m pl)
      callWith pos fn fst (backTo pos (starEach (e :: es) X.env)) (backToKw pos (keywordEach [] X.env))) := by rfl) :
    PE X (.Call (.Attribute o m apos) (e :: es) [] pos) (tCMethS C sp (WE W) ta t) := by
  obtain ⟨mc, p, g, fd, ps, r, c, F, b⟩ := c.ex
  refine ⟨fun pins s σ H Q I h => ?_⟩
  refine PySem.W.methodCall_KW (pl := pl) (thn (he.run pins s σ H _ I h) fun u s1 ⟨x, H1, I1, rx, ex, q⟩ => ?_) ht
  subst ex
  obtain rfl : u = Value.ref C := rx
  refine ClX.getmethcm_ok I1 r c fun s2 I2 => ?_
  refine ClX.callwith_cm I2 (ClX.base_none I1 (Nat.le_refl _)) c.fi (thn (ha.run pos _ s2 σ H1 _ I2 q) fun us s3 ⟨vs, H2, I3, rv, q2⟩ => ⟨⟨ClX.pin_at I3, I3.kIn⟩, ?_⟩) hst hpl
  have many : (Value.ref C :: us).length = ps.length := by
    have z := F.len _ _ _ _ q2
    rw [← z]
    show us.length + 1 = vs.length + 1
    rw [Paired.length rv]
  have bound := b s3 (Value.ref C :: us) I3.kIn (by rw [List.append_nil]; exact many)
  rw [List.append_nil] at bound
  have runs := F.run X.A X.stack s3 H2 ⟨Value.ref C :: us, []⟩ (Value.ref C :: us) (.ref C :: vs) _ (WE W σ) (hr.mono hk) I3.env0 bound (.cons rfl rv) q2
  have z : wpAny (model X.prog X.w) X.A (call (.ref s1.heap.objs.size) us) (EP X ((s1.heap.objs.size, PySem.W.methodObj (.ref g) (.ref C)) :: pins) σ Q) X.xe s3 :=
    wpAny_call (PySem.W.method_call (ClX.pin_at I3) (codeAny_mono runs fun r s' hq => by
      cases r with
      | error er => exact L2N.passAt tk σ _ H2 s3 er s' I3 hq
      | ok fl =>
        cases fl with
        | ret u => exact I3.after hq
        | next => exact False.elim hq
        | brk => exact False.elim hq
        | cont => exact False.elim hq))
  exact thn z fun _ _ y => ClX.unpinE y
end
/-! words of the texts of sets -/
abbrev numS (p : Int) : Str := Str.ofString (toString p)
def isNum (z : Str) : Bool := (Txt.isascii z && Txt.isdigit z) && (decide (z.length ≤ 10) && (decide (z = "0") || !Txt.startswith z "0"))
def digs : List Nat := ("0123456789" : Str).cps.toList
def lawNum (z : Str) : Bool := (!decide (z = "") && (decide (z.length ≤ 10) && z.cps.toList.all (fun c => decide (c ∈ digs)))) && (decide (z = "0") || !decide (z.cps.toList.head? = some 48))
def numOf (z : Str) : Int := (PySem.intText? z).getD 0
def okW (z : Str) : Bool := PyData.strOk z && ((isNum z == lawNum z) && (decide (z.length ≤ 5001) && (!isNum z || (match PySem.intText? z with | some n => decide (0 ≤ n) && (decide (n < 2 ^ 62) && decide (z.length ≤ 640)) | none => false))))
theorem okW_str {z : Str} (h : okW z = true) : PyData.strOk z = true := (Bool.and_eq_true_iff.mp h).1
theorem okW_law {z : Str} (h : okW z = true) : lawNum z = isNum z := by
  have := (Bool.and_eq_true_iff.mp (Bool.and_eq_true_iff.mp h).2).1
  exact (beq_iff_eq.mp this).symm
theorem okW_len {z : Str} (h : okW z = true) : z.length ≤ 5001 := by
  exact of_decide_eq_true (Bool.and_eq_true_iff.mp (Bool.and_eq_true_iff.mp (Bool.and_eq_true_iff.mp h).2).2).1
theorem okW_int {z : Str} (h : okW z = true) (y : isNum z = true) : PySem.intText? z = some (numOf z) ∧ numOf z < 2 ^ 62 ∧ z.length ≤ 640 := by
  have q := (Bool.and_eq_true_iff.mp (Bool.and_eq_true_iff.mp (Bool.and_eq_true_iff.mp h).2).2).2
  rw [y, Bool.not_true, Bool.false_or] at q
  unfold numOf
  cases e : PySem.intText? z with
  | none =>
    rw [e] at q
    cases q
  | some n =>
    rw [e] at q
    have q1 := (Bool.and_eq_true_iff.mp q).2
    have q2 := Bool.and_eq_true_iff.mp q1
    exact ⟨rfl, of_decide_eq_true q2.1, of_decide_eq_true q2.2⟩
structure Good (L : List Str) : Prop where
  ne : L ≠ []
  few : L.length < 60
  ok : ∀ z ∈ L, okW z = true
inductive Verd where
  | at (n : Nat)
  | bad (p : Int)
  | set (e : Bool) (l : List Int)
def headV (L : List Str) : Nat ⊕ Nat := if L[0]? = some ("primes" : Str) then .inl 1 else if L[0]? = some ("all" : Str) then (if L[1]? = some ("but" : Str) then .inl 2 else .inr 1) else .inr 0
abbrev numsOf (s : Nat) (L : List Str) : List Int := (L.drop s).map numOf
inductive VD (L : List Str) : Verd → Prop
  | head {b : Nat} (h : headV L = .inr b) : VD L (.at b)
  | word {s n : Nat} {z : Str} (h : headV L = .inl s) (hs : s ≤ n) (hz : L[n]? = some z) (no : isNum z = false) (yes : ∀ (j : Nat) (y : Str), s ≤ j → j < n → L[j]? = some y → isNum y = true) : VD L (.at n)
  | bad {s i : Nat} {p : Int} (h : headV L = .inl s) (yes : ∀ (j : Nat) (y : Str), s ≤ j → L[j]? = some y → isNum y = true) (hp : (numsOf s L)[i]? = some p) (no : ¬ Pr p) (pr : ∀ (j : Nat) (q : Int), j < i → (numsOf s L)[j]? = some q → Pr q) : VD L (.bad p)
  | set {s : Nat} {l : List Int} (h : headV L = .inl s) (yes : ∀ (j : Nat) (y : Str), s ≤ j → L[j]? = some y → isNum y = true) (pr : ∀ q ∈ numsOf s L, Pr q) (srt : l.Pairwise (· < ·)) (mem : ∀ q, q ∈ l ↔ q ∈ numsOf s L) : VD L (.set (decide (s = 2)) l)
theorem VD.one {L : List Str} {v v' : Verd} (h : VD L v) (h' : VD L v') : v = v' := by
  cases h with
  | head h =>
    cases h' with
    | head h' =>
      rw [h] at h'
      cases h'
      rfl
    | word h' => rw [h] at h'; cases h'
    | bad h' => rw [h] at h'; cases h'
    | set h' => rw [h] at h'; cases h'
  | @word s n z h hs hz no yes =>
    cases h' with
    | head h' => rw [h] at h'; cases h'
    | @word s' n' z' h' hs' hz' no' yes' =>
      rw [h] at h'
      cases h'
      by_cases c : n < n'
      · have := yes' n z hs c hz
        rw [no] at this
        cases this
      · by_cases d : n' < n
        · have := yes n' z' hs' d hz'
          rw [no'] at this
          cases this
        · rw [show n = n' by omega]
    | @bad s' i p h' yes' =>
      rw [h] at h'
      cases h'
      have := yes' n z hs hz
      rw [no] at this
      cases this
    | @set s' l h' yes' =>
      rw [h] at h'
      cases h'
      have := yes' n z hs hz
      rw [no] at this
      cases this
  | @bad s i p h yes hp no pr =>
    cases h' with
    | head h' => rw [h] at h'; cases h'
    | @word s' n' z' h' hs' hz' no' yes' =>
      rw [h] at h'
      cases h'
      have := yes n' z' hs' hz'
      rw [no'] at this
      cases this
    | @bad s' i' p' h' yes' hp' no' pr' =>
      rw [h] at h'
      cases h'
      by_cases c : i < i'
      · exact absurd (pr' i p c hp) no
      · by_cases d : i' < i
        · exact absurd (pr i' p' d hp') no'
        · have e : i = i' := by omega
          subst e
          rw [hp] at hp'
          cases hp'
          rfl
    | @set s' l h' yes' pr' =>
      rw [h] at h'
      cases h'
      exact absurd (pr' p (List.mem_of_getElem? hp)) no
  | @set s l h yes pr srt mem =>
    cases h' with
    | head h' => rw [h] at h'; cases h'
    | @word s' n' z' h' hs' hz' no' yes' =>
      rw [h] at h'
      cases h'
      have := yes n' z' hs' hz'
      rw [no'] at this
      cases this
    | @bad s' i' p' h' yes' hp' no' pr' =>
      rw [h] at h'
      cases h'
      exact absurd (pr p' (List.mem_of_getElem? hp')) no'
    | @set s' l' h' yes' pr' srt' mem' =>
      rw [h] at h'
      cases h'
      rw [sorted_uniq srt srt' fun q => (mem q).trans (mem' q).symm]
/-- 'a' * n -/
def repS (z : Str) (n : Nat) : Str := ⟨(List.replicate n z.cps).foldl (· ++ ·) #[]⟩
theorem tl_rep (a : Array Nat) : ∀ (n : Nat) (acc : Array Nat), ((List.replicate n a).foldl (· ++ ·) acc).toList = acc.toList ++ (List.replicate n a.toList).flatten
  | 0, acc => by simp
  | n + 1, acc => by
    rw [List.replicate_succ, List.foldl_cons, tl_rep a n, Array.toList_append, List.replicate_succ, List.flatten_cons, List.append_assoc]
theorem tl_repS (z : Str) (n : Nat) : TL.tl (repS z n) = (List.replicate n (TL.tl z)).flatten := by
  show ((List.replicate n z.cps).foldl (· ++ ·) #[]).toList = _
  rw [tl_rep]
  rfl
theorem tl_rep1 {z : Str} {c : Nat} (h : TL.tl z = [c]) (n : Nat) : TL.tl (repS z n) = List.replicate n c := by
  rw [tl_repS, h]
  clear h
  induction n with
  | zero => rfl
  | succ n ih => rw [List.replicate_succ, List.flatten_cons, ih, List.replicate_succ, List.singleton_append]
theorem op_rep_str {X : Cx} : OpR X (binaryOp .Mult) (fun x y H Q => ∃ (z : Str) (n : Int), x = .str z ∧ y = .int n ∧ 1 < n ∧ n < 2 ^ 20 ∧ z.length ≠ 0 ∧ z.length ≤ 10 ∧ Q (.str (repS z n.toNat)) H) := by
  intro pins s σ H x y v u Q I rx ry h
  obtain ⟨z, n, rfl, rfl, h1, h2, h3, h4, q⟩ := h
  obtain ⟨t, rfl⟩ := rx
  obtain ⟨t', rfl⟩ := ry
  have e1 : (n == 1) = false := beq_eq_false_iff_ne.mpr (by omega)
  have e2 : (z.length == 0) = false := beq_eq_false_iff_ne.mpr h3
  have small : z.length * n.toNat ≤ sizeLine := by
    rw [sizeLine_eq]
    refine Nat.le_trans (Nat.mul_le_mul h4 (show n.toNat ≤ 1048576 by omega)) (by decide)
  refine PySem.P.mul_str ?_ (fun _ _ => ?_) (fun _ _ => ?_) ?_
  · rw [decide_eq_false (by omega), decide_eq_false (by omega)]
    rfl
  · have : (2 ^ 63 - 1 : Int) / 1048576 ≤ (2 ^ 63 - 1) / n := by
      refine Int.le_ediv_of_mul_le (by omega) ?_
      have : (2 ^ 63 - 1 : Int) / 1048576 * n ≤ (2 ^ 63 - 1 : Int) / 1048576 * 1048576 := Int.mul_le_mul_of_nonneg_left (by omega) (by decide)
      refine Int.le_trans this (by decide)
    have : (2 ^ 63 - 1 : Int) / 1048576 = 8796093022207 := by decide
    omega
  · exact decide_eq_false (by omega)
  · rw [if_neg (by omega), e1, e2, if_neg (by decide)]
    refine ⟨?_, .str (repS z n.toNat), H, I.tok _, ⟨_, rfl⟩, q⟩
    show (repS z n.toNat).length ≤ sizeLine
    rw [str_len, tl_repS]
    have : (List.replicate n.toNat (TL.tl z)).flatten.length = n.toNat * (TL.tl z).length := by simp
    rw [this, ← str_len, Nat.mul_comm]
    omega
def big : Str := "1" ++ repS "0" 5000
theorem tl_big : TL.tl big = 49 :: List.replicate 5000 48 := by
  unfold big
  rw [TL.tl_append, tl_rep1 (c := 48) (by decide +kernel)]
  rfl
theorem big_len : big.length = 5001 := by
  rw [str_len, tl_big, List.length_cons, List.length_replicate]
def menu25 : List Int := [2, 3, 5, 7, 101, 9973, 999983]
def base25 : List Str := ["primes", "all", "but", "2", "3", "5", "7", "101", "9973", "999983", "0", "1", "07", "9", "", "-1", "1_0", "+4", "91", "3 "]
def Base (z : Str) : Prop := z ∈ base25 ∨ z = big
def spW (z : Str) : List Str := if z = "3 " then ["3", ""] else [z]
theorem menu_base : ∀ p ∈ menu25, numS p ∈ base25 := by decide +kernel
theorem isNum_long {z : Str} (h : 10 < z.length) : isNum z = false := by
  unfold isNum
  rw [decide_eq_false (show ¬ z.length ≤ 10 by omega), Bool.false_and, Bool.and_false]
theorem lawNum_long {z : Str} (h : 10 < z.length) : lawNum z = false := by
  unfold lawNum
  rw [decide_eq_false (show ¬ z.length ≤ 10 by omega), Bool.false_and, Bool.and_false, Bool.false_and]
theorem okW_big : okW big = true := by
  have l := big_len
  have o : PyData.strOk big = true := by
    refine Array.all_eq_true_iff_forall_mem.mpr fun c hc => decide_eq_true ?_
    have hc : c ∈ TL.tl big := Array.mem_toList_iff.mpr hc
    rw [tl_big] at hc
    rcases List.mem_cons.mp hc with c | c
    · rw [c]
      decide
    · rw [(List.mem_replicate.mp c).2]
      decide
  unfold okW
  rw [o, isNum_long (by omega), lawNum_long (by omega), l]
  rfl
theorem spW_one {z : Str} (h : z ≠ "3 ") : spW z = [z] := if_neg h
theorem base_facts : ∀ z ∈ base25, ∀ y ∈ spW z, okW y = true ∧ 32 ∉ TL.tl y := by decide +kernel
theorem big_ne : big ≠ "3 " := fun h => by
  have := congrArg Str.length h
  rw [big_len] at this
  revert this
  decide +kernel
theorem spW_facts {z : Str} (h : Base z) : ∀ y ∈ spW z, okW y = true ∧ 32 ∉ TL.tl y := by
  rcases h with h | rfl
  · exact base_facts z h
  · intro y hy
    rw [spW_one big_ne, List.mem_singleton] at hy
    subst hy
    refine ⟨okW_big, ?_⟩
    rw [tl_big]
    intro c
    rcases List.mem_cons.mp c with c | c
    · cases c
    · rw [List.mem_replicate] at c
      exact absurd c.2 (by decide)
theorem Base.len {z : Str} (h : Base z) : z.length ≤ 5001 := by
  rcases h with h | rfl
  · have : ∀ z ∈ base25, z.length ≤ 5001 := by decide +kernel
    exact this z h
  · exact Nat.le_of_eq big_len
theorem joinL_two (S a b : List Nat) (r : List (List Nat)) : TL.joinL S (a :: b :: r) = a ++ (S ++ TL.joinL S (b :: r)) := rfl
theorem joinL_spW (z : Str) (r : List (List Nat)) : TL.joinL [32] ((spW z).map TL.tl ++ r) = TL.joinL [32] (TL.tl z :: r) := by
  by_cases c : z = "3 "
  · subst c
    have e1 : (spW "3 ").map TL.tl = [[51], []] := by decide +kernel
    have e2 : TL.tl "3 " = [51, 32] := by decide +kernel
    rw [e1, e2]
    cases r with
    | nil => rfl
    | cons b r => rfl
  · rw [spW_one c]
    rfl
theorem spW_ne (z : Str) : spW z ≠ [] := by
  unfold spW
  split <;> simp
theorem joinL_congr {S a : List Nat} {r r' : List (List Nat)} (hr : r = [] ↔ r' = []) (h : TL.joinL S r = TL.joinL S r') : TL.joinL S (a :: r) = TL.joinL S (a :: r') := by
  cases r with
  | nil => rw [hr.mp rfl]
  | cons b r =>
    cases r' with
    | nil => exact absurd (hr.mpr rfl) (by simp)
    | cons b' r' => rw [joinL_two, joinL_two, h]
theorem joinL_words : ∀ ws : List Str, TL.joinL [32] ((ws.flatMap spW).map TL.tl) = TL.joinL [32] (ws.map TL.tl)
  | [] => rfl
  | z :: ws => by
    rw [List.flatMap_cons, List.map_append, joinL_spW, List.map_cons]
    refine joinL_congr ?_ (joinL_words ws)
    cases ws with
    | nil => exact ⟨fun _ => rfl, fun _ => rfl⟩
    | cons y ws =>
      constructor
      · intro h
        have : ((y :: ws).flatMap spW) = [] := List.map_eq_nil_iff.mp h
        rw [List.flatMap_cons] at this
        exact absurd (List.append_eq_nil_iff.mp this).1 (spW_ne y)
      · intro h
        cases h
theorem split_words {ws : List Str} (ne : ws ≠ []) (hb : ∀ z ∈ ws, Base z) : Txt.split (Txt.join " " ws) " " = ws.flatMap spW := by
  have e : Txt.join " " ws = Txt.join " " (ws.flatMap spW) := by
    refine TL.ext_tl ?_
    rw [TL.join_eq, TL.join_eq, TL.tl_join, TL.tl_join, show TL.tl (" " : Str) = [32] by decide +kernel, joinL_words]
  rw [e]
  refine TL.split_join (s := 32) (S := []) (by decide +kernel) (by decide +kernel) (fun h => ?_) fun y hy => ?_
  · cases ws with
    | nil => exact ne rfl
    | cons z ws =>
      rw [List.flatMap_cons] at h
      exact spW_ne z (List.append_eq_nil_iff.mp h).1
  · obtain ⟨z, hz, hy⟩ := List.mem_flatMap.mp hy
    exact (spW_facts (hb z hz) y hy).2
theorem flat_len : ∀ ws : List Str, (ws.flatMap spW).length ≤ 2 * ws.length
  | [] => Nat.le_refl _
  | z :: ws => by
    have := flat_len ws
    have e : (spW z).length ≤ 2 := by
      unfold spW
      split
      · decide
      · exact Nat.le_succ 1
    rw [List.flatMap_cons, List.length_append, List.length_cons]
    omega
theorem good_words {ws : List Str} (ne : ws ≠ []) (hb : ∀ z ∈ ws, Base z) (few : ws.length < 30) : Good (Txt.split (Txt.join " " ws) " ") := by
  rw [split_words ne hb]
  refine ⟨fun h => ?_, ?_, fun y hy => ?_⟩
  · cases ws with
    | nil => exact ne rfl
    | cons z ws =>
      rw [List.flatMap_cons] at h
      exact spW_ne z (List.append_eq_nil_iff.mp h).1
  · have := flat_len ws
    omega
  · obtain ⟨z, hz, hy⟩ := List.mem_flatMap.mp hy
    exact (spW_facts (hb z hz) y hy).1
theorem sum_le {k : Nat} : ∀ {ys : List Str}, (∀ y ∈ ys, y.length ≤ k) → (ys.map (·.length)).sum ≤ ys.length * k
  | [], _ => Nat.zero_le _
  | y :: ys, h => by
    have h1 := h y List.mem_cons_self
    have h2 := sum_le (k := k) (ys := ys) fun z hz => h z (List.mem_cons_of_mem _ hz)
    rw [List.map_cons, List.sum_cons, List.length_cons, Nat.succ_mul]
    omega
theorem joinL_len {S : List Nat} : ∀ ps : List (List Nat), (TL.joinL S ps).length ≤ (ps.map (·.length)).sum + ps.length * S.length
  | [] => Nat.zero_le _
  | [p] => by
    show p.length ≤ _
    simp only [List.map_cons, List.map_nil, List.sum_cons, List.sum_nil]
    omega
  | p :: q :: r => by
    have := joinL_len (S := S) (q :: r)
    rw [joinL_two, List.length_append, List.length_append, List.map_cons, List.sum_cons, List.length_cons, Nat.succ_mul]
    omega
theorem join_len {y : Str} {ws : List Str} {k : Nat} (h : ∀ z ∈ ws, z.length ≤ k) : (Txt.join y ws).length ≤ ws.length * k + ws.length * y.length := by
  rw [TL.join_eq, str_len, TL.tl_join]
  have := joinL_len (S := TL.tl y) (ws.map TL.tl)
  have s := sum_le h
  rw [List.length_map, List.map_map] at this
  have e : (ws.map ((·.length) ∘ TL.tl)) = ws.map (·.length) := List.map_congr_left fun z _ => (str_len z).symm
  rw [e, ← str_len] at this
  omega
theorem bl_eq {α : Type} (x y : α) [DecidableEq α] {f : α → V} (inj : ∀ a b, f a = f b → a = b) : decide (f x = f y) = decide (x = y) := by
  by_cases c : x = y
  · rw [c, decide_eq_true rfl, decide_eq_true rfl]
  · rw [decide_eq_false c, decide_eq_false fun h => c (inj _ _ h)]
theorem str_eq (x y : Str) : decide (V.str x = V.str y) = decide (x = y) := bl_eq x y fun _ _ h => V.str.inj h
/-- what the program asks of a word -/
def isNumM (z : Str) (m : Nat) : Bool := (Txt.isascii z && Txt.isdigit z) && (decide (z.length ≤ m) && (decide (z = "0") || !Txt.startswith z "0"))
abbrev s_isnum : Stmt := top 10
theorem sc_isnum : FnScope ["word", "most"] ["word", "most"] (defScope s_isnum) := ⟨rfl, rfl, rfl, by decide +kernel, rfl, by decide +kernel, by decide +kernel⟩
def spIsNumM : Sp := fun vs H Q _ => ∃ (z : Str) (m : Nat), vs = [.str z, .int (m : Int)] ∧ z.length ≤ 1000000 ∧ Q (.bl (isNumM z m)) H
theorem ok_isnumM {f : Addr} {fd : FuncData} (T : Txt mg) (F : Fun K "is_number" "is_number" s_isnum f fd) : FnOk P w K mg base CX0 1 f fd ["word", "most"] spIsNumM := by
  refine F.ok sc_isnum (fun vs H Q E h => ?_) (fun cdv A outer s H vs Q E hr h => ?_)
  · obtain ⟨z, m, rfl, _⟩ := h
    rfl
  · obtain ⟨z, m, rfl, hz, q⟩ := h
    refine ⟨_, (pss_cons (ps_if (pt_not (pw_and (pt_val (pe_bm0 PySem.F.plainAttrs_str PySem.F.slot_str_isascii PySem.F.type_str_isascii mt_isascii (pv 0))) (pw_and1 (pt_val (pe_bm0 PySem.F.plainAttrs_str PySem.F.slot_str_isdigit PySem.F.type_str_isdigit mt_isdigit (pv 0))))).pt) (pss_one (ps_ret pe_bl)) pss_nil)
 (pss_one (ps_ret (pe_and (pe_cmpR op_le (pe_callB call_len_str (by rfl) T.len PySem.boot_len (pa_cons (pv 0) pa_nil)) (pv 1) (nomark _)) (pe_one (pe_or (pe_cmpR op_eq (pv 0) pe_str (nomark _)) (pe_one (pe_not (pe_bm PySem.F.plainAttrs_str PySem.F.slot_str_startswith PySem.F.type_str_startswith mt_startswith (pv 0) (pa_cons pe_str pa_nil)))))))))), ?_⟩
    refine ⟨_, rfl, rfl, z, rfl, rfl, trivial, _, rfl, ?_⟩
    unfold isNumM at q
    cases e1 : Txt.isascii z with
    | false =>
      rw [e1, Bool.false_and, Bool.false_and] at q
      exact iteF (iteT q)
    | true =>
      refine iteT ⟨_, rfl, rfl, z, rfl, rfl, trivial, _, rfl, ?_⟩
      cases e2 : Txt.isdigit z with
      | false =>
        rw [e1, e2, Bool.true_and, Bool.false_and] at q
        exact iteT q
      | true =>
        rw [e1, e2, Bool.true_and, Bool.true_and] at q
        refine iteF ?_
        refine ⟨_, rfl, _, rfl, by rw [sizeLine_eq]; omega, _, rfl, _, _, rfl, rfl, _, rfl, ?_⟩
        by_cases c : z.length ≤ m
        · refine if_pos_of (decide_eq_true (by omega)) ?_
          rw [decide_eq_true c, Bool.true_and] at q
          refine ⟨_, rfl, rfl, _, rfl, ?_⟩
          by_cases d : z = "0"
          · refine if_pos_of (by rw [str_eq]; exact decide_eq_true d) ?_
            rw [decide_eq_true d, Bool.true_or] at q
            exact q
          · refine if_neg_of (by rw [str_eq]; exact decide_eq_false d) ?_
            rw [decide_eq_false d, Bool.false_or] at q
            exact ⟨_, rfl, rfl, z, _, rfl, rfl, _, rfl, q⟩
        · refine if_neg_of (decide_eq_false (by omega)) ?_
          rw [decide_eq_false c, Bool.false_and] at q
          exact q
abbrev s_hding : Stmt := top 13
theorem sc_hding : FnScope ["words"] ["words"] (defScope s_hding) := ⟨rfl, rfl, rfl, by decide +kernel, rfl, by decide +kernel, by decide +kernel⟩
def spHead (CT : Addr) (K : PySem.W.Frag) : Sp := fun vs H Q E => ∃ (a : Addr) (L : List Str), vs = [.ref a] ∧ SqL K H a (L.map V.str) ∧ L ≠ [] ∧ (∀ z ∈ L, PyData.strOk z = true) ∧
  (∀ s : Nat, headV L = .inl s → ∀ H', Same H H' → Q (.int (s : Int)) H') ∧
  ∀ b : Nat, headV L = .inr b → ∀ d H', Same H H' → H' d = some (.xd [("at", .int (b : Int))]) → E (.ref CT) (some d) H'
theorem dpAll_strs {K : PySem.W.Frag} {H : Hp} : ∀ l : List Str, DpAll K H (l.map V.str) (l.map PyData.str)
  | [] => .nil
  | x :: l => .cons (.str x) (dpAll_strs l)
theorem eqvAll_strs : ∀ l m : List Str, PyData.eqvAll (l.map PyData.str) (m.map PyData.str) = decide (l = m)
  | [], [] => by rw [List.map_nil, PyData.eqvAll]; rfl
  | [], b :: m => by rw [List.map_nil, List.map_cons, PyData.eqvAll] <;> first | (exact (decide_eq_false (by simp)).symm) | skip
  | a :: l, [] => by rw [List.map_nil, List.map_cons, PyData.eqvAll] <;> first | (exact (decide_eq_false (by simp)).symm) | skip
  | a :: l, b :: m => by
    rw [List.map_cons, List.map_cons, PyData.eqvAll, PyData.eqv, eqvAll_strs l m]
    by_cases c : a = b
    · subst c
      by_cases d : l = m
      · subst d
        simp
      · simp [d]
    · simp [c]
theorem eqv_strs (l m : List Str) : PyData.eqv (.list (l.map PyData.str)) (.list (m.map PyData.str)) = decide (l = m) := by
  rw [PyData.eqv]
  exact eqvAll_strs l m
theorem canLay_strs : ∀ l : List Str, (∀ z ∈ l, PyData.strOk z = true) → PyData.canLayAll0 (l.map PyData.str) = true
  | [], _ => by rw [List.map_nil, PyData.canLayAll0]
  | a :: l, h => by rw [List.map_cons, PyData.canLayAll0, PyData.canLay0, canLay_strs l fun z hz => h z (List.mem_cons_of_mem _ hz), h a List.mem_cons_self]; rfl
theorem depth_strs : ∀ l : List Str, PyData.depthAll (l.map PyData.str) = 0
  | [] => by rw [List.map_nil, PyData.depthAll]
  | a :: l => by rw [List.map_cons, PyData.depthAll, PyData.depth, depth_strs l]; rfl
theorem shaped_strs {l : List Str} (h : ∀ z ∈ l, PyData.strOk z = true) : SeqAt.shaped (.list (l.map PyData.str)) = true := by
  unfold SeqAt.shaped
  rw [PyData.canLay0, canLay_strs l h, PyData.depth, depth_strs]
  rfl
theorem dp_strs {K : PySem.W.Frag} {H : Hp} {a : Addr} {l : List Str} (h : SqL K H a (l.map V.str)) : Dp K H (.ref a) (.list (l.map PyData.str)) := .lst h (dpAll_strs l)
theorem at_str {L : List Str} {i : Nat} {z : Str} (h : L[i]? = some z) : atI (L.map V.str) (i : Int) = some (V.str z) := atI_nat (by rw [List.getElem?_map, h]; rfl)
theorem cut_12 (L : List Str) : cutV (L.map V.str) (some 1) (some 2) = ((L.drop 1).take 1).map V.str := by
  unfold cutV
  have e2 : HT.sIx (L.map V.str).length (L.map V.str).length (some 2) = min 2 L.length := by
    have := HT.sIx_nat (L.map V.str).length (L.map V.str).length 2
    rw [List.length_map] at this ⊢
    exact this
  have e1 : HT.sIx (L.map V.str).length 0 (some 1) = min 1 L.length := by
    have := HT.sIx_nat (L.map V.str).length 0 1
    rw [List.length_map] at this ⊢
    exact this
  rw [e1, e2]
  match L with
  | [] => rfl
  | [_] => rfl
  | _ :: _ :: L => simp
theorem ok_head {f CT : Addr} {fd : FuncData} (T : Txt mg) (F : Fun K "_heading" "_heading" s_hding f fd) (x_bt : ErP P w K mg base "BadText" "at" CT okNat) : FnOk P w K mg base (L2N.CX P w) 3 f fd ["words"] (spHead CT K) := by
  refine okN F sc_hding (fun vs H Q E h => ?_) (fun cdv A outer s H vs Q E hr h => ?_)
  · obtain ⟨a, L, rfl, _⟩ := h
    rfl
  · obtain ⟨a, L, rfl, hS, ne, ok, q, qe⟩ := h
    refine ⟨_, (pss_cons (ps_if (pt_cmpR op_eq (pe_ix ix_list (pv 0) pe_int (fun _ _ => rfl)) pe_str (nomark _)) (pss_one (ps_ret pe_int)) pss_nil)
 (pss_cons (ps_if (pt_cmpR op_ne (pe_ix ix_list (pv 0) pe_int (fun _ _ => rfl)) pe_str (nomark _)) (pss_one (ps_raiseP x_bt hr (L2N.takes_of rfl rfl rfl rfl) (pa_cons pe_int pa_nil))) pss_nil)
 (pss_cons (ps_if (pt_cmpR (op_neD (hu64 hr)) (pe_slice sl_list (pv 0) (po_some pe_int) (po_some pe_int)) (pe_lst (pa_cons pe_str pa_nil)) (nomark _)) (pss_one (ps_raiseP x_bt hr (L2N.takes_of rfl rfl rfl rfl) (pa_cons pe_int pa_nil))) pss_nil)
 (pss_one (ps_ret pe_int))))), ?_⟩
    obtain ⟨z, L', rfl⟩ := List.exists_cons_of_ne_nil ne
    have h0 : atI ((z :: L').map V.str) 0 = some (V.str z) := at_str (i := 0) rfl
    refine ⟨_, rfl, a, _, _, _, rfl, rfl, hS, h0, rfl, _, rfl, ?_⟩
    rw [str_eq]
    by_cases c : z = "primes"
    · subst c
      exact if_pos_of (decide_eq_true rfl) (q 1 (if_pos rfl) H (Same.refl _))
    · refine if_neg_of (decide_eq_false c) ?_
      refine ⟨_, rfl, a, _, _, _, rfl, rfl, hS, h0, rfl, _, rfl, ?_⟩
      rw [str_eq]
      have e0 : ¬ (z :: L')[0]? = some ("primes" : Str) := fun h => c (Option.some.inj h)
      by_cases d : z = "all"
      · subst d
        refine if_neg_of (by simp) ?_
        refine ⟨_, rfl, _, rfl, _, rfl, a, _, rfl, hS, fun p np => ?_⟩
        rw [cut_12]
        refine ⟨(by show 1 ≤ sizeLine; decide), fun p2 np2 => ?_⟩
        have g1 := same_upd (o := .lst ((((("all" : Str) :: L').drop 1).take 1).map V.str)) np
        have g2 := same_upd (o := .lst [V.str "but"]) np2
        refine ⟨_, _, dp_strs (SqL.of (g2 _ _ upd_same)), dp_strs (l := [("but" : Str)]) (SqL.of upd_same), shaped_strs fun y hy => ok y (List.mem_of_mem_drop (List.mem_of_mem_take hy)), shaped_strs (by decide +kernel), _, rfl, ?_⟩
        rw [eqv_strs]
        by_cases b : ((("all" : Str) :: L').drop 1).take 1 = [("but" : Str)]
        · refine if_neg_of (by rw [decide_eq_true b]; rfl) ?_
          have e1 : headV (("all" : Str) :: L') = .inl 2 := by
            unfold headV
            rw [if_neg e0, if_pos (show (("all" : Str) :: L')[0]? = some ("all" : Str) from rfl), if_pos]
            cases L' with
            | nil => cases b
            | cons y L' => exact congrArg some (List.cons.inj b).1
          exact q 2 e1 _ (g1.trans g2)
        · refine if_pos_of (by rw [decide_eq_false b]; rfl) ?_
          have e1 : headV (("all" : Str) :: L') = .inr 1 := by
            unfold headV
            rw [if_neg e0, if_pos (show (("all" : Str) :: L')[0]? = some ("all" : Str) from rfl), if_neg]
            intro h
            cases L' with
            | nil => cases h
            | cons y L' =>
              have h : some y = some ("but" : Str) := h
              exact b (by rw [Option.some.inj h] <;> rfl)
          exact mkP ⟨1, rfl, by decide⟩ fun dd H2 s _ hd => qe 1 e1 dd H2 ((g1.trans g2).trans s) hd
      · refine if_pos_of (by simp [d]) ?_
        have e1 : headV (z :: L') = .inr 0 := by
          unfold headV
          rw [if_neg e0, if_neg]
          exact fun h => d (Option.some.inj h)
        exact mkP ⟨0, rfl, by decide⟩ fun dd H2 s _ hd => qe 0 e1 dd H2 s hd
abbrev s_cread : Stmt := inClass (top 14) 7
theorem sc_cread : FnScope ["cls", "text", "words", "start", "at", "word"] ["cls", "text"] (defScope s_cread) := ⟨rfl, rfl, rfl, by decide +kernel, rfl, by decide +kernel, by decide +kernel⟩
def spRead (C CB CT : Addr) : Sp := fun vs H Q E => ∃ z : Str, vs = [.ref C, .str z] ∧ z.length + 2 ≤ sizeLine ∧ Good (Txt.split z " ") ∧
  (∀ e l, VD (Txt.split z " ") (.set e l) → ∀ r H', CharsAt C H' r e l → Same H H' → Q (.ref r) H') ∧
  (∀ n : Nat, VD (Txt.split z " ") (.at n) → ∀ d H', Same H H' → H' d = some (.xd [("at", .int (n : Int))]) → E (.ref CT) (some d) H') ∧
  ∀ p : Int, VD (Txt.split z " ") (.bad p) → ∀ d H', Same H H' → H' d = some (.xd [("p", .int p)]) → E (.ref CB) (some d) H'
theorem cut_from {α : Type} (f : α → V) (L : List α) (k : Nat) : cutV (L.map f) (some (k : Int)) none = (L.drop k).map f := by
  unfold cutV
  rw [HT.sIx_nat, HT.sIx_none, List.length_map, ← List.map_drop, ← List.map_take]
  congr 1
  by_cases c : k ≤ L.length
  · rw [Nat.min_eq_left c, List.take_of_length_le (by rw [List.length_drop]; exact Nat.le_refl _)]
  · rw [Nat.min_eq_right (by omega), List.drop_length, List.drop_eq_nil_of_le (by omega), List.take_nil]
theorem ok_cread {f C CB CT : Addr} {fd : FuncData} (TT : Txt mg) (T : ChT K mg C) (F : Fun K "read" "Chars.read" s_cread f fd) {tM : Tok} (hM : mg "_MOST_DIGITS" = some (.int 10 tM)) (c_isnum : Cl P w K mg base CX0 1 "is_number" spIsNumM) (c_head : Cl P w K mg base (L2N.CX P w) 3 "_heading" (spHead CT K)) (x_bt : ErP P w K mg base "BadText" "at" CT okNat) (c_cil : Ma P w K mg base 3 C (spCI C CB false K)) :
    FnOk P w K mg base (L2N.CX P w) 5 f fd ["cls", "text"] (spRead C CB CT) := by
  refine okN F sc_cread (fun vs H Q E h => ?_) (fun cdv A outer s H vs Q E hr h => ?_)
  · obtain ⟨z, rfl, _⟩ := h
    rfl
  · obtain ⟨z, rfl, hz, good, q, qt, qb⟩ := h
    generalize hL : Txt.split z " " = L at good q qt qb
    refine ⟨_, (pss_cons (ps_set (i := 2) sc_cread.nd rfl (Or.inl rfl) (pe_split (pv 1) pe_str))
 (pss_cons (ps_set (i := 3) sc_cread.nd rfl (Or.inl rfl) (pe_clNX c_head hr (L2N.takes_of rfl rfl rfl rfl) (pa_cons (pv 2) pa_nil)))
 (Evl.pss_cut (ps_for (passes_of rfl) rfl (pi_range2 rfl TT.range (pa_cons (pv 3) (pa_cons (pe_callB call_len_seq (by rfl) TT.len PySem.boot_len (pa_cons (pv 2) pa_nil)) pa_nil))) (pg_name (i := 4) sc_cread.nd rfl (Or.inl rfl)) (pss_one (ps_if (pt_not (pt_val (pe_cl c_isnum hr (pa_cons (pe_ix ix_list (pv 2) (pv 4) (fun _ _ => rfl)) (pa_cons (pe_glob (v := .int 10) (by rfl) hM ⟨_, rfl⟩) pa_nil))))) (pss_one (ps_raiseP x_bt hr (L2N.takes_of rfl rfl rfl rfl) (pa_cons (pv 4) pa_nil))) pss_nil)))
 (pss_one (ps_ret (pe_maLX (i := 0) c_cil hr (L2N.takes_of rfl rfl rfl rfl) rfl (pa_cons (pe_cmpR op_eq (pe_ix ix_list (pv 2) pe_int (fun _ _ => rfl)) pe_str (nomark _)) (pa_cons (pe_lc (own := [("word", 5)]) (g := (gName 5)) (tt := tYes) rfl sc_cread.nd (pi_list (pe_slice sl_list (pv 2) (po_some (pv 3)) po_none)) (blkOk_by (N := ["cls", "text", "words", "start", "at", "word"]) (sc := defScope s_cread) (by decide +kernel)) (fun _ _ _ _ _ => (pg_name (i := 5) sc_cread.nd rfl (Or.inl rfl))) (fun _ _ _ _ _ => pts_nil) (fun _ _ _ _ _ => (pe_callTy call_int_str (by rfl) TT.int boot_int (pa_cons (pv 5) pa_nil)))) pa_nil)))))))), ?_⟩
    have few := good.few
    have oks : ∀ y ∈ L, PyData.strOk y = true := fun y hy => okW_str (good.ok y hy)
    refine ⟨_, rfl, ⟨_, rfl⟩, z, " ", rfl, rfl, by decide +kernel, hz, fun wa nwa => ?_⟩
    rw [hL]
    have g1 := same_upd (o := .lst (L.map V.str)) nwa
    have hw0 : upd H wa (.lst (L.map V.str)) wa = some (.lst (L.map V.str)) := upd_same
    refine ⟨_, rfl, wa, L, rfl, SqL.of hw0, good.ne, oks, fun st hst H1 s1 => ?_, fun b hb d H1 s1 hd => qt b (.head hb) d H1 (g1.trans s1) hd⟩
    have hw1 := s1 _ _ hw0
    have st2 : st ≤ 2 := by
      unfold headV at hst
      split at hst
      · cases hst
        decide
      · split at hst
        · split at hst
          · cases hst
            decide
          · cases hst
        · cases hst
    -- for at in range(start, len(words))
    refine ⟨fun σ H' => Same H1 H' ∧ (∀ (j : Nat) (y : Str), st ≤ j → L[j]? = some y → isNum y = true) ∧ ∃ x4, σ = [some (.ref C), some (.str z), some (.ref wa), some (.int (st : Int)), x4, none], ?_, ?_⟩
    · refine ⟨_, rfl, _, rfl, wa, _, rfl, .inl (SqL.of hw1), (st : Int), (L.length : Int), by rw [List.length_map], ⟨by omega, by omega, by omega, by omega⟩, ?_⟩
      refine for_range (lo := (st : Int)) (n := ((L.length : Int) - (st : Int)).toNat) (fun i σ H' => Same H1 H' ∧ (∀ (j : Nat) (y : Str), st ≤ j → j < st + i → L[j]? = some y → isNum y = true) ∧ ∃ x4, σ = [some (.ref C), some (.str z), some (.ref wa), some (.int (st : Int)), x4, none])
        ⟨Same.refl _, fun j y h1 h2 => absurd h2 (by omega), _, rfl⟩ ?_ ?_
      · rintro i σ H2 hi ⟨s2, yes, x4, rfl⟩
        have hlt : st + i < L.length := by omega
        have hy : L[st + i]? = some L[st + i] := List.getElem?_eq_getElem hlt
        have oky := good.ok _ (List.getElem_mem hlt)
        have ea : (st : Int) + (i : Int) = ((st + i : Nat) : Int) := by omega
        refine ⟨_, rfl, _, rfl, wa, _, _, _, rfl, rfl, SqL.of (s2 _ _ hw1), by rw [ea]; exact at_str hy, L[st + i], 10, rfl, Nat.le_trans (okW_len oky) (by decide), _, rfl, ?_⟩
        rw [show isNumM L[st + i] 10 = isNum L[st + i] from rfl]
        cases e : isNum L[st + i] with
        | true =>
          refine if_neg_of rfl ⟨s2, fun j y h1 h2 h3 => ?_, _, rfl⟩
          by_cases c : j = st + i
          · rw [c, hy] at h3
            rw [← Option.some.inj h3]
            exact e
          · exact yes j y h1 (by omega) h3
        | false =>
          refine if_pos_of rfl ⟨_, rfl, ?_⟩
          rw [ea]
          exact mkP ⟨_, rfl, by omega⟩ fun dd H3 s3 _ hd => qt (st + i) (.word hst (by omega) hy e yes) dd H3 ((g1.trans s1).trans (s2.trans s3)) hd
      · rintro σ H2 ⟨s2, yes, x4, rfl⟩
        refine ⟨s2, fun j y h1 h2 => yes j y h1 ?_ h2, _, rfl⟩
        have := (List.getElem?_eq_some_iff.mp h2).1
        omega
    rintro σ H2 ⟨s2, yes, x4, rfl⟩
    have hw2 := s2 _ _ hw1
    -- return cls(..)
    obtain ⟨y0, L', eL⟩ := List.exists_cons_of_ne_nil good.ne
    have h0 : atI (L.map V.str) 0 = some (V.str y0) := at_str (i := 0) (by rw [eL]; rfl)
    refine ⟨rfl, _, rfl, wa, _, _, _, rfl, rfl, SqL.of hw2, h0, rfl, ?_⟩
    rw [str_eq]
    have hend : decide (y0 = "all") = decide (st = 2) := by
      have e0 : L[0]? = some y0 := by rw [eL] <;> rfl
      unfold headV at hst
      rw [e0] at hst
      by_cases c : y0 = "primes"
      · subst c
        rw [if_pos rfl] at hst
        cases hst
        decide +kernel
      · rw [if_neg fun h => c (Option.some.inj h)] at hst
        by_cases d : y0 = "all"
        · subst d
          rw [if_pos rfl] at hst
          split at hst
          · cases hst
            decide +kernel
          · cases hst
        · rw [if_neg fun h => d (Option.some.inj h)] at hst
          cases hst
    rw [hend]
    refine ⟨_, rfl, _, rfl, _, rfl, wa, _, rfl, SqL.of hw2, fun p np => ?_⟩
    rw [cut_from]
    have g3 := same_upd (o := .lst ((L.drop st).map V.str)) np
    have hnum : ∀ (i : Nat) (y : Str), (L.drop st)[i]? = some y → PySem.intText? y = some (numOf y) ∧ numOf y < 2 ^ 62 ∧ y.length ≤ 640 := fun i y hi => by
      rw [List.getElem?_drop] at hi
      exact okW_int (good.ok y (List.mem_of_getElem? hi)) (yes _ _ (by omega) hi)
    refine ⟨p, rfl, ⟨_, SqL.of upd_same⟩, fun D hD => lc_list (K := K) (a := p) (xs := (L.drop st).map V.str) (fun i H' => Same (upd H2 p (.lst ((L.drop st).map V.str))) H' ∧ H' D = some (.lst (((L.drop st).take i).map fun y => V.int (numOf y))))
      ⟨same_upd hD, by rw [List.take_zero]; exact upd_same⟩ (fun i H' _ h => h.1.seq (SqL.of upd_same)) ?_ ?_⟩
    · rintro i y H3 hi ⟨s3, hD3⟩
      rw [List.getElem?_map] at hi
      obtain ⟨y, hy, rfl⟩ := Option.map_eq_some_iff.mp hi
      obtain ⟨k1, k2, k3⟩ := hnum i y hy
      have lt := (List.getElem?_eq_some_iff.mp hy).1
      refine ⟨rfl, _, rfl, y, _, rfl, k1, k3, _, hD3, ?_, fun b o eb => ?_, ?_⟩
      · rw [List.length_map, List.length_take]
        exact small1000 (by rw [List.length_drop] at lt; omega)
      · rw [upd_ne (ne_of_none eb hD)]
        exact s3 b o eb
      · rw [List.take_add_one, hy, List.map_append]
        exact upd_same
    · rintro H3 ⟨s3, hD3⟩
      rw [List.length_map, List.take_length] at hD3
      have hD3' : H3 D = some (.lst ((numsOf st L).map V.int)) := by
        rw [hD3, List.map_map]
        rfl
      have sAll := ((g1.trans s1).trans s2).trans (g3.trans s3)
      have few2 : (numsOf st L).length < 64 := by
        rw [List.length_map, List.length_drop]
        omega
      have small : ∀ q ∈ numsOf st L, q < 2 ^ 62 := fun q hq => by
        obtain ⟨y, hy, rfl⟩ := List.mem_map.mp hq
        obtain ⟨i, hi⟩ := List.mem_iff_getElem?.mp hy
        exact (hnum i y hi).2.1
      intro x dx hx hdx hne
      have s4 : Same H3 (upd (upd H3 dx (.own x)) x (.ins C dx [])) := fun b o eb => by
        rw [upd_ne (ne_of_none eb hx), upd_ne (ne_of_none eb hdx)]
        exact eb
      refine ⟨x, dx, D, _, numsOf st L, rfl, upd_same, s4.seq (SqL.of hD3'), small, few2, fun hp l H5 mem len ch keep => ⟨rfl, ?_⟩, fun i p hi hp pr d H5 s5 hd => ?_⟩
      · exact q _ l (.set hst yes hp ch.srt mem) x H5 ch (sAll.trans fun b o eb => keep b o (s4 b o eb) (ne_of_none eb hx))
      · exact qb p (.bad hst yes hi hp pr) d H5 (sAll.trans (s4.trans s5)) hd
abbrev s_cstr : Stmt := inClass (top 14) 15
theorem sc_cstr : FnScope ["self", "words", "p"] ["self"] (defScope s_cstr) := ⟨rfl, rfl, rfl, by decide +kernel, rfl, by decide +kernel, by decide +kernel⟩
def headW (e : Bool) : List Str := if e = true then ["all", "but"] else ["primes"]
def spCstr (C : Addr) : Sp := fun vs H Q _ => ∃ (a : Addr) (e : Bool) (l : List Int), vs = [.ref a] ∧ CharsAt C H a e l ∧ l.length < 64 ∧ ∀ H', Same H H' → Q (.str (Txt.join " " (headW e ++ l.map numS))) H'
theorem numS_len {p : Int} (h : Pr p) (hb : p < 2 ^ 62) : p.natAbs.log2 < 1920 ∧ (numS p).length ≤ 19 := by
  have h2 := h.1
  obtain ⟨n, rfl⟩ := Int.eq_ofNat_of_zero_le (show 0 ≤ p by omega)
  have hn : n < 2 ^ 62 := by omega
  exact ⟨log_nat hn, num_len hn⟩
theorem ok_cstr {f C : Addr} {fd : FuncData} (TT : Txt mg) (T : ChT K mg C) (F : Fun K "__str__" "Chars.__str__" s_cstr f fd) : FnOk P w K mg base CX0 1 f fd ["self"] (spCstr C) := by
  refine F.ok sc_cstr (fun vs H Q E h => ?_) (fun cdv A outer s H vs Q E hr h => ?_)
  · obtain ⟨a, e, l, rfl, _⟩ := h
    rfl
  · obtain ⟨a, e, l, rfl, ch, few, q⟩ := h
    obtain ⟨dx, t, h1, h2⟩ := ch.ob
    refine ⟨_, (pss_cons (ps_setLc (i := 1) (own := [("p", 2)]) (g := (gName 2)) (tt := tYes) rfl sc_cstr.nd rfl rfl (sw_true rfl rfl rfl (by decide +kernel)) (pi_tup (pe_fld (pv 0) rfl)) (blkOk_by (N := ["self", "words", "p"]) (sc := defScope s_cstr) (by decide +kernel)) (fun _ _ _ _ _ => (pg_name (i := 2) sc_cstr.nd rfl (Or.inl rfl))) (fun _ _ _ _ _ => pts_nil) (fun _ _ _ _ _ => (pe_callTy call_str_int (by rfl) TT.str boot_str (pa_cons (pv 2) pa_nil))))
 (pss_cons (ps_if (pt_val (pe_fld (pv 0) rfl)) (pss_one (ps_ret (pe_join pe_str (pe_lst (pa_cons pe_str (pa_cons pe_str (StX.pa_star (pv 1) pa_nil))))))) pss_nil)
 (pss_one (ps_ret (pe_join pe_str (pe_lst (pa_cons pe_str (StX.pa_star (pv 1) pa_nil)))))))), ?_⟩
    refine ⟨_, rfl, a, C, dx, _, _, rfl, h1, T.cl, T.nP, chF_p _ _, t, rfl, ⟨_, SqT.of h2⟩, fun D hD => lc_tup (K := K) (a := t) (xs := l.map V.int) (fun i H' => Same H H' ∧ H' D = some (.lst (((l.take i).map numS).map V.str)))
      ⟨same_upd hD, by rw [List.take_zero]; exact upd_same⟩ (fun i H' _ h => SqT.of (h.1 _ _ h2)) ?_ ?_⟩
    · rintro i y H3 hi ⟨s3, hD3⟩
      obtain ⟨z, rfl, hz⟩ := item_int hi
      have hp := ch.prm z (List.mem_of_getElem? hz)
      have lt := (List.getElem?_eq_some_iff.mp hz).1
      refine ⟨rfl, _, rfl, z, rfl, (numS_len hp.1 hp.2).1, _, hD3, ?_, fun b o eb => ?_, ?_⟩
      · rw [List.length_map, List.length_map, List.length_take]
        exact small1000 (by omega)
      · rw [upd_ne (ne_of_none eb hD)]
        exact s3 b o eb
      · rw [List.take_add_one, hz, List.map_append, List.map_append]
        exact upd_same
    · rintro H3 ⟨s3, hD3⟩
      rw [List.length_map, List.take_length] at hD3
      have lens : ∀ y ∈ headW e ++ l.map numS, y.length ≤ 20 := fun y hy => by
        rcases List.mem_append.mp hy with h | h
        · have : ∀ b : Bool, ∀ y ∈ headW b, y.length ≤ 20 := by decide +kernel
          exact this e y h
        · obtain ⟨p, hp, rfl⟩ := List.mem_map.mp h
          have hp := ch.prm p hp
          have := (numS_len hp.1 hp.2).2
          omega
      have sum := sum_le lens
      have many : (headW e ++ l.map numS).length ≤ 66 := by
        rw [List.length_append, List.length_map]
        have : ∀ b : Bool, (headW b).length ≤ 2 := by decide
        have := this e
        omega
      have fits : ((headW e ++ l.map numS).map (·.length)).sum + (headW e ++ l.map numS).length * (" " : Str).length ≤ 16777216 := by
        have e1 : (" " : Str).length = 1 := by decide +kernel
        rw [e1]
        omega
      refine ⟨_, rfl, a, C, dx, _, _, rfl, s3 _ _ h1, T.cl, T.nE, chF_e _ _, e, rfl, ?_⟩
      cases e with
      | true =>
        refine iteT ⟨⟨_, rfl⟩, _, rfl, D, _, rfl, .inr (SqL.of hD3), ?_⟩
        refine ⟨?_, fun p np => ⟨_, p, headW true ++ l.map numS, rfl, rfl, .inl (SqL.of ?_), fits, q _ (s3.trans (same_upd np))⟩⟩
        · show ((V.str "all") :: (V.str "but") :: (((l.map numS).map V.str) ++ [])).length ≤ sizeLine
          rw [sizeLine_eq, List.append_nil, List.length_cons, List.length_cons, List.length_map, List.length_map]
          omega
        · rw [upd_same, List.append_nil]
          rfl
      | false =>
        refine iteF ⟨⟨_, rfl⟩, _, rfl, D, _, rfl, .inr (SqL.of hD3), ?_⟩
        refine ⟨?_, fun p np => ⟨_, p, headW false ++ l.map numS, rfl, rfl, .inl (SqL.of ?_), fits, q _ (s3.trans (same_upd np))⟩⟩
        · show ((V.str "primes") :: (((l.map numS).map V.str) ++ [])).length ≤ sizeLine
          rw [sizeLine_eq, List.append_nil, List.length_cons, List.length_map, List.length_map]
          omega
        · rw [upd_same, List.append_nil]
          rfl
abbrev s_lisnum : Stmt := top 21
theorem sc_lisnum : FnScope ["_law_word", "_law_letter"] ["_law_word"] (defScope s_lisnum) := ⟨rfl, rfl, rfl, by decide +kernel, rfl, by decide +kernel, by decide +kernel⟩
def spLisNum : Sp := fun vs H Q _ => ∃ z : Str, vs = [.str z] ∧ z.length ≤ 1000000 ∧ ∀ H', Same H H' → Q (.bl (lawNum z)) H'
theorem sign_eq (c : Nat) : decide ((⟨#[c]⟩ : Str) = "0") = decide (some c = some 48) := by
  by_cases h : c = 48
  · subst h
    decide +kernel
  · rw [decide_eq_false fun z => h (Option.some.inj z), decide_eq_false]
    intro z
    have : TL.tl (⟨#[c]⟩ : Str) = TL.tl "0" := by rw [z]
    have e : TL.tl ("0" : Str) = [48] := by decide +kernel
    rw [e] at this
    exact h (List.cons.inj this).1
theorem ok_lisnum {f : Addr} {fd : FuncData} (T : Txt mg) (n_all : mg "all" = none) (F : Fun K "_law_is_number" "_law_is_number" s_lisnum f fd) : FnOk P w K mg base CX0 1 f fd ["_law_word"] spLisNum := by
  refine F.ok sc_lisnum (fun vs H Q E h => ?_) (fun cdv A outer s H vs Q E hr h => ?_)
  · obtain ⟨z, rfl, _⟩ := h
    rfl
  · obtain ⟨z, rfl, hz, q⟩ := h
    refine ⟨_, (pss_cons (ps_if (pw_or (pt_cmpR op_eq (pv 0) pe_str (nomark _)) (pw_or (pt_cmpR op_gt (pe_callB call_len_str (by rfl) T.len PySem.boot_len (pa_cons (pv 0) pa_nil)) pe_int (nomark _)) (pw_or1 (pt_not (pt_val (pe_callB (cr_all rfl) (by rfl) n_all (by decide +kernel) (pa_cons (pe_lc (own := [("_law_letter", 1)]) (g := (gName 1)) (tt := tYes) rfl sc_lisnum.nd (pi_str (pv 0)) (blkOk_by (N := ["_law_word", "_law_letter"]) (sc := defScope s_lisnum) (by decide +kernel)) (fun _ _ _ _ _ => (pg_name (i := 1) sc_lisnum.nd rfl (Or.inl rfl))) (fun _ _ _ _ _ => pts_nil) (fun _ _ _ _ _ => (pe_cmpR op_in_sign (pv 1) pe_str (by with_unfolding_all rfl)))) pa_nil))))))).pt (pss_one (ps_ret pe_bl)) pss_nil)
 (pss_one (ps_ret (pe_or (pe_cmpR op_eq (pv 0) pe_str (nomark _)) (pe_one (pe_cmpR op_ne (pe_ix ix_str (pv 0) pe_int (fun _ _ => rfl)) pe_str (nomark _))))))), ?_⟩
    unfold lawNum at q
    refine ⟨_, rfl, rfl, _, rfl, ?_⟩
    rw [str_eq]
    by_cases c1 : z = ""
    · refine if_pos_of (decide_eq_true c1) ?_
      rw [decide_eq_true c1, Bool.not_true, Bool.false_and, Bool.false_and] at q
      exact q H (Same.refl _)
    refine if_neg_of (decide_eq_false c1) ?_
    refine ⟨_, rfl, _, rfl, by rw [sizeLine_eq]; omega, _, _, rfl, rfl, _, rfl, ?_⟩
    by_cases c2 : ¬ z.length ≤ 10
    · refine if_pos_of (decide_eq_true (by omega)) ?_
      rw [decide_eq_false c2, Bool.false_and, Bool.and_false, Bool.false_and] at q
      exact q H (Same.refl _)
    refine if_neg_of (decide_eq_false (by omega)) ?_
    have c2 : z.length ≤ 10 := Decidable.not_not.mp c2
    rw [decide_eq_false c1, decide_eq_true c2, Bool.not_false, Bool.true_and, Bool.true_and] at q
    refine ⟨_, rfl, z, rfl, fun D hD => lc_it walk_str (fun i H' => Same H H' ∧ H' D = some (.lst (((z.cps.toList.take i).map fun c => decide (c ∈ digs)).map V.bl)))
      ⟨same_upd hD, by rw [List.take_zero]; exact upd_same⟩ (fun _ _ _ _ => trivial) ?_ ?_⟩
    · rintro i x H3 H4 hi ⟨s3, hD3⟩ ⟨rfl, c, hc, rfl⟩
      have hc' : z.cps.toList[i]? = some c := by rw [Array.getElem?_toList]; exact hc
      have lz : z.cps.toList.length ≤ 10 := by
        have : z.length = z.cps.toList.length := str_len z
        omega
      refine ⟨rfl, _, rfl, c, _, rfl, rfl, _, hD3, ?_, fun b o eb => ?_, ?_⟩
      · rw [List.length_map, List.length_map, List.length_take]
        exact small1000 (by omega)
      · rw [upd_ne (ne_of_none eb hD)]
        exact s3 b o eb
      · rw [List.take_add_one, hc', List.map_append, List.map_append]
        exact upd_same
    · rintro H3 ⟨s3, hD3⟩
      rw [← Array.length_toList, List.take_length] at hD3
      refine ⟨D, _, rfl, SqL.of hD3, _, rfl, ?_⟩
      have ea : ((z.cps.toList.map fun c => decide (c ∈ digs)).all id) = z.cps.toList.all fun c => decide (c ∈ digs) := by
        rw [List.all_map]
        rfl
      rw [ea]
      cases e : z.cps.toList.all fun c => decide (c ∈ digs) with
      | false =>
        rw [e, Bool.false_and] at q
        exact if_pos_of rfl (q H3 s3)
      | true =>
        rw [e, Bool.true_and] at q
        refine if_neg_of rfl ?_
        refine ⟨_, rfl, rfl, _, rfl, ?_⟩
        rw [str_eq]
        by_cases c3 : z = "0"
        · rw [decide_eq_true c3, Bool.true_or] at q
          exact if_pos_of (decide_eq_true c3) (q H3 s3)
        · rw [decide_eq_false c3, Bool.false_or] at q
          refine if_neg_of (decide_eq_false c3) ?_
          have ne : z.cps.toList ≠ [] := fun h => c1 (TL.ext_tl (by show z.cps.toList = _; rw [h]; decide +kernel))
          obtain ⟨c, r, hcr⟩ := List.exists_cons_of_ne_nil ne
          have q := q H3 s3
          rw [hcr] at q
          refine ⟨_, rfl, z, _, c, rfl, rfl, by rw [sizeLine_eq]; omega, by rw [hcr]; exact atI_nat (j := 0) rfl, rfl, ?_⟩
          rw [str_eq, sign_eq]
          exact q
def VerdAt (H : Hp) (r : Addr) : Verd → Prop
  | .at n => H r = some (.lst [.str "at", .int (n : Int)])
  | .bad p => H r = some (.lst [.str "bad", .int p])
  | .set e l => ∃ q, H r = some (.lst [.str "set", .bl e, .ref q]) ∧ H q = some (.lst (l.map V.int))
theorem VerdAt.same {H H' : Hp} {r : Addr} {v : Verd} (h : VerdAt H r v) (s : Same H H') : VerdAt H' r v := by
  cases v with
  | «at» n => exact s _ _ h
  | bad p => exact s _ _ h
  | set e l =>
    obtain ⟨q, h1, h2⟩ := h
    exact ⟨q, s _ _ h1, s _ _ h2⟩
abbrev s_ldue : Stmt := top 22
theorem sc_ldue : FnScope ["_law_words", "_law_start", "_law_at", "_law_numbers", "_law_word", "_law_p"] ["_law_words"] (defScope s_ldue) := ⟨rfl, rfl, rfl, by decide +kernel, rfl, by decide +kernel, by decide +kernel⟩
def spDue (K : PySem.W.Frag) : Sp := fun vs H Q _ => ∃ (a : Addr) (L : List Str), vs = [.ref a] ∧ H a = some (.lst (L.map V.str)) ∧ Good L ∧ ∀ v r H', VD L v → VerdAt H' r v → Same H H' → Q (.ref r) H'
theorem ok_ldue {f : Addr} {fd : FuncData} (T : Txt mg) (F : Fun K "_law_due" "_law_due" s_ldue f fd) (c_lisnum : Cl P w K mg base CX0 1 "_law_is_number" spLisNum) (c_lprime : Cl P w K mg base CX0 1 "_law_is_prime" spPrime) : FnOk P w K mg base CX0 2 f fd ["_law_words"] (spDue K) := by
  refine F.ok sc_ldue (fun vs H Q E h => ?_) (fun cdv A outer s H vs Q E hr h => ?_)
  · obtain ⟨a, L, rfl, _⟩ := h
    rfl
  · obtain ⟨a, L, rfl, ha, good, q⟩ := h
    have few := good.few
    refine ⟨_, (pss_cons (ps_set (i := 1) sc_ldue.nd rfl (Or.inl rfl) pe_int)
 (Evl.pss_cut (ps_if (pt_cmpR op_eq (pe_ix ix_list (pv 0) pe_int (fun _ _ => rfl)) pe_str (nomark _)) (pss_cons (ps_if (pw_or (pt_cmpR op_lt (pe_callB call_len_seq (by rfl) T.len PySem.boot_len (pa_cons (pv 0) pa_nil)) pe_int (nomark _)) (pw_or1 (pt_cmpR op_ne (pe_ix ix_list (pv 0) pe_int (fun _ _ => rfl)) pe_str (nomark _)))).pt (pss_one (ps_ret (pe_lst (pa_cons pe_str (pa_cons pe_int pa_nil))))) pss_nil)
 (pss_one (ps_set (i := 1) sc_ldue.nd rfl (Or.inl rfl) pe_int))) (pss_one (ps_if (pt_cmpR op_ne (pe_ix ix_list (pv 0) pe_int (fun _ _ => rfl)) pe_str (nomark _)) (pss_one (ps_ret (pe_lst (pa_cons pe_str (pa_cons pe_int pa_nil))))) pss_nil)))
 (Evl.pss_cut (ps_for PassesOwn.never rfl (pi_range2 rfl T.range (pa_cons (pv 1) (pa_cons (pe_callB call_len_seq (by rfl) T.len PySem.boot_len (pa_cons (pv 0) pa_nil)) pa_nil))) (pg_name (i := 2) sc_ldue.nd rfl (Or.inl rfl)) (pss_one (ps_if (pt_not (pt_val (pe_cl c_lisnum hr (pa_cons (pe_ix ix_list (pv 0) (pv 2) (fun _ _ => rfl)) pa_nil)))) (pss_one (ps_ret (pe_lst (pa_cons pe_str (pa_cons (pv 2) pa_nil))))) pss_nil)))
 (Evl.pss_cut (ps_setLc (i := 3) (own := [("_law_word", 4)]) (g := (gName 4)) (tt := tYes) rfl sc_ldue.nd rfl rfl (sw_true rfl rfl rfl (by decide +kernel)) (pi_list (pe_slice sl_list (pv 0) (po_some (pv 1)) po_none)) (blkOk_by (N := ["_law_words", "_law_start", "_law_at", "_law_numbers", "_law_word", "_law_p"]) (sc := defScope s_ldue) (by decide +kernel)) (fun _ _ _ _ _ => (pg_name (i := 4) sc_ldue.nd rfl (Or.inl rfl))) (fun _ _ _ _ _ => pts_nil) (fun _ _ _ _ _ => (pe_callTy call_int_str (by rfl) T.int boot_int (pa_cons (pv 4) pa_nil))))
 (Evl.pss_cut (ps_for PassesOwn.never rfl (pi_list (pv 3)) (pg_name (i := 5) sc_ldue.nd rfl (Or.inl rfl)) (pss_one (ps_if (pt_not (pt_val (pe_cl c_lprime hr (pa_cons (pv 5) pa_nil)))) (pss_one (ps_ret (pe_lst (pa_cons pe_str (pa_cons (pv 5) pa_nil))))) pss_nil)))
 (pss_one (ps_ret (pe_lst (pa_cons pe_str (pa_cons (pe_cmpR op_eq (pv 1) pe_int (nomark _)) (pa_cons (pe_callB (cr_sortedSet rfl) (by rfl) T.sorted boot_sorted (pa_cons (pe_callTy (cr_setInts rfl) (by rfl) T.set boot_set (pa_cons (pv 3) pa_nil)) pa_nil)) pa_nil))))))))))), ?_⟩
    -- the head
    refine ⟨fun σ H' => ∃ st : Nat, headV L = .inl st ∧ st ≤ 2 ∧ H' = H ∧ σ = [some (.ref a), some (.int (st : Int)), none, none, none, none], ?_, ?_⟩
    · obtain ⟨y0, L', eL⟩ := List.exists_cons_of_ne_nil good.ne
      have e0 : L[0]? = some y0 := by rw [eL] <;> rfl
      have h0 : atI (L.map V.str) 0 = some (V.str y0) := at_str (i := 0) e0
      have ret : ∀ n : Nat, headV L = .inr n → ∀ p, H p = none → Q (.ref p) (upd H p (.lst [.str "at", .int (n : Int)])) := fun n hn p np => q (.at n) p _ (.head hn) upd_same (same_upd np)
      refine ⟨_, rfl, a, _, _, _, rfl, rfl, SqL.of ha, h0, rfl, _, rfl, ?_⟩
      rw [str_eq]
      by_cases d : y0 = "all"
      · refine if_pos_of (decide_eq_true d) ?_
        have np : ¬ L[0]? = some ("primes" : Str) := by
          rw [e0, d]
          decide +kernel
        have pa : L[0]? = some ("all" : Str) := by rw [e0, d]
        refine ⟨_, rfl, a, _, rfl, .inl (SqL.of ha), _, _, rfl, rfl, _, rfl, ?_⟩
        rw [List.length_map]
        by_cases few2 : L.length < 2
        · refine if_pos_of (decide_eq_true (by omega)) ?_
          refine ⟨(by show 2 ≤ sizeLine; decide), fun p np2 => ret 1 ?_ p np2⟩
          unfold headV
          rw [if_neg np, if_pos pa, if_neg]
          intro h
          have := (List.getElem?_eq_some_iff.mp h).1
          omega
        · refine if_neg_of (decide_eq_false (by omega)) ?_
          have h1 : L[1]? = some L[1] := List.getElem?_eq_getElem (by omega)
          refine ⟨_, rfl, a, _, _, _, rfl, rfl, SqL.of ha, at_str (i := 1) h1, rfl, _, rfl, ?_⟩
          rw [str_eq]
          by_cases b : L[1] = "but"
          · refine if_neg_of (by rw [decide_eq_true b]; rfl) ?_
            refine ⟨2, ?_, by decide, rfl, rfl⟩
            unfold headV
            rw [if_neg np, if_pos pa, if_pos (by rw [h1, b])]
          · refine if_pos_of (by rw [decide_eq_false b]; rfl) ?_
            refine ⟨(by show 2 ≤ sizeLine; decide), fun p np2 => ret 1 ?_ p np2⟩
            unfold headV
            rw [if_neg np, if_pos pa, if_neg (by rw [h1]; exact fun h => b (Option.some.inj h))]
      · refine if_neg_of (decide_eq_false d) ?_
        refine ⟨_, rfl, a, _, _, _, rfl, rfl, SqL.of ha, h0, rfl, _, rfl, ?_⟩
        rw [str_eq]
        by_cases c : y0 = "primes"
        · refine if_neg_of (by rw [decide_eq_true c]; rfl) ?_
          refine ⟨1, ?_, by decide, rfl, rfl⟩
          unfold headV
          rw [if_pos (by rw [e0, c])]
        · refine if_pos_of (by rw [decide_eq_false c]; rfl) ?_
          refine ⟨(by show 2 ≤ sizeLine; decide), fun p np2 => ret 0 ?_ p np2⟩
          unfold headV
          rw [if_neg (by rw [e0]; exact fun h => c (Option.some.inj h)), if_neg (by rw [e0]; exact fun h => d (Option.some.inj h))]
    rintro σ H0 ⟨st, hst, st2, rfl, rfl⟩
    -- for at in range(start, len(words))
    refine ⟨fun σ H' => Same H0 H' ∧ (∀ (j : Nat) (y : Str), st ≤ j → L[j]? = some y → isNum y = true) ∧ ∃ x2, σ = [some (.ref a), some (.int (st : Int)), x2, none, none, none], ?_, ?_⟩
    · refine ⟨_, rfl, _, rfl, a, _, rfl, .inl (SqL.of ha), (st : Int), (L.length : Int), by rw [List.length_map], ⟨by omega, by omega, by omega, by omega⟩, ?_⟩
      refine for_range (lo := (st : Int)) (n := ((L.length : Int) - (st : Int)).toNat) (fun i σ H' => Same H0 H' ∧ (∀ (j : Nat) (y : Str), st ≤ j → j < st + i → L[j]? = some y → isNum y = true) ∧ ∃ x2, σ = [some (.ref a), some (.int (st : Int)), x2, none, none, none])
        ⟨Same.refl _, fun j y h1 h2 => absurd h2 (by omega), _, rfl⟩ ?_ ?_
      · rintro i σ H2 hi ⟨s2, yes, x2, rfl⟩
        have hlt : st + i < L.length := by omega
        have hy : L[st + i]? = some L[st + i] := List.getElem?_eq_getElem hlt
        have oky := good.ok _ (List.getElem_mem hlt)
        have ea : (st : Int) + (i : Int) = ((st + i : Nat) : Int) := by omega
        refine ⟨_, rfl, _, rfl, a, _, _, _, rfl, rfl, SqL.of (s2 _ _ ha), by rw [ea]; exact at_str hy, L[st + i], rfl, Nat.le_trans (okW_len oky) (by decide), fun H3 s3 => ⟨_, rfl, ?_⟩⟩
        rw [okW_law oky]
        cases e : isNum L[st + i] with
        | true =>
          refine if_neg_of rfl ⟨s2.trans s3, fun j y h1 h2 h3 => ?_, _, rfl⟩
          by_cases c : j = st + i
          · rw [c, hy] at h3
            rw [← Option.some.inj h3]
            exact e
          · exact yes j y h1 (by omega) h3
        | false =>
          refine if_pos_of rfl ⟨_, rfl, (by show 2 ≤ sizeLine; decide), fun p np => ?_⟩
          rw [ea]
          exact q (.at (st + i)) p _ (.word hst (by omega) hy e yes) upd_same ((s2.trans s3).trans (same_upd np))
      · rintro σ H2 ⟨s2, yes, x2, rfl⟩
        refine ⟨s2, fun j y h1 h2 => yes j y h1 ?_ h2, _, rfl⟩
        have := (List.getElem?_eq_some_iff.mp h2).1
        omega
    rintro σ H1 ⟨s1, yes, x2, rfl⟩
    have ha1 := s1 _ _ ha
    have hnum : ∀ (i : Nat) (y : Str), (L.drop st)[i]? = some y → PySem.intText? y = some (numOf y) ∧ numOf y < 2 ^ 62 ∧ y.length ≤ 640 := fun i y hi => by
      rw [List.getElem?_drop] at hi
      exact okW_int (good.ok y (List.mem_of_getElem? hi)) (yes _ _ (by omega) hi)
    have few2 : (numsOf st L).length < 64 := by
      rw [List.length_map, List.length_drop]
      omega
    have small : ∀ q ∈ numsOf st L, q < 2 ^ 62 := fun q hq => by
      obtain ⟨y, hy, rfl⟩ := List.mem_map.mp hq
      obtain ⟨i, hi⟩ := List.mem_iff_getElem?.mp hy
      exact (hnum i y hi).2.1
    -- numbers
    refine ⟨fun σ H' => Same H1 H' ∧ ∃ nu, H' nu = some (.lst ((numsOf st L).map V.int)) ∧ σ = [some (.ref a), some (.int (st : Int)), x2, some (.ref nu), none, none], ?_, ?_⟩
    · refine ⟨_, rfl, _, rfl, _, rfl, a, _, rfl, SqL.of ha1, fun p np => ?_⟩
      rw [cut_from]
      have g3 := same_upd (o := .lst ((L.drop st).map V.str)) np
      refine ⟨p, rfl, ⟨_, SqL.of upd_same⟩, fun D hD => lc_list (K := K) (a := p) (xs := (L.drop st).map V.str) (fun i H' => Same (upd H1 p (.lst ((L.drop st).map V.str))) H' ∧ H' D = some (.lst (((L.drop st).take i).map fun y => V.int (numOf y))))
        ⟨same_upd hD, by rw [List.take_zero]; exact upd_same⟩ (fun i H' _ h => h.1.seq (SqL.of upd_same)) ?_ ?_⟩
      · rintro i y H3 hi ⟨s3, hD3⟩
        rw [List.getElem?_map] at hi
        obtain ⟨y, hy, rfl⟩ := Option.map_eq_some_iff.mp hi
        obtain ⟨k1, k2, k3⟩ := hnum i y hy
        have lt := (List.getElem?_eq_some_iff.mp hy).1
        refine ⟨rfl, _, rfl, y, _, rfl, k1, k3, _, hD3, ?_, fun b o eb => ?_, ?_⟩
        · rw [List.length_map, List.length_take]
          exact small1000 (by rw [List.length_drop] at lt; omega)
        · rw [upd_ne (ne_of_none eb hD)]
          exact s3 b o eb
        · rw [List.take_add_one, hy, List.map_append]
          exact upd_same
      · rintro H3 ⟨s3, hD3⟩
        rw [List.length_map, List.take_length] at hD3
        refine ⟨g3.trans s3, D, ?_, rfl⟩
        rw [hD3, List.map_map]
        rfl
    rintro σ H2 ⟨s2, nu, hnu, rfl⟩
    -- for p in numbers
    refine ⟨fun σ H' => H' = H2 ∧ (∀ q ∈ numsOf st L, Pr q) ∧ ∃ x5, σ = [some (.ref a), some (.int (st : Int)), x2, some (.ref nu), none, x5], ?_, ?_⟩
    · refine ⟨_, rfl, nu, rfl, ⟨_, SqL.of hnu⟩, for_list (K := K) (a := nu) (xs := (numsOf st L).map V.int) (fun i σ H' => H' = H2 ∧ (∀ (j : Nat) (q : Int), j < i → (numsOf st L)[j]? = some q → Pr q) ∧ ∃ x5, σ = [some (.ref a), some (.int (st : Int)), x2, some (.ref nu), none, x5])
        ⟨rfl, fun j q hj => absurd hj (Nat.not_lt_zero j), _, rfl⟩ (fun i σ H' _ h => by rw [h.1]; exact SqL.of hnu) ?_ ?_⟩
      · rintro i y σ _ hi ⟨rfl, hp, x5, rfl⟩
        obtain ⟨z, rfl, hz⟩ := item_int hi
        refine ⟨_, rfl, z, rfl, small z (List.mem_of_getElem? hz), _, rfl, ?_⟩
        by_cases c : Pr z
        · refine if_neg_of (by rw [prB_true c]; rfl) ⟨rfl, fun j q hj hq => ?_, _, rfl⟩
          by_cases ej : j = i
          · rw [ej, hz] at hq
            rw [← Option.some.inj hq]
            exact c
          · exact hp j q (by omega) hq
        · refine if_pos_of (by rw [prB_false c]; rfl) ⟨_, rfl, (by show 2 ≤ sizeLine; decide), fun p np => ?_⟩
          exact q (.bad z) p _ (.bad hst yes hz c hp) upd_same ((s1.trans s2).trans (same_upd np))
      · rintro σ _ ⟨rfl, hp, x5, rfl⟩
        refine ⟨rfl, fun q hq => ?_, _, rfl⟩
        obtain ⟨j, hj⟩ := List.mem_iff_getElem?.mp hq
        exact hp j q (by rw [List.length_map]; exact (List.getElem?_eq_some_iff.mp hj).1) hj
    rintro σ _ ⟨rfl, hp, x5, rfl⟩
    refine ⟨_, rfl, rfl, _, rfl, nu, numsOf st L, rfl, .inl (SqL.of hnu), by omega, fun p1 c np1 hc => ?_⟩
    refine ⟨p1, _, c, rfl, upd_same, (by omega), fun l p2 srt mem len np2 => ?_⟩
    have g1 := same_upd (o := SetO w p1 (fun j => decide (j ∈ numsOf st L)) c) np1
    have g2 := same_upd (o := .lst (l.map V.int)) np2
    refine ⟨(by show 3 ≤ sizeLine; decide), fun p np => ?_⟩
    have g3 := same_upd (o := .lst [.str "set", .bl (decide (V.int (st : Int) = V.int 2)), .ref p2]) np
    refine q (.set (decide (st = 2)) l) p _ (.set hst yes hp srt fun z => by rw [mem z]; exact decide_eq_true_iff) ⟨p2, ?_, g3 _ _ upd_same⟩ (((s1.trans s2).trans g1).trans (g2.trans g3))
    rw [upd_same]
    have e : decide (V.int (st : Int) = V.int 2) = decide (st = 2) := by
      by_cases c : st = 2
      · rw [c]
        rfl
      · rw [decide_eq_false c, decide_eq_false]
        intro h
        have := V.int.inj h
        omega
    rw [← e]
abbrev s_ltold : Stmt := top 23
theorem sc_ltold : FnScope ["_law_words", "_law_found", "e"] ["_law_words"] (defScope s_ltold) := ⟨rfl, rfl, rfl, by decide +kernel, rfl, by decide +kernel, by decide +kernel⟩
def spTold : Sp := fun vs H Q _ => ∃ (a : Addr) (ws : List Str), vs = [.ref a] ∧ H a = some (.lst (ws.map V.str)) ∧ (ws.map (·.length)).sum + ws.length ≤ 1000000 ∧ (Txt.join " " ws).length ≤ 1000000 ∧ Good (Txt.split (Txt.join " " ws) " ") ∧
  ∀ v r H', VD (Txt.split (Txt.join " " ws) " ") v → VerdAt H' r v → Same H H' → Q (.ref r) H'
theorem ok_ltold {f C CB CT fB fT : Addr} {fd : FuncData} (TT : Txt mg) (T : ChT K mg C) (TB : ErrC K mg "BadCharacteristic" "p" CB fB) (TX : ErrC K mg "BadText" "at" CT fT) (ex : PySem.W.exmOne K (.ref CB) (.ref CT) = some false) (F : Fun K "_law_told" "_law_told" s_ltold f fd) (c_read : CmN P w K mg base 5 C "read" (spRead C CB CT)) :
    FnOk P w K mg base CX0 6 f fd ["_law_words"] spTold := by
  refine F.ok sc_ltold (fun vs H Q E h => ?_) (fun cdv A outer s H vs Q E hr h => ?_)
  · obtain ⟨a, ws, rfl, _⟩ := h
    rfl
  · obtain ⟨a, ws, rfl, ha, hsum, hlen, good, q⟩ := h
    refine ⟨_, (Evl.pss_cut (ps_try_ms rfl rfl sc_ltold.nd takes0N
  (fun W pn xe tk _ => (pss_one (ps_set (i := 1) sc_ltold.nd rfl (Or.inl rfl) (pe_cmNX c_read hr tk (pe_glob (v := .ref C) (by rfl) T.g rfl) (pa_cons (pe_joinK (K := K) rfl pe_str (pv 0)) pa_nil)))))
  (.more (i := 2) rfl rfl ⟨rfl, by decide, Or.inl TX.g⟩ (fun a oe cls d pn hz hf => (pss_one (ps_ret (pe_lst (pa_cons pe_str (pa_cons (pe_xf TX.xf TX.no hz.zc hf (pv 2)) pa_nil))))))
   (.more (i := 2) rfl rfl ⟨rfl, by decide, Or.inl TB.g⟩ (fun a oe cls d pn hz hf => (pss_one (ps_ret (pe_lst (pa_cons pe_str (pa_cons (pe_xf TB.xf TB.no hz.zc hf (pv 2)) pa_nil))))))
   .none)))
 (pss_one (ps_ret (pe_lst (pa_cons pe_str (pa_cons (pe_fld (pv 1) rfl) (pa_cons (pe_callTy call_list_of (by rfl) TT.list boot_list (pa_cons (pe_fld (pv 1) rfl) pa_nil)) pa_nil))))))), ?_⟩
    have space : (" " : Str).length = 1 := by decide +kernel
    refine ⟨fun σ H' => ∃ (x : Addr) (e : Bool) (l : List Int), VD (Txt.split (Txt.join " " ws) " ") (.set e l) ∧ CharsAt C H' x e l ∧ Same H H' ∧ σ = [some (.ref a), some (.ref x), none], ?_, ?_⟩
    · refine ⟨rfl, ⟨_, rfl⟩, _, rfl, _, a, ws, rfl, rfl, .inl (SqL.of ha), by rw [space]; omega, ?_⟩
      refine ⟨_, rfl, by rw [sizeLine_eq]; omega, good, fun e l hv r H' ch s1 => ⟨r, e, l, hv, ch, s1, rfl⟩, fun n hv d H' s1 hd => ?_, fun p hv d H' s1 hd => ?_⟩
      · exact ⟨true, TX.te, fun _ y ny => ⟨_, rfl, rfl, rfl, d, _, _, rfl, hd, rfl, (by show 2 ≤ sizeLine; decide), fun q2 nq2 => q _ q2 _ hv upd_same (s1.trans (same_upd nq2))⟩, fun z => Bool.noConfusion z⟩
      · exact ⟨false, ex, (fun z => Bool.noConfusion z), fun _ => ⟨true, TB.te, fun _ y ny => ⟨_, rfl, rfl, rfl, d, _, _, rfl, hd, rfl, (by show 2 ≤ sizeLine; decide), fun q2 nq2 => q _ q2 _ hv upd_same (s1.trans (same_upd nq2))⟩, fun z => Bool.noConfusion z⟩⟩
    rintro σ H1 ⟨x, e, l, hv, ch, s1, rfl⟩
    obtain ⟨dx, t, o1, o2⟩ := ch.ob
    refine ⟨_, rfl, x, C, dx, _, _, rfl, o1, T.cl, T.nE, chF_e _ _, _, rfl, x, C, dx, _, _, rfl, o1, T.cl, T.nP, chF_p _ _, ?_⟩
    refine ⟨t, _, rfl, .inr (SqT.of o2), fun p np => ⟨(by show 3 ≤ sizeLine; decide), fun p2 np2 => ?_⟩⟩
    have g1 := same_upd (o := .lst (l.map V.int)) np
    have g2 := same_upd (o := .lst [.str "set", .bl e, .ref p]) np2
    exact q (.set e l) p2 _ hv ⟨p, upd_same, g2 _ _ upd_same⟩ ((s1.trans g1).trans g2)
theorem allN {R : V → Prop} : ∀ x ∈ ([] : List V), R x := fun _ h => nomatch h
theorem allC {R : V → Prop} {a : V} {l : List V} (h : R a) (t : ∀ x ∈ l, R x) : ∀ x ∈ a :: l, R x := fun x hx => by
  rcases List.mem_cons.mp hx with e | e
  · rw [e]
    exact h
  · exact t x e
/-- an item at an open place in bounds -/
theorem at_some {xs : List V} {v : Int} (h0 : 0 ≤ v) (h1 : v < xs.length) : ∃ x, atI xs v = some x ∧ x ∈ xs := by
  have hv : ((v.toNat : Nat) : Int) = v := Int.toNat_of_nonneg h0
  have hl : v.toNat < xs.length := by omega
  have z : atI xs ((v.toNat : Nat) : Int) = some xs[v.toNat] := atI_nat (List.getElem?_eq_getElem hl)
  rw [hv] at z
  exact ⟨xs[v.toNat], z, List.getElem_mem hl⟩
def SameBut (p : Addr) (H H' : Hp) : Prop := ∀ b o, b ≠ p → H b = some o → H' b = some o
theorem SameBut.of {p : Addr} {H H' : Hp} (e : ∀ q, q ≠ p → H' q = H q) : SameBut p H H' := fun b o hb h => by
  rw [e b hb]
  exact h
theorem SameBut.trans {p : Addr} {H H1 H2 : Hp} (a : SameBut p H H1) (b : SameBut p H1 H2) : SameBut p H H2 := fun c o hc h => b c o hc (a c o hc h)
theorem sbut {p : Addr} {H H' : Hp} (s : Same H H') : SameBut p H H' := fun b o _ h => s b o h
/-- what was tracked ahead of the pool -/
theorem SameBut.same {p : Addr} {H0 H H' : Hp} (s : Same H0 H) (np : H0 p = none) (e : SameBut p H H') : Same H0 H' := fun b o h => e b o (ne_of_none h np) (s b o h)
theorem PoolAt.same {H H' : Hp} {p : Addr} (h : PoolAt H p) (s : Same H H') : PoolAt H' p := by
  obtain ⟨x, y, z, e⟩ := h
  exact ⟨x, y, z, s _ _ e⟩
theorem PoolAt.new {H : Hp} {p a : Addr} (h : PoolAt H p) (n : H a = none) : a ≠ p := fun e => by
  obtain ⟨x, y, z, q⟩ := h
  rw [e, q] at n
  cases n
theorem cut_to {α : Type} (f : α → V) (L : List α) (k : Nat) : cutV (L.map f) none (some (k : Int)) = (L.take k).map f := by
  unfold cutV
  rw [HT.sIx_none, HT.sIx_nat, List.length_map, List.drop_zero, Nat.sub_zero, ← List.map_take]
  congr 1
  by_cases c : k ≤ L.length
  · rw [Nat.min_eq_left c]
  · rw [Nat.min_eq_right (by omega), List.take_length, List.take_of_length_le (by omega)]
theorem cut_mid {α : Type} (f : α → V) (L : List α) (a b : Nat) : cutV (L.map f) (some (a : Int)) (some (b : Int)) = ((L.drop a).take (b - a)).map f := by
  unfold cutV
  rw [HT.sIx_nat, HT.sIx_nat, List.length_map, ← List.map_drop, ← List.map_take]
  congr 1
  by_cases c : a ≤ L.length
  · rw [Nat.min_eq_left c]
    by_cases d : b ≤ L.length
    · rw [Nat.min_eq_left d]
    · rw [Nat.min_eq_right (by omega), List.take_of_length_le (by rw [List.length_drop]; exact Nat.le_refl _), List.take_of_length_le (by rw [List.length_drop]; omega)]
  · rw [Nat.min_eq_right (show L.length ≤ a by omega), List.drop_length, List.drop_eq_nil_of_le (show L.length ≤ a by omega), List.take_nil, List.take_nil]
abbrev s_lchg : Stmt := top 24
theorem sc_lchg : FnScope ["_law_pool_here", "_law_words", "_law_at", "_law_which", "_law_menu"] ["_law_pool_here", "_law_words"] (defScope s_lchg) := ⟨rfl, rfl, rfl, by decide +kernel, rfl, by decide +kernel, by decide +kernel⟩
def menuW : List Str := ["0", "1", "07", "9", "primes", "all", "but", "", "-1", "1_0", "+4", "3 ", "91", big, "2"]
theorem menuW_base : ∀ z ∈ menuW, Base z := by
  have h : ∀ z ∈ (["0", "1", "07", "9", "primes", "all", "but", "", "-1", "1_0", "+4", "3 ", "91", "2"] : List Str), z ∈ base25 := by decide +kernel
  intro z hz
  by_cases c : z = big
  · exact .inr c
  · refine .inl (h z ?_)
    unfold menuW at hz
    simp only [List.mem_cons, List.not_mem_nil, or_false] at hz ⊢
    simp only [c, false_or] at hz
    exact hz
theorem rep_len {z : Str} {c : Nat} (h : TL.tl z = [c]) (n : Nat) : (repS z n).length = n := by
  rw [str_len, tl_rep1 h, List.length_replicate]
theorem big_fits : ("1" : Str).length + (repS "0" (5000 : Int).toNat).length ≤ sizeLine := by
  rw [rep_len (c := 48) (by decide +kernel), sizeLine_eq]
  have : ("1" : Str).length = 1 := by decide +kernel
  rw [this]
  decide
theorem base_str {z : Str} (h : Base z) : PyData.strOk z = true := by
  rcases h with h | rfl
  · have : ∀ z ∈ base25, PyData.strOk z = true := by decide +kernel
    exact this z h
  · exact okW_str okW_big
/-- what changes the words is done with new lists alone, but for the pool -/
def spChg : Sp := fun vs H Q _ => ∃ (p a : Addr) (ws : List Str), vs = [.ref p, .ref a] ∧ PoolAt H p ∧ H a = some (.lst (ws.map V.str)) ∧ a ≠ p ∧ (∀ z ∈ ws, Base z) ∧ ws.length ≤ 20 ∧
  ∀ (r : Addr) (ws' : List Str) (H' : Hp), SameBut p H H' → PoolAt H' p → r ≠ p → H' r = some (.lst (ws'.map V.str)) → (∀ z ∈ ws', Base z) → ws'.length ≤ ws.length + 1 → Q (.ref r) H'
theorem ok_lchg {f : Addr} {fd : FuncData} (T : Txt mg) (F : Fun K "_law_changed" "_law_changed" s_lchg f fd) (c_take : Cl P w K mg base CX0 1 "_law_take" spTake) : FnOk P w K mg base CX0 2 f fd ["_law_pool_here", "_law_words"] spChg := by
  refine F.ok sc_lchg (fun vs H Q E h => ?_) (fun cdv A outer s H vs Q E hr h => ?_)
  · obtain ⟨p, a, ws, rfl, _⟩ := h
    rfl
  · obtain ⟨p, a, ws, rfl, P0, ha, hap, hb, few, q⟩ := h
    refine ⟨_, (Evl.pss_cut (ps_if (pt_cmpR (op_eqD (hu64 hr)) (pv 1) (pe_lst pa_nil) (nomark _)) (pss_one (ps_ret (pe_lst (pa_cons pe_str pa_nil)))) pss_nil)
 (pss_cons (ps_set (i := 2) sc_lchg.nd rfl (Or.inl rfl) (pe_cl c_take hr (pa_cons (pv 0) (pa_cons (pe_callB call_len_seq (by rfl) T.len PySem.boot_len (pa_cons (pv 1) pa_nil)) pa_nil))))
 (pss_cons (ps_set (i := 3) sc_lchg.nd rfl (Or.inl rfl) (pe_cl c_take hr (pa_cons (pv 0) (pa_cons pe_int pa_nil))))
 (Evl.pss_cut (ps_if (pt_cmpR op_eq (pv 3) pe_int (nomark _)) (pss_one (ps_ret (pe_op op_cat (pe_slice sl_list (pv 1) po_none (po_some (pv 2))) (pe_slice sl_list (pv 1) (po_some (pe_op op_add (pv 2) pe_int)) po_none)))) pss_nil)
 (Evl.pss_cut (ps_if (pt_cmpR op_eq (pv 3) pe_int (nomark _)) (pss_one (ps_ret (pe_op op_cat (pe_op op_cat (pe_slice sl_list (pv 1) po_none (po_some (pv 2))) (pe_lst (pa_cons (pe_ix ix_list (pv 1) (pv 2) (fun _ _ => rfl)) pa_nil))) (pe_slice sl_list (pv 1) (po_some (pv 2)) po_none)))) pss_nil)
 (Evl.pss_cut (ps_if (pt_cmpR op_eq (pv 3) pe_int (nomark _)) (pss_one (ps_ret (pe_op op_cat (pe_op op_cat (pe_slice sl_list (pv 1) po_none (po_some (pv 2))) (pe_revL (pe_slice sl_list (pv 1) (po_some (pv 2)) (po_some (pe_op op_add (pv 2) pe_int))))) (pe_slice sl_list (pv 1) (po_some (pe_op op_add (pv 2) pe_int)) po_none)))) pss_nil)
 (Evl.pss_cut (ps_set (i := 4) sc_lchg.nd rfl (Or.inl rfl) (pe_lst (pa_cons pe_str (pa_cons pe_str (pa_cons pe_str (pa_cons pe_str (pa_cons pe_str (pa_cons pe_str (pa_cons pe_str (pa_cons pe_str (pa_cons pe_str (pa_cons pe_str (pa_cons pe_str (pa_cons pe_str (pa_cons pe_str (pa_cons (pe_op op_add_str pe_str (pe_op op_rep_str pe_str pe_int)) (pa_cons pe_str pa_nil)))))))))))))))))
 (pss_one (ps_ret (pe_op op_cat (pe_op op_cat (pe_slice sl_list (pv 1) po_none (po_some (pv 2))) (pe_lst (pa_cons (pe_ix ix_list (pv 4) (pe_cl c_take hr (pa_cons (pv 0) (pa_cons pe_int pa_nil))) (fun _ _ => rfl)) pa_nil))) (pe_slice sl_list (pv 1) (po_some (pe_op op_add (pv 2) pe_int)) po_none))))))))))), ?_⟩
    have oks : ∀ z ∈ ws, PyData.strOk z = true := fun z hz => base_str (hb z hz)
    refine ⟨fun σ H' => ws ≠ [] ∧ Same H H' ∧ σ = [some (.ref p), some (.ref a), none, none, none], ?_, ?_⟩
    · refine ⟨_, rfl, (by show 0 ≤ sizeLine; decide), fun e ne => ?_⟩
      have g1 := same_upd (o := .lst []) ne
      refine ⟨_, _, dp_strs (SqL.of (g1 _ _ ha)), dp_strs (l := []) (SqL.of upd_same), shaped_strs oks, shaped_strs (fun _ h => nomatch h), _, rfl, ?_⟩
      rw [eqv_strs]
      by_cases c : ws = []
      · refine if_pos_of (decide_eq_true c) ⟨(by show 1 ≤ sizeLine; decide), fun r nr => ?_⟩
        have g2 := same_upd (o := .lst [.str "all"]) nr
        exact q r ["all"] _ (sbut (g1.trans g2)) (P0.same (g1.trans g2)) ((P0.same g1).new nr) upd_same (fun z hz => .inl (by rw [List.mem_singleton.mp hz]; decide +kernel)) (by show 1 ≤ _; omega)
      · exact if_neg_of (decide_eq_false c) ⟨c, g1, rfl⟩
    rintro σ H1 ⟨ne, s1, rfl⟩
    have ha1 := s1 _ _ ha
    have P1 := P0.same s1
    have pos : 0 < ws.length := List.length_pos_iff.mpr ne
    refine ⟨_, rfl, _, rfl, a, _, rfl, .inl (SqL.of ha1), p, ws.length, by rw [List.length_map]; rfl, P1, by omega, ?_, fun v H2 v0 v1 e2 P2 => ?_⟩
    · have : ws.length < 2 ^ 9000 := Nat.lt_of_lt_of_le (show ws.length < 2 ^ 5 by omega) (Nat.pow_le_pow_right (by decide) (by decide))
      exact (Nat.log2_lt (by show ws.length ≠ 0; omega)).mpr this
    obtain ⟨n, rfl⟩ := Int.eq_ofNat_of_zero_le v0
    have hn : n < ws.length := by omega
    refine ⟨_, rfl, p, 4, rfl, P2, by decide, by decide, fun u H3 u0 u1 e3 P3 => ?_⟩
    have b3 : SameBut p H H3 := ((sbut s1).trans (SameBut.of e2)).trans (SameBut.of e3)
    have ha3 := b3 _ _ hap ha
    clear e2 e3 P2 P1 ha1 s1 P0
    have en : (n : Int) + 1 = ((n + 1 : Nat) : Int) := rfl
    have en2 : (n : Int) + 2 = ((n + 2 : Nat) : Int) := rfl
    have small : ∀ k, k ≤ 100 → k ≤ sizeLine := fun k h => by
      rw [sizeLine_eq]
      omega
    have hz : ws[n]? = some ws[n] := List.getElem?_eq_getElem hn
    -- which == 0
    refine ⟨fun σ H' => H3 = H' ∧ σ = [some (.ref p), some (.ref a), some (.int (n : Int)), some (.int u), none], ?_, ?_⟩
    · refine ⟨_, rfl, rfl, _, rfl, ?_⟩
      by_cases c : V.int u = V.int 0
      · refine if_pos_of (decide_eq_true c) ?_
        refine ⟨_, rfl, _, rfl, _, rfl, a, _, rfl, SqL.of ha3, fun a1 na1 => ?_⟩
        rw [cut_to]
        have g1 := same_upd (o := .lst ((ws.take n).map V.str)) na1
        refine ⟨_, rfl, _, rfl, _, _, rfl, rfl, _, rfl, a, _, rfl, SqL.of (g1 _ _ ha3), fun a2 na2 => ?_⟩
        rw [en, cut_from]
        have g2 := same_upd (o := .lst ((ws.drop (n + 1)).map V.str)) na2
        refine ⟨a1, a2, _, _, rfl, rfl, g2 _ _ upd_same, upd_same, small _ (by rw [List.length_map, List.length_map, List.length_take, List.length_drop]; omega), fun r nr => ?_⟩
        rw [← List.map_append]
        have g3 := same_upd (o := .lst ((ws.take n ++ ws.drop (n + 1)).map V.str)) nr
        have P4 := P3.same (g1.trans g2)
        refine q r (ws.take n ++ ws.drop (n + 1)) _ (b3.trans (sbut ((g1.trans g2).trans g3))) (P4.same g3) (P4.new nr) upd_same (fun z hz => ?_) (by rw [List.length_append, List.length_take, List.length_drop]; omega)
        rcases List.mem_append.mp hz with h | h
        · exact hb z (List.mem_of_mem_take h)
        · exact hb z (List.mem_of_mem_drop h)
      · exact if_neg_of (decide_eq_false c) ⟨rfl, rfl⟩
    rintro σ _ ⟨rfl, rfl⟩
    -- which == 1
    refine ⟨fun σ H' => H3 = H' ∧ σ = [some (.ref p), some (.ref a), some (.int (n : Int)), some (.int u), none], ?_, ?_⟩
    · refine ⟨_, rfl, rfl, _, rfl, ?_⟩
      by_cases c : V.int u = V.int 1
      · refine if_pos_of (decide_eq_true c) ?_
        refine ⟨_, rfl, _, rfl, _, rfl, a, _, rfl, SqL.of ha3, fun a1 na1 => ?_⟩
        rw [cut_to]
        have g1 := same_upd (o := .lst ((ws.take n).map V.str)) na1
        refine ⟨_, rfl, _, rfl, a, _, _, _, rfl, rfl, SqL.of (g1 _ _ ha3), at_str hz, (by show 1 ≤ sizeLine; decide), fun a2 na2 => ?_⟩
        have g2 := same_upd (o := .lst [.str ws[n]]) na2
        refine ⟨a1, a2, _, _, rfl, rfl, g2 _ _ upd_same, upd_same, small _ (by rw [List.length_map, List.length_take]; show _ + 1 ≤ 100; omega), fun a3 na3 => ?_⟩
        have g3 := same_upd (o := .lst ((ws.take n).map V.str ++ [.str ws[n]])) na3
        refine ⟨_, rfl, _, rfl, _, rfl, a, _, rfl, SqL.of (((g1.trans g2).trans g3) _ _ ha3), fun a4 na4 => ?_⟩
        rw [cut_from]
        have g4 := same_upd (o := .lst ((ws.drop n).map V.str)) na4
        refine ⟨a3, a4, _, _, rfl, rfl, g4 _ _ upd_same, upd_same, small _ (by rw [List.length_append, List.length_map, List.length_map, List.length_take, List.length_drop]; show _ + 1 + _ ≤ 100; omega), fun r nr => ?_⟩
        have el : (ws.take n).map V.str ++ [.str ws[n]] ++ (ws.drop n).map V.str = (ws.take n ++ ws[n] :: ws.drop n).map V.str := by simp
        rw [el]
        have g5 := same_upd (o := .lst ((ws.take n ++ ws[n] :: ws.drop n).map V.str)) nr
        have s4 := ((g1.trans g2).trans g3).trans g4
        have P4 := P3.same s4
        refine q r (ws.take n ++ ws[n] :: ws.drop n) _ (b3.trans (sbut (s4.trans g5))) (P4.same g5) (P4.new nr) upd_same (fun z hz => ?_) (by rw [List.length_append, List.length_take, List.length_cons, List.length_drop]; omega)
        rcases List.mem_append.mp hz with h | h
        · exact hb z (List.mem_of_mem_take h)
        · rcases List.mem_cons.mp h with h | h
          · rw [h]
            exact hb _ (List.getElem_mem hn)
          · exact hb z (List.mem_of_mem_drop h)
      · exact if_neg_of (decide_eq_false c) ⟨rfl, rfl⟩
    rintro σ _ ⟨rfl, rfl⟩
    -- which == 2
    refine ⟨fun σ H' => H3 = H' ∧ σ = [some (.ref p), some (.ref a), some (.int (n : Int)), some (.int u), none], ?_, ?_⟩
    · refine ⟨_, rfl, rfl, _, rfl, ?_⟩
      by_cases c : V.int u = V.int 2
      · refine if_pos_of (decide_eq_true c) ?_
        refine ⟨_, rfl, _, rfl, _, rfl, a, _, rfl, SqL.of ha3, fun a1 na1 => ?_⟩
        rw [cut_to]
        have g1 := same_upd (o := .lst ((ws.take n).map V.str)) na1
        refine ⟨_, rfl, _, rfl, _, rfl, _, rfl, _, _, rfl, rfl, _, rfl, a, _, rfl, SqL.of (g1 _ _ ha3), fun a2 na2 => ?_⟩
        rw [en2, cut_mid, show n + 2 - n = 2 by omega]
        have g2 := same_upd (o := .lst (((ws.drop n).take 2).map V.str)) na2
        refine ⟨a2, _, rfl, SqL.of upd_same, fun a3 na3 => ?_⟩
        rw [← List.map_reverse]
        have g3 := same_upd (o := .lst (((ws.drop n).take 2).reverse.map V.str)) na3
        refine ⟨a1, a3, _, _, rfl, rfl, (g2.trans g3) _ _ upd_same, upd_same, small _ (by rw [List.length_map, List.length_map, List.length_reverse, List.length_take, List.length_take, List.length_drop]; omega), fun a4 na4 => ?_⟩
        rw [← List.map_append]
        have g4 := same_upd (o := .lst ((ws.take n ++ ((ws.drop n).take 2).reverse).map V.str)) na4
        have s3' := ((g1.trans g2).trans g3).trans g4
        refine ⟨_, rfl, _, rfl, _, _, rfl, rfl, _, rfl, a, _, rfl, SqL.of (s3' _ _ ha3), fun a5 na5 => ?_⟩
        rw [en2, cut_from]
        have g5 := same_upd (o := .lst ((ws.drop (n + 2)).map V.str)) na5
        refine ⟨a4, a5, _, _, rfl, rfl, g5 _ _ upd_same, upd_same, small _ (by rw [List.length_map, List.length_map, List.length_append, List.length_reverse, List.length_take, List.length_take, List.length_drop, List.length_drop]; omega), fun r nr => ?_⟩
        rw [← List.map_append]
        have g6 := same_upd (o := .lst ((ws.take n ++ ((ws.drop n).take 2).reverse ++ ws.drop (n + 2)).map V.str)) nr
        have s4 := s3'.trans g5
        have P4 := P3.same s4
        refine q r (ws.take n ++ ((ws.drop n).take 2).reverse ++ ws.drop (n + 2)) _ (b3.trans (sbut (s4.trans g6))) (P4.same g6) (P4.new nr) upd_same (fun z hz => ?_) (by rw [List.length_append, List.length_append, List.length_reverse, List.length_take, List.length_take, List.length_drop, List.length_drop]; omega)
        rcases List.mem_append.mp hz with h | h
        · rcases List.mem_append.mp h with h | h
          · exact hb z (List.mem_of_mem_take h)
          · exact hb z (List.mem_of_mem_drop (List.mem_of_mem_take (List.mem_reverse.mp h)))
        · exact hb z (List.mem_of_mem_drop h)
      · exact if_neg_of (decide_eq_false c) ⟨rfl, rfl⟩
    rintro σ _ ⟨rfl, rfl⟩
    -- the menu
    refine ⟨fun σ H' => ∃ m, Same H3 H' ∧ H' m = some (.lst (menuW.map V.str)) ∧ σ = [some (.ref p), some (.ref a), some (.int (n : Int)), some (.int u), some (.ref m)], ?_, ?_⟩
    · refine ⟨_, _, rfl, rfl, by decide, by decide, by decide +kernel, by decide +kernel, ?_⟩
      refine ⟨_, _, rfl, rfl, ?_, (by show 15 ≤ sizeLine; decide), fun m nm => ⟨m, same_upd nm, upd_same, rfl⟩⟩
      exact big_fits
    rintro σ H4 ⟨m, s4, hm, rfl⟩
    have ha4 := s4 _ _ ha3
    have P4 := P3.same s4
    have b4 := b3.trans (sbut s4)
    refine ⟨_, rfl, _, rfl, _, rfl, a, _, rfl, SqL.of ha4, fun a1 na1 => ?_⟩
    rw [cut_to]
    have g1 := same_upd (o := .lst ((ws.take n).map V.str)) na1
    refine ⟨_, rfl, _, rfl, p, 15, rfl, P4.same g1, by decide, by decide, fun v5 H5 v50 v51 e5 P5 => ?_⟩
    have b5 : SameBut p (upd H4 a1 (.lst ((ws.take n).map V.str))) H5 := SameBut.of e5
    have mp : m ≠ p := by
      intro e
      obtain ⟨x1, x2, x3, x4⟩ := P4
      rw [← e, hm] at x4
      cases x4
    have hm5 := b5 _ _ mp (g1 _ _ hm)
    obtain ⟨y, hy, hym⟩ := at_some (xs := menuW.map V.str) v50 (by show v5 < 15; exact v51)
    obtain ⟨z, hz', rfl⟩ := List.mem_map.mp hym
    have a1p := P4.new na1
    refine ⟨m, _, _, _, rfl, rfl, SqL.of hm5, hy, (by show 1 ≤ sizeLine; decide), fun a2 na2 => ?_⟩
    have g2 := same_upd (o := .lst [.str z]) na2
    refine ⟨a1, a2, _, _, rfl, rfl, g2 _ _ (b5 _ _ a1p upd_same), upd_same, small _ (by rw [List.length_map, List.length_take]; show _ + 1 ≤ 100; omega), fun a3 na3 => ?_⟩
    have g3 := same_upd (o := .lst ((ws.take n).map V.str ++ [.str z])) na3
    have ha5 := b5 _ _ hap (g1 _ _ ha4)
    refine ⟨_, rfl, _, rfl, _, _, rfl, rfl, _, rfl, a, _, rfl, SqL.of ((g2.trans g3) _ _ ha5), fun a4 na4 => ?_⟩
    rw [en, cut_from]
    have g4 := same_upd (o := .lst ((ws.drop (n + 1)).map V.str)) na4
    refine ⟨a3, a4, _, _, rfl, rfl, g4 _ _ upd_same, upd_same, small _ (by rw [List.length_append, List.length_map, List.length_map, List.length_take, List.length_drop]; show _ + 1 + _ ≤ 100; omega), fun r nr => ?_⟩
    have el : (ws.take n).map V.str ++ [.str z] ++ (ws.drop (n + 1)).map V.str = (ws.take n ++ z :: ws.drop (n + 1)).map V.str := by simp
    rw [el]
    have g5 := same_upd (o := .lst ((ws.take n ++ z :: ws.drop (n + 1)).map V.str)) nr
    have s6 := (g2.trans g3).trans g4
    have P6 := P5.same s6
    refine q r (ws.take n ++ z :: ws.drop (n + 1)) _ ((b4.trans (sbut g1)).trans (b5.trans (sbut (s6.trans g5)))) (P6.same g5) (P6.new nr) upd_same (fun y hy => ?_) (by rw [List.length_append, List.length_take, List.length_cons, List.length_drop]; omega)
    rcases List.mem_append.mp hy with h | h
    · exact hb y (List.mem_of_mem_take h)
    · rcases List.mem_cons.mp h with h | h
      · rw [h]
        exact menuW_base z hz'
      · exact hb y (List.mem_of_mem_drop h)
/-- an isinstance of an int -/
theorem isi_int {K : PySem.W.Frag} {i : Int} {T : String} {b : Bool} {H : Hp} {Q : VK} (h : kitB "int" T = some b) (q : Q (.bl b) H) : rIsi K [.int i, .ty T] H Q :=
  ⟨_, _, _, _, b, rfl, .ty T, .base (.int i), kit_ty h, q⟩
theorem isi_tup {K : PySem.W.Frag} {a : Addr} {xs : List V} {T : String} {b : Bool} {H : Hp} {Q : VK} (ha : H a = some (.tup xs)) (h : kitB "tuple" T = some b) (q : Q (.bl b) H) : rIsi K [.ref a, .ty T] H Q :=
  ⟨_, _, _, _, b, rfl, .ty T, .base (.tup ha), kit_ty h, q⟩
theorem isi_bl {K : PySem.W.Frag} {x : Bool} {T : String} {b : Bool} {H : Hp} {Q : VK} (h : kitB "bool" T = some b) (q : Q (.bl b) H) : rIsi K [.bl x, .ty T] H Q :=
  ⟨_, _, _, _, b, rfl, .ty T, .base (.bl x), kit_ty h, q⟩
theorem isi_lst {K : PySem.W.Frag} {a : Addr} {xs : List V} {T : String} {b : Bool} {H : Hp} {Q : VK} (ha : H a = some (.lst xs)) (h : kitB "list" T = some b) (q : Q (.bl b) H) : rIsi K [.ref a, .ty T] H Q :=
  ⟨_, _, _, _, b, rfl, .ty T, .base (.lst ha), kit_ty h, q⟩
/-- the law's own promise -/
def spLaw (K : PySem.W.Frag) : Sp := fun vs H Q _ => ∃ (a : Addr) (ns : List Int), vs = [.ref a] ∧ SqL K H a (ns.map V.int) ∧ ns.length ≤ 63 ∧ ∀ H', Q (.bl true) H'
/-- a test by an own truth -/
theorem pt_own {X : Cx} {a : Expr} {ta : TE} {r : V → Hp → (Bool → Hp → Prop) → Prop} (ha : PE X a ta) (hr : TruR X r) (he : ∀ whole, isTrue a X.env whole = (do let v ← whole; standAt a.pos; holding [v] (truthy v)) := by intro _; rfl) :
    PT X a (fun σ H Q => ta σ H fun x H' => r x H' Q) :=
  ⟨fun pins s σ H Q I h => isTrue_plain (thn (ha.run pins s σ H _ I h) fun v s1 ⟨x, H1, I1, r1, q1⟩ => hr pins s1 σ H1 x v Q I1 r1 q1) (he _)⟩
/-- a set is made at x, what follows is any word -/
theorem make_at {C CB : Addr} {tup : Bool} {H1 : Hp} {e : Bool} {a x dx : Addr} {ns : List Int} {R : VK} (hx : H1 x = none) (hdx : H1 dx = none) (hS : if tup = true then SqT K H1 a (ns.map V.int) else SqL K H1 a (ns.map V.int)) (hp : ∀ q ∈ ns, Pr q ∧ q < 2 ^ 62) (few : ns.length < 64)
    (k : ∀ (l : List Int) (H2 : Hp), (∀ q, q ∈ l ↔ q ∈ ns) → l.length ≤ ns.length → CharsAt C H2 x e l → Same H1 H2 → R .non H2) :
    spCI C CB tup K (.ref x :: ([.bl e, .ref a] ++ [])) (upd (upd H1 dx (.own x)) x (.ins C dx [])) R E0 := by
  have s1 : Same H1 (upd (upd H1 dx (.own x)) x (.ins C dx [])) := fun b o eb => by
    rw [upd_ne (ne_of_none eb hx), upd_ne (ne_of_none eb hdx)]
    exact eb
  refine ⟨x, dx, a, e, ns, rfl, upd_same, ?_, fun q hq => (hp q hq).2, few, fun _ l H' mem len ch keep => k l H' mem len ch fun b o eb => keep b o (s1 b o eb) (ne_of_none eb hx), fun i b hi hb _ => absurd (hp b (List.mem_of_getElem? hi)).1 hb⟩
  cases tup with
  | true =>
    have h : SqT K H1 a (ns.map V.int) := hS
    show SqT K _ a (ns.map V.int)
    exact Evl.ex_t s1 h
  | false =>
    have h : SqL K H1 a (ns.map V.int) := hS
    exact s1.seq h
section
variable {C a b : Addr} {e1 e2 : Bool} {l1 l2 : List Int} {H : Hp} {Q : VK}
theorem useEq (ch1 : CharsAt C H a e1 l1) (ch2 : CharsAt C H b e2 l2) (k : Q (.bl (decide (e1 = e2 ∧ l1 = l2))) H) : rOwn2 C (spCeq C) (.ref a) (.ref b) H Q := by
  obtain ⟨dx, t, h1, _⟩ := ch1.ob
  obtain ⟨dy, u, g1, _⟩ := ch2.ob
  exact ⟨a, b, _, _, _, _, rfl, rfl, h1, g1, a, b, e1, e2, l1, l2, rfl, ch1, ch2, k⟩
end
theorem menu25_pr : ∀ z ∈ menu25, Pr z ∧ z < 2 ^ 62 := by
  have ag : Pr 999983 := pr_of_trial (n := 999983) 1010 (by decide +kernel)
  have h : ∀ z ∈ ([2, 3, 5, 7, 101, 9973] : List Int), Pr z := by
    intro z hz
    simp only [List.mem_cons, List.not_mem_nil, or_false] at hz
    rcases hz with rfl | rfl | rfl | rfl | rfl | rfl
    · exact pr_of_trial (n := 2) 110 (by decide +kernel)
    · exact pr_of_trial (n := 3) 110 (by decide +kernel)
    · exact pr_of_trial (n := 5) 110 (by decide +kernel)
    · exact pr_of_trial (n := 7) 110 (by decide +kernel)
    · exact pr_of_trial (n := 101) 110 (by decide +kernel)
    · exact pr_of_trial (n := 9973) 110 (by decide +kernel)
  intro z hz
  have hb : ∀ z ∈ menu25, z < 2 ^ 62 := by decide
  refine ⟨?_, hb z hz⟩
  by_cases c : z = 999983
  · rw [c]
    exact ag
  · refine h z ?_
    unfold menu25 at hz
    simp only [List.mem_cons, List.not_mem_nil, or_false, c] at hz ⊢
    exact hz
theorem menu25_num : ∀ z ∈ menu25, isNum (numS z) = true ∧ numOf (numS z) = z ∧ numS z ≠ "3 " := by decide +kernel
theorem headW_facts : ∀ e : Bool, ∀ z ∈ headW e, z ∈ base25 ∧ z ≠ "3 " := by decide +kernel
theorem words_base {e : Bool} {ps : List Int} (h : ∀ p ∈ ps, p ∈ menu25) : ∀ z ∈ headW e ++ ps.map numS, Base z := fun z hz => by
  rcases List.mem_append.mp hz with h1 | h1
  · exact .inl (headW_facts e z h1).1
  · obtain ⟨p, hp, rfl⟩ := List.mem_map.mp h1
    exact .inl (menu_base p (h p hp))
theorem headW_ne (e : Bool) (r : List Str) : headW e ++ r ≠ [] := by
  cases e <;> exact fun h => nomatch h
theorem words_split {e : Bool} {ps : List Int} (h : ∀ p ∈ ps, p ∈ menu25) : Txt.split (Txt.join " " (headW e ++ ps.map numS)) " " = headW e ++ ps.map numS := by
  rw [split_words (headW_ne e _) (words_base h)]
  have one : ∀ ws : List Str, (∀ z ∈ ws, z ≠ "3 ") → ws.flatMap spW = ws := by
    intro ws
    induction ws with
    | nil => exact fun _ => rfl
    | cons z ws ih => exact fun h => by rw [List.flatMap_cons, spW_one (h z List.mem_cons_self), ih fun y hy => h y (List.mem_cons_of_mem _ hy)] <;> rfl
  refine one _ fun z hz => ?_
  rcases List.mem_append.mp hz with h1 | h1
  · exact (headW_facts e z h1).2
  · obtain ⟨p, hp, rfl⟩ := List.mem_map.mp h1
    exact (menu25_num p (h p hp)).2.2
theorem words_vd {e : Bool} {ps l : List Int} (h : ∀ p ∈ ps, p ∈ menu25) (srt : l.Pairwise (· < ·)) (mem : ∀ q, q ∈ l ↔ q ∈ ps) : VD (Txt.split (Txt.join " " (headW e ++ ps.map numS)) " ") (.set e l) := by
  rw [words_split h]
  have nums : (ps.map numS).map numOf = ps := by
    rw [List.map_map]
    clear mem
    induction ps with
    | nil => rfl
    | cons p ps ih =>
      rw [List.map_cons, ih fun q hq => h q (List.mem_cons_of_mem _ hq)]
      rw [show (numOf ∘ numS) p = p from (menu25_num p (h p List.mem_cons_self)).2.1]
  have isn : ∀ y ∈ ps.map numS, isNum y = true := fun y hy => by
    obtain ⟨p, hp, rfl⟩ := List.mem_map.mp hy
    exact (menu25_num p (h p hp)).1
  have go : ∀ s : Nat, headV (headW e ++ ps.map numS) = .inl s → (headW e).length = s → decide (s = 2) = e → VD (headW e ++ ps.map numS) (.set e l) := fun s hs hl he => by
    have dr : (headW e ++ ps.map numS).drop s = ps.map numS := by
      rw [← hl]
      exact List.drop_left
    have v : VD (headW e ++ ps.map numS) (.set (decide (s = 2)) l) := .set hs (fun j y hj hy => ?_) (fun q hq => ?_) srt fun q => ?_
    · rw [he] at v
      exact v
    · rw [List.getElem?_append_right (by omega)] at hy
      exact isn y (List.mem_of_getElem? hy)
    · rw [numsOf, dr, nums] at hq
      exact (menu25_pr q (h q hq)).1
    · rw [numsOf, dr, nums]
      exact mem q
  cases e with
  | true =>
    refine go 2 ?_ rfl rfl
    have a : ¬ (headW true ++ ps.map numS)[0]? = some ("primes" : Str) := fun h => absurd (Option.some.inj h) (by decide +kernel)
    unfold headV
    rw [if_neg a]
    rfl
  | false => exact go 1 rfl rfl rfl
/-- a set stands where the pool alone is changed -/
theorem CharsAt.pool {C : Addr} {H H' : Hp} {a q : Addr} {e : Bool} {l : List Int} (h : CharsAt C H a e l) (hq : PoolAt H q) (b : SameBut q H H') : CharsAt C H' a e l := by
  obtain ⟨dx, t, h1, h2⟩ := h.ob
  obtain ⟨x1, x2, x3, x4⟩ := hq
  refine ⟨⟨dx, t, b _ _ (fun z => ?_) h1, b _ _ (fun z => ?_) h2⟩, h.srt, h.prm⟩
  · rw [z, x4] at h1
    cases h1
  · rw [z, x4] at h2
    cases h2
structure S25 (C r x hd : Addr) (e : Bool) (ns l : List Int) (H : Hp) : Prop where
  row : H r = some (.lst (ns.map V.int))
  ch : CharsAt C H x e l
  hd : H hd = some (.lst ((headW e).map V.str))
theorem S25.same {C r x hd : Addr} {e : Bool} {ns l : List Int} {H H' : Hp} (h : S25 C r x hd e ns l H) (s : Same H H') : S25 C r x hd e ns l H' := ⟨s _ _ h.row, h.ch.same s, s _ _ h.hd⟩
theorem S25.pool {C r x hd q : Addr} {e : Bool} {ns l : List Int} {H H' : Hp} (h : S25 C r x hd e ns l H) (hq : PoolAt H q) (rq : r ≠ q) (hq' : hd ≠ q) (b : SameBut q H H') : S25 C r x hd e ns l H' := ⟨b _ _ rq h.row, h.ch.pool hq b, b _ _ hq' h.hd⟩
theorem headW_len (e : Bool) : (headW e).length ≤ 2 := by
  cases e <;> decide
theorem text_lens (e : Bool) {l : List Int} (h : ∀ q ∈ l, Pr q ∧ q < 2 ^ 62) : ∀ y ∈ headW e ++ l.map numS, y.length ≤ 20 := fun y hy => by
  rcases List.mem_append.mp hy with h1 | h1
  · have : ∀ b : Bool, ∀ y ∈ headW b, y.length ≤ 20 := by decide +kernel
    exact this e y h1
  · obtain ⟨p, hp, rfl⟩ := List.mem_map.mp h1
    have := (numS_len (h p hp).1 (h p hp).2).2
    omega
theorem text_fits (e : Bool) {l : List Int} (h : ∀ q ∈ l, Pr q ∧ q < 2 ^ 62) (few : l.length < 64) : ((headW e ++ l.map numS).map (·.length)).sum + (headW e ++ l.map numS).length * (" " : Str).length ≤ 16777216 := by
  have e1 : (" " : Str).length = 1 := by decide +kernel
  have s := sum_le (text_lens e h)
  have n : (headW e ++ l.map numS).length ≤ 66 := by
    rw [List.length_append, List.length_map]
    have := headW_len e
    omega
  rw [e1]
  omega
theorem text_len (e : Bool) {l : List Int} (h : ∀ q ∈ l, Pr q ∧ q < 2 ^ 62) (few : l.length < 64) : (Txt.join " " (headW e ++ l.map numS)).length ≤ 10000 := by
  have e1 : (" " : Str).length = 1 := by decide +kernel
  have s := join_len (y := " ") (text_lens e h)
  have n : (headW e ++ l.map numS).length ≤ 66 := by
    rw [List.length_append, List.length_map]
    have := headW_len e
    omega
  rw [e1] at s
  omega
theorem verd_data {K : PySem.W.Frag} {H : Hp} {r1 r2 : Addr} {v : Verd} (h1 : VerdAt H r1 v) (h2 : VerdAt H r2 v) : ∃ d, Dp K H (.ref r1) d ∧ Dp K H (.ref r2) d ∧ SeqAt.shaped d = true := by
  have two : ∀ (z : Str) (n : Int), PyData.strOk z = true → SeqAt.shaped (.list [.str z, .int n]) = true := fun z n h => by
    simp [SeqAt.shaped, PyData.canLay0, PyData.canLayAll0, PyData.depth, PyData.depthAll, h]
  cases v with
  | «at» n => exact ⟨.list [.str "at", .int (n : Int)], .lst (SqL.of h1) (.cons (.str _) (.cons (.int _) .nil)), .lst (SqL.of h2) (.cons (.str _) (.cons (.int _) .nil)), two _ _ (by decide +kernel)⟩
  | bad p => exact ⟨.list [.str "bad", .int p], .lst (SqL.of h1) (.cons (.str _) (.cons (.int _) .nil)), .lst (SqL.of h2) (.cons (.str _) (.cons (.int _) .nil)), two _ _ (by decide +kernel)⟩
  | set e l =>
    obtain ⟨q1, a1, b1⟩ := h1
    obtain ⟨q2, a2, b2⟩ := h2
    have o : PyData.strOk "set" = true := by decide +kernel
    exact ⟨.list [.str "set", .bool e, .list (l.map PyData.int)], .lst (SqL.of a1) (.cons (.str _) (.cons (.bl _) (.cons (dp_lst (SqL.of b1)) .nil))), .lst (SqL.of a2) (.cons (.str _) (.cons (.bl _) (.cons (dp_lst (SqL.of b2)) .nil))), by
      simp [SeqAt.shaped, PyData.canLay0, PyData.canLayAll0, PyData.depth, PyData.depthAll, o, canLay_ints, depth_ints]⟩
abbrev s_law : Stmt := top 25
theorem sc_law : FnScope ["_law_script", "_law_pool_here", "_law_endless", "_law_menu", "_law_row", "_law_k", "_law_found", "_law_head", "_law_p", "_law_words", "_law_count"] ["_law_script"] (defScope s_law) := ⟨rfl, rfl, rfl, by decide +kernel, rfl, by decide +kernel, by decide +kernel⟩
theorem ok_law {f C CB CT : Addr} {fd : FuncData} (TT : Txt mg) (T : ChT K mg C) (F : Fun K "law" "law" s_law f fd) (c_pool : Cl P w K mg base CX0 1 "_law_pool" spPool) (c_take : Cl P w K mg base CX0 1 "_law_take" spTake) (c_cell : Cl P w K mg base CX0 1 "_law_cell" (spCellL K))
    (c_due : Cl P w K mg base CX0 2 "_law_due" (spDue K)) (c_told : Cl P w K mg base CX0 6 "_law_told" spTold) (c_chg : Cl P w K mg base CX0 2 "_law_changed" spChg) (c_cil : Ma P w K mg base 3 C (spCI C CB false K)) (c_read : CmN P w K mg base 5 C "read" (spRead C CB CT)) (c_str : Me P w K mg base 1 C "__str__" (spCstr C)) (c_eq : Me P w K mg base 1 C "__eq__" (spCeq C)) :
    FnOk P w K mg base CX0 8 f fd ["_law_script"] (spLaw K) := by
  refine F.ok sc_law (fun vs H Q E h => ?_) (fun cdv A outer s H vs Q E hr h => ?_)
  · obtain ⟨a, ns, rfl, _⟩ := h
    rfl
  · obtain ⟨l0, ns0, rfl, hS, hlen, q⟩ := h
    refine ⟨_, (pss_cons (ps_set (i := 1) sc_law.nd rfl (Or.inr rfl) (pe_cl c_pool hr (pa_cons (pe_cl c_cell hr (pa_cons (pv 0) (pa_cons pe_int pa_nil))) pa_nil)))
 (pss_cons (ps_set (i := 2) sc_law.nd rfl (Or.inl rfl) (pe_cmpR op_eq (pe_cl c_take hr (pa_cons (pv 1) (pa_cons pe_int pa_nil))) pe_int (nomark _)))
 (pss_cons (ps_set (i := 3) sc_law.nd rfl (Or.inr rfl) (pe_lst (pa_cons pe_int (pa_cons pe_int (pa_cons pe_int (pa_cons pe_int (pa_cons pe_int (pa_cons pe_int (pa_cons pe_int pa_nil)))))))))
 (Evl.pss_cut (ps_setLc (i := 4) (own := [("_law_k", 5)]) (g := (gName 5)) (tt := tYes) rfl sc_law.nd rfl rfl (sw_true rfl rfl rfl (by decide +kernel)) (pi_range1 rfl TT.range (pa_cons (pe_cl c_take hr (pa_cons (pv 1) (pa_cons pe_int pa_nil))) pa_nil)) (blkOk_by (N := ["_law_script", "_law_pool_here", "_law_endless", "_law_menu", "_law_row", "_law_k", "_law_found", "_law_head", "_law_p", "_law_words", "_law_count"]) (sc := defScope s_law) (by decide +kernel)) (fun _ _ _ _ _ => (pg_name (i := 5) sc_law.nd rfl (Or.inl rfl))) (fun _ _ _ _ _ => pts_nil) (fun _ _ _ _ _ => (pe_ix (r := rIxL K) (by exact ix_list) (pv 3) (pe_cl c_take (by exact hr) (pa_cons (pv 1) (pa_cons pe_int pa_nil))) (fun _ _ => rfl))))
 (Evl.pss_cut (ps_set (i := 6) sc_law.nd rfl (Or.inl rfl) (pe_ma c_cil hr T.g (pa_cons (pv 2) (pa_cons (pv 4) pa_nil))))
 (Evl.pss_cut (ps_set (i := 7) sc_law.nd rfl (Or.inl rfl) (pe_ix ix_list (pe_lst (pa_cons (pe_lst (pa_cons pe_str pa_nil)) (pa_cons (pe_lst (pa_cons pe_str (pa_cons pe_str pa_nil))) pa_nil))) (pe_callTy call_int1 (by rfl) TT.int boot_int (pa_cons (pv 2) pa_nil)) (fun _ _ => rfl)))
 (Evl.pss_cut (ps_if (pt_cmpR op_ne (pe_callTy (cr_strOwn c_str hr) (by rfl) TT.str boot_str (pa_cons (pv 6) pa_nil)) (pe_join pe_str (pe_op op_cat (pv 7) (pe_lc (own := [("_law_p", 8)]) (g := (gName 8)) (tt := tYes) rfl sc_law.nd (pi_list (pe_callB (cr_sortedSet rfl) (by rfl) TT.sorted boot_sorted (pa_cons (pe_callTy (cr_setInts rfl) (by rfl) TT.set boot_set (pa_cons (pv 4) pa_nil)) pa_nil))) (blkOk_by (N := ["_law_script", "_law_pool_here", "_law_endless", "_law_menu", "_law_row", "_law_k", "_law_found", "_law_head", "_law_p", "_law_words", "_law_count"]) (sc := defScope s_law) (by decide +kernel)) (fun _ _ _ _ _ => (pg_name (i := 8) sc_law.nd rfl (Or.inl rfl))) (fun _ _ _ _ _ => pts_nil) (fun _ _ _ _ _ => (pe_callTy call_str_int (by rfl) TT.str boot_str (pa_cons (pv 8) pa_nil)))))) (nomark _)) (pss_one (ps_ret pe_bl)) pss_nil)
 (Evl.pss_cut (ps_if (pt_not (pt_cmpR (op_eq_own c_eq hr) (pe_cmN0 c_read hr (pe_glob (v := .ref C) (by rfl) T.g rfl) (pa_cons (pe_callTy (cr_strOwn c_str hr) (by rfl) TT.str boot_str (pa_cons (pv 6) pa_nil)) pa_nil)) (pv 6) (nomark _))) (pss_one (ps_ret pe_bl)) pss_nil)
 (Evl.pss_cut (ps_set (i := 9) sc_law.nd rfl (Or.inl rfl) (pe_op op_cat (pv 7) (pe_lc (own := [("_law_p", 8)]) (g := (gName 8)) (tt := tYes) rfl sc_law.nd (pi_list (pv 4)) (blkOk_by (N := ["_law_script", "_law_pool_here", "_law_endless", "_law_menu", "_law_row", "_law_k", "_law_found", "_law_head", "_law_p", "_law_words", "_law_count"]) (sc := defScope s_law) (by decide +kernel)) (fun _ _ _ _ _ => (pg_name (i := 8) sc_law.nd rfl (Or.inl rfl))) (fun _ _ _ _ _ => pts_nil) (fun _ _ _ _ _ => (pe_callTy call_str_int (by rfl) TT.str boot_str (pa_cons (pv 8) pa_nil))))))
 (Evl.pss_cut (ps_if (pw_or (pt_not (pt_cmpR (op_eq_own c_eq hr) (pe_cmN0 c_read hr (pe_glob (v := .ref C) (by rfl) T.g rfl) (pa_cons (pe_join pe_str (pv 9)) pa_nil)) (pv 6) (nomark _))) (pw_or1 (pt_cmpR (op_neD (hu64 hr)) (pe_cl c_told hr (pa_cons (pe_lst (pa_cons pe_str pa_nil)) pa_nil)) (pe_lst (pa_cons pe_str (pa_cons pe_int pa_nil))) (nomark _)))).pt (pss_one (ps_ret pe_bl)) pss_nil)
 (Evl.pss_cut (ps_set (i := 1) sc_law.nd rfl (Or.inr rfl) (pe_cl c_pool hr (pa_cons (pe_cl c_cell hr (pa_cons (pv 0) (pa_cons pe_int pa_nil))) pa_nil)))
 (Evl.pss_cut (ps_for PassesOwn.never rfl (pi_range1 rfl TT.range (pa_cons (pe_op op_add pe_int (pe_cl c_take hr (pa_cons (pv 1) (pa_cons pe_int pa_nil)))) pa_nil)) (pg_name (i := 10) sc_law.nd rfl (Or.inl rfl)) (pss_cons (ps_set (i := 9) sc_law.nd rfl (Or.inl rfl) (pe_cl c_chg hr (pa_cons (pv 1) (pa_cons (pv 9) pa_nil))))
 (pss_one (ps_if (pw_and (pt_cmpR (op_neD (hu64 hr)) (pv 9) (pe_lst pa_nil) (nomark _)) (pw_and1 (pt_cmpR (op_neD (hu64 hr)) (pe_cl c_told hr (pa_cons (pv 9) pa_nil)) (pe_cl c_due hr (pa_cons (pe_split (pe_join pe_str (pv 9)) pe_str) pa_nil)) (nomark _)))).pt (pss_one (ps_ret pe_bl)) pss_nil))))
 (pss_one (ps_ret (pe_cmpR op_eq (pe_callTy (cr_strOwn c_str hr) (by rfl) TT.str boot_str (pa_cons (pv 6) pa_nil)) (pe_join pe_str (pe_op op_cat (pv 7) (pe_lc (own := [("_law_p", 8)]) (g := (gName 8)) (tt := tYes) rfl sc_law.nd (pi_list (pe_callB (cr_sortedSet rfl) (by rfl) TT.sorted boot_sorted (pa_cons (pe_callTy (cr_setInts rfl) (by rfl) TT.set boot_set (pa_cons (pv 4) pa_nil)) pa_nil))) (blkOk_by (N := ["_law_script", "_law_pool_here", "_law_endless", "_law_menu", "_law_row", "_law_k", "_law_found", "_law_head", "_law_p", "_law_words", "_law_count"]) (sc := defScope s_law) (by decide +kernel)) (fun _ _ _ _ _ => (pg_name (i := 8) sc_law.nd rfl (Or.inl rfl))) (fun _ _ _ _ _ => pts_nil) (fun _ _ _ _ _ => (pe_callTy call_str_int (by rfl) TT.str boot_str (pa_cons (pv 8) pa_nil)))))) (nomark _)))))))))))))))), ?_⟩
    refine ⟨_, rfl, l0, ns0, 0, rfl, hS, fun c => ⟨c, rfl, fun p H1 np s1 P1 => ?_⟩⟩
    refine ⟨_, rfl, p, 2, rfl, P1, by decide, by decide, fun v H2 v0 v1 e2 P2 => ⟨rfl, ?_⟩⟩
    generalize decide (V.int v = V.int 1) = e
    refine ⟨(by show 7 ≤ sizeLine; decide), fun m hm => ?_⟩
    have few : ∀ k, k ≤ 1000 → k ≤ sizeLine := fun k h => by
      rw [sizeLine_eq]
      omega
    have gA : Same H H2 := (SameBut.of e2).same s1 np
    have P3 := P2.same (same_upd (o := .lst (menu25.map V.int)) hm)
    have gB : Same H (upd H2 m (.lst (menu25.map V.int))) := gA.trans (same_upd hm)
    have hm3 : upd H2 m (.lst (menu25.map V.int)) m = some (.lst (menu25.map V.int)) := upd_same
    have mp : m ≠ p := P2.new hm
    -- row
    refine ⟨fun σ H' => ∃ (r : Addr) (ns : List Int), Same H H' ∧ H' r = some (.lst (ns.map V.int)) ∧ (∀ z ∈ ns, z ∈ menu25) ∧ ns.length ≤ 6 ∧ σ = [some (.ref l0), some (.ref p), some (.bl e), some (.ref m), some (.ref r), none, none, none, none, none, none], ?_, ?_⟩
    · refine ⟨_, rfl, p, 6, rfl, P3, by decide, by decide, fun v3 H3 v30 v31 e3 P3' => ?_⟩
      refine ⟨v3, rfl, by omega, by omega, fun D hD => ?_⟩
      have hm4 : H3 m = some (.lst (menu25.map V.int)) := by
        rw [e3 m mp]
        exact upd_same
      have Dp : D ≠ p := P3'.new hD
      have gC : Same H H3 := (SameBut.of e3).same gB np
      refine lc_range (lo := 0) (n := v3.toNat) (fun i H' => SameBut p H3 H' ∧ PoolAt H' p ∧ ∃ acc : List Int, H' D = some (.lst (acc.map V.int)) ∧ acc.length = i ∧ ∀ z ∈ acc, z ∈ menu25)
        ⟨sbut (same_upd hD), P3'.same (same_upd hD), [], upd_same, rfl, fun _ h => nomatch h⟩ ?_ ?_
      · rintro i H4 hi ⟨b4, P4, acc, hacc, hl, hin⟩
        refine ⟨rfl, ?_⟩
        refine ⟨_, rfl, _, rfl, p, 7, rfl, P4, by decide, by decide, fun u H5 u0 u1 e5 P5 => ?_⟩
        have hm5 : H5 m = some (.lst (menu25.map V.int)) := by
          rw [e5 m mp]
          exact b4 m _ mp hm4
        obtain ⟨y, hy, hym⟩ := at_some (xs := menu25.map V.int) u0 (by show u < 7; exact u1)
        obtain ⟨z, hz, rfl⟩ := List.mem_map.mp hym
        refine ⟨m, _, _, _, rfl, rfl, SqL.of hm5, hy, ?_⟩
        have hacc5 : H5 D = some (.lst (acc.map V.int)) := by
          rw [e5 D Dp]
          exact hacc
        refine ⟨_, hacc5, by rw [List.length_map]; exact small1000 (by omega), fun b o hb eb => ?_, ?_, acc ++ [z], ?_, ?_, ?_⟩
        · have hbD : b ≠ D := ne_of_none eb hD
          rw [upd_ne hbD, e5 b hb]
          exact b4 b o hb eb
        · obtain ⟨a1, a2, a3, a4⟩ := P5
          exact ⟨a1, a2, a3, by rw [upd_ne Dp.symm]; exact a4⟩
        · rw [List.map_append]
          exact upd_same
        · rw [List.length_append, hl]
          rfl
        · intro y hy
          rcases List.mem_append.mp hy with h | h
          · exact hin y h
          · rw [List.mem_singleton.mp h]
            exact hz
      · rintro H4 ⟨b4, P4, acc, hacc, hl, hin⟩
        exact ⟨D, acc, b4.same gC np, hacc, hin, by omega, rfl⟩
    clear hm3 gB P3 gA e2 P2 s1 P1
    rintro σ H3 ⟨r, ns, g3, hr3, hin, hlen6, rfl⟩
    have hpr : ∀ z ∈ ns, Pr z ∧ z < 2 ^ 62 := fun z hz => menu25_pr z (hin z hz)
    -- found
    refine ⟨fun σ H' => ∃ (x : Addr) (l : List Int), Same H3 H' ∧ CharsAt C H' x e l ∧ (∀ q, q ∈ l ↔ q ∈ ns) ∧ l.length ≤ 6 ∧ σ = [some (.ref l0), some (.ref p), some (.bl e), some (.ref m), some (.ref r), none, some (.ref x), none, none, none, none], ?_, ?_⟩
    · refine ⟨_, rfl, _, rfl, ?_⟩
      intro x dnx hnx hdx _
      exact make_at (CB := CB) (tup := false) (e := e) (ns := ns) hnx hdx (SqL.of hr3) hpr (by omega) fun l H4 mem len ch s4 => ⟨rfl, x, l, s4, ch, mem, by omega, rfl⟩
    rintro σ H4 ⟨x, l, s4, ch, mem, hl6, rfl⟩
    -- head
    refine ⟨fun σ H' => ∃ hd : Addr, Same H4 H' ∧ H' hd = some (.lst ((headW e).map V.str)) ∧ σ = [some (.ref l0), some (.ref p), some (.bl e), some (.ref m), some (.ref r), none, some (.ref x), some (.ref hd), none, none, none], ?_, ?_⟩
    · refine ⟨(by show 1 ≤ sizeLine; decide), fun h1 n1 => ⟨(by show 2 ≤ sizeLine; decide), fun h2 n2 => ⟨(by show 2 ≤ sizeLine; decide), fun ho no => ?_⟩⟩⟩
      have k1 := same_upd (o := .lst [.str "primes"]) n1
      have k2 := same_upd (o := .lst [.str "all", .str "but"]) n2
      have k3 := same_upd (o := .lst [.ref h1, .ref h2]) no
      have a1 := (k2.trans k3) _ _ (upd_same (H := H4) (a := h1) (o := .lst [.str "primes"]))
      refine ⟨_, rfl, .inr ⟨e, rfl, ?_⟩⟩
      cases e with
      | true => exact ⟨ho, _, _, _, rfl, rfl, SqL.of upd_same, atI_nat (j := 1) rfl, h2, (k1.trans k2).trans k3, k3 _ _ upd_same, rfl⟩
      | false => exact ⟨ho, _, _, _, rfl, rfl, SqL.of upd_same, atI_nat (j := 0) rfl, h1, (k1.trans k2).trans k3, a1, rfl⟩
    rintro σ H5 ⟨hd, s5, hd5, rfl⟩
    have S5 : S25 C r x hd e ns l H5 := ⟨(s4.trans s5) _ _ hr3, ch.same s5, hd5⟩
    have g5 : Same H H5 := g3.trans (s4.trans s5)
    clear hd5 s5 ch s4 hr3 g3
    -- if str(found) != ..
    refine ⟨fun σ H' => S25 C r x hd e ns l H' ∧ Same H5 H' ∧ σ = [some (.ref l0), some (.ref p), some (.bl e), some (.ref m), some (.ref r), none, some (.ref x), some (.ref hd), none, none, none], ?_, ?_⟩
    · have hwalk := True.intro
      obtain ⟨dx, t, o1, o2⟩ := S5.ch.ob
      refine ⟨_, rfl, x, dx, _, rfl, o1, x, e, l, rfl, S5.ch, by omega, fun K1 k1 => ⟨_, rfl, ?_⟩⟩
      have T1 := S5.same k1
      refine ⟨⟨_, rfl⟩, _, rfl, _, rfl, r, ns, rfl, .inl (SqL.of T1.row), by omega, fun p1 c np1 hc => ?_⟩
      refine ⟨p1, _, c, rfl, upd_same, by omega, fun l3 p2 srt3 mem3 len3 np2 => ?_⟩
      have el : l3 = l := sorted_uniq srt3 S5.ch.srt fun z => by
        rw [mem3 z]
        exact decide_eq_true_iff.trans (mem z).symm
      subst el
      have k2 := same_upd (o := SetO w p1 (fun j => decide (j ∈ ns)) c) np1
      have k3 := same_upd (o := .lst (l3.map V.int)) np2
      refine ⟨p2, rfl, ⟨_, SqL.of upd_same⟩, fun D hD => lc_list (K := K) (a := p2) (xs := l3.map V.int) (fun i H' => Same (upd (upd K1 p1 (SetO w p1 (fun j => decide (j ∈ ns)) c)) p2 (.lst (l3.map V.int))) H' ∧ H' D = some (.lst (((l3.take i).map numS).map V.str)))
        ⟨same_upd hD, by rw [List.take_zero]; exact upd_same⟩ (fun i H' _ h => h.1.seq (SqL.of upd_same)) ?_ ?_⟩
      · rintro i y H3 hi ⟨s3, hD3⟩
        obtain ⟨z, rfl, hz⟩ := item_int hi
        have hp := S5.ch.prm z (List.mem_of_getElem? hz)
        have lt := (List.getElem?_eq_some_iff.mp hz).1
        refine ⟨rfl, _, rfl, z, rfl, (numS_len hp.1 hp.2).1, _, hD3, ?_, fun b o eb => ?_, ?_⟩
        · rw [List.length_map, List.length_map, List.length_take]
          exact small1000 (by omega)
        · rw [upd_ne (ne_of_none eb hD)]
          exact s3 b o eb
        · rw [List.take_add_one, hz, List.map_append, List.map_append]
          exact upd_same
      · rintro K4 ⟨k4, hD4⟩
        rw [List.length_map, List.take_length] at hD4
        have T4 := T1.same ((k2.trans k3).trans k4)
        refine ⟨hd, D, _, _, rfl, rfl, T4.hd, hD4, few _ (by rw [List.length_map, List.length_map, List.length_map]; have := headW_len e; omega), fun q2 nq2 => ?_⟩
        rw [← List.map_append]
        have k5 := same_upd (o := .lst ((headW e ++ l3.map numS).map V.str)) nq2
        refine ⟨_, q2, headW e ++ l3.map numS, rfl, rfl, .inl (SqL.of upd_same), text_fits e S5.ch.prm (by omega), ?_⟩
        exact ⟨rfl, _, rfl, if_neg_of (by rw [str_eq, decide_eq_true rfl]; rfl) ⟨T4.same k5, (((k1.trans k2).trans k3).trans k4).trans k5, rfl⟩⟩
    rintro σ H6 ⟨S6, s6, rfl⟩
    have g6 := g5.trans s6
    clear S5 s6 g5
    -- if not Chars.read(str(found)) == found
    have hl : ∀ p ∈ l, p ∈ menu25 := fun p hp => hin p ((mem p).mp hp)
    refine ⟨fun σ H' => S25 C r x hd e ns l H' ∧ Same H6 H' ∧ σ = [some (.ref l0), some (.ref p), some (.bl e), some (.ref m), some (.ref r), none, some (.ref x), some (.ref hd), none, none, none], ?_, ?_⟩
    · obtain ⟨dx, t, o1, o2⟩ := S6.ch.ob
      refine ⟨rfl, _, rfl, x, dx, _, rfl, o1, x, e, l, rfl, S6.ch, by omega, fun K1 k1 => ⟨_, rfl, ?_⟩⟩
      have T1 := S6.same k1
      have vd := words_vd (e := e) hl S6.ch.srt fun q => Iff.rfl
      refine ⟨_, rfl, ?_, good_words (headW_ne e _) (words_base hl) ?_, fun e' l' v r' K2 ch2 k2 => ?_, (fun n v => absurd (vd.one v) fun z => nomatch z), (fun n v => absurd (vd.one v) fun z => nomatch z)⟩
      · have := text_len e S6.ch.prm (by omega)
        rw [sizeLine_eq]
        omega
      · rw [List.length_append, List.length_map]
        have := headW_len e
        omega
      cases vd.one v
      exact ⟨_, rfl, useEq ch2 (T1.ch.same k2) ⟨_, rfl, if_neg_of (by simp) ⟨T1.same k2, k1.trans k2, rfl⟩⟩⟩
    rintro σ H7 ⟨S7, s7, rfl⟩
    have g7 := g6.trans s7
    clear S6 s7 g6
    -- words
    refine ⟨fun σ H' => ∃ wa : Addr, S25 C r x hd e ns l H' ∧ Same H7 H' ∧ H' wa = some (.lst ((headW e ++ ns.map numS).map V.str)) ∧ σ = [some (.ref l0), some (.ref p), some (.bl e), some (.ref m), some (.ref r), none, some (.ref x), some (.ref hd), none, some (.ref wa), none], ?_, ?_⟩
    · refine ⟨_, rfl, _, rfl, r, rfl, ⟨_, SqL.of S7.row⟩, fun D hD => lc_list (K := K) (a := r) (xs := ns.map V.int) (fun i H' => Same H7 H' ∧ H' D = some (.lst (((ns.take i).map numS).map V.str)))
        ⟨same_upd hD, by rw [List.take_zero]; exact upd_same⟩ (fun i H' _ h => h.1.seq (SqL.of S7.row)) ?_ ?_⟩
      · rintro i y H3 hi ⟨s3, hD3⟩
        obtain ⟨z, rfl, hz⟩ := item_int hi
        have hp := hpr z (List.mem_of_getElem? hz)
        have lt := (List.getElem?_eq_some_iff.mp hz).1
        refine ⟨rfl, _, rfl, z, rfl, (numS_len hp.1 hp.2).1, _, hD3, ?_, fun b o eb => ?_, ?_⟩
        · rw [List.length_map, List.length_map, List.length_take]
          exact small1000 (by omega)
        · rw [upd_ne (ne_of_none eb hD)]
          exact s3 b o eb
        · rw [List.take_add_one, hz, List.map_append, List.map_append]
          exact upd_same
      · rintro K4 ⟨k4, hD4⟩
        rw [List.length_map, List.take_length] at hD4
        have T4 := S7.same k4
        refine ⟨hd, D, _, _, rfl, rfl, T4.hd, hD4, few _ (by rw [List.length_map, List.length_map, List.length_map]; have := headW_len e; omega), fun q2 nq2 => ?_⟩
        rw [← List.map_append]
        have k5 := same_upd (o := .lst ((headW e ++ ns.map numS).map V.str)) nq2
        exact ⟨q2, T4.same k5, k4.trans k5, upd_same, rfl⟩
    rintro σ H8 ⟨wa, S8, s8, hwa, rfl⟩
    have g8 := g7.trans s8
    clear S7 s8 g7
    have hwb := words_base (e := e) hin
    have hwl : (headW e ++ ns.map numS).length ≤ 8 := by
      rw [List.length_append, List.length_map]
      have := headW_len e
      omega
    -- if not Chars.read(' '.join(words)) == found or told([''])
    refine ⟨fun σ H' => S25 C r x hd e ns l H' ∧ Same H8 H' ∧ σ = [some (.ref l0), some (.ref p), some (.bl e), some (.ref m), some (.ref r), none, some (.ref x), some (.ref hd), none, some (.ref wa), none], ?_, ?_⟩
    · have vd := words_vd (e := e) hin S8.ch.srt mem
      refine ⟨rfl, ⟨_, rfl⟩, _, rfl, _, wa, _, rfl, rfl, .inl (SqL.of hwa), text_fits e hpr (by omega), ?_⟩
      refine ⟨_, rfl, ?_, good_words (headW_ne e _) hwb (by omega), fun e' l' v r' K2 ch2 k2 => ?_, (fun n v => absurd (vd.one v) fun z => nomatch z), (fun n v => absurd (vd.one v) fun z => nomatch z)⟩
      · have := text_len e hpr (by omega)
        rw [sizeLine_eq]
        omega
      cases vd.one v
      refine ⟨_, rfl, useEq ch2 (S8.ch.same k2) ⟨_, rfl, if_neg_of (by simp) ?_⟩⟩
      refine ⟨(by show 1 ≤ sizeLine; decide), fun d1 nd1 => ?_⟩
      have k3 := same_upd (o := .lst [.str ""]) nd1
      have vd0 : VD (Txt.split (Txt.join " " [("" : Str)]) " ") (.at 0) := .head (by decide +kernel)
      refine ⟨d1, [""], rfl, upd_same, by decide +kernel, by decide +kernel, good_words (fun h => nomatch h) (fun z hz => .inl (by rw [List.mem_singleton.mp hz]; decide +kernel)) (by decide), fun v2 r2 K3 hv at2 k4 => ?_⟩
      cases vd0.one hv
      have at2 : K3 r2 = some (.lst [.str "at", .int ((0 : Nat) : Int)]) := at2
      refine ⟨(by show 2 ≤ sizeLine; decide), fun d2 nd2 => ?_⟩
      have k5 := same_upd (o := .lst [.str "at", .int 0]) nd2
      refine ⟨.list [.str "at", .int 0], .list [.str "at", .int 0], .lst (SqL.of (k5 _ _ at2)) (.cons (.str _) (.cons (.int _) .nil)), .lst (SqL.of upd_same) (.cons (.str _) (.cons (.int _) .nil)), by decide +kernel, by decide +kernel, _, rfl, if_neg_of (by decide +kernel) ?_⟩
      exact ⟨((S8.same k2).same k3).same (k4.trans k5), ((k2.trans k3).trans k4).trans k5, rfl⟩
    rintro σ H9 ⟨S9, s9, rfl⟩
    have g9 := g8.trans s9
    have hwa9 := s9 _ _ hwa
    clear S8 s9 g8 hwa
    -- the second pool
    refine ⟨fun σ H' => ∃ p2 : Addr, H9 p2 = none ∧ Same H9 H' ∧ PoolAt H' p2 ∧ σ = [some (.ref l0), some (.ref p2), some (.bl e), some (.ref m), some (.ref r), none, some (.ref x), some (.ref hd), none, some (.ref wa), none], ?_, ?_⟩
    · exact ⟨_, rfl, l0, ns0, 1, rfl, g9.seq hS, fun c2 => ⟨c2, rfl, fun p2 H10 np2 s10 P10 => ⟨p2, np2, s10, P10, rfl⟩⟩⟩
    rintro σ H10 ⟨p2, np2, s10, P10, rfl⟩
    have nn : ∀ {b : Addr} {o : HO}, H9 b = some o → b ≠ p2 := fun h z => by
      rw [z, np2] at h
      cases h
    -- for count in range(1 + take)
    refine ⟨fun σ H' => S25 C r x hd e ns l H' ∧ ∃ wv cv, σ = [some (.ref l0), some (.ref p2), some (.bl e), some (.ref m), some (.ref r), none, some (.ref x), some (.ref hd), none, wv, cv], ?_, ?_⟩
    · refine ⟨_, rfl, p2, 3, rfl, P10, by decide, by decide, fun u H11 u0 u1 e11 P11 => ?_⟩
      refine ⟨_, _, rfl, rfl, 1 + u, rfl, by omega, by omega, ?_⟩
      have b11 : Same H9 H11 := (SameBut.of e11).same s10 np2
      refine for_range (lo := 0) (n := (1 + u).toNat) (fun i σ H' => Same H9 H' ∧ PoolAt H' p2 ∧ ∃ (wb : Addr) (ws : List Str) (cv : Option V), H' wb = some (.lst (ws.map V.str)) ∧ wb ≠ p2 ∧ (∀ z ∈ ws, Base z) ∧ ws.length ≤ 8 + i ∧ σ = [some (.ref l0), some (.ref p2), some (.bl e), some (.ref m), some (.ref r), none, some (.ref x), some (.ref hd), none, some (.ref wb), cv])
        ⟨b11, P11, wa, _, _, b11 _ _ hwa9, nn hwa9, hwb, by omega, rfl⟩ ?_ ?_
      · rintro i σ H12 hi ⟨s12, P12, wb, ws, cv, hwb12, nwb, bws, lws, rfl⟩
        refine ⟨_, rfl, _, rfl, p2, wb, ws, rfl, P12, hwb12, nwb, bws, by omega, fun wc ws' H13 b13 P13 nwc hwc bws' lws' => ?_⟩
        have s13 : Same H9 H13 := b13.same s12 np2
        have W13 : Same H9 H13 ∧ PoolAt H13 p2 ∧ H13 wc = some (.lst (ws'.map V.str)) := ⟨s13, P13, hwc⟩
        refine ⟨_, rfl, (by show 0 ≤ sizeLine; decide), fun d1 nd1 => ?_⟩
        have k1 := same_upd (o := .lst []) nd1
        refine ⟨_, _, dp_strs (SqL.of (k1 _ _ hwc)), dp_strs (l := []) (SqL.of upd_same), shaped_strs fun z hz => base_str (bws' z hz), shaped_strs (fun _ h => nomatch h), _, rfl, ?_⟩
        rw [eqv_strs]
        by_cases c : ws' = []
        · exact if_neg_of (by rw [decide_eq_true c]; rfl) ⟨s13.trans k1, P13.same k1, wc, ws', _, k1 _ _ hwc, nwc, bws', by omega, rfl⟩
        · refine if_pos_of (by rw [decide_eq_false c]; rfl) ?_
          have lens : ∀ z ∈ ws', z.length ≤ 5001 := fun z hz => (bws' z hz).len
          have sm := sum_le lens
          have jl := join_len (y := " ") lens
          have one : (" " : Str).length = 1 := by decide +kernel
          rw [one] at jl
          have few12 : ws'.length ≤ 12 := by omega
          have m12 : ws'.length * 5001 ≤ 12 * 5001 := Nat.mul_le_mul_right _ few12
          have good := good_words c bws' (by omega)
          refine ⟨_, rfl, wc, ws', rfl, k1 _ _ hwc, by omega, by omega, good, fun v r1 H14 hv1 at1 k2 => ?_⟩
          refine ⟨⟨_, rfl⟩, _, rfl, _, wc, ws', rfl, rfl, .inl (SqL.of (k2 _ _ (k1 _ _ hwc))), by rw [one]; omega, ⟨_, rfl⟩, _, _, rfl, rfl, by decide +kernel, by rw [sizeLine_eq]; omega, fun d2 nd2 => ?_⟩
          have k3 := same_upd (o := .lst ((Txt.split (Txt.join " " ws') " ").map V.str)) nd2
          refine ⟨d2, _, rfl, upd_same, good, fun v' r2 H15 hv2 at2 k4 => ?_⟩
          cases hv1.one hv2
          have at1' := at1.same (k3.trans k4)
          have kk := ((k1.trans k2).trans k3).trans k4
          obtain ⟨d, dp1, dp2, sh⟩ := verd_data at1' at2
          refine ⟨d, d, dp1, dp2, sh, sh, _, rfl, if_neg_of (by rw [SeqAt.eqv_refl _ (Bool.and_eq_true_iff.mp sh).1]; rfl) ?_⟩
          exact ⟨s13.trans kk, P13.same kk, wc, ws', _, kk _ _ hwc, nwc, bws', by omega, rfl⟩
      · rintro σ H12 ⟨s12, P12, wb, ws, cv, hwb12, nwb, bws, lws, rfl⟩
        exact ⟨S9.same s12, _, _, rfl⟩
    rintro σ H11 ⟨S11, wv, cv, rfl⟩
    -- the end
    · have hwalk := True.intro
      obtain ⟨dx, t, o1, o2⟩ := S11.ch.ob
      refine ⟨_, rfl, x, dx, _, rfl, o1, x, e, l, rfl, S11.ch, by omega, fun K1 k1 => ⟨_, rfl, ?_⟩⟩
      have T1 := S11.same k1
      refine ⟨⟨_, rfl⟩, _, rfl, _, rfl, r, ns, rfl, .inl (SqL.of T1.row), by omega, fun p1 c np1 hc => ?_⟩
      refine ⟨p1, _, c, rfl, upd_same, by omega, fun l3 p2 srt3 mem3 len3 np2 => ?_⟩
      have el : l3 = l := sorted_uniq srt3 S11.ch.srt fun z => by
        rw [mem3 z]
        exact decide_eq_true_iff.trans (mem z).symm
      subst el
      have k2 := same_upd (o := SetO w p1 (fun j => decide (j ∈ ns)) c) np1
      have k3 := same_upd (o := .lst (l3.map V.int)) np2
      refine ⟨p2, rfl, ⟨_, SqL.of upd_same⟩, fun D hD => lc_list (K := K) (a := p2) (xs := l3.map V.int) (fun i H' => Same (upd (upd K1 p1 (SetO w p1 (fun j => decide (j ∈ ns)) c)) p2 (.lst (l3.map V.int))) H' ∧ H' D = some (.lst (((l3.take i).map numS).map V.str)))
        ⟨same_upd hD, by rw [List.take_zero]; exact upd_same⟩ (fun i H' _ h => h.1.seq (SqL.of upd_same)) ?_ ?_⟩
      · rintro i y H3 hi ⟨s3, hD3⟩
        obtain ⟨z, rfl, hz⟩ := item_int hi
        have hp := S11.ch.prm z (List.mem_of_getElem? hz)
        have lt := (List.getElem?_eq_some_iff.mp hz).1
        refine ⟨rfl, _, rfl, z, rfl, (numS_len hp.1 hp.2).1, _, hD3, ?_, fun b o eb => ?_, ?_⟩
        · rw [List.length_map, List.length_map, List.length_take]
          exact small1000 (by omega)
        · rw [upd_ne (ne_of_none eb hD)]
          exact s3 b o eb
        · rw [List.take_add_one, hz, List.map_append, List.map_append]
          exact upd_same
      · rintro K4 ⟨k4, hD4⟩
        rw [List.length_map, List.take_length] at hD4
        have T4 := T1.same ((k2.trans k3).trans k4)
        refine ⟨hd, D, _, _, rfl, rfl, T4.hd, hD4, few _ (by rw [List.length_map, List.length_map, List.length_map]; have := headW_len e; omega), fun q2 nq2 => ?_⟩
        rw [← List.map_append]
        have k5 := same_upd (o := .lst ((headW e ++ l3.map numS).map V.str)) nq2
        refine ⟨_, q2, headW e ++ l3.map numS, rfl, rfl, .inl (SqL.of upd_same), text_fits e S11.ch.prm (by omega), ?_⟩
        refine ⟨rfl, ?_⟩
        rw [decide_eq_true rfl]
        exact q _
end
theorem all_mk {P : Program} {w : World} {K : PySem.W.Frag} {h : Heap} {mg : Str → Option Value} {fa : Addr} (X : K.In h) (G : h.Ns mainGlobals mg) (hfa : mg "law" = some (.ref fa))
    {f_least : Addr} {od_least an_least : Option Addr} {sl_least : Array (Option Value)} {oc_least kV_least dc_least pm_least cd_least ct_least : Value}
    {f_prime : Addr} {od_prime an_prime : Option Addr} {sl_prime : Array (Option Value)} {oc_prime kV_prime dc_prime pm_prime cd_prime ct_prime : Value}
    {f_isnum : Addr} {od_isnum an_isnum : Option Addr} {sl_isnum : Array (Option Value)} {oc_isnum kV_isnum dc_isnum pm_isnum cd_isnum ct_isnum : Value}
    {f_hding : Addr} {od_hding an_hding : Option Addr} {sl_hding : Array (Option Value)} {oc_hding kV_hding dc_hding pm_hding cd_hding ct_hding : Value}
    {f_pool : Addr} {od_pool an_pool : Option Addr} {sl_pool : Array (Option Value)} {oc_pool kV_pool dc_pool pm_pool cd_pool ct_pool : Value}
    {f_take : Addr} {od_take an_take : Option Addr} {sl_take : Array (Option Value)} {oc_take kV_take dc_take pm_take cd_take ct_take : Value}
    {f_cell : Addr} {od_cell an_cell : Option Addr} {sl_cell : Array (Option Value)} {oc_cell kV_cell dc_cell pm_cell cd_cell ct_cell : Value}
    {f_lprime : Addr} {od_lprime an_lprime : Option Addr} {sl_lprime : Array (Option Value)} {oc_lprime kV_lprime dc_lprime pm_lprime cd_lprime ct_lprime : Value}
    {f_lisnum : Addr} {od_lisnum an_lisnum : Option Addr} {sl_lisnum : Array (Option Value)} {oc_lisnum kV_lisnum dc_lisnum pm_lisnum cd_lisnum ct_lisnum : Value}
    {f_ldue : Addr} {od_ldue an_ldue : Option Addr} {sl_ldue : Array (Option Value)} {oc_ldue kV_ldue dc_ldue pm_ldue cd_ldue ct_ldue : Value}
    {f_ltold : Addr} {od_ltold an_ltold : Option Addr} {sl_ltold : Array (Option Value)} {oc_ltold kV_ltold dc_ltold pm_ltold cd_ltold ct_ltold : Value}
    {f_lchg : Addr} {od_lchg an_lchg : Option Addr} {sl_lchg : Array (Option Value)} {oc_lchg kV_lchg dc_lchg pm_lchg cd_lchg ct_lchg : Value}
    {f_law : Addr} {od_law an_law : Option Addr} {sl_law : Array (Option Value)} {oc_law kV_law dc_law pm_law cd_law ct_law : Value}
    {CF : Addr}
    {C_ibc f_ibc : Addr} {nm_ibc q_ibc : Str} {N_ibc : Addr} {bs_ibc sb_ibc : List Value} {sn_ibc : List Str} {ab_ibc : Bool} {co_ibc : Option Bool} {dd_ibc : Option Addr} {x0_ibc x1_ibc x2_ibc x3_ibc x5_ibc : Option Value} {od_ibc an_ibc : Option Addr} {sl_ibc : Array (Option Value)} {oc_ibc kV_ibc dc_ibc pm_ibc cd_ibc ct_ibc : Value}
    {C_ibt f_ibt : Addr} {nm_ibt q_ibt : Str} {N_ibt : Addr} {bs_ibt sb_ibt : List Value} {sn_ibt : List Str} {ab_ibt : Bool} {co_ibt : Option Bool} {dd_ibt : Option Addr} {x0_ibt x1_ibt x2_ibt x3_ibt x5_ibt : Option Value} {od_ibt an_ibt : Option Addr} {sl_ibt : Array (Option Value)} {oc_ibt kV_ibt dc_ibt pm_ibt cd_ibt ct_ibt : Value}
    {C_ch : Addr}
    {f_cinit : Addr} {od_cinit an_cinit : Option Addr} {sl_cinit : Array (Option Value)} {oc_cinit kV_cinit dc_cinit pm_cinit cd_cinit ct_cinit : Value}
    {f_ceq : Addr} {od_ceq an_ceq : Option Addr} {sl_ceq : Array (Option Value)} {oc_ceq kV_ceq dc_ceq pm_ceq cd_ceq ct_ceq : Value}
    {f_cstr : Addr} {od_cstr an_cstr : Option Addr} {sl_cstr : Array (Option Value)} {oc_cstr kV_cstr dc_cstr pm_cstr cd_cstr ct_cstr : Value}
    {f_cread : Addr} {od_cread an_cread : Option Addr} {sl_cread : Array (Option Value)} {oc_cread kV_cread dc_cread pm_cread cd_cread ct_cread : Value}
    {p_cread : Addr} {r_cread : List Value}
    {tM : Tok}
    (a_least : PySem.W.nsIn K mainGlobals "_least_divisor" = some (some (.ref f_least))) (l_least : K.lookup f_least = some ⟨oc_least, od_least, .func (PySem.W.fnOf "_least_divisor" "_least_divisor" (defArgs s_least) (defBody s_least) (defScope s_least) .none kV_least dc_least pm_least an_least cd_least ct_least), sl_least⟩) (c_least : PySem.W.codeIn K cd_least "_least_divisor" = true) (k_least : PySem.W.keepIn K (.ref f_least) = true)
    (a_prime : PySem.W.nsIn K mainGlobals "is_prime" = some (some (.ref f_prime))) (l_prime : K.lookup f_prime = some ⟨oc_prime, od_prime, .func (PySem.W.fnOf "is_prime" "is_prime" (defArgs s_prime) (defBody s_prime) (defScope s_prime) .none kV_prime dc_prime pm_prime an_prime cd_prime ct_prime), sl_prime⟩) (c_prime : PySem.W.codeIn K cd_prime "is_prime" = true) (k_prime : PySem.W.keepIn K (.ref f_prime) = true)
    (a_isnum : PySem.W.nsIn K mainGlobals "is_number" = some (some (.ref f_isnum))) (l_isnum : K.lookup f_isnum = some ⟨oc_isnum, od_isnum, .func (PySem.W.fnOf "is_number" "is_number" (defArgs s_isnum) (defBody s_isnum) (defScope s_isnum) .none kV_isnum dc_isnum pm_isnum an_isnum cd_isnum ct_isnum), sl_isnum⟩) (c_isnum : PySem.W.codeIn K cd_isnum "is_number" = true) (k_isnum : PySem.W.keepIn K (.ref f_isnum) = true)
    (a_hding : PySem.W.nsIn K mainGlobals "_heading" = some (some (.ref f_hding))) (l_hding : K.lookup f_hding = some ⟨oc_hding, od_hding, .func (PySem.W.fnOf "_heading" "_heading" (defArgs s_hding) (defBody s_hding) (defScope s_hding) .none kV_hding dc_hding pm_hding an_hding cd_hding ct_hding), sl_hding⟩) (c_hding : PySem.W.codeIn K cd_hding "_heading" = true) (k_hding : PySem.W.keepIn K (.ref f_hding) = true)
    (a_pool : PySem.W.nsIn K mainGlobals "_law_pool" = some (some (.ref f_pool))) (l_pool : K.lookup f_pool = some ⟨oc_pool, od_pool, .func (PySem.W.fnOf "_law_pool" "_law_pool" (defArgs s_pool) (defBody s_pool) (defScope s_pool) .none kV_pool dc_pool pm_pool an_pool cd_pool ct_pool), sl_pool⟩) (c_pool : PySem.W.codeIn K cd_pool "_law_pool" = true) (k_pool : PySem.W.keepIn K (.ref f_pool) = true)
    (a_take : PySem.W.nsIn K mainGlobals "_law_take" = some (some (.ref f_take))) (l_take : K.lookup f_take = some ⟨oc_take, od_take, .func (PySem.W.fnOf "_law_take" "_law_take" (defArgs s_take) (defBody s_take) (defScope s_take) .none kV_take dc_take pm_take an_take cd_take ct_take), sl_take⟩) (c_take : PySem.W.codeIn K cd_take "_law_take" = true) (k_take : PySem.W.keepIn K (.ref f_take) = true)
    (a_cell : PySem.W.nsIn K mainGlobals "_law_cell" = some (some (.ref f_cell))) (l_cell : K.lookup f_cell = some ⟨oc_cell, od_cell, .func (PySem.W.fnOf "_law_cell" "_law_cell" (defArgs s_cell) (defBody s_cell) (defScope s_cell) .none kV_cell dc_cell pm_cell an_cell cd_cell ct_cell), sl_cell⟩) (c_cell : PySem.W.codeIn K cd_cell "_law_cell" = true) (k_cell : PySem.W.keepIn K (.ref f_cell) = true)
    (a_lprime : PySem.W.nsIn K mainGlobals "_law_is_prime" = some (some (.ref f_lprime))) (l_lprime : K.lookup f_lprime = some ⟨oc_lprime, od_lprime, .func (PySem.W.fnOf "_law_is_prime" "_law_is_prime" (defArgs s_lprime) (defBody s_lprime) (defScope s_lprime) .none kV_lprime dc_lprime pm_lprime an_lprime cd_lprime ct_lprime), sl_lprime⟩) (c_lprime : PySem.W.codeIn K cd_lprime "_law_is_prime" = true) (k_lprime : PySem.W.keepIn K (.ref f_lprime) = true)
    (a_lisnum : PySem.W.nsIn K mainGlobals "_law_is_number" = some (some (.ref f_lisnum))) (l_lisnum : K.lookup f_lisnum = some ⟨oc_lisnum, od_lisnum, .func (PySem.W.fnOf "_law_is_number" "_law_is_number" (defArgs s_lisnum) (defBody s_lisnum) (defScope s_lisnum) .none kV_lisnum dc_lisnum pm_lisnum an_lisnum cd_lisnum ct_lisnum), sl_lisnum⟩) (c_lisnum : PySem.W.codeIn K cd_lisnum "_law_is_number" = true) (k_lisnum : PySem.W.keepIn K (.ref f_lisnum) = true)
    (a_ldue : PySem.W.nsIn K mainGlobals "_law_due" = some (some (.ref f_ldue))) (l_ldue : K.lookup f_ldue = some ⟨oc_ldue, od_ldue, .func (PySem.W.fnOf "_law_due" "_law_due" (defArgs s_ldue) (defBody s_ldue) (defScope s_ldue) .none kV_ldue dc_ldue pm_ldue an_ldue cd_ldue ct_ldue), sl_ldue⟩) (c_ldue : PySem.W.codeIn K cd_ldue "_law_due" = true) (k_ldue : PySem.W.keepIn K (.ref f_ldue) = true)
    (a_ltold : PySem.W.nsIn K mainGlobals "_law_told" = some (some (.ref f_ltold))) (l_ltold : K.lookup f_ltold = some ⟨oc_ltold, od_ltold, .func (PySem.W.fnOf "_law_told" "_law_told" (defArgs s_ltold) (defBody s_ltold) (defScope s_ltold) .none kV_ltold dc_ltold pm_ltold an_ltold cd_ltold ct_ltold), sl_ltold⟩) (c_ltold : PySem.W.codeIn K cd_ltold "_law_told" = true) (k_ltold : PySem.W.keepIn K (.ref f_ltold) = true)
    (a_lchg : PySem.W.nsIn K mainGlobals "_law_changed" = some (some (.ref f_lchg))) (l_lchg : K.lookup f_lchg = some ⟨oc_lchg, od_lchg, .func (PySem.W.fnOf "_law_changed" "_law_changed" (defArgs s_lchg) (defBody s_lchg) (defScope s_lchg) .none kV_lchg dc_lchg pm_lchg an_lchg cd_lchg ct_lchg), sl_lchg⟩) (c_lchg : PySem.W.codeIn K cd_lchg "_law_changed" = true) (k_lchg : PySem.W.keepIn K (.ref f_lchg) = true)
    (a_law : PySem.W.nsIn K mainGlobals "law" = some (some (.ref f_law))) (l_law : K.lookup f_law = some ⟨oc_law, od_law, .func (PySem.W.fnOf "law" "law" (defArgs s_law) (defBody s_law) (defScope s_law) .none kV_law dc_law pm_law an_law cd_law ct_law), sl_law⟩) (c_law : PySem.W.codeIn K cd_law "law" = true) (k_law : PySem.W.keepIn K (.ref f_law) = true)
    (aF : PySem.W.nsIn K mainGlobals "FieldError" = some (some (.ref CF))) (rF : PySem.W.readsIn K CF (.type "type") = true) (gF : PySem.W.specialIn K (.ref CF) "__getattribute__" = some (some (.builtin "type.__getattribute__"))) (iF : PySem.W.findCls K (.ref CF) (.type "type") "__init__" = some (.val (.builtin "ValueError.__init__")))
    (aC_ibc : PySem.W.nsIn K mainGlobals "BadCharacteristic" = some (some (.ref C_ibc))) (xC_ibc : K.lookup C_ibc = some (excClassObj nm_ibc q_ibc C_ibc N_ibc bs_ibc [.ref CF, .type "ValueError", .type "Exception", .type "BaseException", .type "object"] true sn_ibc sb_ibc ab_ibc co_ibc dd_ibc x0_ibc x1_ibc x2_ibc x3_ibc x5_ibc "ValueError.__new__")) (sa_ibc : PySem.W.findIn K (.ref C_ibc) "__setattr__" = some (some (.builtin "object.__setattr__"))) (ga_ibc : PySem.W.findIn K (.ref C_ibc) "__getattribute__" = some (some (.builtin "BaseException.__getattribute__"))) (gg_ibc : PySem.W.findIn K (.ref C_ibc) "__getattr__" = some none) (no_ibc : PySem.W.findIn K (.ref C_ibc) "p" = some none) (ic_ibc : PySem.W.findIn K (.ref C_ibc) "__init__" = some (some (.ref f_ibc))) (ti_ibc : PySem.W.typeIn K (.ref f_ibc) = some (.type "function")) (kc_ibc : PySem.W.keepIn K (.ref C_ibc) = true) (ec_ibc : PySem.W.subIn K (.ref C_ibc) (.type "BaseException") = some true) (tc_ibc : PySem.W.typeIn K (.ref C_ibc) = some (.type "type")) (hd_ibc : PySem.W.hasDictIn K C_ibc = true) (is_ibc : PySem.W.isClsIn K C_ibc = true) (sc_ibc : PySem.W.subIn K (.ref C_ibc) (.ref C_ibc) = some true) (l_ibc : K.lookup f_ibc = some ⟨oc_ibc, od_ibc, .func (PySem.W.fnOf "__init__" "BadCharacteristic.__init__" (defArgs s_ibc) (defBody s_ibc) (defScope s_ibc) .none kV_ibc dc_ibc pm_ibc an_ibc cd_ibc ct_ibc), sl_ibc⟩) (c_ibc : PySem.W.codeIn K cd_ibc "BadCharacteristic.__init__" = true) (k_ibc : PySem.W.keepIn K (.ref f_ibc) = true)
    (aC_ibt : PySem.W.nsIn K mainGlobals "BadText" = some (some (.ref C_ibt))) (xC_ibt : K.lookup C_ibt = some (excClassObj nm_ibt q_ibt C_ibt N_ibt bs_ibt [.ref CF, .type "ValueError", .type "Exception", .type "BaseException", .type "object"] true sn_ibt sb_ibt ab_ibt co_ibt dd_ibt x0_ibt x1_ibt x2_ibt x3_ibt x5_ibt "ValueError.__new__")) (sa_ibt : PySem.W.findIn K (.ref C_ibt) "__setattr__" = some (some (.builtin "object.__setattr__"))) (ga_ibt : PySem.W.findIn K (.ref C_ibt) "__getattribute__" = some (some (.builtin "BaseException.__getattribute__"))) (gg_ibt : PySem.W.findIn K (.ref C_ibt) "__getattr__" = some none) (no_ibt : PySem.W.findIn K (.ref C_ibt) "at" = some none) (ic_ibt : PySem.W.findIn K (.ref C_ibt) "__init__" = some (some (.ref f_ibt))) (ti_ibt : PySem.W.typeIn K (.ref f_ibt) = some (.type "function")) (kc_ibt : PySem.W.keepIn K (.ref C_ibt) = true) (ec_ibt : PySem.W.subIn K (.ref C_ibt) (.type "BaseException") = some true) (tc_ibt : PySem.W.typeIn K (.ref C_ibt) = some (.type "type")) (hd_ibt : PySem.W.hasDictIn K C_ibt = true) (is_ibt : PySem.W.isClsIn K C_ibt = true) (sc_ibt : PySem.W.subIn K (.ref C_ibt) (.ref C_ibt) = some true) (l_ibt : K.lookup f_ibt = some ⟨oc_ibt, od_ibt, .func (PySem.W.fnOf "__init__" "BadText.__init__" (defArgs s_ibt) (defBody s_ibt) (defScope s_ibt) .none kV_ibt dc_ibt pm_ibt an_ibt cd_ibt ct_ibt), sl_ibt⟩) (c_ibt : PySem.W.codeIn K cd_ibt "BadText.__init__" = true) (k_ibt : PySem.W.keepIn K (.ref f_ibt) = true)
    (K_aK : PySem.W.nsIn K mainGlobals "Chars" = some (some (.ref C_ch)))
    (K_pg : PySem.W.plainGet K C_ch Str.empty = true)
    (K_hd : PySem.W.hasDictIn K C_ch = true)
    (K_po : PySem.W.plainOver K C_ch = true)
    (K_sa : PySem.W.findIn K (.ref C_ch) "__setattr__" = some (some (.builtin "object.__setattr__")))
    (K_sf : PySem.W.selfFirst K C_ch = true)
    (K_ha : PySem.W.findIn K (.ref C_ch) "__class__" = some (some (.builtin "object.__class__")))
    (K_hn : PySem.W.specialIn K (.builtin "object.__class__") "__get__" = some (some (.builtin "getset_descriptor.__get__")))
    (K_htk : PySem.W.takesIn K (.builtin "object.__class__") = some true)
    (K_hm : PySem.W.mroIn K C_ch (.type "object") = some true)
    (K_mk : PySem.W.makesIn K C_ch = true)
    (K_kp : PySem.W.keepIn K (.ref C_ch) = true)
    (K_no_endless : PySem.W.findIn K (.ref C_ch) "endless" = some none)
    (K_no_primes : PySem.W.findIn K (.ref C_ch) "primes" = some none)
    (K_rd : PySem.W.readsIn K C_ch (.type "type") = true)
    (K_sg : PySem.W.specialIn K (.ref C_ch) "__getattribute__" = some (some (.builtin "type.__getattribute__")))
    (K_at_cinit : PySem.W.findIn K (.ref C_ch) "__init__" = some (some (.ref f_cinit)))
    (K_fn_cinit : PySem.W.isFn K (.ref f_cinit) = true)
    (K_l_cinit : K.lookup f_cinit = some ⟨oc_cinit, od_cinit, .func (PySem.W.fnOf "__init__" "Chars.__init__" (defArgs s_cinit) (defBody s_cinit) (defScope s_cinit) .none kV_cinit dc_cinit pm_cinit an_cinit cd_cinit ct_cinit), sl_cinit⟩)
    (K_c_cinit : PySem.W.codeIn K cd_cinit "Chars.__init__" = true)
    (K_k_cinit : PySem.W.keepIn K (.ref f_cinit) = true)
    (K_at_ceq : PySem.W.findIn K (.ref C_ch) "__eq__" = some (some (.ref f_ceq)))
    (K_fn_ceq : PySem.W.isFn K (.ref f_ceq) = true)
    (K_l_ceq : K.lookup f_ceq = some ⟨oc_ceq, od_ceq, .func (PySem.W.fnOf "__eq__" "Chars.__eq__" (defArgs s_ceq) (defBody s_ceq) (defScope s_ceq) .none kV_ceq dc_ceq pm_ceq an_ceq cd_ceq ct_ceq), sl_ceq⟩)
    (K_c_ceq : PySem.W.codeIn K cd_ceq "Chars.__eq__" = true)
    (K_k_ceq : PySem.W.keepIn K (.ref f_ceq) = true)
    (K_at_cstr : PySem.W.findIn K (.ref C_ch) "__str__" = some (some (.ref f_cstr)))
    (K_fn_cstr : PySem.W.isFn K (.ref f_cstr) = true)
    (K_l_cstr : K.lookup f_cstr = some ⟨oc_cstr, od_cstr, .func (PySem.W.fnOf "__str__" "Chars.__str__" (defArgs s_cstr) (defBody s_cstr) (defScope s_cstr) .none kV_cstr dc_cstr pm_cstr an_cstr cd_cstr ct_cstr), sl_cstr⟩)
    (K_c_cstr : PySem.W.codeIn K cd_cstr "Chars.__str__" = true)
    (K_k_cstr : PySem.W.keepIn K (.ref f_cstr) = true)
    (K_at_cread : PySem.W.findCls K (.ref C_ch) (.type "type") "read" = some (.get (.builtin "classmethod.__get__") (.ref p_cread) .none (.ref C_ch)))
    (K_rc_cread : PySem.W.recIn K p_cread "classmethod" = some (.ref f_cread :: r_cread))
    (K_fi_cread : PySem.W.fnIn K f_cread = true)
    (K_l_cread : K.lookup f_cread = some ⟨oc_cread, od_cread, .func (PySem.W.fnOf "read" "Chars.read" (defArgs s_cread) (defBody s_cread) (defScope s_cread) .none kV_cread dc_cread pm_cread an_cread cd_cread ct_cread), sl_cread⟩)
    (K_c_cread : PySem.W.codeIn K cd_cread "Chars.read" = true)
    (K_k_cread : PySem.W.keepIn K (.ref f_cread) = true)
    (s_bc_bt : PySem.W.subIn K (.ref C_ibc) (.ref C_ibt) = some false)
    (z_int : PySem.W.nsIn K mainGlobals "int" = some none)
    (z_len : PySem.W.nsIn K mainGlobals "len" = some none)
    (z_abs : PySem.W.nsIn K mainGlobals "abs" = some none)
    (z_isinstance : PySem.W.nsIn K mainGlobals "isinstance" = some none)
    (z_bool : PySem.W.nsIn K mainGlobals "bool" = some none)
    (z_tuple : PySem.W.nsIn K mainGlobals "tuple" = some none)
    (z_list : PySem.W.nsIn K mainGlobals "list" = some none)
    (z_str : PySem.W.nsIn K mainGlobals "str" = some none)
    (z_range : PySem.W.nsIn K mainGlobals "range" = some none)
    (z_max : PySem.W.nsIn K mainGlobals "max" = some none)
    (z_min : PySem.W.nsIn K mainGlobals "min" = some none)
    (z_sorted : PySem.W.nsIn K mainGlobals "sorted" = some none)
    (z_set : PySem.W.nsIn K mainGlobals "set" = some none)
    (z_all : PySem.W.nsIn K mainGlobals "all" = some none)
    (g_isqrt : PySem.W.nsIn K mainGlobals "isqrt" = some (some (.builtin "math.isqrt")))
    (g__MOST_DIGITS : PySem.W.nsIn K mainGlobals "_MOST_DIGITS" = some (some (.int 10 tM))) :
    ∃ fd : FuncData, (∀ (s : Shared) (v : Value), BindsTo s fd ⟨[v], []⟩ [("_law_script", v)]) ∧ ∀ base : Heap, K.In base → base.Ns mainGlobals mg → FnOk P w K mg base CX0 8 fa fd ["_law_script"] (spLaw K) := by
  have e := hfa.symm.trans (PySem.W.mg_of X G a_law)
  cases e
  have T : Txt mg := ⟨PySem.W.mg_none_of X G z_int, PySem.W.mg_none_of X G z_len, PySem.W.mg_none_of X G z_abs, PySem.W.mg_none_of X G z_isinstance, PySem.W.mg_none_of X G z_bool, PySem.W.mg_none_of X G z_tuple, PySem.W.mg_none_of X G z_list, PySem.W.mg_none_of X G z_str, PySem.W.mg_none_of X G z_range, PySem.W.mg_none_of X G z_max, PySem.W.mg_none_of X G z_min, PySem.W.mg_none_of X G z_sorted, PySem.W.mg_none_of X G z_set⟩
  have n_all := PySem.W.mg_none_of X G z_all
  have TF : FErr K mg CF := ⟨PySem.W.mg_of X G aF, rF, gF, iF⟩
  have F_ibc := fun_mk (st := s_ibc) l_ibc c_ibc k_ibc
  have b_ibc := F_ibc.binds (ps := ["self", "p"]) fun _ _ _ _ _ _ us hl => match us, hl with | [_, _], _ => rfl
  have E_ibc : ErrC K mg "BadCharacteristic" "p" C_ibc f_ibc := ⟨PySem.W.mg_of X G aC_ibc, ⟨⟨_, _, _, _, _, _, _, _, _, _, _, _, _, _, _, xC_ibc, rfl⟩, sa_ibc, ec_ibc, tc_ibc, kc_ibc⟩, no_ibc, ic_ibc, ti_ibc, ⟨ga_ibc, gg_ibc, ec_ibc, hd_ibc⟩, exm_me ec_ibc is_ibc tc_ibc sc_ibc⟩
  have F_ibt := fun_mk (st := s_ibt) l_ibt c_ibt k_ibt
  have b_ibt := F_ibt.binds (ps := ["self", "at"]) fun _ _ _ _ _ _ us hl => match us, hl with | [_, _], _ => rfl
  have E_ibt : ErrC K mg "BadText" "at" C_ibt f_ibt := ⟨PySem.W.mg_of X G aC_ibt, ⟨⟨_, _, _, _, _, _, _, _, _, _, _, _, _, _, _, xC_ibt, rfl⟩, sa_ibt, ec_ibt, tc_ibt, kc_ibt⟩, no_ibt, ic_ibt, ti_ibt, ⟨ga_ibt, gg_ibt, ec_ibt, hd_ibt⟩, exm_me ec_ibt is_ibt tc_ibt sc_ibt⟩
  have TC : ChT K mg C_ch := ⟨PySem.W.mg_of X G K_aK, ⟨K_pg, K_hd, K_po, K_sa⟩, K_no_endless, K_no_primes, K_sf, ⟨⟨K_pg, K_hd, K_po, K_sa⟩, K_ha, K_hn, K_htk, K_hm, if_pos (beq_self_eq_true _)⟩⟩
  have F_cinit := fun_mk (st := s_cinit) K_l_cinit K_c_cinit K_k_cinit
  have b_cinit := F_cinit.binds (ps := ["self", "endless", "primes"]) fun _ _ _ _ _ _ us hl => match us, hl with | [_, _, _], _ => rfl
  have F_ceq := fun_mk (st := s_ceq) K_l_ceq K_c_ceq K_k_ceq
  have b_ceq := F_ceq.binds (ps := ["self", "other"]) fun _ _ _ _ _ _ us hl => match us, hl with | [_, _], _ => rfl
  have M_ceq : Meth K C_ch "__eq__" f_ceq := ⟨K_at_ceq, K_fn_ceq, K_k_ceq⟩
  have F_cstr := fun_mk (st := s_cstr) K_l_cstr K_c_cstr K_k_cstr
  have b_cstr := F_cstr.binds (ps := ["self"]) fun _ _ _ _ _ _ us hl => match us, hl with | [_], _ => rfl
  have M_cstr : Meth K C_ch "__str__" f_cstr := ⟨K_at_cstr, K_fn_cstr, K_k_cstr⟩
  have F_cread := fun_mk (st := s_cread) K_l_cread K_c_cread K_k_cread
  have b_cread := F_cread.binds (ps := ["cls", "text"]) fun _ _ _ _ _ _ us hl => match us, hl with | [_, _], _ => rfl
  have M_cread : ClX.CMet K C_ch (.type "type") "read" p_cread f_cread := ⟨K_at_cread, ⟨_, K_rc_cread⟩, K_fi_cread⟩
  have CR : ClX.CRead K C_ch (.type "type") := ⟨K_rd, K_sg⟩
  have F_least := fun_mk (st := s_least) l_least c_least k_least
  have b_least := F_least.binds (ps := ["n"]) fun _ _ _ _ _ _ us hl => match us, hl with | [_], _ => rfl
  have F_prime := fun_mk (st := s_prime) l_prime c_prime k_prime
  have b_prime := F_prime.binds (ps := ["n"]) fun _ _ _ _ _ _ us hl => match us, hl with | [_], _ => rfl
  have F_isnum := fun_mk (st := s_isnum) l_isnum c_isnum k_isnum
  have b_isnum := F_isnum.binds (ps := ["word", "most"]) fun _ _ _ _ _ _ us hl => match us, hl with | [_, _], _ => rfl
  have F_hding := fun_mk (st := s_hding) l_hding c_hding k_hding
  have b_hding := F_hding.binds (ps := ["words"]) fun _ _ _ _ _ _ us hl => match us, hl with | [_], _ => rfl
  have F_pool := fun_mk (st := s_pool) l_pool c_pool k_pool
  have b_pool := F_pool.binds (ps := ["_law_cell_here"]) fun _ _ _ _ _ _ us hl => match us, hl with | [_], _ => rfl
  have F_take := fun_mk (st := s_take) l_take c_take k_take
  have b_take := F_take.binds (ps := ["_law_pool_here", "_law_limit"]) fun _ _ _ _ _ _ us hl => match us, hl with | [_, _], _ => rfl
  have F_cell := fun_mk (st := s_cell) l_cell c_cell k_cell
  have b_cell := F_cell.binds (ps := ["_law_script", "_law_k"]) fun _ _ _ _ _ _ us hl => match us, hl with | [_, _], _ => rfl
  have F_lprime := fun_mk (st := s_lprime) l_lprime c_lprime k_lprime
  have b_lprime := F_lprime.binds (ps := ["_law_n"]) fun _ _ _ _ _ _ us hl => match us, hl with | [_], _ => rfl
  have F_lisnum := fun_mk (st := s_lisnum) l_lisnum c_lisnum k_lisnum
  have b_lisnum := F_lisnum.binds (ps := ["_law_word"]) fun _ _ _ _ _ _ us hl => match us, hl with | [_], _ => rfl
  have F_ldue := fun_mk (st := s_ldue) l_ldue c_ldue k_ldue
  have b_ldue := F_ldue.binds (ps := ["_law_words"]) fun _ _ _ _ _ _ us hl => match us, hl with | [_], _ => rfl
  have F_ltold := fun_mk (st := s_ltold) l_ltold c_ltold k_ltold
  have b_ltold := F_ltold.binds (ps := ["_law_words"]) fun _ _ _ _ _ _ us hl => match us, hl with | [_], _ => rfl
  have F_lchg := fun_mk (st := s_lchg) l_lchg c_lchg k_lchg
  have b_lchg := F_lchg.binds (ps := ["_law_pool_here", "_law_words"]) fun _ _ _ _ _ _ us hl => match us, hl with | [_, _], _ => rfl
  have F_law := fun_mk (st := s_law) l_law c_law k_law
  have m_isqrt := PySem.W.mg_of X G g_isqrt
  have m__MOST_DIGITS := PySem.W.mg_of X G g__MOST_DIGITS
  refine ⟨PySem.W.fnOf "law" "law" (defArgs s_law) (defBody s_law) (defScope s_law) .none kV_law dc_law pm_law an_law cd_law ct_law, fun s v => .of_eq rfl, fun base _ _ => ?_⟩
  have x_ibc : Er P w K mg base "BadCharacteristic" "p" C_ibc := ⟨_, _, _, E_ibc, ok_ibc TF E_ibc.oex E_ibc.no F_ibc, b_ibc⟩
  have x_ibt : ErP P w K mg base "BadText" "at" C_ibt okNat := ⟨_, _, _, E_ibt, ok_ibt TF E_ibt.oex E_ibt.no F_ibt, b_ibt⟩
  have d_least : Cl P w K mg base CX0 1 "_least_divisor" spLeast := ⟨_, _, _, ok_least T m_isqrt F_least, PySem.W.mg_of X G a_least, k_least, b_least⟩
  have d_prime : Cl P w K mg base CX0 2 "is_prime" spPrime := ⟨_, _, _, ok_prime F_prime d_least, PySem.W.mg_of X G a_prime, k_prime, b_prime⟩
  have d_isnum : Cl P w K mg base CX0 1 "is_number" spIsNumM := ⟨_, _, _, ok_isnumM T F_isnum, PySem.W.mg_of X G a_isnum, k_isnum, b_isnum⟩
  have d_pool : Cl P w K mg base CX0 1 "_law_pool" spPool := ⟨_, _, _, ok_pool F_pool, PySem.W.mg_of X G a_pool, k_pool, b_pool⟩
  have d_take : Cl P w K mg base CX0 1 "_law_take" spTake := ⟨_, _, _, ok_take T F_take, PySem.W.mg_of X G a_take, k_take, b_take⟩
  have d_cell : Cl P w K mg base CX0 1 "_law_cell" (spCellL K) := ⟨_, _, _, ok_cell T F_cell, PySem.W.mg_of X G a_cell, k_cell, b_cell⟩
  have d_lprime : Cl P w K mg base CX0 1 "_law_is_prime" spPrime := ⟨_, _, _, ok_lprime F_lprime, PySem.W.mg_of X G a_lprime, k_lprime, b_lprime⟩
  have d_lisnum : Cl P w K mg base CX0 1 "_law_is_number" spLisNum := ⟨_, _, _, ok_lisnum T n_all F_lisnum, PySem.W.mg_of X G a_lisnum, k_lisnum, b_lisnum⟩
  have d_ldue : Cl P w K mg base CX0 2 "_law_due" (spDue K) := ⟨_, _, _, ok_ldue T F_ldue d_lisnum d_lprime, PySem.W.mg_of X G a_ldue, k_ldue, b_ldue⟩
  have d_lchg : Cl P w K mg base CX0 2 "_law_changed" spChg := ⟨_, _, _, ok_lchg T F_lchg d_take, PySem.W.mg_of X G a_lchg, k_lchg, b_lchg⟩
  have c_cil : Ma P w K mg base 3 C_ch (spCI C_ch C_ibc false K) := ⟨_, _, _, ⟨K_mk, K_at_cinit, K_fn_cinit, K_kp⟩, ok_cinit false T TC F_cinit d_prime x_ibc, b_cinit⟩
  have m_eq : Me P w K mg base 1 C_ch "__eq__" (spCeq C_ch) := ⟨_, _, _, M_ceq, ok_ceq T TC F_ceq, b_ceq⟩
  have m_str : Me P w K mg base 1 C_ch "__str__" (spCstr C_ch) := ⟨_, _, _, M_cstr, ok_cstr T TC F_cstr, b_cstr⟩
  have d_hding : Cl P w K mg base (L2N.CX P w) 3 "_heading" (spHead C_ibt K) := ⟨_, _, _, ok_head T F_hding x_ibt, PySem.W.mg_of X G a_hding, k_hding, b_hding⟩
  have m_read : CmN P w K mg base 5 C_ch "read" (spRead C_ch C_ibc C_ibt) := ⟨_, _, _, _, _, CR, M_cread, ok_cread T TC F_cread m__MOST_DIGITS d_isnum d_hding x_ibt c_cil, b_cread⟩
  have ex : PySem.W.exmOne K (.ref C_ibc) (.ref C_ibt) = some false := PySem.W.exm_ref ec_ibt hd_ibt tc_ibt s_bc_bt
  have d_ltold : Cl P w K mg base CX0 6 "_law_told" spTold := ⟨_, _, _, ok_ltold T TC E_ibc E_ibt ex F_ltold m_read, PySem.W.mg_of X G a_ltold, k_ltold, b_ltold⟩
  exact ok_law (CB := C_ibc) (CT := C_ibt) T TC F_law d_pool d_take d_cell d_ldue d_ltold d_lchg c_cil m_read m_str m_eq
theorem walk {l : PySem.W.OpenLaw} {q : Program} {loose : List Str} {XP : (Str → Option Value) → Heap → Prop} {YP : World → Heap → Prop} {d : DefRec} {K : Params → PySem.W.Frag} (hn : l.most = some 63) (hdf : d.params.defaults = [])
    (hY : ∀ (w : World) (h : Heap), YP w h → (K w.params).In h)
    (F : ∀ (w : World) (mg : Str → Option Value) (fa : Addr) (h : Heap), (K w.params).In h → h.Ns mainGlobals mg → mg d.name = some (.ref fa) →
      ∃ fd : FuncData, (∀ (s : Shared) (u : Value), BindsTo s fd ⟨[u], []⟩ [("_law_script", u)]) ∧ ∀ base : Heap, (K w.params).In base → base.Ns mainGlobals mg → FnOk l.prog w (K w.params) mg base CX0 8 fa fd ["_law_script"] (spLaw (K w.params))) :
    PySem.W.WalkO q loose XP YP l.row.toRowW d [] (fun f vs => PySem.call f vs) :=
  L2.walk_of (n := 63) (k := 8) (x := "_law_script") (CX := fun _ => CX0) (sp := fun w => spLaw (K w.params)) hn (by decide) hdf ⟨rfl, by decide, by decide⟩ hY F (fun _ _ a ns hl _ hS => ⟨a, ns, rfl, hS, hl, fun _ => rfl⟩) fun _ _ _ _ _ z => z
end My
open PySem PySem.W PyProof.Rows
set_option maxRecDepth 100000 in
set_option maxHeartbeats 0 in
theorem PySem.Challenge.cw_everyfield_k25_sets_written_and_read_holds : PySem.Challenge.rw_everyfield_k25_sets_written_and_read.Holds := by
  w_on; o_law; k_head; (case hw => w_witness2)
  k_fill
  refine My.walk (l := PySem.Challenge.rw_everyfield_k25_sets_written_and_read) rfl rfl (fun w h Y => PySem.W.kIn_of Y) ?F
  case F =>
    intro w mg fa h KX G hmg
    refine' My.all_mk KX G hmg ?a_least ?l_least ?c_least ?k_least ?a_prime ?l_prime ?c_prime ?k_prime ?a_isnum ?l_isnum ?c_isnum ?k_isnum ?a_hding ?l_hding ?c_hding ?k_hding ?a_pool ?l_pool ?c_pool ?k_pool ?a_take ?l_take ?c_take ?k_take ?a_cell ?l_cell ?c_cell ?k_cell ?a_lprime ?l_lprime ?c_lprime ?k_lprime ?a_lisnum ?l_lisnum ?c_lisnum ?k_lisnum ?a_ldue ?l_ldue ?c_ldue ?k_ldue ?a_ltold ?l_ltold ?c_ltold ?k_ltold ?a_lchg ?l_lchg ?c_lchg ?k_lchg ?a_law ?l_law ?c_law ?k_law ?aF ?rF ?gF ?iF ?aC_ibc ?xC_ibc ?sa_ibc ?ga_ibc ?gg_ibc ?no_ibc ?ic_ibc ?ti_ibc ?kc_ibc ?ec_ibc ?tc_ibc ?hd_ibc ?is_ibc ?sc_ibc ?l_ibc ?c_ibc ?k_ibc ?aC_ibt ?xC_ibt ?sa_ibt ?ga_ibt ?gg_ibt ?no_ibt ?ic_ibt ?ti_ibt ?kc_ibt ?ec_ibt ?tc_ibt ?hd_ibt ?is_ibt ?sc_ibt ?l_ibt ?c_ibt ?k_ibt ?K_aK ?K_pg ?K_hd ?K_po ?K_sa ?K_sf ?K_ha ?K_hn ?K_htk ?K_hm ?K_mk ?K_kp ?K_no_endless ?K_no_primes ?K_rd ?K_sg ?K_at_cinit ?K_fn_cinit ?K_l_cinit ?K_c_cinit ?K_k_cinit ?K_at_ceq ?K_fn_ceq ?K_l_ceq ?K_c_ceq ?K_k_ceq ?K_at_cstr ?K_fn_cstr ?K_l_cstr ?K_c_cstr ?K_k_cstr ?K_at_cread ?K_rc_cread ?K_fi_cread ?K_l_cread ?K_c_cread ?K_k_cread ?s_bc_bt ?z_int ?z_len ?z_abs ?z_isinstance ?z_bool ?z_tuple ?z_list ?z_str ?z_range ?z_max ?z_min ?z_sorted ?z_set ?z_all ?g_isqrt ?g__MOST_DIGITS
    (case a_least => k_is)
    (case l_least => k_is)
    (case c_least => k_is)
    (case k_least => k_is)
    (case a_prime => k_is)
    (case l_prime => k_is)
    (case c_prime => k_is)
    (case k_prime => k_is)
    (case a_isnum => k_is)
    (case l_isnum => k_is)
    (case c_isnum => k_is)
    (case k_isnum => k_is)
    (case a_hding => k_is)
    (case l_hding => k_is)
    (case c_hding => k_is)
    (case k_hding => k_is)
    (case a_pool => k_is)
    (case l_pool => k_is)
    (case c_pool => k_is)
    (case k_pool => k_is)
    (case a_take => k_is)
    (case l_take => k_is)
    (case c_take => k_is)
    (case k_take => k_is)
    (case a_cell => k_is)
    (case l_cell => k_is)
    (case c_cell => k_is)
    (case k_cell => k_is)
    (case a_lprime => k_is)
    (case l_lprime => k_is)
    (case c_lprime => k_is)
    (case k_lprime => k_is)
    (case a_lisnum => k_is)
    (case l_lisnum => k_is)
    (case c_lisnum => k_is)
    (case k_lisnum => k_is)
    (case a_ldue => k_is)
    (case l_ldue => k_is)
    (case c_ldue => k_is)
    (case k_ldue => k_is)
    (case a_ltold => k_is)
    (case l_ltold => k_is)
    (case c_ltold => k_is)
    (case k_ltold => k_is)
    (case a_lchg => k_is)
    (case l_lchg => k_is)
    (case c_lchg => k_is)
    (case k_lchg => k_is)
    (case a_law => k_is)
    (case l_law => k_is)
    (case c_law => k_is)
    (case k_law => k_is)
    (case aF => k_is)
    (case rF => k_is)
    (case gF => k_is)
    (case iF => k_is)
    (case aC_ibc => k_is)
    (case xC_ibc => k_is)
    (case sa_ibc => k_is)
    (case ga_ibc => k_is)
    (case gg_ibc => k_is)
    (case no_ibc => k_is)
    (case ic_ibc => k_is)
    (case ti_ibc => k_is)
    (case kc_ibc => k_is)
    (case ec_ibc => k_is)
    (case tc_ibc => k_is)
    (case hd_ibc => k_is)
    (case is_ibc => k_is)
    (case sc_ibc => k_is)
    (case l_ibc => k_is)
    (case c_ibc => k_is)
    (case k_ibc => k_is)
    (case aC_ibt => k_is)
    (case xC_ibt => k_is)
    (case sa_ibt => k_is)
    (case ga_ibt => k_is)
    (case gg_ibt => k_is)
    (case no_ibt => k_is)
    (case ic_ibt => k_is)
    (case ti_ibt => k_is)
    (case kc_ibt => k_is)
    (case ec_ibt => k_is)
    (case tc_ibt => k_is)
    (case hd_ibt => k_is)
    (case is_ibt => k_is)
    (case sc_ibt => k_is)
    (case l_ibt => k_is)
    (case c_ibt => k_is)
    (case k_ibt => k_is)
    (case K_aK => k_is)
    (case K_pg => k_is)
    (case K_hd => k_is)
    (case K_po => k_is)
    (case K_sa => k_is)
    (case K_sf => k_is)
    (case K_ha => k_is)
    (case K_hn => k_is)
    (case K_htk => k_is)
    (case K_hm => k_is)
    (case K_mk => k_is)
    (case K_kp => k_is)
    (case K_no_endless => k_is)
    (case K_no_primes => k_is)
    (case K_rd => k_is)
    (case K_sg => k_is)
    (case K_at_cinit => k_is)
    (case K_fn_cinit => k_is)
    (case K_l_cinit => k_is)
    (case K_c_cinit => k_is)
    (case K_k_cinit => k_is)
    (case K_at_ceq => k_is)
    (case K_fn_ceq => k_is)
    (case K_l_ceq => k_is)
    (case K_c_ceq => k_is)
    (case K_k_ceq => k_is)
    (case K_at_cstr => k_is)
    (case K_fn_cstr => k_is)
    (case K_l_cstr => k_is)
    (case K_c_cstr => k_is)
    (case K_k_cstr => k_is)
    (case K_at_cread => k_is)
    (case K_rc_cread => k_is)
    (case K_fi_cread => k_is)
    (case K_l_cread => k_is)
    (case K_c_cread => k_is)
    (case K_k_cread => k_is)
    (case s_bc_bt => k_is)
    (case z_int => k_is)
    (case z_len => k_is)
    (case z_abs => k_is)
    (case z_isinstance => k_is)
    (case z_bool => k_is)
    (case z_tuple => k_is)
    (case z_list => k_is)
    (case z_str => k_is)
    (case z_range => k_is)
    (case z_max => k_is)
    (case z_min => k_is)
    (case z_sorted => k_is)
    (case z_set => k_is)
    (case z_all => k_is)
    (case g_isqrt => k_is)
    (case g__MOST_DIGITS => k_is)
