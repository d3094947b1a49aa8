import PyProof.Rows.All
import Wide.All
import OpenK.AllK
import Wide.FinOn
import PyProof.NoPylong
import Flt.Len
import HandS.ForMost
import HandS.ForExc
import HandS.Wide
import HandS.Gcd
import HandS.IsInst
import HandS.Evl
import HandS.Flow
import HandS.Iter
import HandS.ExcInit
import HandS.ExcField
import HandS.ExcCtx
import HandS.HotCalls
import HandS.ExcInitHot
import HandS.TupLe
import HandS.TupAny
import HandS.Conv
import HandS.Strs
import HandS.SetFor
import HandS.Zip
import HandS.Star
import KE.KDictZip
import HandS.ClsMeth
import HandS.Codes
import HandS.SlotsOwn
import Flt.RightSqrt
import PySem.Challenge.RW_everyfield_k22_whole_sets_combined
set_option Elab.async false
set_option linter.all false
set_option maxRecDepth 100000
set_option maxHeartbeats 4000000
set_option exponentiation.threshold 20000
namespace My
open PySem PySem.Spec PyProof.Rows L2
def top (i : Nat) : Stmt := PySem.Challenge.pw_everyfield_k22_whole_sets_combined.main.body.getD i (.Pass ⟨0, 0, 0, 0⟩)
def Pr (n : Int) : Prop := 2 ≤ n ∧ ∀ m : Int, 2 ≤ m → m < n → ¬ m ∣ n
noncomputable def prB (n : Int) : Bool := @decide (Pr n) (Classical.propDecidable _)
theorem prB_true {n : Int} (h : Pr n) : prB n = true := by unfold prB; exact @decide_eq_true _ (Classical.propDecidable _) h
theorem prB_false {n : Int} (h : ¬ Pr n) : prB n = false := by unfold prB; exact @decide_eq_false _ (Classical.propDecidable _) h
theorem prB_iff {n : Int} : prB n = true ↔ Pr n := by unfold prB; exact @decide_eq_true_iff _ (Classical.propDecidable _)
/-- r is the least divisor of n from 2 on -/
structure Least (n r : Int) : Prop where
  two : 2 ≤ r
  dvd : r ∣ n
  min : ∀ m : Int, 2 ≤ m → m < r → ¬ m ∣ n
theorem Least.le {n r : Int} (h : Least n r) (hn : 2 ≤ n) : r ≤ n := Int.le_of_dvd (by omega) h.dvd
theorem Least.pr {n r : Int} (h : Least n r) : Pr r := ⟨h.two, fun m h1 h2 h3 => h.min m h1 h2 (Int.dvd_trans h3 h.dvd)⟩
theorem Least.uniq {n r r' : Int} (h : Least n r) (h' : Least n r') : r = r' := by
  rcases Int.lt_trichotomy r r' with c | c | c
  · exact absurd h.dvd (h'.min r h.two c)
  · exact c
  · exact absurd h'.dvd (h.min r' h'.two c)
theorem Least.self {n r : Int} (h : Least n r) (hn : 2 ≤ n) : r = n ↔ Pr n := by
  constructor
  · intro e
    rw [e] at h
    exact h.pr
  · intro p
    have := h.le hn
    by_cases c : r = n
    · exact c
    · exact absurd h.dvd (p.2 r h.two (by omega))
/-- a proper divisor: one at most the root -/
theorem small_div {n m s : Int} (hn : 2 ≤ n) (h2 : 2 ≤ m) (hm : m < n) (hd : m ∣ n) (hs0 : 0 ≤ s) (hs : n < (s + 1) * (s + 1)) : ∃ d : Int, 2 ≤ d ∧ d ≤ s ∧ d ≤ m ∧ d ∣ n := by
  obtain ⟨k, e⟩ := hd
  have hk : 2 ≤ k := by
    rcases Int.lt_trichotomy k 1 with c | c | c
    · have : m * k ≤ m * 0 := Int.mul_le_mul_of_nonneg_left (by omega) (by omega)
      omega
    · subst c
      omega
    · omega
  by_cases c : m ≤ s
  · exact ⟨m, h2, c, Int.le_refl _, ⟨k, e⟩⟩
  · refine ⟨k, hk, ?_, ?_, ⟨m, by rw [e, Int.mul_comm]⟩⟩
    · by_cases c2 : k ≤ s
      · exact c2
      · have : (s + 1) * (s + 1) ≤ m * k := Int.mul_le_mul (by omega) (by omega) (by omega) (by omega)
        omega
    · by_cases c2 : k ≤ m
      · exact c2
      · have c3 : k ≤ s := by
          by_cases c4 : k ≤ s
          · exact c4
          · have : (s + 1) * (s + 1) ≤ m * k := Int.mul_le_mul (by omega) (by omega) (by omega) (by omega)
            omega
        omega
/-- the trial over the odd ints: what is left at its end -/
theorem least_of_odd {n s : Int} (hn : 2 ≤ n) (h2 : ¬ (2 : Int) ∣ n) (hs0 : 0 ≤ s) (hs : n < (s + 1) * (s + 1)) (h : ∀ i : Nat, 3 + (i : Int) * 2 ≤ s → ¬ (3 + (i : Int) * 2) ∣ n) : Least n n := by
  refine ⟨hn, Int.dvd_refl n, fun m h1 hm hd => ?_⟩
  obtain ⟨d, d2, ds, _, dn⟩ := small_div hn h1 hm hd hs0 hs
  have odd : d % 2 = 1 := by
    have := Int.emod_two_eq d
    rcases this with e | e
    · exact absurd (Int.dvd_trans (Int.dvd_of_emod_eq_zero e) dn) h2
    · exact e
  have e : d = 3 + ((((d - 3) / 2).toNat : Nat) : Int) * 2 := by omega
  exact h ((d - 3) / 2).toNat (by omega) (e ▸ dn)
theorem least_at {n : Int} {i : Nat} (h2 : ¬ (2 : Int) ∣ n) (hd : (3 + (i : Int) * 2) ∣ n) (h : ∀ j : Nat, j < i → ¬ (3 + (j : Int) * 2) ∣ n) : Least n (3 + (i : Int) * 2) := by
  refine ⟨by omega, hd, fun m h1 hm hdv => ?_⟩
  have odd : m % 2 = 1 := by
    have := Int.emod_two_eq m
    rcases this with e | e
    · exact absurd (Int.dvd_trans (Int.dvd_of_emod_eq_zero e) hdv) h2
    · exact e
  have e : m = 3 + ((((m - 3) / 2).toNat : Nat) : Int) * 2 := by omega
  exact h ((m - 3) / 2).toNat (by omega) (e ▸ hdv)
theorem least_two {n : Int} (h : (2 : Int) ∣ n) : Least n 2 := ⟨by omega, h, fun m h1 h2 => by omega⟩
/-- every int from 2 on has a least divisor -/
theorem least_ex {n : Int} (hn : 2 ≤ n) : ∃ r, Least n r := by
  have key : ∀ (k : Nat) (r : Int), n - r ≤ k → 2 ≤ r → r ≤ n → (∀ m : Int, 2 ≤ m → m < r → ¬ m ∣ n) → ∃ r, Least n r := by
    intro k
    induction k with
    | zero =>
      intro r h1 h2 h3 h4
      have : r = n := by omega
      subst this
      exact ⟨r, h2, Int.dvd_refl r, h4⟩
    | succ k ih =>
      intro r h1 h2 h3 h4
      by_cases c : r ∣ n
      · exact ⟨r, h2, c, h4⟩
      · by_cases e : r = n
        · exact absurd (e ▸ Int.dvd_refl r) c
        · refine ih (r + 1) (by omega) (by omega) (by omega) fun m hm1 hm2 => ?_
          by_cases e2 : m = r
          · rw [e2]
            exact c
          · exact h4 m hm1 (by omega)
  exact key (n - 2).toNat 2 (by omega) (by omega) hn (fun m h1 h2 => by omega)
/-- a check of a prime by trial, for the kernel -/
def trial (n : Nat) : Nat → Nat → Bool
  | 0, _ => false
  | f + 1, k => if n < k * k then true else if n % k = 0 then false else trial n f (k + 1)
theorem trial_ok {n : Nat} (hn : 2 ≤ n) : ∀ (f k : Nat), 2 ≤ k → (∀ m : Nat, 2 ≤ m → m < k → ¬ m ∣ n) → trial n f k = true → Pr (n : Int) := by
  intro f
  induction f with
  | zero => intro k _ _ h; exact absurd h (by simp [trial])
  | succ f ih =>
    intro k hk hm h
    unfold trial at h
    by_cases c : n < k * k
    · refine ⟨by omega, fun m h1 h2 h3 => ?_⟩
      obtain ⟨d, d2, ds, _, dn⟩ := small_div (n := n) (s := (k : Int) - 1) (by omega) h1 h2 h3 (by omega) (by
        rw [Int.sub_add_cancel]
        exact_mod_cast c)
      refine hm d.toNat (by omega) (by omega) ?_
      have : ((d.toNat : Nat) : Int) ∣ (n : Int) := by rw [Int.toNat_of_nonneg (by omega)]; exact dn
      exact Int.natCast_dvd_natCast.mp this
    · rw [if_neg c] at h
      by_cases c2 : n % k = 0
      · rw [if_pos c2] at h
        exact absurd h (by simp)
      · rw [if_neg c2] at h
        refine ih (k + 1) (by omega) (fun m h1 h2 h3 => ?_) h
        by_cases e : m = k
        · subst e
          exact c2 (Nat.mod_eq_zero_of_dvd h3)
        · exact hm m h1 (by omega) h3
theorem pr_of_trial {n : Nat} (f : Nat) (h : (decide (2 ≤ n) && trial n f 2) = true) : Pr (n : Int) := by
  rw [Bool.and_eq_true] at h
  exact trial_ok (of_decide_eq_true h.1) f 2 (by omega) (fun m h1 h2 => by omega) h.2
theorem pr_10007 : Pr 10007 := pr_of_trial (n := 10007) 200 (by decide +kernel)
/-- a prime divides a factor -/
theorem pr_mul {q a b : Int} (hq : Pr q) (h : q ∣ a * b) : q ∣ a ∨ q ∣ b := by
  by_cases c : q ∣ a
  · exact .inl c
  · refine .inr ?_
    have hco : Nat.Coprime q.natAbs a.natAbs := by
      have g1 : Nat.gcd q.natAbs a.natAbs ∣ q.natAbs := Nat.gcd_dvd_left _ _
      have g2 : Nat.gcd q.natAbs a.natAbs ∣ a.natAbs := Nat.gcd_dvd_right _ _
      have hq2 := hq.1
      generalize hg : Nat.gcd q.natAbs a.natAbs = g at *
      have gi : (g : Int) ∣ q := Int.natAbs_dvd_natAbs.mp (by rw [Int.natAbs_natCast]; exact g1)
      have ga : (g : Int) ∣ a := Int.natAbs_dvd_natAbs.mp (by rw [Int.natAbs_natCast]; exact g2)
      have gpos : 0 < g := by
        rcases Nat.eq_zero_or_pos g with z | z
        · rw [z] at gi
          have := Int.zero_dvd.mp gi
          omega
        · exact z
      have gle : (g : Int) ≤ q := Int.le_of_dvd (by omega) gi
      by_cases g1' : g = 1
      · unfold Nat.Coprime
        rw [hg, g1']
      · by_cases g2' : (g : Int) = q
        · rw [g2'] at ga
          exact absurd ga c
        · exact absurd gi (hq.2 g (by omega) (by omega))
    have h2 : q.natAbs ∣ a.natAbs * b.natAbs := by
      rw [← Int.natAbs_mul]
      exact Int.natAbs_dvd_natAbs.mpr h
    exact Int.natAbs_dvd_natAbs.mp (Nat.Coprime.dvd_of_dvd_mul_left hco h2)
theorem pr_dvd_pr {p q : Int} (hp : Pr p) (hq : Pr q) (h : q ∣ p) : q = p := by
  have := Int.le_of_dvd (by have := hp.1; omega) h
  by_cases c : q = p
  · exact c
  · exact absurd h (hp.2 q hq.1 (by omega))
/-- l tells the primes that divide n, ascending -/
def PD (n : Int) (l : List Int) : Prop := l.Pairwise (· < ·) ∧ ∀ q, q ∈ l ↔ Pr q ∧ q ∣ n
theorem sorted_uniq : ∀ {l m : List Int}, l.Pairwise (· < ·) → m.Pairwise (· < ·) → (∀ q, q ∈ l ↔ q ∈ m) → l = m
  | [], [], _, _, _ => rfl
  | [], b :: m, _, _, h => absurd ((h b).mpr List.mem_cons_self) (by simp)
  | a :: l, [], _, _, h => absurd ((h a).mp List.mem_cons_self) (by simp)
  | a :: l, b :: m, hl, hm, h => by
    rw [List.pairwise_cons] at hl hm
    have hab : a = b := by
      rcases List.mem_cons.mp ((h a).mp List.mem_cons_self) with e | e
      · exact e
      · rcases List.mem_cons.mp ((h b).mpr List.mem_cons_self) with e2 | e2
        · exact e2.symm
        · have := hm.1 a e
          have := hl.1 b e2
          omega
    subst hab
    rw [sorted_uniq hl.2 hm.2 fun q => ?_]
    constructor
    · intro hq
      have := hl.1 q hq
      rcases List.mem_cons.mp ((h q).mp (List.mem_cons_of_mem _ hq)) with e | e
      · omega
      · exact e
    · intro hq
      have := hm.1 q hq
      rcases List.mem_cons.mp ((h q).mpr (List.mem_cons_of_mem _ hq)) with e | e
      · omega
      · exact e
theorem PD.uniq {n : Int} {l m : List Int} (h : PD n l) (h' : PD n m) : l = m := sorted_uniq h.1 h'.1 fun q => (h.2 q).trans (h'.2 q).symm
/-- what holds between two turns: fs found, r left of n; every prime of r is at least d, those found are less -/
structure Fac (n : Int) (fs : List Int) (r d : Int) : Prop where
  pos : 1 ≤ r
  dv : r ∣ n
  asc : fs.Pairwise (· < ·)
  low : ∀ f ∈ fs, f < d
  mem : ∀ f ∈ fs, Pr f ∧ f ∣ n
  all : ∀ q, Pr q → q ∣ n → q ∣ r ∨ q ∈ fs
  up : ∀ q, Pr q → q ∣ r → d ≤ q
  len : (2 : Int) ^ fs.length * r ≤ n
theorem fac0 {n : Int} (hn : 1 ≤ n) : Fac n [] n 2 := ⟨hn, Int.dvd_refl n, List.Pairwise.nil, (fun _ h => nomatch h), (fun _ h => nomatch h), (fun q _ h => .inl h), (fun q h _ => h.1), by show (2 : Int) ^ 0 * n ≤ n; omega⟩
/-- within the inner loop: r0 at its start, p taken out -/
structure Tak (r0 p r : Int) : Prop where
  pos : 1 ≤ r
  dv : r ∣ r0
  keep : ∀ q, Pr q → q ∣ r0 → q ∣ r ∨ q = p
  half : r = r0 ∨ 2 * r ≤ r0
theorem tak0 {r0 p : Int} (h : 1 ≤ r0) : Tak r0 p r0 := ⟨h, Int.dvd_refl _, fun q _ h => .inl h, .inl rfl⟩
theorem tak_step {r0 p r : Int} (hp : Pr p) (h : Tak r0 p r) (hd : p ∣ r) : Tak r0 p (r / p) ∧ r / p < r := by
  have hp2 := hp.1
  have hpos := h.pos
  obtain ⟨k, e⟩ := hd
  have ek : r / p = k := by rw [e, Int.mul_ediv_cancel_left _ (by omega)]
  rw [ek]
  have k1 : 1 ≤ k := by
    by_cases c : 1 ≤ k
    · exact c
    · have : p * k ≤ p * 0 := Int.mul_le_mul_of_nonneg_left (by omega) (by omega)
      omega
  have k2 : 2 * k ≤ r := by
    have : 2 * k ≤ p * k := Int.mul_le_mul_of_nonneg_right hp2 (by omega)
    omega
  refine ⟨⟨k1, Int.dvd_trans ⟨p, by rw [e, Int.mul_comm]⟩ h.dv, fun q hq hd => ?_, .inr ?_⟩, by omega⟩
  · rcases h.keep q hq hd with c | c
    · rw [e] at c
      rcases pr_mul hq c with c2 | c2
      · exact .inr (pr_dvd_pr hp hq c2)
      · exact .inl c2
    · exact .inr c
  · rcases h.half with c | c <;> omega
/-- behind the inner loop -/
theorem fac_step {n : Int} {fs : List Int} {r0 d p r : Int} (F : Fac n fs r0 d) (hp : Pr p) (hd : p ∣ r0) (T : Tak r0 p r) (hn : ¬ p ∣ r) (hmin : ∀ q, Pr q → q ∣ r0 → p ≤ q) : Fac n (fs ++ [p]) r (p + 1) ∧ r < r0 := by
  have hr : 2 * r ≤ r0 := T.half.resolve_left fun e => hn (e ▸ hd)
  have hdp : d ≤ p := F.up p hp hd
  refine ⟨⟨T.pos, Int.dvd_trans T.dv F.dv, ?_, ?_, ?_, ?_, ?_, ?_⟩, by have := T.pos; omega⟩
  · rw [List.pairwise_append]
    refine ⟨F.asc, List.pairwise_singleton _ _, fun a ha b hb => ?_⟩
    rw [List.mem_singleton.mp hb]
    have := F.low a ha
    omega
  · intro f hf
    rcases List.mem_append.mp hf with h | h
    · have := F.low f h
      omega
    · rw [List.mem_singleton.mp h]
      omega
  · intro f hf
    rcases List.mem_append.mp hf with h | h
    · exact F.mem f h
    · rw [List.mem_singleton.mp h]
      exact ⟨hp, Int.dvd_trans hd F.dv⟩
  · intro q hq h
    rcases F.all q hq h with c | c
    · rcases T.keep q hq c with c2 | c2
      · exact .inl c2
      · exact .inr (List.mem_append_right _ (by rw [c2]; exact List.mem_singleton.mpr rfl))
    · exact .inr (List.mem_append_left _ c)
  · intro q hq h
    have h1 := hmin q hq (Int.dvd_trans h T.dv)
    by_cases c : q = p
    · exact absurd (c ▸ h) hn
    · omega
  · rw [List.length_append]
    show (2 : Int) ^ (fs.length + 1) * r ≤ n
    rw [Int.pow_succ, Int.mul_assoc]
    have h1 : (2 : Int) ^ fs.length * (2 * r) ≤ 2 ^ fs.length * r0 := Int.mul_le_mul_of_nonneg_left hr (Int.pow_nonneg (by decide))
    have := F.len
    omega
theorem fac_end {n : Int} {fs : List Int} {d : Int} (F : Fac n fs 1 d) : PD n fs := by
  refine ⟨F.asc, fun q => ⟨F.mem q, fun ⟨h1, h2⟩ => (F.all q h1 h2).resolve_left fun c => ?_⟩⟩
  have := Int.le_of_dvd (by decide) c
  have := h1.1
  omega
theorem fac_len {n : Int} {fs : List Int} {r d : Int} (F : Fac n fs r d) (hn : n < 2 ^ 62) : fs.length < 62 := by
  by_cases c : fs.length < 62
  · exact c
  · have h1 : (2 : Int) ^ 62 ≤ 2 ^ fs.length := by
      have : (2 : Nat) ^ 62 ≤ 2 ^ fs.length := Nat.pow_le_pow_right (by decide) (by omega)
      have h2 := Int.ofNat_le.mpr this
      rw [Int.natCast_pow, Int.natCast_pow] at h2
      exact h2
    have h2 : (2 : Int) ^ fs.length * 1 ≤ 2 ^ fs.length * r := Int.mul_le_mul_of_nonneg_left F.pos (Int.pow_nonneg (by decide))
    have := F.len
    omega
theorem fac_up {n : Int} {fs : List Int} {r d : Int} (F : Fac n fs r d) (h : ¬ d ∣ r) : Fac n fs r (d + 1) := by
  refine ⟨F.pos, F.dv, F.asc, fun f hf => by have := F.low f hf; omega, F.mem, F.all, fun q h1 h2 => ?_, F.len⟩
  have := F.up q h1 h2
  by_cases c : q = d
  · exact absurd (c ▸ h2) h
  · omega
/-- d divides what is left: it is a prime -/
theorem fac_pr {n : Int} {fs : List Int} {r d : Int} (F : Fac n fs r d) (h2 : 2 ≤ d) (h : d ∣ r) : Pr d := by
  obtain ⟨q, hq⟩ := least_ex h2
  have h1 := F.up q hq.pr (Int.dvd_trans hq.dvd h)
  have := hq.le h2
  have e : q = d := by omega
  exact e ▸ hq.pr
/-- d * d above what is left: that is a prime -/
theorem fac_jump {n : Int} {fs : List Int} {r d : Int} (F : Fac n fs r d) (h2 : 2 ≤ d) (hr : 1 < r) (h : r < d * d) : Pr r ∧ ∀ q, Pr q → q ∣ r → r ≤ q := by
  have hp : Pr r := by
    refine ⟨by omega, fun m h1 h3 h4 => ?_⟩
    obtain ⟨e, e2, es, _, en⟩ := small_div (n := r) (s := d - 1) (by omega) h1 h3 h4 (by omega) (by rw [Int.sub_add_cancel]; exact h)
    obtain ⟨q, hq⟩ := least_ex e2
    have := F.up q hq.pr (Int.dvd_trans hq.dvd en)
    have := hq.le e2
    omega
  exact ⟨hp, fun q hq hd => by have := pr_dvd_pr hp hq hd; omega⟩

structure Cl (P : Program) (w : World) (K : PySem.W.Frag) (mg : Str → Option Value) (base : Heap) (CX : CXT) (k : Nat) (x : Str) (sp : Sp) : Prop where
  ex : ∃ (f : Addr) (fd : FuncData) (ps : List Str), FnOk P w K mg base CX k f fd ps sp ∧ mg x = some (.ref f) ∧ PySem.W.keepIn K (.ref f) = true ∧ Binds K fd ps []
theorem pe_cl {X : Cx} {k j : Nat} {x : Str} {sp : Sp} {p pos : Pos} {e : Expr} {es : List Expr} {t : TA} (c : Cl X.prog X.w X.K X.mg X.base CX0 k x sp) (hr : Room j X.A) (ha : PA X (e :: es) t) (hk : k ≤ j := by decide) (hg : Gl X x := by rfl)
    (hdb : (x == ("__debug__" : Str)) = false := by decide) (he : starEach (e :: es) X.env = (false, eval e X.env) :: starEach es X.env := by rfl) (hpl : (backTo pos (starEach es X.env)).any (·.1) = false := by rfl) :
    PE X (.Call (.Name x p) (e :: es) [] pos) (tCall sp [] E0 t) := by
  obtain ⟨f, fd, ps, F, hm, kp, b⟩ := c.ex
  exact pe_call F (hr.mono hk) hg hm kp b .nil pass0 ha hdb he hpl
structure Txt (mg : Str → Option Value) : Prop where
  int : mg "int" = none
  len : mg "len" = none
  abs : mg "abs" = none
  isinstance : mg "isinstance" = none
  bool : mg "bool" = none
  tuple : mg "tuple" = none
  list : mg "list" = none
  str : mg "str" = none
  range : mg "range" = none
  max : mg "max" = none
  min : mg "min" = none
  sorted : mg "sorted" = none
  set : mg "set" = none
theorem if_pos_of {c : Bool} {A B : Prop} (hc : c = true) (h : A) : if c = true then A else B := by
  rw [if_pos hc]
  exact h
theorem if_neg_of {c : Bool} {A B : Prop} (hc : c = false) (h : B) : if c = true then A else B := by
  rw [hc, if_neg Bool.false_ne_true]
  exact h
theorem same_upd {H : Hp} {p : Addr} {o : HO} (h : H p = none) : Same H (upd H p o) := fun b u e => by
  rw [upd_ne (ne_of_none e h)]
  exact e
/-- a call of a def that may raise, where it doesn't -/
theorem pe_cl0 {X : Cx} {k j : Nat} {x : Str} {sp : Sp} {p pos : Pos} {e : Expr} {es : List Expr} {t : TA} (c : Cl X.prog X.w X.K X.mg X.base (L2.CX X.prog X.w) k x sp) (hr : Room j X.A) (ha : PA X (e :: es) t) (hk : k ≤ j := by decide) (hg : Gl X x := by rfl)
    (hdb : (x == ("__debug__" : Str)) = false := by decide) (he : starEach (e :: es) X.env = (false, eval e X.env) :: starEach es X.env := by rfl) (hpl : (backTo pos (starEach es X.env)).any (·.1) = false := by rfl) :
    PE X (.Call (.Name x p) (e :: es) [] pos) (tCall sp [] E0 t) := by
  obtain ⟨f, fd, ps, F, hm, kp, b⟩ := c.ex
  exact pe_call F (hr.mono hk) hg hm kp b .nil passL ha hdb he hpl
/-- a call of a def that may raise, in a def or try that takes it -/
theorem pe_clX {X : Cx} {W : WX} {k j : Nat} {x : Str} {sp : Sp} {p pos : Pos} {e : Expr} {es : List Expr} {t : TA} (c : Cl X.prog X.w X.K X.mg X.base (L2.CX X.prog X.w) k x sp) (hr : Room j X.A) (tk : Takes X W) (ha : PA X (e :: es) t) (hk : k ≤ j := by decide) (hg : Gl X x := by rfl)
    (hdb : (x == ("__debug__" : Str)) = false := by decide) (he : starEach (e :: es) X.env = (false, eval e X.env) :: starEach es X.env := by rfl) (hpl : (backTo pos (starEach es X.env)).any (·.1) = false := by rfl) :
    PE X (.Call (.Name x p) (e :: es) [] pos) (tCallS sp (WE W) t) := by
  obtain ⟨f, fd, ps, F, hm, kp, b⟩ := c.ex
  exact pe_callS F (hr.mono hk) hg hm kp b (fun σ => passAt tk σ) ha hdb he hpl
/-- FieldError, and what its __init__ is -/
structure FErr (K : PySem.W.Frag) (mg : Str → Option Value) (C : Addr) : Prop where
  g : mg "FieldError" = some (.ref C)
  rd : PySem.W.readsIn K C (.type "type") = true
  ga : PySem.W.specialIn K (.ref C) "__getattribute__" = some (some (.builtin "type.__getattribute__"))
  fi : PySem.W.findCls K (.ref C) (.type "type") "__init__" = some (.val (.builtin "ValueError.__init__"))
theorem pe_feinit {X : Cx} {CF : Addr} {e : Expr} {es : List Expr} {ta : TA} {p1 p2 pos : Pos} {pl : Sem Bool} (F : FErr X.K X.mg CF) (ha : PA X (e :: es) ta) (hg : Gl X "FieldError" := by rfl)
    (hc : eval (.Call (.Attribute (.Name "FieldError" p1) "__init__" p2) (e :: es) [] pos) X.env = (do
      let ov ← eval (.Name "FieldError" p1) X.env
      standAt p2.atName
      let (f, first) ← holding [ov] (getMethod ov "__init__" pl)
      callWith pos f first (backTo pos (starEach (e :: es) X.env)) (backToKw pos (keywordEach [] X.env))) := by rfl)
    (he : starEach (e :: es) X.env = (false, eval e X.env) :: starEach es X.env := by rfl) (hpl : (backTo pos (starEach es X.env)).any (·.1) = false := by rfl) :
    PE X (.Call (.Attribute (.Name "FieldError" p1) "__init__" p2) (e :: es) [] pos) (tVeI X.K ta) := by
  refine ⟨fun pins s σ H Q I h => ?_⟩
  refine PySem.W.methodCall_KW (ld_glob I hg F.g ?_ (by decide)) hc
  refine PySem.W.method_cls I.kIn F.ga (PySem.W.cls_value I.kIn F.rd F.fi (by decide +kernel) ?_)
  show wpAny _ _ (callWith pos (Value.builtin "ValueError.__init__") [] (backTo pos (starEach (e :: es) X.env)) []) _ _ _
  refine PyProof.Rows.callWith_method1 (thn (ha.run pos pins _ σ H _ (I.tok _) h) fun us s1 ⟨vs, H1, I1, r1, a, C, ws, ev, hl, T, ea, q⟩ => ?_) he hpl
  subst ev
  cases r1 with
  | @cons _ u0 _ ur ra rw' =>
    obtain rfl : u0 = Value.ref a := ra
    have hlen : ur.length ≤ sizeLine := by
      rw [← Paired.length rw', sizeLine_eq]
      omega
    exact oinit_ok T I1 ea hlen fun s' J => ⟨.non, H1, J, rfl, q⟩
/-- an own error class with one attribute, and its __init__ by its promise -/
def spInit (C : Addr) (fld : Str) : Sp := fun vs H Q _ => ∃ (a : Addr) (v : V), vs = [.ref a, v] ∧ H a = some (exo a C none) ∧
  ∀ d, H d = none → d ≠ a → Q .non (upd (upd H d (exd d [(fld, v)])) a (exo a C (some d)))
structure ErrC (K : PySem.W.Frag) (mg : Str → Option Value) (nm fld : Str) (C fI : Addr) : Prop where
  g : mg nm = some (.ref C)
  oex : OexC K C
  no : PySem.W.findIn K (.ref C) fld = some none
  iC : PySem.W.findIn K (.ref C) "__init__" = some (some (.ref fI))
  tI : PySem.W.typeIn K (.ref fI) = some (.type "function")
  xf : XfC K C
  te : PySem.W.exmOne K (.ref C) (.ref C) = some true
structure Er (P : Program) (w : World) (K : PySem.W.Frag) (mg : Str → Option Value) (base : Heap) (nm fld : Str) (C : Addr) : Prop where
  ex : ∃ (fI : Addr) (fd : FuncData) (ps : List Str), ErrC K mg nm fld C fI ∧ FnOk P w K mg base CX0 1 fI fd ps (spInit C fld) ∧ Binds K fd ps []
theorem Er.c {P : Program} {w : World} {K : PySem.W.Frag} {mg : Str → Option Value} {base : Heap} {nm fld : Str} {C : Addr} (e : Er P w K mg base nm fld C) : ∃ fI, ErrC K mg nm fld C fI := by
  obtain ⟨fI, _, _, T, _⟩ := e.ex
  exact ⟨fI, T⟩
theorem exm_me {K : PySem.W.Frag} {S : Addr} (h1 : PySem.W.subIn K (.ref S) (.type "BaseException") = some true) (h2 : PySem.W.isClsIn K S = true) (h3 : PySem.W.typeIn K (.ref S) = some (.type "type")) (h4 : PySem.W.subIn K (.ref S) (.ref S) = some true) :
    PySem.W.exmOne K (.ref S) (.ref S) = some true := by
  have e1 : (PySem.W.subIn K (.ref S) (.type "BaseException") == some true) = true := by rw [h1] <;> rfl
  have h2' : (PySem.W.clsIn K S).isSome = true := h2
  have e2 : ((PySem.W.clsIn K S).isSome && PySem.W.typeIn K (.ref S) == some (.type "type")) = true := by rw [h2', h3] <;> rfl
  unfold PySem.W.exmOne
  rw [if_pos e1]
  show (if ((PySem.W.clsIn K S).isSome && PySem.W.typeIn K (.ref S) == some (.type "type")) = true then PySem.W.subIn K (.ref S) (.ref S) else none) = some true
  rw [if_pos e2]
  exact h4
/-- raise C(v): the argument, then what C's own __init__ asks (mk1 answers it) -/
theorem ps_raise1 {X : Cx} {W : WX} {x fld : Str} {C : Addr} {j : Nat} {e : Expr} {ta : TA} {p pos pos' : Pos} (c : Er X.prog X.w X.K X.mg X.base x fld C) (hr : Room j X.A) (tk : Takes X W) (ha : PA X [e] ta) (hj : 2 ≤ j := by decide) (hcalm : X.calm = true := by rfl) (hg : Gl X x := by rfl)
    (hdb : (x == ("__debug__" : Str)) = false := by decide) (he : starEach [e] X.env = (false, eval e X.env) :: starEach [] X.env := by rfl) (hpl : (backTo pos (starEach [] X.env)).any (·.1) = false := by rfl) :
    PS X (.Raise (some (.Call (.Name x p) [e] [] pos)) none pos') (fun _ σ H => tMkO C (spInit C fld) [] ta σ H fun cls d H' => W cls d σ H') := by
  obtain ⟨fI, fd, ps, T, F, b⟩ := c.ex
  exact ps_raise hcalm tk (pmk_oex (X := X) (p := p) (pos := pos) T.oex T.iC T.tI F (hr.mono hj) b .nil (fun _ _ _ _ _ _ _ h => h.elim) hg T.g ha hdb he hpl)
theorem mk1 {C : Addr} {fld : Str} {v : V} {H1 : Hp} {Q : XK} (k : ∀ d H2, Same H1 H2 → H1 d = none → H2 d = some (.xd [(fld, v)]) → Q (.ref C) (some d) H2) :
    ([v] : List V).length ≤ 1000 ∧ ∀ a, H1 a = none → spInit C fld (.ref a :: ([v] ++ [])) (upd H1 a (exo a C none))
      (fun u H2 => u = .non ∧ ∃ (d : Addr) (fs : List (Str × V)), H2 a = some (exo a C (some d)) ∧ H2 d = some (exd d fs) ∧ H1 d = none ∧ Q (.ref C) (some d) (upd (del H2 a) d (.xd fs))) (fun _ _ _ => False) := by
  refine ⟨(by show 1 ≤ 1000; decide), fun a ha => ⟨a, v, rfl, upd_same, fun d hd hda => ⟨rfl, d, [(fld, v)], upd_same, ?_, ?_, ?_⟩⟩⟩
  · rw [upd_ne hda, upd_same]
  · rw [upd_ne hda] at hd
    exact hd
  · rw [upd_ne hda] at hd
    refine k d _ (fun b o e => ?_) hd upd_same
    have hba := ne_of_none e ha
    have hbd := ne_of_none e hd
    rw [upd_ne hbd, del_ne hba, upd_ne hba, upd_ne hbd, upd_ne hba]
    exact e
/-! the same for exceptions whose context is None -/
theorem passN {X : Cx} : Passes (L2N.CX X.prog X.w) X E0 := fun _ _ _ _ _ _ _ ⟨_, _, _, _, _, _, _, _, _, _, _, _, z⟩ => z.elim
theorem takes0N {X : Cx} : L2N.Takes X (fun _ _ _ _ => False) := fun _ _ ⟨_, _, _, _, _, _, _, _, _, _, _, _, _, _, _, _, z⟩ => z.elim
theorem okN {P : Program} {w : World} {K : PySem.W.Frag} {mg : Str → Option Value} {base : Heap} {x qual : Str} {st : Stmt} {f : Addr} {fd : FuncData} {N ps : List Str} {k : Nat} {sp : Sp} (F : Fun K x qual st f fd) (S : FnScope N ps (defScope st)) (len : ∀ vs H Q E, sp vs H Q E → vs.length = ps.length)
    (body : ∀ (cdv : Value) (A : Around) (outer : List Env) (s : Shared) (H : Hp) (vs : List V) (Q : VK) (E : XK), Room k (A.deeper (envOfC qual (defScope st) s.heap.objs.size f cdv)) → sp vs H Q E →
      ∃ t, PSs (cxOf (L2N.CX P w) P w K mg base N qual (defScope st) f cdv A outer s H E) (defBody st) t ∧ t { nx := fun _ H' => Q .non H', rt := Q } (start N vs) H) : FnOk P w K mg base (L2N.CX P w) (k + 1) f fd ps sp := by
  obtain ⟨oc, od, kV, doc, pm, an, cdv, ct, osl, rfl, lk, hcd⟩ := F.ex
  exact fn_of lk hcd S len fun A outer s H vs Q E hr h => body cdv A outer s H vs Q E hr h
/-- a call of such a def, where it doesn't raise -/
theorem pe_clN0 {X : Cx} {k j : Nat} {x : Str} {sp : Sp} {p pos : Pos} {e : Expr} {es : List Expr} {t : TA} (c : Cl X.prog X.w X.K X.mg X.base (L2N.CX X.prog X.w) k x sp) (hr : Room j X.A) (ha : PA X (e :: es) t) (hk : k ≤ j := by decide) (hg : Gl X x := by rfl)
    (hdb : (x == ("__debug__" : Str)) = false := by decide) (he : starEach (e :: es) X.env = (false, eval e X.env) :: starEach es X.env := by rfl) (hpl : (backTo pos (starEach es X.env)).any (·.1) = false := by rfl) :
    PE X (.Call (.Name x p) (e :: es) [] pos) (tCall sp [] E0 t) := by
  obtain ⟨f, fd, ps, F, hm, kp, b⟩ := c.ex
  exact pe_call F (hr.mono hk) hg hm kp b .nil passN ha hdb he hpl
theorem pe_clNX {X : Cx} {W : WX} {k j : Nat} {x : Str} {sp : Sp} {p pos : Pos} {e : Expr} {es : List Expr} {t : TA} (c : Cl X.prog X.w X.K X.mg X.base (L2N.CX X.prog X.w) k x sp) (hr : Room j X.A) (tk : L2N.Takes X W) (ha : PA X (e :: es) t) (hk : k ≤ j := by decide) (hg : Gl X x := by rfl)
    (hdb : (x == ("__debug__" : Str)) = false := by decide) (he : starEach (e :: es) X.env = (false, eval e X.env) :: starEach es X.env := by rfl) (hpl : (backTo pos (starEach es X.env)).any (·.1) = false := by rfl) :
    PE X (.Call (.Name x p) (e :: es) [] pos) (tCallS sp (WE W) t) := by
  obtain ⟨f, fd, ps, F, hm, kp, b⟩ := c.ex
  exact pe_callS F (hr.mono hk) hg hm kp b (fun σ => L2N.passAt tk σ) ha hdb he hpl
theorem pmk_oexN {X : Cx} {e : Expr} {es : List Expr} {ta : TA} {p pos : Pos} {x : Str} {C fI : Addr} {k : Nat} {fd : FuncData} {ps : List Str} {sp : Sp} {ds : List Value} {dvs : List V} (T : OexC X.K C) (iC : PySem.W.findIn X.K (.ref C) "__init__" = some (some (.ref fI))) (tI : PySem.W.typeIn X.K (.ref fI) = some (.type "function"))
    (F1 : FnOk X.prog X.w X.K X.mg X.base CX0 k fI fd ps sp) (hr : Room (k + 1) X.A) (hb : Binds X.K fd ps ds) (hd : Vals dvs ds) (hg : Gl X x) (hm : X.mg x = some (.ref C)) (ha : PA X (e :: es) ta)
    (hdb : (x == ("__debug__" : Str)) = false) (he : starEach (e :: es) X.env = (false, eval e X.env) :: starEach es X.env) (hpl : (backTo pos (starEach es X.env)).any (·.1) = false) :
    L2N.PMk X (.Call (.Name x p) (e :: es) [] pos) (tMkO C sp dvs ta) := by
  intro pins s σ H Q I h
  obtain ⟨nm, q, N, bs, bm, sn, sub, ab, col, dd, k0, k1, k2, k3, k5, hC, hbm⟩ := T.cls
  refine wpAny_Call_Name_kw (ld_glob I hg hm ?_ hdb)
  refine PySem.W.callWith_K (h₀ := X.base) I.ok.mod.kin T.kC (thn (ha.run pos pins s σ H _ I h) fun us st got => ?_) he hpl
  obtain ⟨vs, G1, I1, r1, hz, q1⟩ := got
  refine ⟨I1.kIn, ?_⟩
  show wpAny _ _ (call (.ref C) us) _ _ _
  obtain ⟨hp, g, dr, tk, os⟩ := st
  generalize ex : hp.objs.size + 1 = x1 at *
  have le1 : hp.objs.size ≤ x1 := by omega
  have sp1 := q1 x1 (I1.hok.fresh le1)
  have old : ∀ b o, hp.get? b = some o → ((hp.push (PySem.W.kdv_tup us)).push (PySem.HandSPX.excO C hp.objs.size)).get? b = some o := fun b o z =>
    Heap.get?_push_of_some _ (Heap.get?_push_of_some _ z)
  have new1 : ((hp.push (PySem.W.kdv_tup us)).push (PySem.HandSPX.excO C hp.objs.size)).get? x1 = some (PySem.HandSPX.excO C hp.objs.size) := by
    subst ex
    heap_get
  have I2 := I1.laid (t' := tk) (a := x1) (o := exo x1 C none) old le1 (exo_ok new1)
  have rel : Vals (V.ref x1 :: (vs ++ dvs)) (Value.ref x1 :: (us ++ ds)) := .cons rfl (r1.append hd)
  have few : us.length ≤ sizeLine := by
    have := Paired.length r1
    rw [sizeLine_eq]
    omega
  have many : (Value.ref x1 :: us ++ ds).length = ps.length := by
    have z := rel.length
    rw [F1.len _ _ _ _ sp1] at z
    exact z.symm
  have run := F1.run _ X.stack _ _ ⟨Value.ref x1 :: us, []⟩ (Value.ref x1 :: (us ++ ds)) _ _ (fun _ _ _ => False) (hr.make C us []) (I2.env0.make C us []) (hb _ (Value.ref x1 :: us) I2.kIn many) rel sp1
  refine wpAny_call (PySem.HandSPX.call_own F.excBase_ValueError (fun Y => PySem.HandSPX.refsVE_contains Y bm hbm) (I1.kIn _ _ hC) (PySem.W.looks_findIn I1.kIn iC) (fun self => PySem.W.bind_fn I1.kIn self tI) few ?_)
  subst ex
  refine codeAny_mono run fun r s' back => ?_
  cases r with
  | error er => exact False.elim back
  | ok fl =>
    cases fl with
    | ret u =>
      obtain ⟨v, H2, os2, bare2, un2, hok2, rv, ev, d, fs, ea, ed, hd1, q2⟩ := back
      subst ev
      obtain ⟨h2, g2, d2, t2, os'⟩ := s'
      obtain ⟨t0, G, J, kG, ge, hoe, na⟩ := mk_end0 (d2 := d2) (t2 := t2) I1 le1 old un2 hok2 os2 bare2 ea ed hd1
      exact ⟨rv, _, _, _, ⟨G, g2, d2, t2, os'⟩, _, .ref C, some d, rfl, J, kG, ge, hoe, ⟨rfl, rfl, fun vs z => by cases z; rfl⟩, rfl, rfl, na, rfl, bare2, raises_own T.exC T.tyC, q2⟩
    | next => exact False.elim back
    | brk => exact False.elim back
    | cont => exact False.elim back
theorem ps_raise1N {X : Cx} {W : WX} {x fld : Str} {C : Addr} {j : Nat} {e : Expr} {ta : TA} {p pos pos' : Pos} (c : Er X.prog X.w X.K X.mg X.base x fld C) (hr : Room j X.A) (tk : L2N.Takes X W) (ha : PA X [e] ta) (hj : 2 ≤ j := by decide) (hcalm : X.calm = true := by rfl) (hg : Gl X x := by rfl)
    (hdb : (x == ("__debug__" : Str)) = false := by decide) (he : starEach [e] X.env = (false, eval e X.env) :: starEach [] X.env := by rfl) (hpl : (backTo pos (starEach [] X.env)).any (·.1) = false := by rfl) :
    PS X (.Raise (some (.Call (.Name x p) [e] [] pos)) none pos') (fun _ σ H => tMkO C (spInit C fld) [] ta σ H fun cls d H' => W cls d σ H') := by
  obtain ⟨fI, fd, ps, T, F, b⟩ := c.ex
  exact L2N.ps_raise hcalm tk (pmk_oexN (X := X) (p := p) (pos := pos) T.oex T.iC T.tI F (hr.mono hj) b .nil hg T.g ha hdb he hpl)

section
variable {P : Program} {w : World} {K : PySem.W.Frag} {mg : Str → Option Value} {base : Heap}
/-- a pool: three values -/
def PoolAt (H : Hp) (p : Addr) : Prop := ∃ (c n : Int) (b : Bool), H p = some (.lst [.int c, .int n, .bl b])
def spPool : Sp := fun vs H Q _ => ∃ c : Int, vs = [.int c] ∧ ∀ p H', H p = none → Same H H' → PoolAt H' p → Q (.ref p) H'
abbrev s_pool : Stmt := top 16
theorem sc_pool : FnScope ["_law_cell_here"] ["_law_cell_here"] (defScope s_pool) := ⟨rfl, rfl, rfl, by decide +kernel, rfl, by decide +kernel, by decide +kernel⟩
theorem ok_pool {f : Addr} {fd : FuncData} (F : Fun K "_law_pool" "_law_pool" s_pool f fd) : FnOk P w K mg base CX0 1 f fd ["_law_cell_here"] spPool := by
  refine F.ok sc_pool (fun vs H Q E h => ?_) (fun cdv A outer s H vs Q E hr h => ?_)
  · obtain ⟨c, rfl, _⟩ := h
    rfl
  · obtain ⟨c, rfl, k⟩ := h
    refine ⟨_, (pss_one (ps_ret (pe_lst (pa_cons (pv 0) (pa_cons pe_int (pa_cons (pe_cmpR op_ge (pv 0) (pe_op op_pow pe_int pe_int) (nomark _)) pa_nil)))))), ?_⟩
    refine ⟨_, rfl, _, rfl, _, _, rfl, rfl, ⟨by decide, by decide, by decide⟩, _, _, rfl, rfl, (by show 3 ≤ sizeLine; decide), fun p hp => ?_⟩
    exact k p _ hp (same_upd hp) ⟨_, _, _, upd_same⟩

abbrev s_take : Stmt := top 17
theorem sc_take : FnScope ["_law_pool_here", "_law_limit", "_law_drawn", "_law_mixed"] ["_law_pool_here", "_law_limit"] (defScope s_take) := ⟨rfl, rfl, rfl, by decide +kernel, rfl, by decide +kernel, by decide +kernel⟩
def spTake : Sp := fun vs H Q _ => ∃ (p : Addr) (m : Int), vs = [.ref p, .int m] ∧ PoolAt H p ∧ 0 < m ∧ m.natAbs.log2 < 9000 ∧
  ∀ v H', 0 ≤ v → v < m → (∀ q, q ≠ p → H' q = H q) → PoolAt H' p → Q (.int v) H'
theorem mix_small (z : Int) : (z % 2147483647).natAbs < 2 ^ 64 := by
  have h1 := Int.emod_nonneg z (show (2147483647 : Int) ≠ 0 by decide)
  have h2 := Int.emod_lt_of_pos z (show (0 : Int) < 2147483647 by decide)
  have : (2147483647 : Nat) < 2 ^ 64 := by decide
  omega
theorem ok_take {f : Addr} {fd : FuncData} (T : Txt mg) (F : Fun K "_law_take" "_law_take" s_take f fd) : FnOk P w K mg base CX0 1 f fd ["_law_pool_here", "_law_limit"] spTake := by
  refine F.ok sc_take (fun vs H Q E h => ?_) (fun cdv A outer s H vs Q E hr h => ?_)
  · obtain ⟨p, m, rfl, _⟩ := h
    rfl
  · obtain ⟨p, m, rfl, ⟨c, n, b, hp⟩, hm, hb, k⟩ := h
    refine ⟨_, (pss_cons (ps_asg (pe_op op_add (pe_ix ix_list (pv 0) pe_int (fun _ _ => rfl)) pe_int) (pg_sub (pv 0) pe_int set_list))
 (pss_cons (ps_if (pt_val (pe_ix ix_list (pv 0) pe_int (fun _ _ => rfl))) (pss_cons (ps_set (i := 2) sc_take.nd rfl (Or.inl rfl) (pe_op op_mod (pe_callTy call_int1 (by rfl) T.int boot_int (pa_cons (pe_ix ix_list (pv 0) pe_int (fun _ _ => rfl)) pa_nil)) (pv 1)))
 (pss_cons (ps_asg (pe_op op_fdivW (pe_callTy call_int1 (by rfl) T.int boot_int (pa_cons (pe_ix ix_list (pv 0) pe_int (fun _ _ => rfl)) pa_nil)) (pv 1)) (pg_sub (pv 0) pe_int set_list))
 (pss_one (ps_ret (pv 2))))) pss_nil)
 (pss_cons (ps_set (i := 3) sc_take.nd rfl (Or.inl rfl) (pe_op op_mod (pe_callTy call_int1 (by rfl) T.int boot_int (pa_cons (pe_op op_add (pe_op op_add (pe_op op_mul (pe_ix ix_list (pv 0) pe_int (fun _ _ => rfl)) pe_int) (pe_op op_mul (pe_ix ix_list (pv 0) pe_int (fun _ _ => rfl)) pe_int)) pe_int) pa_nil)) pe_int))
 (pss_one (ps_ret (pe_op op_mod (pe_op op_fdivW (pe_callTy call_int1 (by rfl) T.int boot_int (pa_cons (pe_op op_mod (pe_op op_pow (pv 3) pe_int) pe_int) pa_nil)) pe_int) (pv 1))))))), ?_⟩
    refine ⟨_, rfl, p, _, _, _, rfl, rfl, SqL.of hp, rfl, _, _, rfl, rfl, _, rfl, p, _, _, _, rfl, rfl, hp, rfl, ?_⟩
    refine ⟨_, rfl, p, _, _, _, rfl, rfl, SqL.of upd_same, rfl, b, rfl, ?_⟩
    cases b with
    | true =>
      refine iteT ?_
      refine ⟨_, rfl, p, _, _, _, rfl, rfl, SqL.of upd_same, rfl, .inl ⟨_, rfl, _, rfl, _, _, rfl, rfl, hm, ?_⟩⟩
      refine ⟨_, rfl, p, _, _, _, rfl, rfl, SqL.of upd_same, rfl, .inl ⟨_, rfl, _, rfl, _, _, rfl, rfl, ⟨hm, hb⟩, _, rfl, p, _, _, _, rfl, rfl, upd_same, rfl, ?_⟩⟩
      refine ⟨_, rfl, k _ _ (Int.emod_nonneg _ (by omega)) (Int.emod_lt_of_pos _ hm) (fun q hq => ?_) ⟨_, _, _, upd_same⟩⟩
      rw [upd_ne hq, upd_ne hq]
    | false =>
      refine iteF ?_
      refine ⟨_, rfl, p, _, _, _, rfl, rfl, SqL.of upd_same, rfl, _, _, rfl, rfl, (.inr ⟨by decide, by decide⟩), _, rfl, p, _, _, _, rfl, rfl, SqL.of upd_same, rfl, _, _, rfl, rfl, (.inr ⟨by decide, by decide⟩), _, _, rfl, rfl, _, _, rfl, rfl, .inl ⟨_, rfl, _, _, rfl, rfl, (by show (0 : Int) < 2147483647; decide), ?_⟩⟩
      refine ⟨_, rfl, _, _, rfl, rfl, ⟨by decide, by decide, mix_small _⟩, _, _, rfl, rfl, (by show (0 : Int) < 2147483647; decide), .inl ⟨_, rfl, _, _, rfl, rfl, ⟨by decide, by decide⟩, _, rfl, _, _, rfl, rfl, hm, ?_⟩⟩
      refine k _ _ (Int.emod_nonneg _ (by omega)) (Int.emod_lt_of_pos _ hm) (fun q hq => ?_) ⟨_, _, _, upd_same⟩
      rw [upd_ne hq]

abbrev s_cell : Stmt := top 18
theorem sc_cell : FnScope ["_law_script", "_law_k"] ["_law_script", "_law_k"] (defScope s_cell) := ⟨rfl, rfl, rfl, by decide +kernel, rfl, by decide +kernel, by decide +kernel⟩
def spCellL (K : PySem.W.Frag) : Sp := fun vs H Q _ => ∃ (a : Addr) (ns : List Int) (k : Nat), vs = [.ref a, .int (k : Int)] ∧ SqL K H a (ns.map V.int) ∧ ∀ v, Q (.int v) H
theorem ok_cell {f : Addr} {fd : FuncData} (T : Txt mg) (F : Fun K "_law_cell" "_law_cell" s_cell f fd) : FnOk P w K mg base CX0 1 f fd ["_law_script", "_law_k"] (spCellL K) := by
  refine F.ok sc_cell (fun vs H Q E h => ?_) (fun cdv A outer s H vs Q E hr h => ?_)
  · obtain ⟨a, ns, k, rfl, _⟩ := h
    rfl
  · obtain ⟨a, ns, k, rfl, hS, q⟩ := h
    refine ⟨_, (pss_cons (ps_if (pt_cmpR op_lt (pv 1) (pe_callB call_len_seq (by rfl) T.len PySem.boot_len (pa_cons (pv 0) pa_nil)) (nomark _)) (pss_one (ps_ret (pe_ix ix_list (pv 0) (pv 1) (fun _ _ => rfl)))) pss_nil)
 (pss_one (ps_ret pe_int))), ?_⟩
    refine ⟨_, rfl, _, rfl, a, _, rfl, .inl hS, _, _, rfl, rfl, _, rfl, ?_⟩
    rw [List.length_map]
    by_cases c : k < ns.length
    · refine if_pos_of (decide_eq_true (by omega)) ?_
      refine ⟨_, rfl, _, rfl, a, _, _, .int ns[k], rfl, rfl, hS, atI_nat (by rw [List.getElem?_map, List.getElem?_eq_getElem c]; rfl), ?_⟩
      exact q _
    · refine if_neg_of (decide_eq_false (by omega)) ?_
      exact q _
def rIsqrt : List V → Hp → VK → Prop := fun vs H Q => ∃ a : Int, vs = [.int a] ∧ 0 ≤ a ∧ a < 2 ^ 64 ∧ ∀ r : Int, 0 ≤ r → r * r ≤ a → a < (r + 1) * (r + 1) → Q (.int r) H
theorem cr_isqrt {X : Cx} : CallR X (.builtin "math.isqrt") rIsqrt := by
  intro pins s σ H vs us Q I r h
  obtain ⟨a, rfl, h0, h1, q⟩ := h
  cases r with
  | cons r1 r2 =>
    cases r2
    obtain ⟨t, rfl⟩ := r1
    obtain ⟨s1, s2⟩ := Float64.isqrt_spec a.toNat
    refine PySem.W.mg_isqrt h0 h1 ⟨.int _, H, I.tok _, ⟨_, rfl⟩, q _ (Int.natCast_nonneg _) ?_ ?_⟩
    · have : ((Float64.isqrt a.toNat * Float64.isqrt a.toNat : Nat) : Int) ≤ ((a.toNat : Nat) : Int) := Int.ofNat_le.mpr s1
      rw [Int.natCast_mul, Int.toNat_of_nonneg h0] at this
      exact this
    · have : ((a.toNat : Nat) : Int) < (((Float64.isqrt a.toNat + 1) * (Float64.isqrt a.toNat + 1) : Nat) : Int) := Int.ofNat_lt.mpr s2
      rw [Int.natCast_mul, Int.natCast_add, Int.toNat_of_nonneg h0] at this
      exact this
abbrev s_least : Stmt := top 7
theorem sc_least : FnScope ["n", "d"] ["n"] (defScope s_least) := ⟨rfl, rfl, rfl, by decide +kernel, rfl, by decide +kernel, by decide +kernel⟩
def spLeast : Sp := fun vs H Q _ => ∃ n : Int, vs = [.int n] ∧ 2 ≤ n ∧ n < 2 ^ 62 ∧ ∀ r, Least n r → Q (.int r) H
theorem rgc_two {j : Int} (h0 : 0 ≤ j) (h1 : j < 2 ^ 62) : RgC 3 j 2 (if 3 < j then ((j - 3 - 1) / 2 + 1).toNat else 0) := by
  refine ⟨by decide, by decide, ?_, ?_⟩
  · unfold Builtin.Range.small Builtin.Range.rangeSize
    simp only [Builtin.Range.rangeFitsLong, Bool.and_eq_true, Bool.or_eq_true, decide_eq_true_eq, beq_iff_eq, show ((2 : Int) > 0) by decide, if_true]
    split <;> omega
  · unfold Builtin.Range.rangeSize
    rw [if_pos (by decide)]
    split <;> omega
theorem root_lt {r n : Int} (h0 : 0 ≤ r) (h : r * r ≤ n) (hn : n < 2 ^ 62) : r + 1 < 2 ^ 62 := by
  by_cases c : r < 2 ^ 32
  · omega
  · have : (2 ^ 32 : Int) * 2 ^ 32 ≤ r * r := Int.mul_le_mul (by omega) (by omega) (by decide) h0
    omega
theorem ok_least {f : Addr} {fd : FuncData} (T : Txt mg) (hsq : mg "isqrt" = some (.builtin "math.isqrt")) (F : Fun K "_least_divisor" "_least_divisor" s_least f fd) : FnOk P w K mg base CX0 1 f fd ["n"] spLeast := by
  refine F.ok sc_least (fun vs H Q E h => ?_) (fun cdv A outer s H vs Q E hr h => ?_)
  · obtain ⟨n, rfl, _⟩ := h
    rfl
  · obtain ⟨n, rfl, h2, hb, q⟩ := h
    refine ⟨_, (pss_cons (ps_if (pt_cmpR op_eq (pe_op op_mod (pv 0) pe_int) pe_int (nomark _)) (pss_one (ps_ret pe_int)) pss_nil)
 (pss_cons (ps_for PassesOwn.never rfl (pi_range3 rfl T.range (pa_cons pe_int (pa_cons (pe_op op_add (pe_callBfun cr_isqrt (by rfl) hsq (pa_cons (pv 0) pa_nil)) pe_int) (pa_cons pe_int pa_nil)))) (pg_name (i := 1) sc_least.nd rfl (Or.inl rfl)) (pss_one (ps_if (pt_cmpR op_eq (pe_op op_mod (pv 0) (pv 1)) pe_int (nomark _)) (pss_one (ps_ret (pv 1))) pss_nil)))
 (pss_one (ps_ret (pv 0))))), ?_⟩
    refine ⟨_, rfl, _, _, rfl, rfl, (by show (0 : Int) < 2; decide), rfl, _, rfl, ?_⟩
    by_cases c : (2 : Int) ∣ n
    · refine if_pos_of (decide_eq_true (congrArg V.int (Int.emod_eq_zero_of_dvd c))) ?_
      exact q _ (least_two c)
    · refine if_neg_of (decide_eq_false fun e => c (Int.dvd_of_emod_eq_zero (V.int.inj e))) ?_
      refine ⟨_, rfl, n, rfl, by omega, by omega, fun r r0 r1 r2 => ⟨_, _, rfl, rfl, 3, r + 1, 2, _, rfl, rgc_two (by omega) (root_lt r0 r1 hb), ?_⟩⟩
      refine for_rangeC (lo := 3) (c := 2) (fun i σ H' => H' = H ∧ ∃ x, σ = [some (.int n), x] ∧ ∀ j : Nat, j < i → ¬ (3 + (j : Int) * 2) ∣ n) ⟨rfl, _, rfl, fun j hj => absurd hj (Nat.not_lt_zero j)⟩ ?_ ?_
      · rintro i σ _ hi ⟨rfl, x, rfl, hx⟩
        refine ⟨_, rfl, _, rfl, _, _, rfl, rfl, (by show (0 : Int) < 3 + ((i : Nat) : Int) * 2; omega), rfl, _, rfl, ?_⟩
        by_cases c3 : (3 + (i : Int) * 2) ∣ n
        · refine if_pos_of (decide_eq_true (congrArg V.int (Int.emod_eq_zero_of_dvd c3))) ?_
          exact ⟨_, rfl, q _ (least_at c c3 hx)⟩
        · refine if_neg_of (decide_eq_false fun e => c3 (Int.dvd_of_emod_eq_zero (V.int.inj e))) ?_
          refine ⟨rfl, _, rfl, fun j hj => ?_⟩
          by_cases e : j = i
          · rw [e]
            exact c3
          · exact hx j (by omega)
      · rintro σ _ ⟨rfl, x, rfl, hx⟩
        refine ⟨_, rfl, q _ (least_of_odd h2 c r0 r2 fun i hi => hx i ?_)⟩
        split <;> omega
abbrev s_prime : Stmt := top 8
theorem sc_prime : FnScope ["n"] ["n"] (defScope s_prime) := ⟨rfl, rfl, rfl, by decide +kernel, rfl, by decide +kernel, by decide +kernel⟩
def spPrime : Sp := fun vs H Q _ => ∃ n : Int, vs = [.int n] ∧ n < 2 ^ 62 ∧ Q (.bl (prB n)) H
theorem ok_prime {f : Addr} {fd : FuncData} (F : Fun K "is_prime" "is_prime" s_prime f fd) (c_least : Cl P w K mg base CX0 1 "_least_divisor" spLeast) : FnOk P w K mg base CX0 2 f fd ["n"] spPrime := by
  refine F.ok sc_prime (fun vs H Q E h => ?_) (fun cdv A outer s H vs Q E hr h => ?_)
  · obtain ⟨n, rfl, _⟩ := h
    rfl
  · obtain ⟨n, rfl, hb, q⟩ := h
    refine ⟨_, (pss_one (ps_ret (pe_and (pe_cmpR op_gt (pv 0) pe_int (nomark _)) (pe_one (pe_cmpR op_eq (pe_cl c_least hr (pa_cons (pv 0) pa_nil)) (pv 0) (nomark _)))))), ?_⟩
    refine ⟨_, rfl, _, _, rfl, rfl, _, rfl, ?_⟩
    by_cases c : 1 < n
    · refine if_pos_of (decide_eq_true c) ?_
      refine ⟨_, rfl, n, rfl, by omega, hb, fun r hl => ⟨_, rfl, rfl, ?_⟩⟩
      have e : decide (V.int r = V.int n) = prB n := by
        by_cases p : Pr n
        · rw [prB_true p, (hl.self (by omega)).mpr p]
          exact decide_eq_true rfl
        · rw [prB_false p]
          exact decide_eq_false fun e => p ((hl.self (by omega)).mp (V.int.inj e))
      show Q (.bl (decide (V.int r = V.int n))) H
      rw [e]
      exact q
    · refine if_neg_of (decide_eq_false c) ?_
      have e : prB n = false := prB_false fun p => c (by have := p.1; omega)
      rw [e] at q
      exact q
abbrev s_lprime : Stmt := top 19
theorem sc_lprime : FnScope ["_law_n", "_law_k"] ["_law_n"] (defScope s_lprime) := ⟨rfl, rfl, rfl, by decide +kernel, rfl, by decide +kernel, by decide +kernel⟩
theorem pr_of_trials {n k : Int} (hn : 2 ≤ n) (hk : 2 ≤ k) (hs : n < k * k) (hm : ∀ m : Int, 2 ≤ m → m < k → ¬ m ∣ n) : Pr n := by
  refine ⟨hn, fun m h1 h2 h3 => ?_⟩
  obtain ⟨d, d2, ds, _, dn⟩ := small_div (n := n) (s := k - 1) hn h1 h2 h3 (by omega) (by rw [Int.sub_add_cancel]; exact hs)
  exact hm d d2 (by omega) dn
theorem root_le {k n : Int} (hk : 2 ≤ k) (h : k * k ≤ n) : k < n ∧ 2 * k ≤ n := by
  have : 2 * k ≤ k * k := Int.mul_le_mul_of_nonneg_right hk (by omega)
  omega
theorem ok_lprime {f : Addr} {fd : FuncData} (F : Fun K "_law_is_prime" "_law_is_prime" s_lprime f fd) : FnOk P w K mg base CX0 1 f fd ["_law_n"] spPrime := by
  refine F.ok sc_lprime (fun vs H Q E h => ?_) (fun cdv A outer s H vs Q E hr h => ?_)
  · obtain ⟨n, rfl, _⟩ := h
    rfl
  · obtain ⟨n, rfl, hb, q⟩ := h
    refine ⟨_, (pss_cons (ps_if (pt_cmpR op_lt (pv 0) pe_int (nomark _)) (pss_one (ps_ret pe_bl)) pss_nil)
 (pss_cons (ps_set (i := 1) sc_lprime.nd rfl (Or.inl rfl) pe_int)
 (pss_cons (ps_while PassesOwn.never (pt_cmpR op_le (pe_op op_mul (pv 1) (pv 1)) (pv 0) (nomark _)) (pss_cons (ps_if (pt_cmpR op_eq (pe_op op_mod (pv 0) (pv 1)) pe_int (nomark _)) (pss_one (ps_ret pe_bl)) pss_nil)
 (pss_one (ps_set (i := 1) sc_lprime.nd rfl (Or.inl rfl) (pe_op op_add (pv 1) pe_int)))))
 (pss_one (ps_ret pe_bl))))), ?_⟩
    refine ⟨_, rfl, _, _, rfl, rfl, _, rfl, ?_⟩
    by_cases c : n < 2
    · refine if_pos_of (decide_eq_true c) ?_
      rw [prB_false fun p => by have := p.1; omega] at q
      exact q
    · refine if_neg_of (decide_eq_false c) ?_
      refine while_by (fun σ H' => H' = H ∧ ∃ k : Int, σ = [some (.int n), some (.int k)] ∧ 2 ≤ k ∧ k ≤ n + 1 ∧ ∀ m : Int, 2 ≤ m → m < k → ¬ m ∣ n) (fun σ _ => match σ[1]? with | some (some (V.int k)) => (n + 2 - k).toNat | _ => 0)
        ⟨rfl, 2, rfl, by omega, by omega, fun m h1 h2 => by omega⟩ ?_ ?_
      · rintro σ _ ⟨rfl, k, rfl, k2, k3, hm⟩
        refine ⟨_, rfl, _, rfl, _, _, rfl, rfl, .inl ⟨by omega, by omega⟩, _, rfl, _, _, rfl, rfl, _, rfl, ?_⟩
        by_cases c2 : k * k ≤ n
        · refine if_pos_of (decide_eq_true c2) ?_
          have kn := root_le k2 c2
          refine ⟨_, rfl, _, rfl, _, _, rfl, rfl, (by show 0 < k; omega), rfl, _, rfl, ?_⟩
          by_cases c3 : k ∣ n
          · refine if_pos_of (decide_eq_true (congrArg V.int (Int.emod_eq_zero_of_dvd c3))) ?_
            rw [prB_false fun p => p.2 k k2 (by omega) c3] at q
            exact q
          · refine if_neg_of (decide_eq_false fun e => c3 (Int.dvd_of_emod_eq_zero (V.int.inj e))) ?_
            refine ⟨_, rfl, _, _, rfl, rfl, ⟨rfl, k + 1, rfl, by omega, by omega, fun m h1 h2 => ?_⟩, ?_⟩
            · by_cases e : m = k
              · rw [e]
                exact c3
              · exact hm m h1 (by omega)
            · show (n + 2 - (k + 1)).toNat < (n + 2 - k).toNat
              omega
        · refine if_neg_of (decide_eq_false c2) ?_
          rw [prB_true (pr_of_trials (by omega) k2 (by omega) hm)] at q
          exact q
      · rintro σ H1 Q1 Q2 h ⟨v, e1, v2, e2, i, j, e3, e4, hc, v3, e5, i2, j2, e6, e7, k, e8, qq⟩
        exact ⟨v, e1, v2, e2, i, j, e3, e4, hc, v3, e5, i2, j2, e6, e7, k, e8, h _ _ qq⟩
abbrev s_next : Stmt := top 20
theorem sc_next : FnScope ["_law_n", "_law_found"] ["_law_n"] (defScope s_next) := ⟨rfl, rfl, rfl, by decide +kernel, rfl, by decide +kernel, by decide +kernel⟩
def spNext : Sp := fun vs H Q _ => ∃ (n b : Int), vs = [.int n] ∧ Pr b ∧ n ≤ b ∧ b < 2 ^ 61 ∧ ∀ p : Int, Pr p → n ≤ p → p ≤ b → Q (.int p) H
theorem ok_next {f : Addr} {fd : FuncData} (T : Txt mg) (F : Fun K "_law_next_prime" "_law_next_prime" s_next f fd) (c_lprime : Cl P w K mg base CX0 1 "_law_is_prime" spPrime) : FnOk P w K mg base CX0 2 f fd ["_law_n"] spNext := by
  refine F.ok sc_next (fun vs H Q E h => ?_) (fun cdv A outer s H vs Q E hr h => ?_)
  · obtain ⟨n, b, rfl, _⟩ := h
    rfl
  · obtain ⟨n, b, rfl, hp, hn, hb, q⟩ := h
    refine ⟨_, (pss_cons (ps_set (i := 1) sc_next.nd rfl (Or.inl rfl) (pe_callB (call_max2 rfl) (by rfl) T.max boot_max (pa_cons pe_int (pa_cons (pv 0) pa_nil))))
 (pss_cons (ps_while PassesOwn.never (pt_not (pt_val (pe_cl c_lprime hr (pa_cons (pv 1) pa_nil)))) (pss_one (ps_set (i := 1) sc_next.nd rfl (Or.inl rfl) (pe_op op_add (pv 1) pe_int))))
 (pss_one (ps_ret (pv 1))))), ?_⟩
    refine ⟨_, rfl, _, _, rfl, ?_⟩
    refine while_by (fun σ H' => H' = H ∧ ∃ k : Int, σ = [some (.int n), some (.int k)] ∧ n ≤ k ∧ k ≤ b) (fun σ _ => match σ[1]? with | some (some (V.int k)) => (b - k).toNat | _ => 0)
      ⟨rfl, _, rfl, by split <;> omega, by have := hp.1; split <;> omega⟩ ?_ ?_
    · rintro σ _ ⟨rfl, k, rfl, k2, k3⟩
      refine ⟨_, rfl, k, rfl, by omega, _, rfl, ?_⟩
      by_cases c : Pr k
      · refine if_neg_of (by rw [prB_true c]; rfl) ?_
        exact ⟨_, rfl, q k c k2 k3⟩
      · refine if_pos_of (by rw [prB_false c]; rfl) ?_
        have : k ≠ b := fun e => c (e ▸ hp)
        refine ⟨_, rfl, _, _, rfl, rfl, ⟨rfl, k + 1, rfl, by omega, by omega⟩, ?_⟩
        show (b - (k + 1)).toNat < (b - k).toNat
        omega
    · rintro σ H1 Q1 Q2 h ⟨v, e1, n, e2, hl, k, e3, qq⟩
      exact ⟨v, e1, n, e2, hl, k, e3, h _ _ qq⟩
abbrev s_ibc : Stmt := inClass (top 4) 0
theorem sc_ibc : FnScope ["self", "p"] ["self", "p"] (defScope s_ibc) := ⟨rfl, rfl, rfl, by decide +kernel, rfl, by decide +kernel, by decide +kernel⟩
theorem ok_ibc {f C CF : Addr} {fd : FuncData} (TF : FErr K mg CF) (hC : OexC K C) (hno : PySem.W.findIn K (.ref C) "p" = some none) (F : Fun K "__init__" "BadCharacteristic.__init__" s_ibc f fd) : FnOk P w K mg base CX0 1 f fd ["self", "p"] (spInit C "p") := by
  refine F.ok sc_ibc (fun vs H Q E h => ?_) (fun cdv A outer s H vs Q E hr h => ?_)
  · obtain ⟨a, v, rfl, _⟩ := h
    rfl
  · obtain ⟨a, v, rfl, ha, q⟩ := h
    refine ⟨_, (pss_cons (ps_expr (pe_feinit TF (pa_cons (pv 0) (pa_cons pe_str pa_nil))))
 (pss_one (ps_ost (pv 0) (pv 1)))), ?_⟩
    refine ⟨_, rfl, a, C, _, rfl, (by show 1 ≤ 1000; decide), hC, ha, ?_⟩
    exact ⟨_, rfl, _, rfl, a, C, rfl, hC, hno, .inl ⟨ha, fun dx hn hne => q dx hn hne⟩⟩
theorem eqvAll_ints : ∀ l m : List Int, PyData.eqvAll (l.map PyData.int) (m.map PyData.int) = decide (l = m)
  | [], [] => by rw [List.map_nil, PyData.eqvAll]; rfl
  | [], b :: m => by rw [List.map_nil, List.map_cons, PyData.eqvAll] <;> first | (exact (decide_eq_false (by simp)).symm) | skip
  | a :: l, [] => by rw [List.map_nil, List.map_cons, PyData.eqvAll] <;> first | (exact (decide_eq_false (by simp)).symm) | skip
  | a :: l, b :: m => by
    rw [List.map_cons, List.map_cons, PyData.eqvAll, PyData.eqv, eqvAll_ints l m]
    by_cases c : a = b
    · subst c
      by_cases c2 : l = m
      · subst c2
        simp
      · simp [c2]
    · simp [c]
theorem eqv_ints (l m : List Int) : PyData.eqv (.list (l.map PyData.int)) (.list (m.map PyData.int)) = decide (l = m) := by
  rw [PyData.eqv]
  exact eqvAll_ints l m
theorem eqv_intsT (l m : List Int) : PyData.eqv (.tuple (l.map PyData.int)) (.tuple (m.map PyData.int)) = decide (l = m) := by
  rw [PyData.eqv]
  exact eqvAll_ints l m
theorem canLay_ints : ∀ l : List Int, PyData.canLayAll0 (l.map PyData.int) = true
  | [] => by rw [List.map_nil, PyData.canLayAll0]
  | a :: l => by rw [List.map_cons, PyData.canLayAll0, PyData.canLay0, canLay_ints l]; rfl
theorem depth_ints : ∀ l : List Int, PyData.depthAll (l.map PyData.int) = 0
  | [] => by rw [List.map_nil, PyData.depthAll]
  | a :: l => by rw [List.map_cons, PyData.depthAll, PyData.depth, depth_ints l]; rfl
theorem shaped_ints (l : List Int) : SeqAt.shaped (.list (l.map PyData.int)) = true := by
  unfold SeqAt.shaped
  rw [PyData.canLay0, canLay_ints, PyData.depth, depth_ints]
  rfl
theorem shaped_intsT (l : List Int) : SeqAt.shaped (.tuple (l.map PyData.int)) = true := by
  unfold SeqAt.shaped
  rw [PyData.canLay0, canLay_ints, PyData.depth, depth_ints]
  rfl
theorem dpAll_ints {K : PySem.W.Frag} {H : Hp} : ∀ l : List Int, DpAll K H (l.map V.int) (l.map PyData.int)
  | [] => .nil
  | a :: l => .cons (.int a) (dpAll_ints l)
theorem dp_lst {K : PySem.W.Frag} {H : Hp} {a : Addr} {l : List Int} (h : SqL K H a (l.map V.int)) : Dp K H (.ref a) (.list (l.map PyData.int)) := .lst h (dpAll_ints l)
theorem dp_tup {K : PySem.W.Frag} {H : Hp} {a : Addr} {l : List Int} (h : SqT K H a (l.map V.int)) : Dp K H (.ref a) (.tuple (l.map PyData.int)) := .tup h (dpAll_ints l)
theorem hu64 {k : Nat} {A : Around} (hr : Room k A) : A.units + 64 < cLine := by
  have := hr.un
  omega
theorem item_int {l : List Int} {i : Nat} {y : V} (h : (l.map V.int)[i]? = some y) : ∃ z : Int, y = .int z ∧ l[i]? = some z := by
  rw [List.getElem?_map] at h
  cases e : l[i]? with
  | none =>
    rw [e] at h
    cases h
  | some z =>
    rw [e] at h
    exact ⟨z, (Option.some.inj h).symm, rfl⟩
/-! set(xs) of a list of ints; the walk of the list, as for a tuple -/
/-- the empty set as it is made -/
def set0 (w : World) : Obj := { cls := .type "set", dict := none, data := .set #[] 0 (.fresh 0 0 (!w.params.followText "set-order")) }
open PySem.Calls in
theorem set_of_list {P : Program} {w : World} {A : Around} {E : Value → Shared → Prop} {s : Shared} {l : Addr} {items : Array Value} (ns : List Int) {Q : Value → Shared → Prop} (hh : A.handled = none)
    (hl : s.heap.IsList l items) (hit : IntsAre items.toList ns) (hb : ns.length + 1 < scanBound)
    (h : ∀ (h' : Heap) (tk c : Nat), SetR w h' s.heap.objs.size (fun j => decide (j ∈ ns)) c → c ≤ ns.length → (∀ b o, s.heap.get? b = some o → h'.get? b = some o) →
      Q (.ref s.heap.objs.size) { s with heap := h', toks := tk }) :
    wpAny (model P w) A (call (.type "set") [.ref l]) Q E s := by
  have size_eq : items.size = ns.length := by
    have z := IntsAre.length hit
    rwa [Array.length_toList] at z
  obtain ⟨c, tl, hmro⟩ := F.called_set.mro
  have made_set := F.called_set.made
  have sub_set := F.called_set.sub
  refine wpAny_call (codeAny_of_tree ?_)
  show wpAny _ _ (callAny (.type "set") _) _ _ _
  refine wpAny_pure ⟨Code.quiet_builtin _ (by decide +kernel), codeAny_builtin F.entry_type_call ?_⟩
  rw [Around.under_plain (weight_type_call_type "set" [.ref l] []) rfl]
  have not_type := F.called_set.notType
  have can_create := F.called_set.canCreate
  have type_call := F.typeCall_set_1 (.ref l)
  repeat (any_goals (first | assumption | wp_step))
  refine codeAny_mono (code_set_led1 (.ref l) (E := E) (Q₁ := fun obj st => obj = .ref s.heap.objs.size ∧ st = { s with heap := s.heap.push (set0 w) }) ⟨rfl, rfl⟩) fun r st hr => ?_
  cases r with
  | error e => exact hr
  | ok fl =>
    cases fl with
    | ret obj =>
      obtain ⟨rfl, rfl⟩ := hr
      have at_set : (s.heap.push (set0 w)).get? s.heap.objs.size = some (set0 w) := Heap.get?_push_size _ rfl
      have is_set : Shared.TypeIs { s with heap := s.heap.push (set0 w) } (.ref s.heap.objs.size) "set" := ⟨_, at_set, rfl⟩
      have init_look := F.called_set.init.lookup
      have init_bind := F.called_set.init.bind (.ref s.heap.objs.size)
      repeat (any_goals (first | assumption | wp_step))
      refine codeAny_mono (codeAny_call_builtin (R := wants (fun r t => r = .none ∧ ∃ h' tk c, t = { s with heap := h', toks := tk } ∧ SetR w h' s.heap.objs.size (fun j => decide (j ∈ ns)) c ∧
        c ≤ ns.length ∧ (∀ b o, s.heap.get? b = some o → h'.get? b = some o)) E) F.called_set.init.plain F.entry_set_init (check_set_init_1 is_set ?_)) fun r₂ s₂ hr₂ => ?_
      · obtain ⟨ol, hol, hcl, nl, hdl⟩ := hl
        obtain ⟨ocls, odict, odata, oslots⟩ := ol
        simp only at hcl hdl
        subst hcl
        subst hdl
        have hol' : (s.heap.push (set0 w)).get? l = some { cls := .type "list", dict := odict, data := .seq items nl, slots := oslots } := Heap.get?_push_of_some _ hol
        have no_set := F.sub_list_set
        have no_frozen := F.sub_list_frozenset
        have no_dict : (Value.type "list" == Value.type "dict") = false := by decide
        have list1 : (s.heap.push (set0 w)).IsList l items := ⟨_, hol', rfl, nl, rfl⟩
        unfold Builtin.«set.__init__» noKeywords Builtin.Frozenset.updateFrom
        generalize iter_is : pyIter = PI
        wp_walk
        subst iter_is
        refine wpAny_pyIter_list list1 ?_
        refine wpAny_bind (wpAny_runValue ?_)
        have l_old : l < s.heap.objs.size := Heap.lt_size hol
        have calm3 : A.in1.in1.in1.handled = none := by simp [hh]
        have next_is : (s.heap.push (set0 w)).objs.size = s.heap.objs.size + 1 := Heap.size_push ..
        have l_ne : l ≠ (s.heap.push (set0 w)).objs.size := by
          rw [next_is]
          exact Nat.ne_of_lt (Nat.lt_succ_of_lt l_old)
        have off : s.heap.objs.size ∉ [(s.heap.push (set0 w)).objs.size, l] := by
          rw [next_is]
          simp only [List.mem_cons, List.not_mem_nil, or_false, not_or]
          exact ⟨Nat.ne_of_lt (Nat.lt_succ_self _), Nat.ne_of_gt l_old⟩
        have vals : ∀ (i : Nat) (v : Value), items[i]? = some v → ∃ k t, ns[i]? = some k ∧ v = .int k t := fun i v hv => by
          have lt : i < ns.length := by
            rw [← size_eq]
            exact (Array.getElem?_eq_some_iff.mp hv).1
          obtain ⟨t, e⟩ := IntsAre.int_at hit i v (by rw [Array.getElem?_toList]; exact hv)
          refine ⟨ns[i], t, List.getElem?_eq_getElem lt, ?_⟩
          rw [e, List.getD_eq_getElem?_getD, List.getElem?_eq_getElem lt] <;> rfl
        refine set_update_ints ((Walks.list calm3 _ l l_ne items).toS) s.heap.objs.size off ns size_eq hb vals (items.size - 0) 0 _ (by omega) (Nat.zero_le _) ⟨⟨_, Heap.get?_push_size _ rfl, rfl, rfl⟩, (list1.push _)⟩ ?start ?done
        case start =>
          refine ⟨0, Nat.le_refl 0, setR_new_at ?_⟩
          exact Heap.get?_push_of_some _ at_set
        case done =>
          intro s' c' hm hc' hS'
          obtain ⟨h', g2, d', tk', os'⟩ := s'
          have eg : g2 = s.gens := hm.gens
          have ed : d' = s.drawn := hm.drawn
          have eo : os' = s.os := hm.os
          subst eg
          subst ed
          subst eo
          show wpAny _ _ _ _ _ _
          refine wpAny_pure ?_
          show wpAny _ _ (ret Value.none) _ _ _
          rw [size_eq] at hc'
          refine wpAny_pure ⟨rfl, h', tk', c', rfl, hS', hc', fun b o e => ?_⟩
          have old := Heap.lt_size e
          refine hm.heap b o ?_ (Heap.get?_push_of_some _ (Heap.get?_push_of_some _ e))
          rw [next_is]
          simp only [List.mem_cons, List.not_mem_nil, or_false, not_or]
          exact ⟨Nat.ne_of_lt old, Nat.ne_of_lt (Nat.lt_succ_of_lt old)⟩
      · cases r₂ with
        | error e => exact hr₂
        | ok fl₂ =>
          cases fl₂ with
          | ret r =>
            obtain ⟨rfl, h', tk, c', rfl, hS', hc', hk'⟩ := hr₂
            repeat (any_goals (first | assumption | wp_step))
            exact h _ _ _ hS' hc' hk'
          | _ => exact hr₂.elim
    | _ => exact hr.elim
/-- set(xs): xs a list or a tuple of ints -/
def rSetInts (K : PySem.W.Frag) (w : World) : List V → Hp → VK → Prop := fun xs H Q => ∃ (a : Addr) (ns : List Int), xs = [.ref a] ∧ (SqL K H a (ns.map V.int) ∨ SqT K H a (ns.map V.int)) ∧ ns.length ≤ 1000 ∧
  ∀ p c, H p = none → c ≤ ns.length → Q (.ref p) (upd H p (SetO w p (fun j => decide (j ∈ ns)) c))
theorem cr_setInts {X : Cx} (hc : X.calm = true) : CallR X (.type "set") (rSetInts X.K X.w) := by
  intro pins s σ H vs us Q I r h
  obtain ⟨a, ns, rfl, hq, hl, q⟩ := h
  cases r with
  | cons r1 r2 =>
    cases r2
    cases r1
    have few : ns.length + 1 < scanBound := by unfold scanBound; omega
    have fresh : H s.heap.objs.size = none := I.hok.fresh (Nat.le_refl _)
    have fin : ∀ (h' : Heap) (tk c : Nat), SetR X.w h' s.heap.objs.size (fun j => decide (j ∈ ns)) c → c ≤ ns.length → (∀ b o, s.heap.get? b = some o → h'.get? b = some o) →
        EP X pins σ Q (.ref s.heap.objs.size) { s with heap := h', toks := tk } := fun h' tk c hS hle keep =>
      ⟨.ref s.heap.objs.size, upd H s.heap.objs.size (SetO X.w s.heap.objs.size (fun j => decide (j ∈ ns)) c), I.laid (t' := tk) keep (Nat.le_refl _) (setO_new hS), rfl, q _ _ fresh hle⟩
    rcases hq with hq | hq
    · obtain ⟨its, r, pl, hz⟩ := I.list hq
      exact set_of_list ns (I.ok.hd hc) pl.isList (by simpa using RZ.intsAre_vals r) few fin
    · obtain ⟨its, r, pl, hz⟩ := I.tuple hq
      exact call_set_tupI ns (I.ok.hd hc) pl (by simpa using RZ.intsAre_vals r) few fin
/-! operators of an own class -/
/-- a method of the class at C, by its promise -/
structure Me (P : Program) (w : World) (K : PySem.W.Frag) (mg : Str → Option Value) (base : Heap) (k : Nat) (C : Addr) (m : Str) (sp : Sp) : Prop where
  ex : ∃ (f : Addr) (fd : FuncData) (ps : List Str), Meth K C m f ∧ FnOk P w K mg base CX0 k f fd ps sp ∧ Binds K fd ps []
section
variable {X : Cx} {C : Addr} {m : Str} {sp : Sp} {k j : Nat}
theorem inst_of {pins : List (Addr × Obj)} {σ : L2.St} {H : Hp} {s : Shared} {a dx : Addr} {fs : List (Str × V)} (I : Inv X pins σ H s) (e : H a = some (.ins C dx fs)) : ∃ ox od, PySem.W.InstAt s.heap a ox C od := by
  obtain ⟨mA, O, _⟩ := ins_get I.hok e
  obtain ⟨od, J, _⟩ := O.look
  exact ⟨_, _, J⟩
/-- x op y of two instances -/
def rOwn2 (C : Addr) (sp : Sp) : R2 := fun x y H Q => ∃ a b dx dy fs gs, x = .ref a ∧ y = .ref b ∧ H a = some (.ins C dx fs) ∧ H b = some (.ins C dy gs) ∧ sp [x, y] H Q E0
theorem op_own2 {op : Operator} (c : Me X.prog X.w X.K X.mg X.base k C m sp) (hr : Room j X.A) (sf : PySem.W.selfFirst X.K C = true) (hm : PySem.dunder op.info.2 = m := by decide +kernel) (hk : k ≤ j := by decide) : OpR X (binaryOp op) (rOwn2 C sp) := by
  obtain ⟨f, fd, ps, M, F, b⟩ := c.ex
  intro pins s σ H x y v u Q I rx ry h
  obtain ⟨a, b', dx, dy, fs, gs, rfl, rfl, ha, hb, q⟩ := h
  cases (show v = Value.ref a from rx)
  cases (show u = Value.ref b' from ry)
  obtain ⟨ox, od, J⟩ := inst_of I ha
  obtain ⟨oy, od', J'⟩ := inst_of I hb
  obtain ⟨mm, hF⟩ := I.fr
  refine PySem.W.binop_K hF I.ok.mod.kin J J'.type sf (by rw [hm]; exact M.at_) M.fn ?_
  refine wpAny_mono (run_fn (us := [.ref a, .ref b']) (vs := [.ref a, .ref b']) F (hr.mono hk) b .nil pass0 I (.cons rfl (.cons rfl .nil)) q) (fun u' s' z => ?_) fun _ _ x => x
  obtain ⟨z', H', I', rz, qz⟩ := z
  exact SlX.cmpback rz ⟨z', H', I', rz, qz⟩
/-- op x of an instance -/
def rOwn1 (C : Addr) (sp : Sp) : V → Hp → VK → Prop := fun x H Q => ∃ a dx fs, x = .ref a ∧ H a = some (.ins C dx fs) ∧ sp [x] H Q E0
theorem un_inv1 (c : Me X.prog X.w X.K X.mg X.base k C "__invert__" sp) (hr : Room j X.A) (hk : k ≤ j := by decide) : UnR X (unaryOp .Invert) (rOwn1 C sp) := by
  obtain ⟨f, fd, ps, M, F, b⟩ := c.ex
  intro pins s σ H x v Q I rx h
  obtain ⟨a, dx, fs, rfl, ha, q⟩ := h
  cases (show v = Value.ref a from rx)
  obtain ⟨ox, od, J⟩ := inst_of I ha
  obtain ⟨mm, hF⟩ := I.fr
  exact PySem.W.ksp_inv hF I.ok.mod.kin J M.at_ M.fn (run_fn (us := [.ref a]) (vs := [.ref a]) F (hr.mono hk) b .nil pass0 I (.cons rfl .nil) q)
theorem un_neg1 (c : Me X.prog X.w X.K X.mg X.base k C "__neg__" sp) (hr : Room j X.A) (hk : k ≤ j := by decide) : UnR X (unaryOp .USub) (rOwn1 C sp) := by
  obtain ⟨f, fd, ps, M, F, b⟩ := c.ex
  intro pins s σ H x v Q I rx h
  obtain ⟨a, dx, fs, rfl, ha, q⟩ := h
  cases (show v = Value.ref a from rx)
  obtain ⟨ox, od, J⟩ := inst_of I ha
  obtain ⟨mm, hF⟩ := I.fr
  exact PySem.W.ksp_neg hF I.ok.mod.kin J M.at_ M.fn (run_fn (us := [.ref a]) (vs := [.ref a]) F (hr.mono hk) b .nil pass0 I (.cons rfl .nil) q)
/-- x in y, y an instance: the answer a bool -/
def rOwnIn (neg : Bool) (C : Addr) (sp : Sp) : R2 := fun x y H Q => ∃ b dx fs, y = .ref b ∧ H b = some (.ins C dx fs) ∧ sp [y, x] H (fun v H' => ∃ c : Bool, v = .bl c ∧ Q (.bl (if neg then !c else c)) H') E0
theorem op_in_own (c : Me X.prog X.w X.K X.mg X.base k C "__contains__" sp) (hr : Room j X.A) (hk : k ≤ j := by decide) : OpR X (compareOp .In) (rOwnIn false C sp) := by
  obtain ⟨f, fd, ps, M, F, b⟩ := c.ex
  intro pins s σ H x y v u Q I rx ry h
  obtain ⟨a, dx, fs, rfl, ha, q⟩ := h
  cases (show u = Value.ref a from ry)
  obtain ⟨ox, od, J⟩ := inst_of I ha
  obtain ⟨mm, hF⟩ := I.fr
  refine PySem.W.in_K hF I.ok.mod.kin J M.at_ M.fn (wpAny_mono (run_fn (us := [.ref a, v]) (vs := [.ref a, x]) F (hr.mono hk) b .nil pass0 I (.cons rfl (.cons rx .nil)) q) (fun u' s' z => ?_) fun _ _ x => x)
  obtain ⟨z', H', I', rz, d, ez, qz⟩ := z
  subst ez
  cases (show u' = Value.bool d from rz)
  exact wpAny_truthy_bool ⟨.bl d, H', I', rfl, qz⟩
theorem op_notIn_own (c : Me X.prog X.w X.K X.mg X.base k C "__contains__" sp) (hr : Room j X.A) (hk : k ≤ j := by decide) : OpR X (compareOp .NotIn) (rOwnIn true C sp) := by
  obtain ⟨f, fd, ps, M, F, b⟩ := c.ex
  intro pins s σ H x y v u Q I rx ry h
  obtain ⟨a, dx, fs, rfl, ha, q⟩ := h
  cases (show u = Value.ref a from ry)
  obtain ⟨ox, od, J⟩ := inst_of I ha
  obtain ⟨mm, hF⟩ := I.fr
  refine PySem.W.notIn_K hF I.ok.mod.kin J M.at_ M.fn (wpAny_mono (run_fn (us := [.ref a, v]) (vs := [.ref a, x]) F (hr.mono hk) b .nil pass0 I (.cons rfl (.cons rx .nil)) q) (fun u' s' z => ?_) fun _ _ x => x)
  obtain ⟨z', H', I', rz, d, ez, qz⟩ := z
  subst ez
  cases (show u' = Value.bool d from rz)
  exact wpAny_truthy_bool ⟨.bl (!d), H', I', rfl, qz⟩
/-- x == y of two instances -/
theorem op_eq_own (c : Me X.prog X.w X.K X.mg X.base k C "__eq__" sp) (hr : Room j X.A) (hk : k ≤ j := by decide) : OpR X (compareOp .Eq) (rOwn2 C sp) := by
  obtain ⟨f, fd, ps, M, F, b⟩ := c.ex
  intro pins s σ H x y v u Q I rx ry h
  obtain ⟨a, b', dx, dy, fs, gs, rfl, rfl, ha, hb, q⟩ := h
  cases (show v = Value.ref a from rx)
  cases (show u = Value.ref b' from ry)
  obtain ⟨ox, od, J⟩ := inst_of I ha
  obtain ⟨oy, od', J'⟩ := inst_of I hb
  obtain ⟨mm, hF⟩ := I.fr
  show wpAny _ _ (richCompare .Eq (.ref a) (.ref b')) _ _ _
  refine PySem.W.cmp_K (op := .Eq) (tb := .ref C) hr.units0 hF I.ok.mod.kin J J'.type (by unfold PySem.W.notFirst; simp) M.at_ M.fn ?_
  refine wpAny_mono (run_fn (us := [.ref a, .ref b']) (vs := [.ref a, .ref b']) F (hr.mono hk) b .nil pass0 I (.cons rfl (.cons rfl .nil)) q) (fun u' s' z => ?_) fun _ _ x => x
  obtain ⟨z', H', I', rz, qz⟩ := z
  exact SlX.cmpback rz ⟨z', H', I', rz, qz⟩
/-- the truth of an instance, by its __bool__ -/
def rTruOwn (C : Addr) (sp : Sp) : V → Hp → (Bool → Hp → Prop) → Prop := fun x H Q => ∃ a dx fs, x = .ref a ∧ H a = some (.ins C dx fs) ∧ sp [x] H (fun v H' => ∃ c : Bool, v = .bl c ∧ Q c H') E0
theorem tru_own (c : Me X.prog X.w X.K X.mg X.base k C "__bool__" sp) (hr : Room j X.A) (hk : k ≤ j := by decide) : TruR X (rTruOwn C sp) := by
  obtain ⟨f, fd, ps, M, F, b⟩ := c.ex
  intro pins s σ H x v Q I rx h
  obtain ⟨a, dx, fs, rfl, ha, q⟩ := h
  cases (show v = Value.ref a from rx)
  obtain ⟨ox, od, J⟩ := inst_of I ha
  obtain ⟨mm, hF⟩ := I.fr
  refine PySem.W.truthy_K hF I.ok.mod.kin J M.at_ M.fn (wpAny_mono (run_fn (us := [.ref a]) (vs := [.ref a]) F (hr.mono hk) b .nil pass0 I (.cons rfl .nil) q) (fun u' s' z => ?_) fun _ _ x => x)
  obtain ⟨z', H', I', rz, d, ez, qz⟩ := z
  subst ez
  cases (show u' = Value.bool d from rz)
  exact ⟨H', I', qz⟩
end
/-- a class that makes instances, its __init__ by its promise (it may raise, and here doesn't) -/
structure Ma (P : Program) (w : World) (K : PySem.W.Frag) (mg : Str → Option Value) (base : Heap) (k : Nat) (C : Addr) (sp : Sp) : Prop where
  ex : ∃ (f : Addr) (fd : FuncData) (ps : List Str), Mk K C f ∧ FnOk P w K mg base (L2N.CX P w) k f fd ps sp ∧ Binds K fd ps []
section
variable {X : Cx} {C : Addr} {x : Str} {sp : Sp} {k j i : Nat} {p pos : Pos} {e : Expr} {es : List Expr} {t : TA}
theorem pe_ma (c : Ma X.prog X.w X.K X.mg X.base k C sp) (hr : Room j X.A) (hm : X.mg x = some (.ref C)) (ha : PA X (e :: es) t) (hk : k + 1 ≤ j := by decide) (hg : Gl X x := by rfl)
    (hdb : (x == ("__debug__" : Str)) = false := by decide) (he : starEach (e :: es) X.env = (false, eval e X.env) :: starEach es X.env := by rfl) (hpl : (backTo pos (starEach es X.env)).any (·.1) = false := by rfl) :
    PE X (.Call (.Name x p) (e :: es) [] pos) (tMake C sp [] E0 t) := by
  obtain ⟨f, fd, ps, M, F, b⟩ := c.ex
  exact pe_make M F (hr.mono hk) hg hm b .nil passN ha hdb he hpl
/-- cls(..), cls a parameter that holds the class -/
def tMakeL (i : Nat) (C : Addr) (sp : Sp) (t : TA) : TE := fun σ H Q => σ[i]? = some (some (.ref C)) ∧ tMake C sp [] E0 t σ H Q
theorem pe_maL (c : Ma X.prog X.w X.K X.mg X.base k C sp) (hr : Room j X.A) (hN : X.N[i]? = some x) (ha : PA X (e :: es) t) (hk : k + 1 ≤ j := by decide)
    (hv : Vis X.env.scope x := by first | exact Or.inl rfl | exact Or.inr (Or.inl rfl) | exact Or.inr (Or.inr rfl))
    (hdb : (x == ("__debug__" : Str)) = false := by decide) (hcd : (x == ("__classdict__" : Str)) = false := by decide)
    (he : starEach (e :: es) X.env = (false, eval e X.env) :: starEach es X.env := by rfl) (hpl : (backTo pos (starEach es X.env)).any (·.1) = false := by rfl) :
    PE X (.Call (.Name x p) (e :: es) [] pos) (tMakeL i C sp t) := by
  obtain ⟨f, fd, ps, M, F, b⟩ := c.ex
  refine ⟨fun pins s σ H Q I h => ?_⟩
  obtain ⟨at_i, rest⟩ := h
  refine wpAny_Call_Name_kw (thn ((pe_var (pos := p) hN hv hdb hcd).run pins s σ H (fun v G => v = .ref C ∧ G = H) I ⟨.ref C, at_i, rfl, rfl⟩) fun u s1 ⟨v, G, I1, r1, e1, e2⟩ => ?_)
  subst e1
  subst e2
  cases r1
  refine PySem.W.callWith_K (h₀ := X.base) I.ok.mod.kin M.kp (thn (ha.run pos pins s1 σ _ _ I1 rest) fun us s2 ⟨vs, G2, I2, r, q⟩ => ⟨I2.kIn, ?_⟩) he hpl
  exact run_make M F (hr.mono hk) b .nil passN I2 r q
end
/-- a call of a classmethod without arguments -/
structure Cm (P : Program) (w : World) (K : PySem.W.Frag) (mg : Str → Option Value) (base : Heap) (k : Nat) (C : Addr) (m : Str) (sp : Sp) : Prop where
  ex : ∃ (mc : Value) (p g : Addr) (fd : FuncData) (ps : List Str), ClX.CRead K C mc ∧ ClX.CMet K C mc m p g ∧ FnOk P w K mg base CX0 k g fd ps sp ∧ Binds K fd ps []
theorem fnR_of {P : Program} {w : World} {K : PySem.W.Frag} {mg : Str → Option Value} {base : Heap} {CX : CXT} {k : Nat} {f : Addr} {fd : FuncData} {ps : List Str} {sp : Sp} (F : FnOk P w K mg base CX k f fd ps sp) (b : Binds K fd ps []) : FnR P w K mg base CX k f sp :=
  fun A outer s H us vs Q E hr e0 r h => by
    have hl : us.length = ps.length := by
      rw [← r.length]
      exact F.len _ _ _ _ h
    have z := b s us (e0.mod.kin.keeps fun b o e => (e0.bs b o e).1) (by rw [List.append_nil]; exact hl)
    rw [List.append_nil] at z
    exact F.run A outer s H ⟨us, []⟩ us vs Q E hr e0 z r h
theorem pe_cm {X : Cx} {C : Addr} {m : Str} {sp : Sp} {k j : Nat} {o e : Expr} {es : List Expr} {ta : TE} {t : TA} {apos pos : Pos} {pl : Sem Bool} (c : Cm X.prog X.w X.K X.mg X.base k C m sp) (hr : Room j X.A) (he : PE X o ta) (ha : PA X (e :: es) t) (hk : k ≤ j := by decide)
    (hst : starEach (e :: es) X.env = (false, eval e X.env) :: starEach es X.env := by rfl) (hpl : (backTo pos (starEach es X.env)).any (·.1) = false := by rfl)
    (ht : eval (.Call (.Attribute o m apos) (e :: es) [] pos) X.env = (do
      let got ← eval o X.env
      standAt apos.atName
      let (fn, fst) ← holding [got] (getMethod got m pl)
      callWith pos fn fst (backTo pos (starEach (e :: es) X.env)) (backToKw pos (keywordEach [] X.env))) := by rfl) :
    PE X (.Call (.Attribute o m apos) (e :: es) [] pos) (ClX.tCMeth C sp E0 ta t) := by
  obtain ⟨mc, p, g, fd, ps, r, c, F, b⟩ := c.ex
  exact ClX.pe_cmeth he r c (fnR_of F b) (hr.mono hk) pass0 ha hst hpl ht
theorem pe_cm0 {X : Cx} {C : Addr} {m : Str} {sp : Sp} {k j : Nat} {o : Expr} {ta : TE} {apos pos : Pos} {pl : Sem Bool} (c : Cm X.prog X.w X.K X.mg X.base k C m sp) (hr : Room j X.A) (he : PE X o ta) (hk : k ≤ j := by decide)
    (ht : eval (.Call (.Attribute o m apos) [] [] pos) X.env = (do
      let got ← eval o X.env
      standAt apos.atName
      let (fn, fst) ← holding [got] (getMethod got m pl)
      callWith pos fn fst (backTo pos (starEach [] X.env)) (backToKw pos (keywordEach [] X.env))) := by rfl) :
    PE X (.Call (.Attribute o m apos) [] [] pos) (ClX.tCMeth C sp E0 ta tNil) := by
  obtain ⟨mc, p, g, fd, ps, r, c, F, b⟩ := c.ex
  refine ⟨fun pins s σ H Q I h => ?_⟩
  refine PySem.W.methodCall_KW (pl := pl) (thn (he.run pins s σ H _ I h) fun u s1 ⟨x, H1, I1, rx, ex, q⟩ => ?_) ht
  subst ex
  obtain rfl : u = Value.ref C := rx
  have notin : X.base.get? s1.heap.objs.size = none := by
    cases z : X.base.get? s1.heap.objs.size with
    | none => rfl
    | some o => exact absurd (Heap.lt_size (I1.bk _ o z)) (Nat.lt_irrefl _)
  refine ClX.getmethcm_ok I1 r c fun s2 I2 => ?_
  have hq := ClX.pin_at I2
  have hL : s1.heap.objs.size ≠ X.env.locals := (I2.pin (s1.heap.objs.size, PySem.W.methodObj (.ref g) (.ref C)) (List.mem_append_right _ List.mem_cons_self)).2.2.1
  show wpAny _ _ (callWith pos (Value.ref s1.heap.objs.size) [] (backTo pos (starEach [] X.env)) []) _ _ _
  refine PySem.W.callWith_M0 (K := X.K) (g := g) (self := .ref C) ?_ c.fi ?_
  · exact ⟨hq, I2.kIn⟩
  · have z := ClX.run_cm (us := []) (vs := []) (fnR_of F b) (hr.mono hk) pass0 I2 .nil q
    exact z
open PySem.Sem (wp) in
theorem meets_bool_tup (l : Addr) (items : Array Value) (fit : (items.size : Int) < 2 ^ 63) :
    Meets (Builtin.«bool.__new__» ⟨[.type "bool", .ref l], []⟩) (fun _ R s => IsTup s.heap l items ∧ R (.ok (.ret (.bool (!items.isEmpty)))) { s with toks := s.toks + 1 + 1 }) :=
  Meets.of_wp fun prog w A R s hs => by
    obtain ⟨hl, hs⟩ := hs
    obtain ⟨hp, g, d, tk, os⟩ := s
    have no_bool := F.conv_sub_bool
    repeat (any_goals (first | assumption | (with_reducible refine truthy_tuple hl fit ?_) | wp_step))
    all_goals first | exact ⟨_, rfl, hs⟩ | exact hs | skip
/-- bool(x): a bool, or a tuple -/
def rBoolT (K : PySem.W.Frag) : List V → Hp → VK → Prop := fun xs H Q => (∃ k, xs = [.bl k] ∧ Q (.bl k) H) ∨ ∃ (a : Addr) (zs : List V), xs = [.ref a] ∧ SqT K H a zs ∧ Q (.bl (!zs.isEmpty)) H
theorem cr_boolT {X : Cx} : CallR X (.type "bool") (rBoolT X.K) := by
  intro pins s σ H xs us Q I r h
  rcases h with ⟨k, rfl, q⟩ | ⟨a, zs, rfl, hq, q⟩
  · exact call_bool1 pins s σ H _ us Q I r (.inr ⟨k, rfl, q⟩)
  · obtain rfl := Vals.ref1 r
    obtain ⟨its, rv, pl, hz⟩ := I.tuple hq
    have hl := line63
    have hlen := rv.length
    have e : its.toArray.isEmpty = zs.isEmpty := by
      cases zs with
      | nil =>
        cases rv
        rfl
      | cons z zs =>
        cases rv
        rfl
    refine call_bool_1 (meets_bool_tup a its.toArray (by simp only [List.size_toArray]; omega)) ⟨pl, rfl, ?_⟩
    exact ⟨.bl (!zs.isEmpty), H, I.tok _, by rw [e]; rfl, q⟩
theorem chE : ¬ (("endless" : Str) = "primes") := by decide +kernel
/-- the attributes, in the order in which __init__ stores them -/
def chF (e : Bool) (t : Addr) : List (Str × V) := putF "primes" (.ref t) (putF "endless" (.bl e) [])
theorem chF_e (e : Bool) (t : Addr) : (chF e t).lookup ("endless" : Str) = some (.bl e) := by
  unfold chF
  rw [lookup_putF, if_neg chE, lookup_putF, if_pos rfl]
theorem chF_p (e : Bool) (t : Addr) : (chF e t).lookup ("primes" : Str) = some (.ref t) := by
  unfold chF
  rw [lookup_putF, if_pos rfl]
theorem chF_no (e : Bool) (t : Addr) {m : Str} (h1 : ¬ m = "primes") (h2 : ¬ m = "endless") : (chF e t).lookup m = none := by
  unfold chF
  rw [lookup_putF, if_neg h1, lookup_putF, if_neg h2]
  all_goals rfl
/-- a set of characteristics stands at a -/
structure CharsAt (C : Addr) (H : Hp) (a : Addr) (e : Bool) (l : List Int) : Prop where
  ob : ∃ dx t, H a = some (.ins C dx (chF e t)) ∧ H t = some (.tup (l.map V.int))
  srt : l.Pairwise (· < ·)
  prm : ∀ q ∈ l, Pr q ∧ q < 2 ^ 62
theorem CharsAt.same {C : Addr} {H H' : Hp} {a : Addr} {e : Bool} {l : List Int} (h : CharsAt C H a e l) (s : Same H H') : CharsAt C H' a e l := by
  obtain ⟨dx, t, h1, h2⟩ := h.ob
  exact ⟨⟨dx, t, s _ _ h1, s _ _ h2⟩, h.srt, h.prm⟩
/-- is p in the set -/
def memB (e : Bool) (l : List Int) (p : Int) : Bool := if e = true then !decide (p ∈ l) else decide (p ∈ l)
/-- what is told of the class -/
structure ChT (K : PySem.W.Frag) (mg : Str → Option Value) (C : Addr) : Prop where
  g : mg "Chars" = some (.ref C)
  cl : Cls K C
  nE : NoAttr K C "endless"
  nP : NoAttr K C "primes"
  sf : PySem.W.selfFirst K C = true
  isC : C8.InsC K C
abbrev s_cinit : Stmt := inClass (top 14) 0
theorem sc_cinit : FnScope ["self", "endless", "primes", "p"] ["self", "endless", "primes"] (defScope s_cinit) := ⟨rfl, rfl, rfl, by decide +kernel, rfl, by decide +kernel, by decide +kernel⟩
def spCI (C CB : Addr) (tup : Bool) (K : PySem.W.Frag) : Sp := fun vs H Q E => ∃ (x dx a : Addr) (e : Bool) (ns : List Int), vs = [.ref x, .bl e, .ref a] ∧ H x = some (.ins C dx []) ∧ (if tup = true then SqT K H a (ns.map V.int) else SqL K H a (ns.map V.int)) ∧
  (∀ q ∈ ns, q < 2 ^ 62) ∧ ns.length < 64 ∧
  ((∀ q ∈ ns, Pr q) → ∀ (l : List Int) (H' : Hp), (∀ q, q ∈ l ↔ q ∈ ns) → l.length ≤ ns.length → CharsAt C H' x e l → (∀ b o, H b = some o → b ≠ x → H' b = some o) → Q .non H') ∧
  (∀ (i : Nat) (b : Int), ns[i]? = some b → ¬ Pr b → (∀ (j : Nat) (q : Int), j < i → ns[j]? = some q → Pr q) → ∀ d H', Same H H' → H' d = some (.xd [("p", .int b)]) → E (.ref CB) (some d) H')
theorem cinit_end {C CB : Addr} {mg : Str → Option Value} {K : PySem.W.Frag} (T : ChT K mg C) {H : Hp} {x dx a : Addr} {e : Bool} {ns : List Int} {Q : VK} {y3 : Option V} (hx : H x = some (.ins C dx [])) (hS : SqL K H a (ns.map V.int) ∨ SqT K H a (ns.map V.int)) (few : ns.length < 64) (hp : ∀ q ∈ ns, Pr q ∧ q < 2 ^ 62)
    (q : ∀ (l : List Int) (H' : Hp), (∀ q, q ∈ l ↔ q ∈ ns) → l.length ≤ ns.length → CharsAt C H' x e l → (∀ b o, H b = some o → b ≠ x → H' b = some o) → Q .non H') :
    tSeq (sFld K (tVar 0) (tVar 1) "endless") (sFld K (tVar 0) (tThen (tCB (rSortedSet w) (tCons (tCB (rSetInts K w) (tCons (tVar 2) tNil)) tNil)) (kTup K)) "primes") { nx := fun _ H' => Q .non H', rt := Q } [some (.ref x), some (.bl e), some (.ref a), y3] H := by
  have hxa : x ≠ a ∨ True := .inr trivial
  refine ⟨_, rfl, _, rfl, x, C, dx, [], rfl, hx, T.cl, T.nE, (by show 0 < 1000; decide), ?_⟩
  have hS1 : SqL K (upd H x (.ins C dx (putF "endless" (.bl e) []))) a (ns.map V.int) ∨ SqT K (upd H x (.ins C dx (putF "endless" (.bl e) []))) a (ns.map V.int) := by
    rcases hS with h | h
    · refine .inl ?_
      rcases h with h | h
      · rcases h with h | ⟨o, h⟩
        · exact .inl (.inl (by rw [upd_ne (fun z => by rw [z, hx] at h; cases h)]; exact h))
        · exact .inl (.inr ⟨o, by rw [upd_ne (fun z => by rw [z, hx] at h; cases h)]; exact h⟩)
      · exact .inr h
    · refine .inr ?_
      rcases h with h | h
      · rcases h with h | ⟨o, h⟩
        · exact .inl (.inl (by rw [upd_ne (fun z => by rw [z, hx] at h; cases h)]; exact h))
        · exact .inl (.inr ⟨o, by rw [upd_ne (fun z => by rw [z, hx] at h; cases h)]; exact h⟩)
      · exact .inr h
  refine ⟨_, rfl, a, ns, rfl, hS1, (by omega), fun p c np hc => ?_⟩
  refine ⟨p, _, c, rfl, upd_same, (by omega), fun l p2 srt mem len np2 => ?_⟩
  have npx : p ≠ x := fun z => by
    rw [z, upd_same] at np
    cases np
  refine .inl ⟨p2, _, rfl, SqL.of upd_same, fun t nt => ?_⟩
  have g1 := same_upd (o := SetO w p (fun j => decide (j ∈ ns)) c) np
  have g2 := same_upd (o := .lst (l.map V.int)) np2
  have g3 := same_upd (o := .tup (l.map V.int)) nt
  have hx3 := g3 _ _ (g2 _ _ (g1 _ _ (upd_same (H := H) (a := x) (o := .ins C dx (putF "endless" (.bl e) [])))))
  refine ⟨_, rfl, x, C, dx, _, rfl, hx3, T.cl, T.nP, (by show 1 < 1000; decide), ?_⟩
  have ntx : t ≠ x := fun z => by
    rw [z] at nt
    rw [g2 _ _ (g1 _ _ (upd_same (H := H) (a := x) (o := .ins C dx (putF "endless" (.bl e) []))))] at nt
    cases nt
  refine q l _ (fun z => by rw [mem z]; exact decide_eq_true_iff) (by omega) ⟨⟨dx, t, upd_same, by rw [upd_ne ntx]; exact upd_same⟩, srt, fun z hz => hp z (of_decide_eq_true ((mem z).mp hz))⟩ fun b o hb hbx => ?_
  rw [upd_ne hbx]
  refine g3 _ _ (g2 _ _ (g1 _ _ ?_))
  rw [upd_ne hbx]
  exact hb
theorem ok_cinit {f C CB : Addr} {fd : FuncData} (tup : Bool) (TT : Txt mg) (T : ChT K mg C) (F : Fun K "__init__" "Chars.__init__" s_cinit f fd) (c_prime : Cl P w K mg base CX0 2 "is_prime" spPrime) (x_bc : Er P w K mg base "BadCharacteristic" "p" CB) : FnOk P w K mg base (L2N.CX P w) 3 f fd ["self", "endless", "primes"] (spCI C CB tup K) := by
  refine okN F sc_cinit (fun vs H Q E h => ?_) (fun cdv A outer s H vs Q E hr h => ?_)
  · obtain ⟨x, dx, a, e, ns, rfl, _⟩ := h
    rfl
  · obtain ⟨x, dx, a, e, ns, rfl, hx, hS, hb, few, q, qe⟩ := h
    have turn : ∀ (i : Nat) (y : V), (ns.map V.int)[i]? = some y → ∃ z : Int, y = .int z ∧ ns[i]? = some z ∧ z < 2 ^ 62 := fun i y hi => by
      rw [List.getElem?_map] at hi
      cases e : ns[i]? with
      | none =>
        rw [e] at hi
        cases hi
      | some z =>
        rw [e] at hi
        exact ⟨z, (Option.some.inj hi).symm, rfl, hb z (List.mem_of_getElem? e)⟩
    have all : (∀ (j : Nat) (q : Int), j < (ns.map V.int).length → ns[j]? = some q → Pr q) → ∀ q ∈ ns, Pr q := fun h q hq => by
      obtain ⟨j, hj⟩ := List.mem_iff_getElem?.mp hq
      exact h j q (by rw [List.length_map]; exact (List.getElem?_eq_some_iff.mp hj).1) hj
    cases tup with
    | false =>
      refine ⟨_, (pss_cons (ps_for (passes_of rfl) rfl (pi_list (pv 2)) (pg_name (i := 3) sc_cinit.nd rfl (Or.inl rfl)) (pss_one (ps_if (pt_not (pt_val (pe_cl c_prime hr (pa_cons (pv 3) pa_nil)))) (pss_one (ps_raise1N x_bc hr (L2N.takes_of rfl rfl rfl rfl) (pa_cons (pv 3) pa_nil))) pss_nil)))
 (pss_cons (ps_fld (pv 0) (pv 1) rfl)
 (pss_one (ps_fld (pv 0) (pe_tupleOf (by rfl) TT.tuple (pe_callB (cr_sortedSet rfl) (by rfl) TT.sorted boot_sorted (pa_cons (pe_callTy (cr_setInts rfl) (by rfl) TT.set boot_set (pa_cons (pv 2) pa_nil)) pa_nil))) rfl)))), ?_⟩
      have hS' : SqL K H a (ns.map V.int) := hS
      refine ⟨_, rfl, a, rfl, ⟨_, hS'⟩, for_list (K := K) (a := a) (xs := ns.map V.int) (fun i σ H' => H' = H ∧ (∃ y3, σ = [some (.ref x), some (.bl e), some (.ref a), y3]) ∧ ∀ (j : Nat) (q : Int), j < i → ns[j]? = some q → Pr q)
        ⟨rfl, ⟨none, rfl⟩, fun j q hj => absurd hj (Nat.not_lt_zero j)⟩ (fun i σ H' _ h => by rw [h.1]; exact hS') ?_ ?_⟩
      · rintro i y σ _ hi ⟨rfl, ⟨y3, rfl⟩, hp⟩
        obtain ⟨z, rfl, hz, hzb⟩ := turn i y hi
        refine ⟨_, rfl, z, rfl, hzb, _, rfl, ?_⟩
        by_cases c : Pr z
        · refine if_neg_of (by rw [prB_true c]; rfl) ?_
          refine ⟨rfl, ⟨_, rfl⟩, fun j q hj hq => ?_⟩
          by_cases ej : j = i
          · rw [ej, hz] at hq
            rw [← Option.some.inj hq]
            exact c
          · exact hp j q (by omega) hq
        · refine if_pos_of (by rw [prB_false c]; rfl) ?_
          refine ⟨_, rfl, ?_⟩
          exact mk1 fun d H2 s _ hd => qe i z hz c hp d H2 s hd
      · rintro σ _ ⟨rfl, ⟨y3, rfl⟩, hp⟩
        exact cinit_end (w := w) (CB := CB) T hx (.inl hS') few (fun z hz => ⟨all hp z hz, hb z hz⟩) (q (all hp))
    | true =>
      refine ⟨_, (pss_cons (ps_for (passes_of rfl) rfl (pi_tup (pv 2)) (pg_name (i := 3) sc_cinit.nd rfl (Or.inl rfl)) (pss_one (ps_if (pt_not (pt_val (pe_cl c_prime hr (pa_cons (pv 3) pa_nil)))) (pss_one (ps_raise1N x_bc hr (L2N.takes_of rfl rfl rfl rfl) (pa_cons (pv 3) pa_nil))) pss_nil)))
 (pss_cons (ps_fld (pv 0) (pv 1) rfl)
 (pss_one (ps_fld (pv 0) (pe_tupleOf (by rfl) TT.tuple (pe_callB (cr_sortedSet rfl) (by rfl) TT.sorted boot_sorted (pa_cons (pe_callTy (cr_setInts rfl) (by rfl) TT.set boot_set (pa_cons (pv 2) pa_nil)) pa_nil))) rfl)))), ?_⟩
      have hS' : SqT K H a (ns.map V.int) := hS
      refine ⟨_, rfl, a, rfl, ⟨_, hS'⟩, for_tup (K := K) (a := a) (xs := ns.map V.int) (fun i σ H' => H' = H ∧ (∃ y3, σ = [some (.ref x), some (.bl e), some (.ref a), y3]) ∧ ∀ (j : Nat) (q : Int), j < i → ns[j]? = some q → Pr q)
        ⟨rfl, ⟨none, rfl⟩, fun j q hj => absurd hj (Nat.not_lt_zero j)⟩ (fun i σ H' _ h => by rw [h.1]; exact hS') ?_ ?_⟩
      · rintro i y σ _ hi ⟨rfl, ⟨y3, rfl⟩, hp⟩
        obtain ⟨z, rfl, hz, hzb⟩ := turn i y hi
        refine ⟨_, rfl, z, rfl, hzb, _, rfl, ?_⟩
        by_cases c : Pr z
        · refine if_neg_of (by rw [prB_true c]; rfl) ?_
          refine ⟨rfl, ⟨_, rfl⟩, fun j q hj hq => ?_⟩
          by_cases ej : j = i
          · rw [ej, hz] at hq
            rw [← Option.some.inj hq]
            exact c
          · exact hp j q (by omega) hq
        · refine if_pos_of (by rw [prB_false c]; rfl) ?_
          refine ⟨_, rfl, ?_⟩
          exact mk1 fun d H2 s _ hd => qe i z hz c hp d H2 s hd
      · rintro σ _ ⟨rfl, ⟨y3, rfl⟩, hp⟩
        exact cinit_end (w := w) (CB := CB) T hx (.inr hS') few (fun z hz => ⟨all hp z hz, hb z hz⟩) (q (all hp))
theorem make_ch {C CB : Addr} {tup : Bool} {H1 : Hp} {e : Bool} {a : Addr} {ns : List Int} {Q : VK} (hS : if tup = true then SqT K H1 a (ns.map V.int) else SqL K H1 a (ns.map V.int)) (hp : ∀ q ∈ ns, Pr q ∧ q < 2 ^ 62) (few : ns.length < 64)
    (k : ∀ (r : Addr) (l : List Int) (H2 : Hp), (∀ q, q ∈ l ↔ q ∈ ns) → l.length ≤ ns.length → CharsAt C H2 r e l → Same H1 H2 → Q (.ref r) H2) :
    ∀ x dx, H1 x = none → H1 dx = none → dx ≠ x → spCI C CB tup K (.ref x :: ([.bl e, .ref a] ++ [])) (upd (upd H1 dx (.own x)) x (.ins C dx [])) (fun v H2 => v = .non ∧ Q (.ref x) H2) E0 := by
  intro x dx hx hdx hne
  have s1 : Same H1 (upd (upd H1 dx (.own x)) x (.ins C dx [])) := fun b o eb => by
    rw [upd_ne (ne_of_none eb hx), upd_ne (ne_of_none eb hdx)]
    exact eb
  refine ⟨x, dx, a, e, ns, rfl, upd_same, ?_, fun q hq => (hp q hq).2, few, fun _ l H' mem len ch keep => ⟨rfl, k x l H' mem len ch fun b o eb => keep b o (s1 b o eb) (ne_of_none eb hx)⟩, fun i b hi hb _ => absurd (hp b (List.mem_of_getElem? hi)).1 hb⟩
  cases tup with
  | true =>
    have h : SqT K H1 a (ns.map V.int) := hS
    show SqT K _ a (ns.map V.int)
    exact Evl.ex_t s1 h
  | false =>
    have h : SqL K H1 a (ns.map V.int) := hS
    exact s1.seq h
theorem all_flat : ∀ l : List Int, (l.map V.int).all flatV = true
  | [] => rfl
  | a :: l => by
    rw [List.map_cons, List.all_cons, all_flat l]
    rfl
theorem inV_ints (p : Int) : ∀ l : List Int, inV (.int p) (l.map V.int) = decide (p ∈ l)
  | [] => by simp [inV]
  | a :: l => by
    have ih := inV_ints p l
    unfold inV at ih ⊢
    rw [List.map_cons, List.any_cons, ih]
    show (a == p || decide (p ∈ l)) = decide (p ∈ a :: l)
    by_cases c : a = p
    · subst c
      simp
    · have c2 : ¬ p = a := fun h => c h.symm
      simp [c, c2]
abbrev s_ccont : Stmt := inClass (top 14) 8
theorem sc_ccont : FnScope ["self", "p"] ["self", "p"] (defScope s_ccont) := ⟨rfl, rfl, rfl, by decide +kernel, rfl, by decide +kernel, by decide +kernel⟩
def spCont (C : Addr) : Sp := fun vs H Q _ => ∃ (a : Addr) (e : Bool) (l : List Int) (p : Int), vs = [.ref a, .int p] ∧ CharsAt C H a e l ∧ Q (.bl (memB e l p)) H
theorem ok_ccont {f C : Addr} {fd : FuncData} (T : ChT K mg C) (F : Fun K "__contains__" "Chars.__contains__" s_ccont f fd) : FnOk P w K mg base CX0 1 f fd ["self", "p"] (spCont C) := by
  refine F.ok sc_ccont (fun vs H Q E h => ?_) (fun cdv A outer s H vs Q E hr h => ?_)
  · obtain ⟨a, e, l, p, rfl, _⟩ := h
    rfl
  · obtain ⟨a, e, l, p, rfl, ch, q⟩ := h
    obtain ⟨dx, t, h1, h2⟩ := ch.ob
    refine ⟨_, (pss_cons (ps_if (pt_val (pe_fld (pv 0) rfl)) (pss_one (ps_ret (pe_cmpR op_notIn_seq (pv 1) (pe_fld (pv 0) rfl) (by with_unfolding_all rfl)))) pss_nil)
 (pss_one (ps_ret (pe_cmpR op_in_seq (pv 1) (pe_fld (pv 0) rfl) (by with_unfolding_all rfl))))), ?_⟩
    refine ⟨_, rfl, a, C, dx, _, _, rfl, h1, T.cl, T.nE, chF_e _ _, _, rfl, ?_⟩
    unfold memB at q
    cases e with
    | true =>
      refine if_pos_of rfl ?_
      rw [if_pos rfl] at q
      refine ⟨_, rfl, _, rfl, a, C, dx, _, _, rfl, h1, T.cl, T.nP, chF_p _ _, t, _, rfl, .inr (.inl (.inl h2)), rfl, all_flat l, ?_⟩
      rw [if_pos rfl, inV_ints]
      exact q
    | false =>
      refine if_neg_of rfl ?_
      rw [if_neg (by decide)] at q
      refine ⟨_, rfl, _, rfl, a, C, dx, _, _, rfl, h1, T.cl, T.nP, chF_p _ _, t, _, rfl, .inr (.inl (.inl h2)), rfl, all_flat l, ?_⟩
      rw [if_neg (by decide), inV_ints]
      exact q
abbrev s_cinv : Stmt := inClass (top 14) 12
theorem sc_cinv : FnScope ["self"] ["self"] (defScope s_cinv) := ⟨rfl, rfl, rfl, by decide +kernel, rfl, by decide +kernel, by decide +kernel⟩
def spInv (C : Addr) : Sp := fun vs H Q _ => ∃ (a : Addr) (e : Bool) (l : List Int), vs = [.ref a] ∧ CharsAt C H a e l ∧ l.length < 64 ∧ ∀ r H', CharsAt C H' r (!e) l → Same H H' → Q (.ref r) H'
theorem ok_cinv {f C CB : Addr} {fd : FuncData} (T : ChT K mg C) (F : Fun K "__invert__" "Chars.__invert__" s_cinv f fd) (c_cit : Ma P w K mg base 3 C (spCI C CB true K)) : FnOk P w K mg base CX0 5 f fd ["self"] (spInv C) := by
  refine F.ok sc_cinv (fun vs H Q E h => ?_) (fun cdv A outer s H vs Q E hr h => ?_)
  · obtain ⟨a, e, l, rfl, _⟩ := h
    rfl
  · obtain ⟨a, e, l, rfl, ch, few, q⟩ := h
    obtain ⟨dx, t, h1, h2⟩ := ch.ob
    refine ⟨_, (pss_one (ps_ret (pe_ma c_cit hr T.g (pa_cons (pe_not (pe_fld (pv 0) rfl)) (pa_cons (pe_fld (pv 0) rfl) pa_nil))))), ?_⟩
    refine ⟨_, rfl, a, C, dx, _, _, rfl, h1, T.cl, T.nE, chF_e _ _, _, rfl, _, rfl, a, C, dx, _, _, rfl, h1, T.cl, T.nP, chF_p _ _, ?_⟩
    refine make_ch (CB := CB) (tup := true) (e := !e) (ns := l) (.inl (.inl h2)) ch.prm few fun r l' H' mem len ch' s' => ?_
    have el : l' = l := sorted_uniq ch'.srt ch.srt mem
    subst el
    exact q r H' ch' s'
abbrev s_cand : Stmt := inClass (top 14) 9
theorem sc_cand : FnScope ["self", "other", "p"] ["self", "other"] (defScope s_cand) := ⟨rfl, rfl, rfl, by decide +kernel, rfl, by decide +kernel, by decide +kernel⟩
theorem cat_use {K : PySem.W.Frag} {a b : Addr} {xs ys : List Int} {H : Hp} {Q : VK} (ha : SqT K H a (xs.map V.int)) (hb : SqT K H b (ys.map V.int)) (few : xs.length + ys.length < 64) (k : ∀ c H', SqT K H' c ((xs ++ ys).map V.int) → Same H H' → Q (.ref c) H') : rCatA K (.ref a) (.ref b) H Q := by
  refine ⟨a, b, _, _, rfl, rfl, ha, hb, ?_, fun e => ?_, fun e1 e2 => ?_, fun e1 e2 p hp => ?_⟩
  · rw [List.length_map, List.length_map]
    exact Nat.le_of_lt (small1000 (by omega))
  · have z : xs = [] := List.map_eq_nil_iff.mp e
    subst z
    exact k b H hb (Same.refl H)
  · have z : ys = [] := List.map_eq_nil_iff.mp e2
    subst z
    refine k a H ?_ (Same.refl H)
    rw [List.append_nil]
    exact ha
  · refine k p _ ?_ (same_upd hp)
    rw [List.map_append]
    exact .inl (.inl upd_same)
theorem filter_take {l : List Int} {g : Int → Bool} {i : Nat} {z : Int} (h : l[i]? = some z) : (l.take (i + 1)).filter g = (l.take i).filter g ++ (if g z = true then [z] else []) := by
  rw [List.take_add_one, h, List.filter_append]
  show (l.take i).filter g ++ List.filter g [z] = _
  rw [List.filter_cons, List.filter_nil]
theorem and_false_l (b : Bool) : (false && b) = false := rfl
def spAnd (C : Addr) (f : Bool → Bool → Bool) : Sp := fun vs H Q _ => ∃ (a b : Addr) (e1 e2 : Bool) (l1 l2 : List Int), vs = [.ref a, .ref b] ∧ CharsAt C H a e1 l1 ∧ CharsAt C H b e2 l2 ∧ l1.length + l2.length < 64 ∧
  ∀ (r : Addr) (l : List Int) (H' : Hp), CharsAt C H' r (f e1 e2) l → l.length ≤ l1.length + l2.length → (∀ p, memB (f e1 e2) l p = f (memB e1 l1 p) (memB e2 l2 p)) → Same H H' → Q (.ref r) H'
theorem ok_cand {f C CB : Addr} {fd : FuncData} (T : ChT K mg C) (F : Fun K "__and__" "Chars.__and__" s_cand f fd) (c_cit : Ma P w K mg base 3 C (spCI C CB true K)) (c_cil : Ma P w K mg base 3 C (spCI C CB false K)) (c_cont : Me P w K mg base 1 C "__contains__" (spCont C)) : FnOk P w K mg base CX0 5 f fd ["self", "other"] (spAnd C and) := by
  refine F.ok sc_cand (fun vs H Q E h => ?_) (fun cdv A outer s H vs Q E hr h => ?_)
  · obtain ⟨a, b, _, _, _, _, rfl, _⟩ := h
    rfl
  · obtain ⟨a, b, e1, e2, l1, l2, rfl, ch1, ch2, few, q⟩ := h
    obtain ⟨dx, t, h1, h2⟩ := ch1.ob
    obtain ⟨dy, u, g1, g2⟩ := ch2.ob
    refine ⟨_, (pss_cons (ps_if (pt_not (pt_val (pe_fld (pv 0) rfl))) (pss_one (ps_ret (pe_ma c_cil hr T.g (pa_cons pe_bl (pa_cons (pe_lc (own := [("p", 2)]) (g := gName 2) rfl sc_cand.nd (pi_tup (pe_fld (pv 0) rfl)) (blkOk_by (N := ["self", "other", "p"]) (sc := defScope s_cand) (by decide +kernel)) (fun _ _ _ _ _ => pg_name (i := 2) sc_cand.nd rfl (Or.inl rfl)) (fun _ _ _ _ _ => pts_one (pt_cmpR (op_in_own c_cont (by exact hr)) (pv 2) (pv 1) (by with_unfolding_all rfl))) (fun _ _ _ _ _ => pv 2)) pa_nil))))) pss_nil)
 (pss_cons (ps_if (pt_not (pt_val (pe_fld (pv 1) rfl))) (pss_one (ps_ret (pe_ma c_cil hr T.g (pa_cons pe_bl (pa_cons (pe_lc (own := [("p", 2)]) (g := gName 2) rfl sc_cand.nd (pi_tup (pe_fld (pv 1) rfl)) (blkOk_by (N := ["self", "other", "p"]) (sc := defScope s_cand) (by decide +kernel)) (fun _ _ _ _ _ => pg_name (i := 2) sc_cand.nd rfl (Or.inl rfl)) (fun _ _ _ _ _ => pts_one (pt_cmpR (op_in_own c_cont (by exact hr)) (pv 2) (pv 0) (by with_unfolding_all rfl))) (fun _ _ _ _ _ => pv 2)) pa_nil))))) pss_nil)
 (pss_one (ps_ret (pe_ma c_cit hr T.g (pa_cons pe_bl (pa_cons (pe_op op_catA (pe_fld (pv 0) rfl) (pe_fld (pv 1) rfl)) pa_nil))))))), ?_⟩
    refine ⟨_, rfl, a, C, dx, _, _, rfl, h1, T.cl, T.nE, chF_e _ _, _, rfl, ?_⟩
    cases e1 with
    | false =>
      refine if_pos_of rfl ?_
      refine ⟨_, rfl, a, C, dx, _, _, rfl, h1, T.cl, T.nP, chF_p _ _, t, rfl, ⟨_, .inl (.inl h2)⟩, fun D hD => lc_tup (K := K) (a := t) (xs := l1.map V.int) (fun i H' => Same H H' ∧ H' D = some (.lst (((l1.take i).filter (memB e2 l2)).map V.int)))
        ⟨same_upd hD, upd_same⟩ (fun i H' _ h => Evl.ex_t h.1 (.inl (.inl h2))) ?_ ?_⟩
      · rintro i y H' hi ⟨s', hD'⟩
        obtain ⟨z, rfl, hz⟩ := item_int hi
        refine ⟨rfl, _, rfl, _, rfl, _, _, _, rfl, s' _ _ g1, ?_⟩
        refine ⟨_, e2, l2, z, rfl, ch2.same s', _, rfl, _, rfl, ?_⟩
        have ft := filter_take (g := memB e2 l2) hz
        cases hm : memB e2 l2 z with
        | true =>
          rw [hm, if_pos rfl] at ft
          refine if_pos_of rfl ?_
          refine ⟨_, rfl, _, hD', ?_, fun b o eb => ?_, ?_⟩
          · rw [List.length_map]
            have h3 := List.length_filter_le (memB e2 l2) (l1.take i)
            have h4 : (l1.take i).length ≤ l1.length := by rw [List.length_take]; omega
            exact small1000 (by omega)
          · rw [upd_ne (ne_of_none eb hD)]
            exact s' b o eb
          · rw [ft, List.map_append]
            exact upd_same
        | false =>
          rw [hm, if_neg (by decide), List.append_nil] at ft
          refine if_neg_of rfl ?_
          exact ⟨s', by rw [ft]; exact hD'⟩
      · rintro H' ⟨s', hD'⟩
        rw [List.length_map, List.take_length] at hD'
        refine make_ch (CB := CB) (tup := false) (e := false) (ns := l1.filter (memB e2 l2)) (SqL.of hD') (fun z hz => ch1.prm z (List.mem_filter.mp hz).1) (by have := List.length_filter_le (memB e2 l2) l1; omega) fun r l' H2 mem len ch' s2 => ?_
        have hl := List.length_filter_le (memB e2 l2) l1
        have mem2 : ∀ z, z ∈ l' ↔ z ∈ l1 ∧ memB e2 l2 z = true := fun z => (mem z).trans List.mem_filter
        exact q r l' H2 ch' (by omega) (fun z => by
          rw [and_false_l]
          have := mem2 z
          unfold memB at this ⊢
          by_cases c : z ∈ l1 <;> simp_all) (s'.trans s2)
    | true =>
      refine if_neg_of rfl ?_
      refine ⟨_, rfl, b, C, dy, _, _, rfl, g1, T.cl, T.nE, chF_e _ _, _, rfl, ?_⟩
      cases e2 with
      | false =>
        refine if_pos_of rfl ?_
        refine ⟨_, rfl, b, C, dy, _, _, rfl, g1, T.cl, T.nP, chF_p _ _, u, rfl, ⟨_, .inl (.inl g2)⟩, fun D hD => lc_tup (K := K) (a := u) (xs := l2.map V.int) (fun i H' => Same H H' ∧ H' D = some (.lst (((l2.take i).filter (memB true l1)).map V.int)))
          ⟨same_upd hD, upd_same⟩ (fun i H' _ h => Evl.ex_t h.1 (.inl (.inl g2))) ?_ ?_⟩
        · rintro i y H' hi ⟨s', hD'⟩
          obtain ⟨z, rfl, hz⟩ := item_int hi
          refine ⟨rfl, _, rfl, _, rfl, _, _, _, rfl, s' _ _ h1, ?_⟩
          refine ⟨_, true, l1, z, rfl, ch1.same s', _, rfl, _, rfl, ?_⟩
          have ft := filter_take (g := memB true l1) hz
          cases hm : memB true l1 z with
          | true =>
            rw [hm, if_pos rfl] at ft
            refine if_pos_of rfl ?_
            refine ⟨_, rfl, _, hD', ?_, fun b o eb => ?_, ?_⟩
            · rw [List.length_map]
              have h3 := List.length_filter_le (memB true l1) (l2.take i)
              have h4 : (l2.take i).length ≤ l2.length := by rw [List.length_take]; omega
              exact small1000 (by omega)
            · rw [upd_ne (ne_of_none eb hD)]
              exact s' b o eb
            · rw [ft, List.map_append]
              exact upd_same
          | false =>
            rw [hm, if_neg (by decide), List.append_nil] at ft
            refine if_neg_of rfl ?_
            exact ⟨s', by rw [ft]; exact hD'⟩
        · rintro H' ⟨s', hD'⟩
          rw [List.length_map, List.take_length] at hD'
          refine make_ch (CB := CB) (tup := false) (e := false) (ns := l2.filter (memB true l1)) (SqL.of hD') (fun z hz => ch2.prm z (List.mem_filter.mp hz).1) (by have := List.length_filter_le (memB true l1) l2; omega) fun r l' H2 mem len ch' s2 => ?_
          have hl := List.length_filter_le (memB true l1) l2
          have mem2 : ∀ z, z ∈ l' ↔ z ∈ l2 ∧ memB true l1 z = true := fun z => (mem z).trans List.mem_filter
          exact q r l' H2 ch' (by omega) (fun z => by
            have := mem2 z
            unfold memB at this ⊢
            by_cases c : z ∈ l2 <;> simp_all) (s'.trans s2)
      | true =>
        refine if_neg_of rfl ?_
        refine ⟨_, rfl, a, C, dx, _, _, rfl, h1, T.cl, T.nP, chF_p _ _, _, rfl, b, C, dy, _, _, rfl, g1, T.cl, T.nP, chF_p _ _, ?_⟩
        refine cat_use (xs := l1) (ys := l2) (.inl (.inl h2)) (.inl (.inl g2)) few fun c H' hc s' => ?_
        refine make_ch (CB := CB) (tup := true) (e := true) (ns := l1 ++ l2) hc (fun z hz => (List.mem_append.mp hz).elim (ch1.prm z) (ch2.prm z)) (by rw [List.length_append]; exact few) fun r l' H2 mem len ch' s2 => ?_
        rw [List.length_append] at len
        exact q r l' H2 ch' len (fun z => by
          have := mem z
          rw [List.mem_append] at this
          unfold memB
          by_cases c1 : z ∈ l1 <;> by_cases c2 : z ∈ l2 <;> simp_all) (s'.trans s2)
abbrev s_cor : Stmt := inClass (top 14) 10
theorem sc_cor : FnScope ["self", "other", "p"] ["self", "other"] (defScope s_cor) := ⟨rfl, rfl, rfl, by decide +kernel, rfl, by decide +kernel, by decide +kernel⟩
theorem true_or_l (b : Bool) : (true || b) = true := rfl
theorem ok_cor {f C CB : Addr} {fd : FuncData} (T : ChT K mg C) (F : Fun K "__or__" "Chars.__or__" s_cor f fd) (c_cit : Ma P w K mg base 3 C (spCI C CB true K)) (c_cil : Ma P w K mg base 3 C (spCI C CB false K)) (c_cont : Me P w K mg base 1 C "__contains__" (spCont C)) : FnOk P w K mg base CX0 5 f fd ["self", "other"] (spAnd C or) := by
  refine F.ok sc_cor (fun vs H Q E h => ?_) (fun cdv A outer s H vs Q E hr h => ?_)
  · obtain ⟨a, b, _, _, _, _, rfl, _⟩ := h
    rfl
  · obtain ⟨a, b, e1, e2, l1, l2, rfl, ch1, ch2, few, q⟩ := h
    obtain ⟨dx, t, h1, h2⟩ := ch1.ob
    obtain ⟨dy, u, g1, g2⟩ := ch2.ob
    refine ⟨_, (pss_cons (ps_if (pt_val (pe_fld (pv 0) rfl)) (pss_one (ps_ret (pe_ma c_cil hr T.g (pa_cons pe_bl (pa_cons (pe_lc (own := [("p", 2)]) (g := gName 2) rfl sc_cor.nd (pi_tup (pe_fld (pv 0) rfl)) (blkOk_by (N := ["self", "other", "p"]) (sc := defScope s_cor) (by decide +kernel)) (fun _ _ _ _ _ => pg_name (i := 2) sc_cor.nd rfl (Or.inl rfl)) (fun _ _ _ _ _ => pts_one (pt_cmpR (op_notIn_own c_cont (by exact hr)) (pv 2) (pv 1) (by with_unfolding_all rfl))) (fun _ _ _ _ _ => pv 2)) pa_nil))))) pss_nil)
 (pss_cons (ps_if (pt_val (pe_fld (pv 1) rfl)) (pss_one (ps_ret (pe_ma c_cil hr T.g (pa_cons pe_bl (pa_cons (pe_lc (own := [("p", 2)]) (g := gName 2) rfl sc_cor.nd (pi_tup (pe_fld (pv 1) rfl)) (blkOk_by (N := ["self", "other", "p"]) (sc := defScope s_cor) (by decide +kernel)) (fun _ _ _ _ _ => pg_name (i := 2) sc_cor.nd rfl (Or.inl rfl)) (fun _ _ _ _ _ => pts_one (pt_cmpR (op_notIn_own c_cont (by exact hr)) (pv 2) (pv 0) (by with_unfolding_all rfl))) (fun _ _ _ _ _ => pv 2)) pa_nil))))) pss_nil)
 (pss_one (ps_ret (pe_ma c_cit hr T.g (pa_cons pe_bl (pa_cons (pe_op op_catA (pe_fld (pv 0) rfl) (pe_fld (pv 1) rfl)) pa_nil))))))), ?_⟩
    refine ⟨_, rfl, a, C, dx, _, _, rfl, h1, T.cl, T.nE, chF_e _ _, _, rfl, ?_⟩
    cases e1 with
    | true =>
      refine if_pos_of rfl ?_
      refine ⟨_, rfl, a, C, dx, _, _, rfl, h1, T.cl, T.nP, chF_p _ _, t, rfl, ⟨_, .inl (.inl h2)⟩, fun D hD => lc_tup (K := K) (a := t) (xs := l1.map V.int) (fun i H' => Same H H' ∧ H' D = some (.lst (((l1.take i).filter (fun z => !memB e2 l2 z)).map V.int)))
        ⟨same_upd hD, upd_same⟩ (fun i H' _ h => Evl.ex_t h.1 (.inl (.inl h2))) ?_ ?_⟩
      · rintro i y H' hi ⟨s', hD'⟩
        obtain ⟨z, rfl, hz⟩ := item_int hi
        refine ⟨rfl, _, rfl, _, rfl, _, _, _, rfl, s' _ _ g1, ?_⟩
        refine ⟨_, e2, l2, z, rfl, ch2.same s', _, rfl, _, rfl, ?_⟩
        have ft := filter_take (g := fun z => !memB e2 l2 z) hz
        cases hm : (!memB e2 l2 z) with
        | true =>
          rw [hm, if_pos rfl] at ft
          refine if_pos_of rfl ?_
          refine ⟨_, rfl, _, hD', ?_, fun b o eb => ?_, ?_⟩
          · rw [List.length_map]
            have h3 := List.length_filter_le (fun z => !memB e2 l2 z) (l1.take i)
            have h4 : (l1.take i).length ≤ l1.length := by rw [List.length_take]; omega
            exact small1000 (by omega)
          · rw [upd_ne (ne_of_none eb hD)]
            exact s' b o eb
          · rw [ft, List.map_append]
            exact upd_same
        | false =>
          rw [hm, if_neg (by decide), List.append_nil] at ft
          refine if_neg_of rfl ?_
          exact ⟨s', by rw [ft]; exact hD'⟩
      · rintro H' ⟨s', hD'⟩
        rw [List.length_map, List.take_length] at hD'
        refine make_ch (CB := CB) (tup := false) (e := true) (ns := l1.filter (fun z => !memB e2 l2 z)) (SqL.of hD') (fun z hz => ch1.prm z (List.mem_filter.mp hz).1) (by have := List.length_filter_le (fun z => !memB e2 l2 z) l1; omega) fun r l' H2 mem len ch' s2 => ?_
        have hl := List.length_filter_le (fun z => !memB e2 l2 z) l1
        have mem2 : ∀ z, z ∈ l' ↔ z ∈ l1 ∧ (!memB e2 l2 z) = true := fun z => (mem z).trans List.mem_filter
        exact q r l' H2 ch' (by omega) (fun z => by
          rw [true_or_l]
          have := mem2 z
          unfold memB at this ⊢
          cases e2 <;> by_cases c : z ∈ l1 <;> by_cases c2 : z ∈ l2 <;> simp_all) (s'.trans s2)
    | false =>
      refine if_neg_of rfl ?_
      refine ⟨_, rfl, b, C, dy, _, _, rfl, g1, T.cl, T.nE, chF_e _ _, _, rfl, ?_⟩
      cases e2 with
      | true =>
        refine if_pos_of rfl ?_
        refine ⟨_, rfl, b, C, dy, _, _, rfl, g1, T.cl, T.nP, chF_p _ _, u, rfl, ⟨_, .inl (.inl g2)⟩, fun D hD => lc_tup (K := K) (a := u) (xs := l2.map V.int) (fun i H' => Same H H' ∧ H' D = some (.lst (((l2.take i).filter (fun z => !memB false l1 z)).map V.int)))
          ⟨same_upd hD, upd_same⟩ (fun i H' _ h => Evl.ex_t h.1 (.inl (.inl g2))) ?_ ?_⟩
        · rintro i y H' hi ⟨s', hD'⟩
          obtain ⟨z, rfl, hz⟩ := item_int hi
          refine ⟨rfl, _, rfl, _, rfl, _, _, _, rfl, s' _ _ h1, ?_⟩
          refine ⟨_, false, l1, z, rfl, ch1.same s', _, rfl, _, rfl, ?_⟩
          have ft := filter_take (g := fun z => !memB false l1 z) hz
          cases hm : (!memB false l1 z) with
          | true =>
            rw [hm, if_pos rfl] at ft
            refine if_pos_of rfl ?_
            refine ⟨_, rfl, _, hD', ?_, fun b o eb => ?_, ?_⟩
            · rw [List.length_map]
              have h3 := List.length_filter_le (fun z => !memB false l1 z) (l2.take i)
              have h4 : (l2.take i).length ≤ l2.length := by rw [List.length_take]; omega
              exact small1000 (by omega)
            · rw [upd_ne (ne_of_none eb hD)]
              exact s' b o eb
            · rw [ft, List.map_append]
              exact upd_same
          | false =>
            rw [hm, if_neg (by decide), List.append_nil] at ft
            refine if_neg_of rfl ?_
            exact ⟨s', by rw [ft]; exact hD'⟩
        · rintro H' ⟨s', hD'⟩
          rw [List.length_map, List.take_length] at hD'
          refine make_ch (CB := CB) (tup := false) (e := true) (ns := l2.filter (fun z => !memB false l1 z)) (SqL.of hD') (fun z hz => ch2.prm z (List.mem_filter.mp hz).1) (by have := List.length_filter_le (fun z => !memB false l1 z) l2; omega) fun r l' H2 mem len ch' s2 => ?_
          have hl := List.length_filter_le (fun z => !memB false l1 z) l2
          have mem2 : ∀ z, z ∈ l' ↔ z ∈ l2 ∧ (!memB false l1 z) = true := fun z => (mem z).trans List.mem_filter
          exact q r l' H2 ch' (by omega) (fun z => by
            have := mem2 z
            unfold memB at this ⊢
            by_cases c : z ∈ l2 <;> by_cases c2 : z ∈ l1 <;> simp_all) (s'.trans s2)
      | false =>
        refine if_neg_of rfl ?_
        refine ⟨_, rfl, a, C, dx, _, _, rfl, h1, T.cl, T.nP, chF_p _ _, _, rfl, b, C, dy, _, _, rfl, g1, T.cl, T.nP, chF_p _ _, ?_⟩
        refine cat_use (xs := l1) (ys := l2) (.inl (.inl h2)) (.inl (.inl g2)) few fun c H' hc s' => ?_
        refine make_ch (CB := CB) (tup := true) (e := false) (ns := l1 ++ l2) hc (fun z hz => (List.mem_append.mp hz).elim (ch1.prm z) (ch2.prm z)) (by rw [List.length_append]; exact few) fun r l' H2 mem len ch' s2 => ?_
        rw [List.length_append] at len
        exact q r l' H2 ch' len (fun z => by
          have := mem z
          rw [List.mem_append] at this
          unfold memB
          by_cases c1 : z ∈ l1 <;> by_cases c2 : z ∈ l2 <;> simp_all) (s'.trans s2)
abbrev s_ceq : Stmt := inClass (top 14) 13
theorem sc_ceq : FnScope ["self", "other"] ["self", "other"] (defScope s_ceq) := ⟨rfl, rfl, rfl, by decide +kernel, rfl, by decide +kernel, by decide +kernel⟩
def spCeq (C : Addr) : Sp := fun vs H Q _ => ∃ (a b : Addr) (e1 e2 : Bool) (l1 l2 : List Int), vs = [.ref a, .ref b] ∧ CharsAt C H a e1 l1 ∧ CharsAt C H b e2 l2 ∧ Q (.bl (decide (e1 = e2 ∧ l1 = l2))) H
theorem ok_ceq {f C : Addr} {fd : FuncData} (TT : Txt mg) (T : ChT K mg C) (F : Fun K "__eq__" "Chars.__eq__" s_ceq f fd) : FnOk P w K mg base CX0 1 f fd ["self", "other"] (spCeq C) := by
  refine F.ok sc_ceq (fun vs H Q E h => ?_) (fun cdv A outer s H vs Q E hr h => ?_)
  · obtain ⟨a, b, _, _, _, _, rfl, _⟩ := h
    rfl
  · obtain ⟨a, b, e1, e2, l1, l2, rfl, ch1, ch2, q⟩ := h
    obtain ⟨dx, t, h1, h2⟩ := ch1.ob
    obtain ⟨dy, u, g1, g2⟩ := ch2.ob
    refine ⟨_, (pss_one (ps_ret (pe_and (pe_callB (C8.call_isC T.isC) (by rfl) TT.isinstance boot_isinstance (pa_cons (pv 1) (pa_cons (pe_glob (v := .ref C) (by rfl) T.g rfl) pa_nil))) (pe_and (pe_cmpR op_eq (pe_fld (pv 0) rfl) (pe_fld (pv 1) rfl) (nomark _)) (pe_one (pe_cmpR (op_eqD (hu64 hr)) (pe_fld (pv 0) rfl) (pe_fld (pv 1) rfl) (nomark _))))))), ?_⟩
    refine ⟨_, rfl, b, dy, _, rfl, g1, _, rfl, if_pos_of rfl ?_⟩
    refine ⟨_, rfl, a, C, dx, _, _, rfl, h1, T.cl, T.nE, chF_e _ _, _, rfl, b, C, dy, _, _, rfl, g1, T.cl, T.nE, chF_e _ _, rfl, _, rfl, ?_⟩
    by_cases c : e1 = e2
    · refine if_pos_of (decide_eq_true (by rw [c])) ?_
      refine ⟨_, rfl, a, C, dx, _, _, rfl, h1, T.cl, T.nP, chF_p _ _, _, rfl, b, C, dy, _, _, rfl, g1, T.cl, T.nP, chF_p _ _, _, _, dp_tup (.inl (.inl h2)), dp_tup (.inl (.inl g2)), shaped_intsT _, shaped_intsT _, ?_⟩
      rw [eqv_intsT]
      have z : decide (e1 = e2 ∧ l1 = l2) = decide (l1 = l2) := by simp [c]
      rw [z] at q
      exact q
    · refine if_neg_of (decide_eq_false fun z => c (V.bl.inj z)) ?_
      rw [decide_eq_false fun z => c z.1] at q
      exact q
abbrev s_cbool : Stmt := inClass (top 14) 14
theorem sc_cbool : FnScope ["self"] ["self"] (defScope s_cbool) := ⟨rfl, rfl, rfl, by decide +kernel, rfl, by decide +kernel, by decide +kernel⟩
def spCbool (C : Addr) : Sp := fun vs H Q _ => ∃ (a : Addr) (e : Bool) (l : List Int), vs = [.ref a] ∧ CharsAt C H a e l ∧ Q (.bl (e || !l.isEmpty)) H
theorem ok_cbool {f C : Addr} {fd : FuncData} (TT : Txt mg) (T : ChT K mg C) (F : Fun K "__bool__" "Chars.__bool__" s_cbool f fd) : FnOk P w K mg base CX0 1 f fd ["self"] (spCbool C) := by
  refine F.ok sc_cbool (fun vs H Q E h => ?_) (fun cdv A outer s H vs Q E hr h => ?_)
  · obtain ⟨a, e, l, rfl, _⟩ := h
    rfl
  · obtain ⟨a, e, l, rfl, ch, q⟩ := h
    obtain ⟨dx, t, h1, h2⟩ := ch.ob
    refine ⟨_, (pss_one (ps_ret (pe_callTy cr_boolT (by rfl) TT.bool boot_bool (pa_cons (pe_orT (pe_fld (pv 0) rfl) (pe_one (pe_fld (pv 0) rfl))) pa_nil)))), ?_⟩
    refine ⟨_, rfl, a, C, dx, _, _, rfl, h1, T.cl, T.nE, chF_e _ _, e, rfl, ?_⟩
    cases e with
    | true => exact if_pos_of rfl (.inl ⟨_, rfl, q⟩)
    | false =>
      refine if_neg_of rfl ?_
      refine ⟨_, rfl, a, C, dx, _, _, rfl, h1, T.cl, T.nP, chF_p _ _, .inr ⟨t, _, rfl, .inl (.inl h2), ?_⟩⟩
      have z : (l.map V.int).isEmpty = l.isEmpty := by cases l <;> rfl
      rw [z]
      exact q
abbrev s_cevery : Stmt := inClass (top 14) 1
theorem sc_cevery : FnScope ["cls"] ["cls"] (defScope s_cevery) := ⟨rfl, rfl, rfl, by decide +kernel, rfl, by decide +kernel, by decide +kernel⟩
def spCevery (C : Addr) (e : Bool) : Sp := fun vs H Q _ => vs = [.ref C] ∧ ∀ r H', CharsAt C H' r e [] → Same H H' → Q (.ref r) H'
theorem ok_cevery {f C CB : Addr} {fd : FuncData} (T : ChT K mg C) (F : Fun K "every" "Chars.every" s_cevery f fd) (c_cit : Ma P w K mg base 3 C (spCI C CB true K)) : FnOk P w K mg base CX0 5 f fd ["cls"] (spCevery C true) := by
  refine F.ok sc_cevery (fun vs H Q E h => ?_) (fun cdv A outer s H vs Q E hr h => ?_)
  · obtain ⟨rfl, _⟩ := h
    rfl
  · obtain ⟨rfl, q⟩ := h
    refine ⟨_, (pss_one (ps_ret (pe_maL (i := 0) c_cit hr rfl (pa_cons pe_bl (pa_cons (pe_tup pa_nil) pa_nil))))), ?_⟩
    refine ⟨rfl, (by show 0 ≤ sizeLine; decide), fun t nt => ?_⟩
    refine make_ch (CB := CB) (tup := true) (e := true) (ns := []) (.inl (.inl upd_same)) (fun _ h => nomatch h) (by decide) fun r l H' mem len ch s' => ?_
    have el : l = [] := List.length_eq_zero_iff.mp (Nat.le_zero.mp len)
    subst el
    exact q r H' ch ((same_upd nt).trans s')
/-! bool(x) and x == y, where y is no instance; classmethods by FnR; C(..) in a try -/
section
variable {X : Cx} {C : Addr} {m : Str} {sp : Sp} {k j : Nat}
/-- bool(x) of an instance -/
def rBoolOwn (C : Addr) (sp : Sp) : List V → Hp → VK → Prop := fun xs H Q => ∃ a dx fs, xs = [.ref a] ∧ H a = some (.ins C dx fs) ∧ sp [.ref a] H (fun v H' => ∃ c : Bool, v = .bl c ∧ Q (.bl c) H') E0
theorem new_bool_any {prog : Program} {w : World} (x : Value) : MeetsIn prog w (Builtin.«bool.__new__» ⟨[.type "bool", x], []⟩)
    (fun A R s => wpAny (model prog w) A.in1 (truthy x) (fun b s1 => R (.ok (.ret (.bool b))) s1) (fun e s1 => R (.error e) s1) s) :=
  .of_wp fun A R s h => by
    have no_bool := F.conv_sub_bool
    unfold Builtin.«bool.__new__»
    generalize same : truthy = TX
    wp_walk
    subst same
    refine wpAny_mono h (fun b s1 hR => ?_) fun _ _ z => z
    exact wpAny_pure ⟨_, rfl, hR⟩
theorem cr_boolOwn (c : Me X.prog X.w X.K X.mg X.base k C "__bool__" sp) (hr : Room j X.A) (hk : k + 2 ≤ j := by decide) : CallR X (.type "bool") (rBoolOwn C sp) := by
  obtain ⟨f, fd, ps, M, F, b⟩ := c.ex
  intro pins s σ H xs us Q I r h
  obtain ⟨a, dx, fs, rfl, ha, q⟩ := h
  obtain rfl := Vals.ref1 r
  obtain ⟨ox, od, J⟩ := inst_of I ha
  obtain ⟨mm, hF⟩ := I.fr
  have many : ([Value.ref a] : List Value).length = ps.length := F.len [.ref a] _ _ _ q
  have bound := b s [.ref a] I.kIn (by rw [List.append_nil]; exact many)
  rw [List.append_nil] at bound
  refine callType_newIn PySem.F.called_bool PySem.F.newNe_bool (PySem.F.typeCall_bool_1 _) (PySem.F.newCall_bool_1 _) (fun obj => PySem.F.args_object_init_2 obj _) PySem.F.entry_bool_new (new_bool_any _) ?_
  refine PySem.W.truthy_K hF I.ok.mod.kin J M.at_ M.fn (wpAny_call (codeAny_mono (F.run _ X.stack s H ⟨[.ref a], []⟩ [.ref a] [.ref a] _ E0 ((hr.mono hk).in1.in1) (I.env0.in1.in1) bound (.cons rfl .nil) q) fun r s' hq => ?_))
  cases r with
  | error e => exact False.elim hq
  | ok fl =>
    cases fl with
    | ret u =>
      obtain ⟨z', H', I', rz, d, ez, qz⟩ := I.after hq
      subst ez
      cases (show u = Value.bool d from rz)
      exact ⟨rfl, .bl d, H', I', rfl, qz⟩
    | next => exact False.elim hq
    | brk => exact False.elim hq
    | cont => exact False.elim hq
/-- x == y, y a tuple -/
def rOwnT (C : Addr) (sp : Sp) : R2 := fun x y H Q => ∃ a b dx fs zs, x = .ref a ∧ y = .ref b ∧ H a = some (.ins C dx fs) ∧ H b = some (.tup zs) ∧ sp [x, y] H Q E0
theorem op_eq_ownT (c : Me X.prog X.w X.K X.mg X.base k C "__eq__" sp) (hr : Room j X.A) (nf : PySem.W.subIn X.K (.type "tuple") (.ref C) = some false) (hk : k ≤ j := by decide) : OpR X (compareOp .Eq) (rOwnT C sp) := by
  obtain ⟨f, fd, ps, M, F, b⟩ := c.ex
  intro pins s σ H x y v u Q I rx ry h
  obtain ⟨a, b', dx, fs, zs, rfl, rfl, ha, hb, q⟩ := h
  cases (show v = Value.ref a from rx)
  cases (show u = Value.ref b' from ry)
  obtain ⟨ox, od, J⟩ := inst_of I ha
  obtain ⟨_, _, _, o, h1, h2, _⟩ := (show ObjOk X.prog X.w H s.heap b' (.tup zs) from I.hok b' _ hb)
  obtain ⟨mm, hF⟩ := I.fr
  show wpAny _ _ (richCompare .Eq (.ref a) (.ref b')) _ _ _
  refine PySem.W.cmp_K (op := .Eq) (tb := .type "tuple") hr.units0 hF I.ok.mod.kin J (fun A Q E s k q => wpAny_typeOf_ref (k _ _ h1) (by rw [h2]; exact q)) (by unfold PySem.W.notFirst; rw [nf]; simp) M.at_ M.fn ?_
  refine wpAny_mono (run_fn (us := [.ref a, .ref b']) (vs := [.ref a, .ref b']) F (hr.mono hk) b .nil pass0 I (.cons rfl (.cons rfl .nil)) q) (fun u' s' z => ?_) fun _ _ x => x
  obtain ⟨z', H', I', rz, qz⟩ := z
  exact SlX.cmpback rz ⟨z', H', I', rz, qz⟩
end
/-- a classmethod by what its call does -/
structure CmR (P : Program) (w : World) (K : PySem.W.Frag) (mg : Str → Option Value) (base : Heap) (k : Nat) (C : Addr) (m : Str) (sp : Sp) : Prop where
  ex : ∃ (mc : Value) (p g : Addr), ClX.CRead K C mc ∧ ClX.CMet K C mc m p g ∧ FnR P w K mg base CX0 k g sp
theorem pe_cmR {X : Cx} {C : Addr} {m : Str} {sp : Sp} {k j : Nat} {o e : Expr} {es : List Expr} {ta : TE} {t : TA} {apos pos : Pos} {pl : Sem Bool} (c : CmR X.prog X.w X.K X.mg X.base k C m sp) (hr : Room j X.A) (he : PE X o ta) (ha : PA X (e :: es) t) (hk : k ≤ j := by decide)
    (hst : starEach (e :: es) X.env = (false, eval e X.env) :: starEach es X.env := by rfl) (hpl : (backTo pos (starEach es X.env)).any (·.1) = false := by rfl)
    (ht : eval (.Call (.Attribute o m apos) (e :: es) [] pos) X.env = (do
      let got ← eval o X.env
      standAt apos.atName
      let (fn, fst) ← holding [got] (getMethod got m pl)
      callWith pos fn fst (backTo pos (starEach (e :: es) X.env)) (backToKw pos (keywordEach [] X.env))) := by rfl) :
    PE X (.Call (.Attribute o m apos) (e :: es) [] pos) (ClX.tCMeth C sp E0 ta t) := by
  obtain ⟨mc, p, g, r, c, F⟩ := c.ex
  exact ClX.pe_cmeth he r c F (hr.mono hk) pass0 ha hst hpl ht
theorem pe_cmR0 {X : Cx} {C : Addr} {m : Str} {sp : Sp} {k j : Nat} {o : Expr} {ta : TE} {apos pos : Pos} {pl : Sem Bool} (c : CmR X.prog X.w X.K X.mg X.base k C m sp) (hr : Room j X.A) (he : PE X o ta) (hk : k ≤ j := by decide)
    (ht : eval (.Call (.Attribute o m apos) [] [] pos) X.env = (do
      let got ← eval o X.env
      standAt apos.atName
      let (fn, fst) ← holding [got] (getMethod got m pl)
      callWith pos fn fst (backTo pos (starEach [] X.env)) (backToKw pos (keywordEach [] X.env))) := by rfl) :
    PE X (.Call (.Attribute o m apos) [] [] pos) (ClX.tCMeth C sp E0 ta tNil) := by
  obtain ⟨mc, p, g, r, c, F⟩ := c.ex
  refine ⟨fun pins s σ H Q I h => ?_⟩
  refine PySem.W.methodCall_KW (pl := pl) (thn (he.run pins s σ H _ I h) fun u s1 ⟨x, H1, I1, rx, ex, q⟩ => ?_) ht
  subst ex
  obtain rfl : u = Value.ref C := rx
  refine ClX.getmethcm_ok I1 r c fun s2 I2 => ?_
  have hq := ClX.pin_at I2
  show wpAny _ _ (callWith pos (Value.ref s1.heap.objs.size) [] (backTo pos (starEach [] X.env)) []) _ _ _
  refine PySem.W.callWith_M0 (K := X.K) (g := g) (self := .ref C) ?_ c.fi ?_
  · exact ⟨hq, I2.kIn⟩
  · exact ClX.run_cm (us := []) (vs := []) F (hr.mono hk) pass0 I2 .nil q
/-- C(..) whose __init__ may raise, in a try that takes it -/
def tMakeS (C : Addr) (sp : Sp) (E : L2.St → XK) (t : TA) : TE := fun σ H Q => tMake C sp [] (E σ) t σ H Q
theorem pe_maX {X : Cx} {W : WX} {C : Addr} {x : Str} {sp : Sp} {k j : Nat} {p pos : Pos} {e : Expr} {es : List Expr} {t : TA} (c : Ma X.prog X.w X.K X.mg X.base k C sp) (hr : Room j X.A) (tk : L2N.Takes X W) (hm : X.mg x = some (.ref C)) (ha : PA X (e :: es) t) (hk : k + 1 ≤ j := by decide) (hg : Gl X x := by rfl)
    (hdb : (x == ("__debug__" : Str)) = false := by decide) (he : starEach (e :: es) X.env = (false, eval e X.env) :: starEach es X.env := by rfl) (hpl : (backTo pos (starEach es X.env)).any (·.1) = false := by rfl) :
    PE X (.Call (.Name x p) (e :: es) [] pos) (tMakeS C sp (WE W) t) := by
  obtain ⟨f, fd, ps, M, F, b⟩ := c.ex
  refine ⟨fun pins s σ H Q I h => ?_⟩
  refine wpAny_Call_Name_kw (ld_glob I hg hm ?_ hdb)
  refine PySem.W.callWith_K (h₀ := X.base) I.ok.mod.kin M.kp (thn (ha.run pos pins s σ H _ I h) fun us s1 ⟨vs, H1, I1, r, q⟩ => ⟨I1.kIn, ?_⟩) he hpl
  generalize ez : s1.heap.objs.size = z
  have le0 : s1.heap.objs.size ≤ z := by rw [ez]; exact Nat.le_refl z
  have asks := q (z + 1) z (I1.hok.fresh (Nat.le_succ_of_le le0)) (I1.hok.fresh le0) (Nat.ne_of_lt (Nat.lt_succ_self z))
  have laid := Inv.made (C := C) I1
  rw [ez] at laid
  have rel : Vals (V.ref (z + 1) :: vs) (Value.ref (z + 1) :: us) := .cons rfl r
  rw [List.append_nil] at asks
  have many : (Value.ref (z + 1) :: us).length = ps.length := by
    rw [← rel.length]
    exact F.len _ _ _ _ asks
  have bound := b _ (Value.ref (z + 1) :: us) laid.kIn (by rw [List.append_nil]; exact many)
  rw [List.append_nil] at bound
  have runs := F.run _ X.stack _ _ ⟨Value.ref (z + 1) :: us, []⟩ (Value.ref (z + 1) :: us) _ _ (WE W σ) ((hr.mono hk).make C us []) (laid.env0.make C us []) bound rel asks
  subst ez
  refine wpAny_call (make_map (f := f) I1.kIn M.makes M.init (beq_iff_eq.mp M.fn) (codeAny_mono runs fun r' s' back => ?_))
  cases r' with
  | error er => exact L2N.passAt tk σ pins _ _ er s' laid back
  | ok fl =>
    cases fl with
    | ret u =>
      obtain ⟨v, H', I3, rv, ev, q3⟩ := laid.after back
      subst ev
      cases (show u = Value.none from rv)
      exact ⟨rfl, .ref _, H', I3, rfl, q3⟩
    | next => exact False.elim back
    | brk => exact False.elim back
    | cont => exact False.elim back
theorem kit_ownF {C : Addr} {U : String} (h2 : PySem.W.isClsIn K C = true) (h3 : PySem.W.typeIn K (.ref C) = some (.type "type")) (h : PySem.W.subIn K (.type U) (.ref C) = some false) : PySem.W.kitOne K (.type U) (.ref C) = some false := by
  have h2' : (PySem.W.clsIn K C).isSome = true := h2
  have e2 : ((PySem.W.clsIn K C).isSome && PySem.W.typeIn K (.ref C) == some (.type "type")) = true := by rw [h2', h3] <;> rfl
  unfold PySem.W.kitOne
  rw [if_neg (by simp)]
  show (if ((PySem.W.clsIn K C).isSome && PySem.W.typeIn K (.ref C) == some (.type "type")) = true then PySem.W.subIn K (.type U) (.ref C) else none) = some false
  rw [if_pos e2]
  exact h
theorem memB_inj {e : Bool} {l m : List Int} (hl : l.Pairwise (· < ·)) (hm : m.Pairwise (· < ·)) (h : ∀ p, memB e l p = memB e m p) : l = m := sorted_uniq hl hm fun q => by
  have z := h q
  unfold memB at z
  cases e with
  | true =>
    rw [if_pos rfl, if_pos rfl] at z
    have := congrArg not z
    rw [Bool.not_not, Bool.not_not] at this
    exact decide_eq_decide.mp this
  | false =>
    rw [if_neg (by decide), if_neg (by decide)] at z
    exact decide_eq_decide.mp z
/-- the other set: all but these -/
theorem memB_not (e : Bool) (l : List Int) (p : Int) : memB (!e) l p = !memB e l p := by
  unfold memB
  cases e <;> simp
theorem memB_nil (e : Bool) (p : Int) : memB e [] p = e := by
  unfold memB
  cases e <;> simp
theorem bool_iff {a b : Bool} {p : Prop} (h1 : a = true ↔ p) (h2 : b = true ↔ p) : a = b := by
  cases a <;> cases b <;> simp_all
theorem and_none {e : Bool} {l m : List Int} (h : ∀ p, memB (and e (!e)) l p = and (memB e m p) (memB (!e) m p)) : and e (!e) = false ∧ l = [] := by
  have e1 : and e (!e) = false := by cases e <;> rfl
  refine ⟨e1, ?_⟩
  match l with
  | [] => rfl
  | a :: r =>
    have z := h a
    rw [e1, memB_not] at z
    unfold memB at z
    cases e <;> by_cases c : a ∈ m <;> simp_all
theorem or_all {e : Bool} {l m : List Int} (h : ∀ p, memB (or e (!e)) l p = or (memB e m p) (memB (!e) m p)) : or e (!e) = true ∧ l = [] := by
  have e1 : or e (!e) = true := by cases e <;> rfl
  refine ⟨e1, ?_⟩
  match l with
  | [] => rfl
  | a :: r =>
    have z := h a
    rw [e1, memB_not] at z
    unfold memB at z
    cases e <;> by_cases c : a ∈ m <;> simp_all
/-- a set is made at x, what follows is any word -/
theorem make_at {C CB : Addr} {tup : Bool} {H1 : Hp} {e : Bool} {a x dx : Addr} {ns : List Int} {R : VK} (hx : H1 x = none) (hdx : H1 dx = none) (hS : if tup = true then SqT K H1 a (ns.map V.int) else SqL K H1 a (ns.map V.int)) (hp : ∀ q ∈ ns, Pr q ∧ q < 2 ^ 62) (few : ns.length < 64)
    (k : ∀ (l : List Int) (H2 : Hp), (∀ q, q ∈ l ↔ q ∈ ns) → l.length ≤ ns.length → CharsAt C H2 x e l → Same H1 H2 → R .non H2) :
    spCI C CB tup K (.ref x :: ([.bl e, .ref a] ++ [])) (upd (upd H1 dx (.own x)) x (.ins C dx [])) R E0 := by
  have s1 : Same H1 (upd (upd H1 dx (.own x)) x (.ins C dx [])) := fun b o eb => by
    rw [upd_ne (ne_of_none eb hx), upd_ne (ne_of_none eb hdx)]
    exact eb
  refine ⟨x, dx, a, e, ns, rfl, upd_same, ?_, fun q hq => (hp q hq).2, few, fun _ l H' mem len ch keep => k l H' mem len ch fun b o eb => keep b o (s1 b o eb) (ne_of_none eb hx), fun i b hi hb _ => absurd (hp b (List.mem_of_getElem? hi)).1 hb⟩
  cases tup with
  | true =>
    have h : SqT K H1 a (ns.map V.int) := hS
    show SqT K _ a (ns.map V.int)
    exact Evl.ex_t s1 h
  | false =>
    have h : SqL K H1 a (ns.map V.int) := hS
    exact s1.seq h
abbrev s_csub : Stmt := inClass (top 14) 11
theorem sc_csub : FnScope ["self", "other"] ["self", "other"] (defScope s_csub) := ⟨rfl, rfl, rfl, by decide +kernel, rfl, by decide +kernel, by decide +kernel⟩
theorem ok_csub {f C : Addr} {fd : FuncData} (T : ChT K mg C) (F : Fun K "__sub__" "Chars.__sub__" s_csub f fd) (c_and : Me P w K mg base 5 C "__and__" (spAnd C and)) (c_inv : Me P w K mg base 5 C "__invert__" (spInv C)) : FnOk P w K mg base CX0 6 f fd ["self", "other"] (spAnd C fun x y => and x (!y)) := by
  refine F.ok sc_csub (fun vs H Q E h => ?_) (fun cdv A outer s H vs Q E hr h => ?_)
  · obtain ⟨a, b, _, _, _, _, rfl, _⟩ := h
    rfl
  · obtain ⟨a, b, e1, e2, l1, l2, rfl, ch1, ch2, few, q⟩ := h
    obtain ⟨dx, t, h1, h2⟩ := ch1.ob
    obtain ⟨dy, u, g1, g2⟩ := ch2.ob
    refine ⟨_, (pss_one (ps_ret (pe_op (op_own2 c_and hr T.sf) (pv 0) (pe_un (un_inv1 c_inv hr) (pv 1))))), ?_⟩
    refine ⟨_, rfl, _, rfl, b, dy, _, rfl, g1, b, e2, l2, rfl, ch2, by omega, fun r H' ch3 s3 => ?_⟩
    obtain ⟨dz, v, y1, y2⟩ := ch3.ob
    refine ⟨a, r, _, _, _, _, rfl, rfl, s3 _ _ h1, y1, a, r, e1, !e2, l1, l2, rfl, ch1.same s3, ch3, few, fun r' l' H2 ch4 len mem s4 => q r' l' H2 ch4 len (fun p => ?_) (s3.trans s4)⟩
    have z := mem p
    rw [memB_not] at z
    exact z
section
variable {C a b : Addr} {e1 e2 : Bool} {l1 l2 : List Int} {H : Hp} {Q : VK}
/-- the readings of the operators over sets -/
theorem use2 {g : Bool → Bool → Bool} (ch1 : CharsAt C H a e1 l1) (ch2 : CharsAt C H b e2 l2) (few : l1.length + l2.length < 64)
    (k : ∀ (r : Addr) (l : List Int) (H' : Hp), CharsAt C H' r (g e1 e2) l → l.length ≤ l1.length + l2.length → (∀ p, memB (g e1 e2) l p = g (memB e1 l1 p) (memB e2 l2 p)) → Same H H' → Q (.ref r) H') : rOwn2 C (spAnd C g) (.ref a) (.ref b) H Q := by
  obtain ⟨dx, t, h1, _⟩ := ch1.ob
  obtain ⟨dy, u, g1, _⟩ := ch2.ob
  exact ⟨a, b, _, _, _, _, rfl, rfl, h1, g1, a, b, e1, e2, l1, l2, rfl, ch1, ch2, few, k⟩
theorem use1 (ch1 : CharsAt C H a e1 l1) (few : l1.length < 64) (k : ∀ (r : Addr) (H' : Hp), CharsAt C H' r (!e1) l1 → Same H H' → Q (.ref r) H') : rOwn1 C (spInv C) (.ref a) H Q := by
  obtain ⟨dx, t, h1, _⟩ := ch1.ob
  exact ⟨a, dx, _, rfl, h1, a, e1, l1, rfl, ch1, few, k⟩
theorem useEq (ch1 : CharsAt C H a e1 l1) (ch2 : CharsAt C H b e2 l2) (k : Q (.bl (decide (e1 = e2 ∧ l1 = l2))) H) : rOwn2 C (spCeq C) (.ref a) (.ref b) H Q := by
  obtain ⟨dx, t, h1, _⟩ := ch1.ob
  obtain ⟨dy, u, g1, _⟩ := ch2.ob
  exact ⟨a, b, _, _, _, _, rfl, rfl, h1, g1, a, b, e1, e2, l1, l2, rfl, ch1, ch2, k⟩
theorem useTru {R : Bool → Hp → Prop} (ch1 : CharsAt C H a e1 l1) (k : R (e1 || !l1.isEmpty) H) : rTruOwn C (spCbool C) (.ref a) H R := by
  obtain ⟨dx, t, h1, _⟩ := ch1.ob
  exact ⟨a, dx, _, rfl, h1, a, e1, l1, rfl, ch1, _, rfl, k⟩
theorem useIn {p : Int} (ch1 : CharsAt C H a e1 l1) (k : Q (.bl (memB e1 l1 p)) H) : rOwnIn false C (spCont C) (.int p) (.ref a) H Q := by
  obtain ⟨dx, t, h1, _⟩ := ch1.ob
  exact ⟨a, dx, _, rfl, h1, a, e1, l1, p, rfl, ch1, _, rfl, k⟩
/-- two sets with the same members -/
theorem eq_sets {H' : Hp} (ch1 : CharsAt C H a e1 l1) (ch2 : CharsAt C H' b e2 l2) (he : e1 = e2) (h : ∀ p, memB e1 l1 p = memB e2 l2 p) : decide (e1 = e2 ∧ l1 = l2) = true := by
  subst he
  exact decide_eq_true ⟨rfl, memB_inj ch1.srt ch2.srt h⟩
end
/-! list(zip(xs, ys)) of two lists of one length -/
/-- the zip and what belongs to it, k pairs drawn; from the first pair on a tuple of it is out -/
def ZS (z TI TO i1 i2 a b S : Addr) (k : Nat) (h : Heap) : Prop := IsPair h TI (.ref i1) (.ref i2) ∧ (∃ x y, IsPair h TO x y) ∧ h.IsListIter i1 a k ∧ h.IsListIter i2 b k ∧
  (IsZip h z TI TO .none ∨ ∃ T f oT, IsZipHeld h z TI TO T f ∧ h.get? T = some oT ∧ T ≠ z ∧ T ≠ TO ∧ T ≠ i1 ∧ T ≠ i2 ∧ T ≠ S)
theorem ZS.at {z TI TO i1 i2 a b S : Addr} {k : Nat} {h h' : Heap} (Z : ZS z TI TO i1 i2 a b S k h) (n : S ≠ z ∧ S ≠ TI ∧ S ≠ TO ∧ S ≠ i1 ∧ S ≠ i2) (e : ∀ c o, c ≠ S → h.get? c = some o → h'.get? c = some o) : ZS z TI TO i1 i2 a b S k h' := by
  obtain ⟨hTI, ⟨x, y, hTO⟩, h1, h2, hz⟩ := Z
  refine ⟨e _ _ n.2.1.symm hTI, ⟨x, y, e _ _ n.2.2.1.symm hTO⟩, h1.at fun o q => e _ o n.2.2.2.1.symm q, h2.at fun o q => e _ o n.2.2.2.2.symm q, ?_⟩
  rcases hz with hz | ⟨T, f, oT, hz, hT, t1, t2, t3, t4, t5⟩
  · exact .inl (e _ _ n.1.symm hz)
  · exact .inr ⟨T, f, oT, e _ _ n.1.symm hz, e _ _ t5 hT, t1, t2, t3, t4, t5⟩
section
variable {X : Cx} {pins : List (Addr × Obj)} {σ : L2.St} {z TI TO i1 i2 a b S : Addr} {xs ys : List V}
theorem zip_drain {A : Around} {R : Result → Shared → Prop} {res : Value} (D : ZipApart z TI TO i1 i2 a b) (calm : A.handled = none) (Pv : Nat → Hp → Prop)
    (turn : ∀ k G T x y acc, Pv k G → G T = none → G S = some (.lst acc) → acc.length = k → xs[k]? = some x → ys[k]? = some y → Pv (k + 1) (upd (upd G T (.tup [x, y])) S (.lst (acc ++ [.ref T]))))
    (still : ∀ k G, Pv k G → SqL X.K G a xs ∧ SqL X.K G b ys) (same : xs.length = ys.length) (few : xs.length < 1000) (after : ∀ G t, Inv X pins σ G t → Pv xs.length G → R (.ok (.ret res)) t) :
    ∀ (m k : Nat) (G : Hp) (t : Shared) (acc : List V), m + k = xs.length → Inv X pins σ G t → Pv k G → G S = some (.lst acc) → acc.length = k → (∀ c ∈ [z, TI, TO, i1, i2], FpOk X pins G c) → ZS z TI TO i1 i2 a b S k t.heap →
      codeAny (model X.prog X.w) A (.builtin "list.extend.loop" ⟨[.ref S, .ref z, res], []⟩) R t := by
  intro m
  induction m with
  | zero =>
    intro k G t acc hk I hP hS hl hf Z
    obtain ⟨hTI, ⟨x0, y0, hTO⟩, h1, h2, hz⟩ := Z
    obtain ⟨its, rv, p, _⟩ := I.list (still k G hP).1
    obtain ⟨its2, rv2, p2, _⟩ := I.list (still k G hP).2
    have len1 := rv.length
    have out : its.toArray[k]? = none ∨ its2.toArray[k]? = none := .inl (by simp; omega)
    have ek : k = xs.length := by omega
    subst ek
    refine codeAny_builtin F.entry_extend_loop (Around.under_plainId F.plain_extend_loop _ ▸ ?_)
    show wpAny _ A.in1 (pyNext (.ref z) >>= _) _ _ t; refine wpAny_bind ?_
    rcases hz with hz | ⟨T, f, oT, hz, hT, _⟩
    · exact wpAny_pyNext_zip_end calm D hz hTI hTO h1 h2 p.isList p2.isList out fun h' hk => wpAny_pure (after G _ (I.turnedL (t' := t.toks) (ch := [z, TI, TO, i1, i2]) (fun c o hb q =>
        hk c o (fun q' => hb (by simp [q'])) (fun q' => hb (by simp [q'])) (fun q' => hb (by simp [q'])) (fun q' => hb (by simp [q'])) q) hf) hP)
    · exact wpAny_pyNext_zip_end_held calm D hz hT hTI h1 h2 p.isList p2.isList out fun h' hk => wpAny_pure (after G _ (I.turnedL (t' := t.toks) (ch := [z, TI, TO, i1, i2]) (fun c o hb q =>
        hk c o (fun q' => hb (by simp [q'])) (fun q' => hb (by simp [q'])) (fun q' => hb (by simp [q'])) q) hf) hP)
  | succ m ih =>
    intro k G t acc hk I hP hS hl hf Z
    have Z0 := Z
    obtain ⟨hTI, ⟨x0, y0, hTO⟩, h1, h2, hz⟩ := Z
    obtain ⟨its, rv, p, _⟩ := I.list (still k G hP).1
    obtain ⟨its2, rv2, p2, _⟩ := I.list (still k G hP).2
    have hx := List.getElem?_eq_getElem (l := xs) (i := k) (by omega)
    have hy := List.getElem?_eq_getElem (l := ys) (i := k) (by omega)
    obtain ⟨u, hu, ru⟩ := rv.get hx
    obtain ⟨u2, hu2, ru2⟩ := rv2.get hy
    obtain ⟨hlen, got, cap, rg, hSo⟩ := (show ObjOk X.prog X.w G t.heap S (.lst acc) from I.hok S _ hS)
    have nS : S ≠ z ∧ S ≠ TI ∧ S ≠ TO ∧ S ≠ i1 ∧ S ≠ i2 := by
      have ne : ∀ c ∈ [z, TI, TO, i1, i2], S ≠ c := fun c hc e => by
        have q := (hf c hc).1
        rw [← e, hS] at q
        cases q
      exact ⟨ne _ (by simp), ne _ (by simp), ne _ (by simp), ne _ (by simp), ne _ (by simp)⟩
    have gl : got.length = k := by rw [← rg.length, hl]
    have lin := line63
    have key : ∀ h', (∀ c o, c ≠ z → c ≠ TO → c ≠ i1 → c ≠ i2 → t.heap.get? c = some o → h'.get? c = some o) → IsPair h' t.heap.objs.size u u2 → ZS z TI TO i1 i2 a b S (k + 1) h' →
        wpAny (model X.prog X.w) A.in1 (updateSeq S (·.push (Value.ref t.heap.objs.size)) >>= fun _ => again (.builtin "list.extend.loop" ⟨[.ref S, .ref z, res], []⟩))
          (fun fin s' => match fin with | .done f => R (.ok f) s' | .again c' => c'.quiet = true ∧ codeAny (model X.prog X.w) A c' R s') (fun e s' => R (.error e) s') { t with heap := h' } := fun h' keep hT Z' => by
      have hS1 := keep S _ nS.1 nS.2.2.1 nS.2.2.2.1 nS.2.2.2.2 hSo
      have fresh := I.hok.fresh (Nat.le_refl t.heap.objs.size)
      have J1 : Inv X pins σ (upd G t.heap.objs.size (.tup [xs[k]'(by omega), ys[k]'(by omega)])) { t with heap := h' } :=
        I.turnedNew (t' := t.toks) (ch := [z, TI, TO, i1, i2]) (fun c o hb q => keep c o (fun q' => hb (by simp [q'])) (fun q' => hb (by simp [q'])) (fun q' => hb (by simp [q'])) (fun q' => hb (by simp [q'])) q) hf (Nat.le_refl _)
          ⟨by show 2 ≤ sizeLine; decide, [u, u2], .cons ru (.cons ru2 .nil), ⟨_, hT, rfl, _, rfl⟩⟩
      have nST : S ≠ t.heap.objs.size := ne_of_none hS fresh
      have hS2 : upd G t.heap.objs.size (.tup [xs[k]'(by omega), ys[k]'(by omega)]) S = some (.lst acc) := by
        rw [upd_ne nST]
        exact hS
      refine wpAny_bind (wpAny_updateSeq hS1 rfl (wpAny_pure ⟨plainId_quiet F.plain_extend_loop _, ?_⟩) (by rw [List.size_toArray]; omega) (by show (got.toArray.push _).size ≤ _; rw [Array.size_push, List.size_toArray]; omega))
      have J2 := J1.lset (t' := t.toks) (f := fun w => w.push (Value.ref t.heap.objs.size)) (its' := got ++ [Value.ref t.heap.objs.size]) (ys := acc ++ [V.ref t.heap.objs.size]) hS2 hS1 (by simp) (rg.append (.cons rfl .nil)) (by rw [List.length_append, hl]; show k + 1 ≤ _; omega)
      refine ih (k + 1) _ _ (acc ++ [V.ref t.heap.objs.size]) (by omega) J2 (turn k G _ _ _ acc hP fresh hS hl hx hy) upd_same (by rw [List.length_append, hl] <;> rfl) (fun c hcm => ⟨?_, (hf c hcm).2⟩) ?_
      · have q := (hf c hcm).1
        have c1 : c ≠ S := fun e => by rw [e, hS] at q; cases q
        have c2 : c ≠ t.heap.objs.size := fun e => by
          have e' : c = z ∨ c = TI ∨ c = TO ∨ c = i1 ∨ c = i2 := by simpa using hcm
          have lt : ∀ {d o}, t.heap.get? d = some o → d ≠ t.heap.objs.size := fun g => Nat.ne_of_lt (Heap.lt_size g)
          rcases e' with w | w | w | w | w
          · subst w
            rcases hz with hz | ⟨T, f, oT, hz, _⟩
            · exact lt hz e
            · exact lt hz e
          · exact lt (w ▸ hTI) e
          · exact lt (w ▸ hTO) e
          · obtain ⟨_, g, _⟩ := h1
            exact lt (w ▸ g) e
          · obtain ⟨_, g, _⟩ := h2
            exact lt (w ▸ g) e
        rw [upd_ne c1, upd_ne c2]
        exact q
      · exact Z'.at nS fun c o hc e => (Heap.get?_update_other _ _ (Ne.symm hc)).trans e
    have zl : z < t.heap.objs.size := by
      rcases hz with hz | ⟨T, f, oT, hz, _⟩
      · exact Heap.lt_size hz
      · exact Heap.lt_size hz
    have tl : TO < t.heap.objs.size := Heap.lt_size hTO
    have l1 : i1 < t.heap.objs.size := by obtain ⟨_, g, _⟩ := h1; exact Heap.lt_size g
    have l2 : i2 < t.heap.objs.size := by obtain ⟨_, g, _⟩ := h2; exact Heap.lt_size g
    have ls : S < t.heap.objs.size := Heap.lt_size hSo
    refine codeAny_builtin F.entry_extend_loop (Around.under_plainId F.plain_extend_loop _ ▸ ?_)
    show wpAny _ A.in1 (pyNext (.ref z) >>= _) _ _ t; refine wpAny_bind ?_
    rcases hz with hz | ⟨T, f, oT, hz, hT, t1, t2, t3, t4, t5⟩
    · refine wpAny_pyNext_zip_item D hz hTI hTO h1 h2 p.isList p2.isList (x := u) (y := u2) (by simpa using hu) (by simpa using hu2) fun h' z' TO' h1' h2' hT hsz keep => ?_
      exact key h' keep hT ⟨keep _ _ D.TIz D.TITO D.TIi1 D.TIi2 hTI, ⟨_, _, TO'⟩, h1', h2', .inr ⟨t.heap.objs.size, false, _, z', hT, Nat.ne_of_gt zl, Nat.ne_of_gt tl, Nat.ne_of_gt l1, Nat.ne_of_gt l2, Nat.ne_of_gt ls⟩⟩
    · refine wpAny_pyNext_zip_item_held D hz hT hTI h1 h2 p.isList p2.isList (x := u) (y := u2) (by simpa using hu) (by simpa using hu2) fun h' z' h1' h2' hT' hsz keep => ?_
      exact key h' (fun c o c1 _ c3 c4 e => keep c o c1 c3 c4 e) hT' ⟨keep _ _ D.TIz D.TIi1 D.TIi2 hTI, ⟨_, _, keep _ _ D.TOz D.TOi1 D.TOi2 hTO⟩, h1', h2', .inr ⟨T, true, _, z', keep _ _ t1 t3 t4 hT, t1, t2, t3, t4, t5⟩⟩
theorem zip_nolen : typeLookup (.type "zip") "__len__" = pure none := by rw [typeLookup_type, builtinLookup_eq_fast] <;> kernel_rfl
theorem zip_nohint : typeLookup (.type "zip") "__length_hint__" = pure none := by rw [typeLookup_type, builtinLookup_eq_fast] <;> kernel_rfl
/-- what is told of list(zip(xs, ys)): a word by the pairs made -/
def ZW (K : PySem.W.Frag) (a b : Addr) (xs ys : List V) (H : Hp) (Q : VK) : Prop := ∀ D, H D = none → ∃ Pv : Nat → Hp → Prop, Pv 0 (upd H D (.lst [])) ∧
  (∀ k G T x y acc, Pv k G → G T = none → G D = some (.lst acc) → acc.length = k → xs[k]? = some x → ys[k]? = some y → Pv (k + 1) (upd (upd G T (.tup [x, y])) D (.lst (acc ++ [.ref T])))) ∧
  (∀ k G, Pv k G → SqL K G a xs ∧ SqL K G b ys) ∧ ∀ G, Pv xs.length G → Q (.ref D) G
theorem call_list_zip {H : Hp} {s : Shared} {Q : VK} (hc : X.calm = true) (D : ZipApart z TI TO i1 i2 a b) (I : Inv X pins σ H s) (same : xs.length = ys.length) (few : xs.length < 1000)
    (hf : ∀ c ∈ [z, TI, TO, i1, i2], FpOk X pins H c) (hz : IsZip s.heap z TI TO .none) (hTI : IsPair s.heap TI (.ref i1) (.ref i2)) (hTO : ∃ x y, IsPair s.heap TO x y) (h1 : s.heap.IsListIter i1 a 0) (h2 : s.heap.IsListIter i2 b 0) (h : ZW X.K a b xs ys H Q) :
    wpAny (model X.prog X.w) X.A (call (.type "list") [.ref z]) (EP X pins σ Q) X.xe s := by
  refine callType_codes (Q₁ := fun obj t => obj = .ref s.heap.objs.size ∧ t = { s with heap := s.heap.push { cls := .type "list", data := .seq #[] } }) F.called_list (F.typeCall_list_1 _) F.entry_list_init (code_list_new _ ⟨rfl, rfl⟩) fun obj t ht => ?_
  obtain ⟨rfl, rfl⟩ := ht
  generalize eN : s.heap.objs.size = N
  have at0 : (s.heap.push { cls := .type "list", data := .seq #[] }).get? N = some { cls := .type "list", data := .seq #[] } := by rw [← eN]; exact Heap.get?_push_size _ rfl
  refine ⟨⟨_, at0, rfl⟩, F.args_list_init_2 _ _, ?_⟩
  show wpAny _ X.A.in1.in1 (Builtin.List.listItems (.ref N) >>= fun old => Builtin.List.listUpdate (.ref N) (fun _ => #[]) >>= fun _ => letGo old.toList.reverse >>= fun _ => Builtin.List.listExtendWith (.ref N) (.ref z) .none) _ _ _
  have lt : ∀ {d o}, s.heap.get? d = some o → d ≠ N := fun g => Nat.ne_of_lt (eN ▸ Heap.lt_size g)
  have nz : N ≠ z := (lt hz).symm
  refine wpAny_bind ?_; unfold Builtin.List.listItems
  refine wpAny_bind (wpAny_seqItems at0 rfl (wpAny_pure ?_))
  refine wpAny_bind ?_
  refine wpAny_updateSeq at0 rfl ?_
  have at1 := Heap.get?_update_self (Obj.mapSeq (fun _ => (#[] : Array Value))) at0 rfl
  refine wpAny_bind (wpAny_letGo ?_); unfold Builtin.List.listExtendWith
  have old0 : ∀ d o, s.heap.get? d = some o → (s.heap.push { cls := .type "list", data := .seq #[] }).get? d = some o := fun d o e => Heap.get?_push_of_some _ e
  have old : ∀ (g : Heap) (f : Obj → Obj), (∀ d o, s.heap.get? d = some o → g.get? d = some o) → ∀ d o, s.heap.get? d = some o → (g.update N f).get? d = some o := fun g f q d o e => (Heap.get?_update_other _ _ (lt e).symm).trans (q d o e)
  have old1 := old _ (Obj.mapSeq (fun _ => (#[] : Array Value))) old0
  have ty : ∀ (g : Heap), (∀ d o, s.heap.get? d = some o → g.get? d = some o) → Shared.TypeIs { s with heap := g } (.ref z) "zip" := fun g q => ⟨_, q _ _ hz, rfl⟩
  refine wpAny_bind (wpAny_typeOf (ty _ old1) ?_)
  have e1 : Builtin.List.listSameRef (.ref N) (.ref z) = false := by unfold Builtin.List.listSameRef; simp [nz]
  have e2 : (Value.type "zip" == Value.type "list" || Value.type "zip" == Value.type "tuple") = false := by decide
  simp only [e1, e2, Bool.or_false, Bool.or_self, Bool.false_eq_true, if_false]
  first
  | refine wpAny_bind (wpAny_pyIter_zip (s := { s with heap := _ }) (old1 _ _ hz) ?_)
  | (simp only [show (Value.type "zip" == Value.type "list") = false by decide, show (Value.type "zip" == Value.type "tuple") = false by decide, Bool.or_false, Bool.false_eq_true, if_false]
     refine wpAny_bind (wpAny_pyIter_zip (s := { s with heap := _ }) (old1 _ _ hz) ?_))
  refine wpAny_bind (wpAny_holding ?_); unfold Builtin.List.listLengthHint
  refine wpAny_bind (wpAny_specialOf (ty _ old1) zip_nolen ?_)
  show wpAny _ X.A.in1.in1 (specialOf (.ref z) (Str.ofString "__length_hint__") >>= _) _ _ _
  refine wpAny_bind (wpAny_specialOf (ty _ old1) zip_nohint (wpAny_pure ?_))
  show wpAny _ X.A.in1.in1 (rule "list.extend.makes-room" >>= fun _ => Builtin.List.listTouch (.ref N) >>= fun _ => again (.builtin "list.extend.loop" ⟨[.ref N, .ref z, .none], []⟩)) _ _ _
  refine wpAny_bind (wpAny_rule (wpAny_bind ?_))
  show wpAny _ X.A.in1.in1 (updateSeq N (·.push .none) >>= fun _ => updateSeq N (·.pop)) _ _ _
  refine wpAny_bind (wpAny_updateSeq at1 rfl ?_)
  have at2 := Heap.get?_update_self (Obj.mapSeq (·.push Value.none)) at1 rfl
  refine wpAny_updateSeq at2 rfl ?_ (by decide) (by decide)
  have at3 := Heap.get?_update_self (Obj.mapSeq (·.pop)) at2 rfl
  have old3 := old _ (Obj.mapSeq (·.pop)) (old _ (Obj.mapSeq (·.push Value.none)) old1)
  refine wpAny_pure ⟨plainId_quiet F.plain_extend_loop _, ?_⟩
  subst eN
  have J := I.laid (t' := s.toks) (a := s.heap.objs.size) (o := .lst []) old3 (Nat.le_refl _) ⟨Nat.zero_le _, [], _, .nil, at3⟩
  obtain ⟨Pv, p0, turn, still, fin⟩ := h _ (I.hok.fresh (Nat.le_refl _))
  refine zip_drain (A := X.A.in1) D (I.ok.hd hc) Pv turn still same few (fun G t I' hP => ⟨rfl, .ref _, G, I', rfl, fin G hP⟩) xs.length 0 _ _ [] rfl J p0 upd_same rfl (fun c hcm => ⟨?_, (hf c hcm).2⟩) ⟨old3 _ _ hTI, ?_, h1.at fun o q => old3 _ o q, h2.at fun o q => old3 _ o q, .inl (old3 _ _ hz)⟩
  · have e' : c = z ∨ c = TI ∨ c = TO ∨ c = i1 ∨ c = i2 := by simpa using hcm
    have cn : c ≠ s.heap.objs.size := by
      rcases e' with w | w | w | w | w
      · exact lt (w ▸ hz)
      · exact lt (w ▸ hTI)
      · obtain ⟨_, _, g⟩ := hTO
        exact lt (w ▸ g)
      · obtain ⟨_, g, _⟩ := h1
        exact lt (w ▸ g)
      · obtain ⟨_, g, _⟩ := h2
        exact lt (w ▸ g)
    rw [upd_ne cn]
    exact (hf c hcm).1
  · obtain ⟨x, y, g⟩ := hTO
    exact ⟨x, y, old3 _ _ g⟩
def tListZip (K : PySem.W.Frag) (ta : TA) : TE := fun σ H Q => ta σ H fun vs H1 => ∃ a b xs ys, vs = [.ref a, .ref b] ∧ SqL K H1 a xs ∧ SqL K H1 b ys ∧ xs.length = ys.length ∧ xs.length < 1000 ∧ ZW K a b xs ys H1 Q
theorem pe_listzip {e e2 : Expr} {ta : TA} {p p2 q pos : Pos} (hc : X.calm = true) (hg : Gl X "list") (hm : X.mg "list" = none) (hg2 : Gl X "zip") (hm2 : X.mg "zip" = none) (ha : PA X [e, e2] ta)
    (hs : starEach [e, e2] X.env = (false, eval e X.env) :: starEach [e2] X.env := by rfl) (hpl : (backTo q (starEach [e2] X.env)).any (·.1) = false := by rfl)
    (ho : starEach [.Call (.Name "zip" p2) [e, e2] [] q] X.env = [(false, eval (.Call (.Name "zip" p2) [e, e2] [] q) X.env)] := by rfl) :
    PE X (.Call (.Name "list" p) [.Call (.Name "zip" p2) [e, e2] [] q] [] pos) (tListZip X.K ta) := by
  refine ⟨fun pins s σ H Q I h => ?_⟩
  refine wpAny_Call_Name_kw (ld_blt I hg hm boot_list ?_ (by decide) (by decide))
  refine PyProof.Rows.callWith_type1 ?_ ho rfl
  rw [ho]
  refine Calls.spliced_cons ?_
  refine Call_ (ld_blt I hg2 hm2 PyProof.Rows.boot_zip (PyProof.Rows.callWith_type1 (thn (ha.run q pins s σ H _ I h) fun us s1 ⟨vs, H1, I1, r1, q1⟩ => ?_) hs hpl))
  obtain ⟨a, b, xs, ys, ex, hqx, hqy, same, few, word⟩ := q1
  subst ex
  cases r1 with
  | cons r rr =>
    cases rr with
    | cons r' rr =>
      cases rr
      cases r
      cases r'
      obtain ⟨its, rv, p1, _⟩ := I1.list hqx
      obtain ⟨its2, rv2, p2, _⟩ := I1.list hqy
      refine call_zip_2 p1.isList p2.isList fun h' hz hTI hTO h1 h2 hsz hk => Calls.spliced_nil ?_
      have I2 : Inv X pins σ H1 { s1 with heap := h' } := I1.kept (t' := s1.toks) hk
      refine call_list_zip hc (PySem.W.ktu_apart s1.heap.objs.size a b p1.lt p2.lt) I2 same few (fun c hcm => ?_) hz hTI ⟨_, _, hTO⟩ h1 h2 word
      have e' : c = s1.heap.objs.size + 4 ∨ c = s1.heap.objs.size + 2 ∨ c = s1.heap.objs.size + 3 ∨ c = s1.heap.objs.size ∨ c = s1.heap.objs.size + 1 := by simpa using hcm
      have far : s1.heap.objs.size ≤ c := by
        rcases e' with w | w | w | w | w <;> rw [w] <;> first | exact Nat.le_refl _ | exact Nat.le_add_right _ _
      exact I1.fpOk far (I1.hok.fresh far)
end
theorem allN {R : V → Prop} : ∀ x ∈ ([] : List V), R x := fun _ h => nomatch h
theorem allC {R : V → Prop} {a : V} {l : List V} (h : R a) (t : ∀ x ∈ l, R x) : ∀ x ∈ a :: l, R x := fun x hx => by
  rcases List.mem_cons.mp hx with e | e
  · rw [e]
    exact h
  · exact t x e
/-- an item at an open place in bounds -/
theorem at_some {xs : List V} {v : Int} (h0 : 0 ≤ v) (h1 : v < xs.length) : ∃ x, atI xs v = some x ∧ x ∈ xs := by
  have hv : ((v.toNat : Nat) : Int) = v := Int.toNat_of_nonneg h0
  have hl : v.toNat < xs.length := by omega
  have z : atI xs ((v.toNat : Nat) : Int) = some xs[v.toNat] := atI_nat (List.getElem?_eq_getElem hl)
  rw [hv] at z
  exact ⟨xs[v.toNat], z, List.getElem_mem hl⟩
def SameBut (p : Addr) (H H' : Hp) : Prop := ∀ b o, b ≠ p → H b = some o → H' b = some o
theorem SameBut.of {p : Addr} {H H' : Hp} (e : ∀ q, q ≠ p → H' q = H q) : SameBut p H H' := fun b o hb h => by
  rw [e b hb]
  exact h
theorem SameBut.trans {p : Addr} {H H1 H2 : Hp} (a : SameBut p H H1) (b : SameBut p H1 H2) : SameBut p H H2 := fun c o hc h => b c o hc (a c o hc h)
theorem sbut {p : Addr} {H H' : Hp} (s : Same H H') : SameBut p H H' := fun b o _ h => s b o h
/-- what was tracked ahead of the pool -/
theorem SameBut.same {p : Addr} {H0 H H' : Hp} (s : Same H0 H) (np : H0 p = none) (e : SameBut p H H') : Same H0 H' := fun b o h => e b o (ne_of_none h np) (s b o h)
theorem PoolAt.same {H H' : Hp} {p : Addr} (h : PoolAt H p) (s : Same H H') : PoolAt H' p := by
  obtain ⟨x, y, z, e⟩ := h
  exact ⟨x, y, z, s _ _ e⟩
theorem PoolAt.new {H : Hp} {p a : Addr} (h : PoolAt H p) (n : H a = none) : a ≠ p := fun e => by
  obtain ⟨x, y, z, q⟩ := h
  rw [e, q] at n
  cases n
/-- an isinstance of an int -/
theorem isi_int {K : PySem.W.Frag} {i : Int} {T : String} {b : Bool} {H : Hp} {Q : VK} (h : kitB "int" T = some b) (q : Q (.bl b) H) : rIsi K [.int i, .ty T] H Q :=
  ⟨_, _, _, _, b, rfl, .ty T, .base (.int i), kit_ty h, q⟩
theorem isi_tup {K : PySem.W.Frag} {a : Addr} {xs : List V} {T : String} {b : Bool} {H : Hp} {Q : VK} (ha : H a = some (.tup xs)) (h : kitB "tuple" T = some b) (q : Q (.bl b) H) : rIsi K [.ref a, .ty T] H Q :=
  ⟨_, _, _, _, b, rfl, .ty T, .base (.tup ha), kit_ty h, q⟩
theorem isi_bl {K : PySem.W.Frag} {x : Bool} {T : String} {b : Bool} {H : Hp} {Q : VK} (h : kitB "bool" T = some b) (q : Q (.bl b) H) : rIsi K [.bl x, .ty T] H Q :=
  ⟨_, _, _, _, b, rfl, .ty T, .base (.bl x), kit_ty h, q⟩
theorem isi_lst {K : PySem.W.Frag} {a : Addr} {xs : List V} {T : String} {b : Bool} {H : Hp} {Q : VK} (ha : H a = some (.lst xs)) (h : kitB "list" T = some b) (q : Q (.bl b) H) : rIsi K [.ref a, .ty T] H Q :=
  ⟨_, _, _, _, b, rfl, .ty T, .base (.lst ha), kit_ty h, q⟩
/-- the law's own promise -/
def spLaw (K : PySem.W.Frag) : Sp := fun vs H Q _ => ∃ (a : Addr) (ns : List Int), vs = [.ref a] ∧ SqL K H a (ns.map V.int) ∧ ns.length ≤ 63 ∧ ∀ H', Q (.bl true) H'
/-- a test by an own truth -/
theorem pt_own {X : Cx} {a : Expr} {ta : TE} {r : V → Hp → (Bool → Hp → Prop) → Prop} (ha : PE X a ta) (hr : TruR X r) (he : ∀ whole, isTrue a X.env whole = (do let v ← whole; standAt a.pos; holding [v] (truthy v)) := by intro _; rfl) :
    PT X a (fun σ H Q => ta σ H fun x H' => r x H' Q) :=
  ⟨fun pins s σ H Q I h => isTrue_plain (thn (ha.run pins s σ H _ I h) fun v s1 ⟨x, H1, I1, r1, q1⟩ => hr pins s1 σ H1 x v Q I1 r1 q1) (he _)⟩
theorem eqvAll_bools : ∀ l : List Bool, PyData.eqvAll (l.map PyData.bool) (l.map PyData.bool) = true
  | [] => by rw [List.map_nil, PyData.eqvAll]
  | a :: l => by
    rw [List.map_cons, PyData.eqvAll, PyData.eqv, eqvAll_bools l]
    cases a <;> rfl
theorem eqv_bools (l : List Bool) : PyData.eqv (.list (l.map PyData.bool)) (.list (l.map PyData.bool)) = true := by
  rw [PyData.eqv]
  exact eqvAll_bools l
theorem canLay_bools : ∀ l : List Bool, PyData.canLayAll0 (l.map PyData.bool) = true
  | [] => by rw [List.map_nil, PyData.canLayAll0]
  | a :: l => by rw [List.map_cons, PyData.canLayAll0, PyData.canLay0, canLay_bools l] <;> rfl
theorem depth_bools : ∀ l : List Bool, PyData.depthAll (l.map PyData.bool) = 0
  | [] => by rw [List.map_nil, PyData.depthAll]
  | a :: l => by rw [List.map_cons, PyData.depthAll, PyData.depth, depth_bools l] <;> rfl
theorem shaped_bools (l : List Bool) : SeqAt.shaped (.list (l.map PyData.bool)) = true := by
  unfold SeqAt.shaped
  rw [PyData.canLay0, canLay_bools, PyData.depth, depth_bools]
  rfl
theorem dpAll_bools {K : PySem.W.Frag} {H : Hp} : ∀ l : List Bool, DpAll K H (l.map V.bl) (l.map PyData.bool)
  | [] => .nil
  | a :: l => .cons (.bl a) (dpAll_bools l)
theorem dp_bls {K : PySem.W.Frag} {H : Hp} {a : Addr} {l : List Bool} (h : SqL K H a (l.map V.bl)) : Dp K H (.ref a) (.list (l.map PyData.bool)) := .lst h (dpAll_bools l)
theorem all_flatB : ∀ l : List Bool, (l.map V.bl).all flatV = true
  | [] => rfl
  | a :: l => by
    rw [List.map_cons, List.all_cons, all_flatB l]
    rfl
theorem inV_bools : ∀ l : List Bool, inV (.bl true) (l.map V.bl) = decide (true ∈ l)
  | [] => by simp [inV]
  | a :: l => by
    have ih := inV_bools l
    unfold inV at ih ⊢
    rw [List.map_cons, List.any_cons, ih]
    show ((a == true) || decide (true ∈ l)) = decide (true ∈ a :: l)
    cases a <;> simp
def menu22 : List Int := [2, 3, 5, 7, 11, 13, 17, 59]
abbrev s_set : Stmt := top 21
theorem sc_set : FnScope ["_law_cell_here", "_law_pool_here", "_law_menu", "_law_k"] ["_law_cell_here"] (defScope s_set) := ⟨rfl, rfl, rfl, by decide +kernel, rfl, by decide +kernel, by decide +kernel⟩
/-- a row: endless, and the list of its primes -/
def RowAt (H : Hp) (r : Addr) (e : Bool) (ns : List Int) : Prop := ∃ q, H r = some (.lst [.bl e, .ref q]) ∧ H q = some (.lst (ns.map V.int))
theorem RowAt.same {H H' : Hp} {r : Addr} {e : Bool} {ns : List Int} (h : RowAt H r e ns) (s : Same H H') : RowAt H' r e ns := by
  obtain ⟨q, h1, h2⟩ := h
  exact ⟨q, s _ _ h1, s _ _ h2⟩
def spSet : Sp := fun vs H Q _ => ∃ c : Int, vs = [.int c] ∧ ∀ r q e (ns : List Int) H', (∀ z ∈ ns, z ∈ menu22) → ns.length ≤ 6 → H r = none → H q = none → H' r = some (.lst [.bl e, .ref q]) → H' q = some (.lst (ns.map V.int)) → Same H H' → Q (.ref r) H'
theorem ok_set {f : Addr} {fd : FuncData} (T : Txt mg) (F : Fun K "_law_set" "_law_set" s_set f fd) (c_pool : Cl P w K mg base CX0 1 "_law_pool" spPool) (c_take : Cl P w K mg base CX0 1 "_law_take" spTake) : FnOk P w K mg base CX0 2 f fd ["_law_cell_here"] spSet := by
  refine F.ok sc_set (fun vs H Q E h => ?_) (fun cdv A outer s H vs Q E hr h => ?_)
  · obtain ⟨c, rfl, _⟩ := h
    rfl
  · obtain ⟨c, rfl, q⟩ := h
    refine ⟨_, (pss_cons (ps_set (i := 1) sc_set.nd rfl (Or.inr rfl) (pe_cl c_pool hr (pa_cons (pv 0) pa_nil)))
 (pss_cons (ps_set (i := 2) sc_set.nd rfl (Or.inr rfl) (pe_lst (pa_cons pe_int (pa_cons pe_int (pa_cons pe_int (pa_cons pe_int (pa_cons pe_int (pa_cons pe_int (pa_cons pe_int (pa_cons pe_int pa_nil))))))))))
 (pss_one (ps_ret (pe_lst (pa_cons (pe_cmpR op_eq (pe_cl c_take hr (pa_cons (pv 1) (pa_cons pe_int pa_nil))) pe_int (nomark _)) (pa_cons (pe_lc (own := [("_law_k", 3)]) (g := gName 3) (tt := tYes) rfl sc_set.nd (pi_range1 rfl T.range (pa_cons (pe_cl c_take hr (pa_cons (pv 1) (pa_cons pe_int pa_nil))) pa_nil)) (blkOk_by (N := ["_law_cell_here", "_law_pool_here", "_law_menu", "_law_k"]) (sc := defScope s_set) (by decide +kernel)) (fun _ _ _ _ _ => pg_name (i := 3) sc_set.nd rfl (Or.inl rfl)) (fun _ _ _ _ _ => pts_nil) (fun _ _ _ _ _ => pe_ix (r := rIxL K) (by exact ix_list) (pv 2) (pe_cl c_take (by exact hr) (pa_cons (pv 1) (pa_cons pe_int pa_nil))) (fun _ _ => rfl))) pa_nil))))))), ?_⟩
    refine ⟨_, rfl, c, rfl, fun p H0 np s0 P0 => ?_⟩
    refine ⟨(by show 8 ≤ sizeLine; decide), fun m hm => ?_⟩
    have mp : m ≠ p := P0.new hm
    have g1 := same_upd (o := .lst (menu22.map V.int)) hm
    have P1 := P0.same g1
    refine ⟨_, rfl, p, 2, rfl, P1, by decide, by decide, fun v0 H1 _ _ e1 P1' => ⟨rfl, ?_⟩⟩
    generalize decide (V.int v0 = V.int 1) = e
    refine ⟨_, rfl, p, 7, rfl, P1', by decide, by decide, fun v H2 v0 v1 e2 P2 => ?_⟩
    refine ⟨v, rfl, by omega, by omega, fun D hD => ?_⟩
    have hm2 : H2 m = some (.lst (menu22.map V.int)) := by
      rw [e2 m mp, e1 m mp]
      exact upd_same
    have Dp : D ≠ p := P2.new hD
    have b2 : SameBut p H0 H2 := ((sbut g1).trans (SameBut.of e1)).trans (SameBut.of e2)
    refine lc_range (lo := 0) (n := v.toNat) (fun i H' => SameBut p H2 H' ∧ PoolAt H' p ∧ ∃ acc : List Int, H' D = some (.lst (acc.map V.int)) ∧ acc.length = i ∧ ∀ z ∈ acc, z ∈ menu22)
      ⟨sbut (same_upd hD), P2.same (same_upd hD), [], upd_same, rfl, fun _ h => nomatch h⟩ ?_ ?_
    · rintro i H3 hi ⟨b3, P3, acc, hacc, hl, hin⟩
      refine ⟨rfl, ?_⟩
      refine ⟨_, rfl, _, rfl, p, 8, rfl, P3, by decide, by decide, fun u H4 u0 u1 e4 P4 => ?_⟩
      have hm4 : H4 m = some (.lst (menu22.map V.int)) := by
        rw [e4 m mp]
        exact b3 m _ mp hm2
      obtain ⟨x, hx, hxm⟩ := at_some (xs := menu22.map V.int) u0 (by show u < 8; exact u1)
      obtain ⟨z, hz, rfl⟩ := List.mem_map.mp hxm
      refine ⟨m, _, _, _, rfl, rfl, SqL.of hm4, hx, ?_⟩
      have hacc4 : H4 D = some (.lst (acc.map V.int)) := by
        rw [e4 D Dp]
        exact hacc
      refine ⟨_, hacc4, by rw [List.length_map]; exact small1000 (by omega), fun b o hb eb => ?_, ?_, acc ++ [z], ?_, ?_, ?_⟩
      · have hbD : b ≠ D := ne_of_none eb hD
        rw [upd_ne hbD, e4 b hb]
        exact b3 b o hb eb
      · obtain ⟨a1, a2, a3, a4⟩ := P4
        exact ⟨a1, a2, a3, by rw [upd_ne Dp.symm]; exact a4⟩
      · rw [List.map_append]
        exact upd_same
      · rw [List.length_append, hl]
        rfl
      · intro y hy
        rcases List.mem_append.mp hy with h | h
        · exact hin y h
        · rw [List.mem_singleton.mp h]
          exact hz
    · rintro H3 ⟨b3, P3, acc, hacc, hl, hin⟩
      refine ⟨(by show 2 ≤ sizeLine; decide), fun r nr => ?_⟩
      have nrD : r ≠ D := fun z => by
        rw [z, hacc] at nr
        cases nr
      have s3 := SameBut.same s0 np (b2.trans b3)
      have none_of : ∀ {G : Hp} {d : Addr}, Same H G → G d = none → H d = none := fun {G d} sg hd => by
        cases e : H d with
        | none => rfl
        | some o =>
          have z := sg d o e
          rw [hd] at z
          cases z
      refine q r D e acc _ hin (by omega) (none_of s3 nr) (none_of (SameBut.same s0 np b2) hD) upd_same ?_ (s3.trans (same_upd nr))
      rw [upd_ne nrD.symm]
      exact hacc
abbrev s_member : Stmt := top 22
theorem sc_member : FnScope ["_law_row", "_law_p"] ["_law_row", "_law_p"] (defScope s_member) := ⟨rfl, rfl, rfl, by decide +kernel, rfl, by decide +kernel, by decide +kernel⟩
/-- is p in the set that the row tells; 0 by endless -/
def dueM (e : Bool) (ns : List Int) (p : Int) : Bool := if p = 0 then e else xor (decide (p ∈ ns)) e
theorem bl_ne (a b : Bool) : (!decide (V.bl a = V.bl b)) = xor a b := by cases a <;> cases b <;> simp
def spMember : Sp := fun vs H Q _ => ∃ (r : Addr) (e : Bool) (ns : List Int) (p : Int), vs = [.ref r, .int p] ∧ RowAt H r e ns ∧ Q (.bl (dueM e ns p)) H
theorem ok_member {f : Addr} {fd : FuncData} (F : Fun K "_law_member" "_law_member" s_member f fd) : FnOk P w K mg base CX0 1 f fd ["_law_row", "_law_p"] spMember := by
  refine F.ok sc_member (fun vs H Q E h => ?_) (fun cdv A outer s H vs Q E hr h => ?_)
  · obtain ⟨r, e, ns, p, rfl, _⟩ := h
    rfl
  · obtain ⟨r, e, ns, p, rfl, ⟨q0, h1, h2⟩, q⟩ := h
    refine ⟨_, (pss_cons (ps_if (pt_cmpR op_eq (pv 1) pe_int (nomark _)) (pss_one (ps_ret (pe_ix ix_list (pv 0) pe_int (fun _ _ => rfl)))) pss_nil)
 (pss_one (ps_ret (pe_cmpR op_ne (pe_cmpR op_in_seq (pv 1) (pe_ix ix_list (pv 0) pe_int (fun _ _ => rfl)) (by with_unfolding_all rfl)) (pe_ix ix_list (pv 0) pe_int (fun _ _ => rfl)) (nomark _))))), ?_⟩
    refine ⟨_, rfl, rfl, _, rfl, ?_⟩
    unfold dueM at q
    by_cases c : p = 0
    · refine if_pos_of (decide_eq_true (by rw [c])) ?_
      rw [if_pos c] at q
      exact ⟨_, rfl, r, _, _, _, rfl, rfl, SqL.of h1, rfl, q⟩
    · refine if_neg_of (decide_eq_false fun z => c (V.int.inj z)) ?_
      rw [if_neg c] at q
      refine ⟨_, rfl, _, rfl, r, _, _, _, rfl, rfl, SqL.of h1, rfl, q0, _, rfl, .inl (SqL.of h2), rfl, all_flat ns, ?_⟩
      refine ⟨_, rfl, r, _, _, _, rfl, rfl, SqL.of h1, rfl, rfl, ?_⟩
      rw [if_neg (by decide), inV_ints, bl_ne]
      exact q
abbrev s_is : Stmt := top 23
theorem sc_is : FnScope ["_law_told", "_law_due", "_law_clocks", "_law_p"] ["_law_told", "_law_due", "_law_clocks"] (defScope s_is) := ⟨rfl, rfl, rfl, by decide +kernel, rfl, by decide +kernel, by decide +kernel⟩
def spIs (C : Addr) : Sp := fun vs H Q _ => ∃ (a du ck : Addr) (e : Bool) (l cs : List Int) (bs : List Bool), vs = [.ref a, .ref du, .ref ck] ∧ CharsAt C H a e l ∧ l.length < 60 ∧ H du = some (.lst (bs.map V.bl)) ∧ H ck = some (.lst (cs.map V.int)) ∧
  bs = cs.map (memB e l) ∧ cs.length ≤ 200 ∧ (0 : Int) ∈ cs ∧ (∀ z ∈ l, z ∈ cs) ∧ ∀ H', Same H H' → Q (.bl true) H'
theorem no_zero {l : List Int} (h : ∀ q ∈ l, Pr q ∧ q < 2 ^ 62) (e : Bool) : memB e l 0 = e := by
  have : (0 : Int) ∉ l := fun c => by
    have := (h 0 c).1.1
    omega
  unfold memB
  cases e <;> simp [this]
theorem some_true {e : Bool} {l cs : List Int} (h : ∀ q ∈ l, Pr q ∧ q < 2 ^ 62) (h0 : (0 : Int) ∈ cs) (hl : ∀ z ∈ l, z ∈ cs) : (e || !l.isEmpty) = decide (true ∈ cs.map (memB e l)) := by
  cases e with
  | true =>
    have : true ∈ cs.map (memB true l) := List.mem_map.mpr ⟨0, h0, no_zero h true⟩
    rw [decide_eq_true this]
    rfl
  | false =>
    cases l with
    | nil =>
      refine (decide_eq_false fun z => ?_).symm
      obtain ⟨p, _, hp⟩ := List.mem_map.mp z
      rw [memB_nil] at hp
      cases hp
    | cons a l =>
      have : true ∈ cs.map (memB false (a :: l)) := List.mem_map.mpr ⟨a, hl a List.mem_cons_self, by unfold memB; simp⟩
      rw [decide_eq_true this]
      rfl
theorem ok_is {f C CB : Addr} {fd : FuncData} (TT : Txt mg) (T : ChT K mg C) (F : Fun K "_law_is" "_law_is" s_is f fd) (c_cit : Ma P w K mg base 3 C (spCI C CB true K)) (c_cont : Me P w K mg base 1 C "__contains__" (spCont C)) (c_eq : Me P w K mg base 1 C "__eq__" (spCeq C)) (c_bool : Me P w K mg base 1 C "__bool__" (spCbool C)) : FnOk P w K mg base CX0 5 f fd ["_law_told", "_law_due", "_law_clocks"] (spIs C) := by
  refine F.ok sc_is (fun vs H Q E h => ?_) (fun cdv A outer s H vs Q E hr h => ?_)
  · obtain ⟨a, du, ck, _, _, _, _, rfl, _⟩ := h
    rfl
  · obtain ⟨a, du, ck, e, l, cs, bs, rfl, ch, few, hdu, hck, rfl, hcl, z0, zl, q⟩ := h
    obtain ⟨dx, t, h1, h2⟩ := ch.ob
    refine ⟨_, (pss_cons (ps_if (pw_or (pt_not (pt_val (pe_callB (C8.call_isC T.isC) (by rfl) TT.isinstance boot_isinstance (pa_cons (pv 0) (pa_cons (pe_glob (v := .ref C) (by rfl) T.g rfl) pa_nil))))) (pw_or1 (pt_not (pt_cmpR (op_eq_own c_eq hr) (pv 0) (pe_ma c_cit hr T.g (pa_cons (pe_fld (pv 0) rfl) (pa_cons (pe_fld (pv 0) rfl) pa_nil))) (nomark _))))).pt (pss_one (ps_ret pe_bl)) pss_nil)
 (pss_cons (ps_if (pt_cmpR (op_neD (hu64 hr)) (pe_callTy call_list_of (by rfl) TT.list boot_list (pa_cons (pe_fld (pv 0) rfl) pa_nil)) (pe_callB (cr_sortedSet rfl) (by rfl) TT.sorted boot_sorted (pa_cons (pe_callTy (cr_setInts rfl) (by rfl) TT.set boot_set (pa_cons (pe_fld (pv 0) rfl) pa_nil)) pa_nil)) (nomark _)) (pss_one (ps_ret pe_bl)) pss_nil)
 (pss_one (ps_ret (pe_and (pe_cmpR (op_eqD (hu64 hr)) (pe_lc (own := [("_law_p", 3)]) (g := gName 3) (tt := tYes) rfl sc_is.nd (pi_list (pv 2)) (blkOk_by (N := ["_law_told", "_law_due", "_law_clocks", "_law_p"]) (sc := defScope s_is) (by decide +kernel)) (fun _ _ _ _ _ => pg_name (i := 3) sc_is.nd rfl (Or.inl rfl)) (fun _ _ _ _ _ => pts_nil) (fun _ _ _ _ _ => pe_cmpR (op_in_own c_cont (by exact hr)) (pv 3) (pv 0) (by with_unfolding_all rfl))) (pv 1) (nomark _)) (pe_one (pe_cmpR op_eq (pe_callTy (cr_boolOwn c_bool hr) (by rfl) TT.bool boot_bool (pa_cons (pv 0) pa_nil)) (pe_cmpR op_in_seq pe_bl (pv 1) (by with_unfolding_all rfl)) (nomark _)))))))), ?_⟩
    refine ⟨_, rfl, a, dx, _, rfl, h1, _, rfl, if_neg_of rfl ?_⟩
    refine ⟨_, rfl, _, rfl, a, C, dx, _, _, rfl, h1, T.cl, T.nE, chF_e _ _, _, rfl, a, C, dx, _, _, rfl, h1, T.cl, T.nP, chF_p _ _, ?_⟩
    intro x dnx hnx hdx _
    refine make_at (CB := CB) (tup := true) (e := e) (ns := l) hnx hdx (.inl (.inl h2)) ch.prm (by omega) fun l2 H1 mem len ch2 s1 => ⟨rfl, ?_⟩
    have el : l = l2 := sorted_uniq ch.srt ch2.srt fun z => (mem z).symm
    subst el
    refine useEq (ch.same s1) ch2 ⟨_, rfl, if_neg_of (by simp) ?_⟩
    -- the order
    have h11 := s1 _ _ h1
    have h12 := s1 _ _ h2
    refine ⟨_, rfl, a, C, dx, _, _, rfl, h11, T.cl, T.nP, chF_p _ _, t, _, rfl, .inr (.inl (.inl h12)), fun q1 n1 => ?_⟩
    have g1 := same_upd (o := .lst (l.map V.int)) n1
    refine ⟨_, rfl, a, C, dx, _, _, rfl, g1 _ _ h11, T.cl, T.nP, chF_p _ _, t, l, rfl, .inr (.inl (.inl (g1 _ _ h12))), by omega, fun p1 c np1 hc => ?_⟩
    refine ⟨p1, _, c, rfl, upd_same, (by omega), fun l3 p2 srt mem3 len3 np2 => ?_⟩
    have g2 := same_upd (o := SetO w p1 (fun j => decide (j ∈ l)) c) np1
    have g3 := same_upd (o := .lst (l3.map V.int)) np2
    have e3 : l = l3 := sorted_uniq ch.srt srt fun z => by rw [mem3 z, decide_eq_true_iff]
    subst e3
    refine ⟨_, _, dp_lst (SqL.of (g3 _ _ (g2 _ _ upd_same))), dp_lst (SqL.of upd_same), shaped_ints _, shaped_ints _, _, rfl, if_neg_of (by rw [eqv_ints]; simp) ?_⟩
    have s4 := s1.trans ((g1.trans g2).trans g3)
    -- the members
    have hck4 := s4 _ _ hck
    refine ⟨_, rfl, ck, rfl, ⟨_, SqL.of hck4⟩, fun D hD => lc_list (K := K) (a := ck) (xs := cs.map V.int) (fun i H' => Same H H' ∧ H' D = some (.lst (((cs.take i).map (memB e l)).map V.bl)))
      ⟨s4.trans (same_upd hD), by rw [List.take_zero]; exact upd_same⟩ (fun i H' _ h => SqL.of (h.1 _ _ hck)) ?_ ?_⟩
    · rintro i y H5 hi ⟨s5, hD5⟩
      obtain ⟨z, rfl, hz⟩ := item_int hi
      have lt : i < cs.length := (List.getElem?_eq_some_iff.mp hz).1
      refine ⟨rfl, ?_⟩
      refine ⟨_, rfl, _, rfl, useIn (ch.same s5) ?_⟩
      refine ⟨_, hD5, by rw [List.length_map, List.length_map, List.length_take]; exact small1000 (by omega), fun b o eb => ?_, ?_⟩
      · rw [upd_ne (ne_of_none (s4 _ _ eb) hD)]
        exact s5 b o eb
      · rw [List.take_add_one, hz, List.map_append, List.map_append]
        exact upd_same
    · rintro H5 ⟨s5, hD5⟩
      rw [List.length_map, List.take_length] at hD5
      refine ⟨_, rfl, _, _, dp_bls (SqL.of hD5), dp_bls (SqL.of (s5 _ _ hdu)), shaped_bools _, shaped_bools _, _, rfl, ?_⟩
      rw [eqv_bools]
      refine if_pos_of rfl ?_
      refine ⟨_, rfl, a, dx, _, rfl, s5 _ _ h1, a, e, l, rfl, ch.same s5, _, rfl, ?_⟩
      refine ⟨_, rfl, du, _, rfl, .inl (SqL.of (s5 _ _ hdu)), rfl, all_flatB _, rfl, ?_⟩
      rw [if_neg (by decide), inV_bools, some_true ch.prm z0 zl, decide_eq_true rfl]
      exact q H5 s5
theorem menu22_pr : ∀ z ∈ menu22, Pr z ∧ z < 100 ∧ z < 2 ^ 62 := by
  have a2 : Pr 2 := pr_of_trial (n := 2) 10 (by decide +kernel)
  have a3 : Pr 3 := pr_of_trial (n := 3) 10 (by decide +kernel)
  have a5 : Pr 5 := pr_of_trial (n := 5) 10 (by decide +kernel)
  have a7 : Pr 7 := pr_of_trial (n := 7) 10 (by decide +kernel)
  have a11 : Pr 11 := pr_of_trial (n := 11) 10 (by decide +kernel)
  have a13 : Pr 13 := pr_of_trial (n := 13) 10 (by decide +kernel)
  have a17 : Pr 17 := pr_of_trial (n := 17) 10 (by decide +kernel)
  have a59 : Pr 59 := pr_of_trial (n := 59) 10 (by decide +kernel)
  intro z hz
  unfold menu22 at hz
  simp only [List.mem_cons, List.not_mem_nil, or_false] at hz
  rcases hz with h | h | h | h | h | h | h | h <;> rw [h] <;> refine ⟨by assumption, by decide, by decide⟩
theorem in_or {e1 e2 : Bool} {l l1 l2 : List Int} {f : Bool → Bool → Bool} (mem : ∀ p, memB (f e1 e2) l p = f (memB e1 l1 p) (memB e2 l2 p)) {z : Int} (hz : z ∈ l) : z ∈ l1 ∨ z ∈ l2 := by
  by_cases c1 : z ∈ l1
  · exact .inl c1
  by_cases c2 : z ∈ l2
  · exact .inr c2
  have h := mem z
  have n1 : memB e1 l1 z = e1 := by unfold memB; cases e1 <;> simp [c1]
  have n2 : memB e2 l2 z = e2 := by unfold memB; cases e2 <;> simp [c2]
  rw [n1, n2] at h
  unfold memB at h
  cases hf : f e1 e2 <;> rw [hf] at h <;> simp [hz] at h
theorem due_is {e : Bool} {ns l : List Int} (hp : ∀ q ∈ l, Pr q ∧ q < 2 ^ 62) (m : ∀ q, q ∈ l ↔ q ∈ ns) (p : Int) : dueM e ns p = memB e l p := by
  unfold dueM
  by_cases c : p = 0
  · rw [if_pos c, c, no_zero hp]
  · rw [if_neg c, ← (decide_eq_decide.mpr (m p) : decide (p ∈ l) = decide (p ∈ ns))]
    unfold memB
    cases e <;> simp
theorem CharsAt.but {C : Addr} {H H' : Hp} {a q : Addr} {e : Bool} {l : List Int} {xs : List V} (h : CharsAt C H a e l) (hq : H q = some (.lst xs)) (b : SameBut q H H') : CharsAt C H' a e l := by
  obtain ⟨dx, t, h1, h2⟩ := h.ob
  refine ⟨⟨dx, t, b _ _ (fun z => ?_) h1, b _ _ (fun z => ?_) h2⟩, h.srt, h.prm⟩
  · rw [z, hq] at h1
    cases h1
  · rw [z, hq] at h2
    cases h2
structure S22 (C ro a1 a2 a3 ck le ri pa : Addr) (e1 e2 e3 : Bool) (ns1 ns2 l1 l2 l3 cs : List Int) (H : Hp) : Prop where
  rows : ∃ r0 r1 r2, H ro = some (.lst [.ref r0, .ref r1, .ref r2]) ∧ RowAt H r0 e1 ns1 ∧ RowAt H r1 e2 ns2
  ch1 : CharsAt C H a1 e1 l1
  ch2 : CharsAt C H a2 e2 l2
  ch3 : CharsAt C H a3 e3 l3
  n1 : l1.length ≤ 6
  n2 : l2.length ≤ 6
  n3 : l3.length ≤ 6
  m1 : ∀ q, q ∈ l1 ↔ q ∈ ns1
  m2 : ∀ q, q ∈ l2 ↔ q ∈ ns2
  k1 : ns1.length ≤ 6
  k2 : ns2.length ≤ 6
  ck : H ck = some (.lst (cs.map V.int))
  few : cs.length ≤ 200
  z0 : (0 : Int) ∈ cs
  in1 : ∀ z ∈ l1, z ∈ cs
  in2 : ∀ z ∈ l2, z ∈ cs
  left : H le = some (.lst ((cs.map (memB e1 l1)).map V.bl))
  pairs : ∃ Ts : List Addr, H pa = some (.lst (Ts.map V.ref)) ∧ Ts.length = cs.length ∧ ∀ (i : Nat) (T : Addr), Ts[i]? = some T → ∃ c : Int, cs[i]? = some c ∧ H T = some (.tup [.bl (memB e1 l1 c), .bl (memB e2 l2 c)])
theorem S22.same {C ro a1 a2 a3 ck le ri pa : Addr} {e1 e2 e3 : Bool} {ns1 ns2 l1 l2 l3 cs : List Int} {H H' : Hp} (S : S22 C ro a1 a2 a3 ck le ri pa e1 e2 e3 ns1 ns2 l1 l2 l3 cs H) (s : Same H H') : S22 C ro a1 a2 a3 ck le ri pa e1 e2 e3 ns1 ns2 l1 l2 l3 cs H' := by
  obtain ⟨⟨r0, r1, r2, h0, h1, h2⟩, c1, c2, c3, n1, n2, n3, m1, m2, k1, k2, hk, few, z0, i1, i2, hl, Ts, hp, hn, hT⟩ := S
  refine ⟨⟨r0, r1, r2, s _ _ h0, h1.same s, h2.same s⟩, c1.same s, c2.same s, c3.same s, n1, n2, n3, m1, m2, k1, k2, s _ _ hk, few, z0, i1, i2, s _ _ hl, Ts, s _ _ hp, hn, fun i T e => ?_⟩
  obtain ⟨c, e1, e2⟩ := hT i T e
  exact ⟨c, e1, s _ _ e2⟩
/-- one of three -/
def tri {α : Type} (a b c : α) : Nat → α
  | 0 => a
  | 1 => b
  | _ => c
abbrev s_law : Stmt := top 24
theorem sc_law : FnScope ["_law_script", "_law_rows", "_law_k", "_law_one", "_law_two", "_law_last", "_law_row", "_law_clocks", "_law_p", "_law_left", "_law_right", "_law_pairs", "_law_turn", "_law_i", "_law_j"] ["_law_script"] (defScope s_law) := ⟨rfl, rfl, rfl, by decide +kernel, rfl, by decide +kernel, by decide +kernel⟩
theorem ok_law {f C CB : Addr} {fd : FuncData} (TT : Txt mg) (n_zip : mg "zip" = none) (T : ChT K mg C) (F : Fun K "law" "law" s_law f fd) (c_cell : Cl P w K mg base CX0 1 "_law_cell" (spCellL K)) (c_lprime : Cl P w K mg base CX0 1 "_law_is_prime" spPrime)
    (c_set : Cl P w K mg base CX0 2 "_law_set" spSet) (c_member : Cl P w K mg base CX0 1 "_law_member" spMember) (c_is : Cl P w K mg base CX0 5 "_law_is" (spIs C)) (c_cil : Ma P w K mg base 3 C (spCI C CB false K)) (c_every : Cm P w K mg base 5 C "every" (spCevery C true))
    (c_and : Me P w K mg base 5 C "__and__" (spAnd C and)) (c_or : Me P w K mg base 5 C "__or__" (spAnd C or)) (c_sub : Me P w K mg base 6 C "__sub__" (spAnd C fun x y => and x (!y))) (c_inv : Me P w K mg base 5 C "__invert__" (spInv C)) (c_eq : Me P w K mg base 1 C "__eq__" (spCeq C)) (c_bool : Me P w K mg base 1 C "__bool__" (spCbool C)) : FnOk P w K mg base CX0 8 f fd ["_law_script"] (spLaw K) := by
  refine F.ok sc_law (fun vs H Q E h => ?_) (fun cdv A outer s H vs Q E hr h => ?_)
  · obtain ⟨a, ns, rfl, _⟩ := h
    rfl
  · obtain ⟨l0, ns0, rfl, hS, hlen, q⟩ := h
    refine ⟨_, (Evl.pss_cut (ps_set (i := 1) sc_law.nd rfl (Or.inr rfl) (pe_lc (own := [("_law_k", 2)]) (g := gName 2) (tt := tYes) rfl sc_law.nd (pi_range1 rfl TT.range (pa_cons pe_int pa_nil)) (blkOk_by (N := ["_law_script", "_law_rows", "_law_k", "_law_one", "_law_two", "_law_last", "_law_row", "_law_clocks", "_law_p", "_law_left", "_law_right", "_law_pairs", "_law_turn", "_law_i", "_law_j"]) (sc := defScope s_law) (by decide +kernel)) (fun _ _ _ _ _ => pg_name (i := 2) sc_law.nd rfl (Or.inl rfl)) (fun _ _ _ _ _ => pts_nil) (fun _ _ _ _ _ => pe_cl c_set (by exact hr) (pa_cons (pe_cl c_cell (by exact hr) (pa_cons (pv 0) (pa_cons (pv 2) pa_nil))) pa_nil))))
 (Evl.pss_cut (ps_asg (pe_lc (own := [("_law_row", 6)]) (g := gName 6) (tt := tYes) rfl sc_law.nd (pi_list (pv 1)) (blkOk_by (N := ["_law_script", "_law_rows", "_law_k", "_law_one", "_law_two", "_law_last", "_law_row", "_law_clocks", "_law_p", "_law_left", "_law_right", "_law_pairs", "_law_turn", "_law_i", "_law_j"]) (sc := defScope s_law) (by decide +kernel)) (fun _ _ _ _ _ => pg_name (i := 6) sc_law.nd rfl (Or.inl rfl)) (fun _ _ _ _ _ => pts_nil) (fun _ _ _ _ _ => pe_ma c_cil (by exact hr) (by exact T.g) (pa_cons (pe_ix (r := rIxL K) (by exact ix_list) (pv 6) pe_int (fun _ _ => rfl)) (pa_cons (pe_ix (r := rIxL K) (by exact ix_list) (pv 6) pe_int (fun _ _ => rfl)) pa_nil)))) (pg_lst rfl (pgs_cons (pg_name (i := 3) sc_law.nd rfl (Or.inl rfl)) (pgs_cons (pg_name (i := 4) sc_law.nd rfl (Or.inl rfl)) (pgs_cons (pg_name (i := 5) sc_law.nd rfl (Or.inl rfl)) pgs_nil)))))
 (Evl.pss_cut (ps_set (i := 7) sc_law.nd rfl (Or.inl rfl) (pe_op op_cat (pe_lst (pa_cons pe_int pa_nil)) (pe_lc (own := [("_law_p", 8)]) (g := gName 8) rfl sc_law.nd (pi_range2 rfl TT.range (pa_cons pe_int (pa_cons pe_int pa_nil))) (blkOk_by (N := ["_law_script", "_law_rows", "_law_k", "_law_one", "_law_two", "_law_last", "_law_row", "_law_clocks", "_law_p", "_law_left", "_law_right", "_law_pairs", "_law_turn", "_law_i", "_law_j"]) (sc := defScope s_law) (by decide +kernel)) (fun _ _ _ _ _ => pg_name (i := 8) sc_law.nd rfl (Or.inl rfl)) (fun _ _ _ _ _ => pts_one (pt_val (pe_cl c_lprime (by exact hr) (pa_cons (pv 8) pa_nil)))) (fun _ _ _ _ _ => pv 8))))
 (Evl.pss_cut (ps_setLc (i := 9) (own := [("_law_p", 8)]) (g := gName 8) (tt := tYes) rfl sc_law.nd rfl rfl (sw_true rfl rfl rfl (by decide +kernel)) (pi_list (pv 7)) (blkOk_by (N := ["_law_script", "_law_rows", "_law_k", "_law_one", "_law_two", "_law_last", "_law_row", "_law_clocks", "_law_p", "_law_left", "_law_right", "_law_pairs", "_law_turn", "_law_i", "_law_j"]) (sc := defScope s_law) (by decide +kernel)) (fun _ _ _ _ _ => pg_name (i := 8) sc_law.nd rfl (Or.inl rfl)) (fun _ _ _ _ _ => pts_nil) (fun _ _ _ _ _ => pe_cl c_member (by exact hr) (pa_cons (pe_ix (r := rIxL K) (by exact ix_list) (pv 1) pe_int (fun _ _ => rfl)) (pa_cons (pv 8) pa_nil))))
 (Evl.pss_cut (ps_setLc (i := 10) (own := [("_law_p", 8)]) (g := gName 8) (tt := tYes) rfl sc_law.nd rfl rfl (sw_true rfl rfl rfl (by decide +kernel)) (pi_list (pv 7)) (blkOk_by (N := ["_law_script", "_law_rows", "_law_k", "_law_one", "_law_two", "_law_last", "_law_row", "_law_clocks", "_law_p", "_law_left", "_law_right", "_law_pairs", "_law_turn", "_law_i", "_law_j"]) (sc := defScope s_law) (by decide +kernel)) (fun _ _ _ _ _ => pg_name (i := 8) sc_law.nd rfl (Or.inl rfl)) (fun _ _ _ _ _ => pts_nil) (fun _ _ _ _ _ => pe_cl c_member (by exact hr) (pa_cons (pe_ix (r := rIxL K) (by exact ix_list) (pv 1) pe_int (fun _ _ => rfl)) (pa_cons (pv 8) pa_nil))))
 (Evl.pss_cut (ps_set (i := 11) sc_law.nd rfl (Or.inl rfl) (pe_listzip rfl (by rfl) TT.list (by rfl) n_zip (pa_cons (pv 9) (pa_cons (pv 10) pa_nil))))
 (Evl.pss_cut (ps_for PassesOwn.never rfl (pi_range1 rfl TT.range (pa_cons pe_int pa_nil)) (pg_name (i := 12) sc_law.nd rfl (Or.inl rfl)) (Evl.pss_cut (ps_if (pt_not (pt_val (pe_cl c_is hr (pa_cons (pe_op (op_own2 c_and hr T.sf) (pv 3) (pv 4)) (pa_cons (pe_lc (own := [("_law_i", 13), ("_law_j", 14)]) (g := gTup K 2 (gCons (gName 13) (gCons (gName 14) gNil))) (tt := tYes) rfl sc_law.nd (pi_list (pv 11)) (blkOk_by (N := ["_law_script", "_law_rows", "_law_k", "_law_one", "_law_two", "_law_last", "_law_row", "_law_clocks", "_law_p", "_law_left", "_law_right", "_law_pairs", "_law_turn", "_law_i", "_law_j"]) (sc := defScope s_law) (by decide +kernel)) (fun _ _ _ _ _ => pg_tup rfl (pgs_cons (pg_name (i := 13) sc_law.nd rfl (Or.inl rfl)) (pgs_cons (pg_name (i := 14) sc_law.nd rfl (Or.inl rfl)) pgs_nil))) (fun _ _ _ _ _ => pts_nil) (fun _ _ _ _ _ => pe_and (pv 13) (pe_one (pv 14)))) (pa_cons (pv 7) pa_nil)))))) (pss_one (ps_ret pe_bl)) pss_nil)
 (Evl.pss_cut (ps_if (pt_not (pt_val (pe_cl c_is hr (pa_cons (pe_op (op_own2 c_or hr T.sf) (pv 3) (pv 4)) (pa_cons (pe_lc (own := [("_law_i", 13), ("_law_j", 14)]) (g := gTup K 2 (gCons (gName 13) (gCons (gName 14) gNil))) (tt := tYes) rfl sc_law.nd (pi_list (pv 11)) (blkOk_by (N := ["_law_script", "_law_rows", "_law_k", "_law_one", "_law_two", "_law_last", "_law_row", "_law_clocks", "_law_p", "_law_left", "_law_right", "_law_pairs", "_law_turn", "_law_i", "_law_j"]) (sc := defScope s_law) (by decide +kernel)) (fun _ _ _ _ _ => pg_tup rfl (pgs_cons (pg_name (i := 13) sc_law.nd rfl (Or.inl rfl)) (pgs_cons (pg_name (i := 14) sc_law.nd rfl (Or.inl rfl)) pgs_nil))) (fun _ _ _ _ _ => pts_nil) (fun _ _ _ _ _ => pe_or (pv 13) (pe_one (pv 14)))) (pa_cons (pv 7) pa_nil)))))) (pss_one (ps_ret pe_bl)) pss_nil)
 (Evl.pss_cut (ps_if (pt_not (pt_val (pe_cl c_is hr (pa_cons (pe_op (op_own2 c_sub hr T.sf) (pv 3) (pv 4)) (pa_cons (pe_lc (own := [("_law_i", 13), ("_law_j", 14)]) (g := gTup K 2 (gCons (gName 13) (gCons (gName 14) gNil))) (tt := tYes) rfl sc_law.nd (pi_list (pv 11)) (blkOk_by (N := ["_law_script", "_law_rows", "_law_k", "_law_one", "_law_two", "_law_last", "_law_row", "_law_clocks", "_law_p", "_law_left", "_law_right", "_law_pairs", "_law_turn", "_law_i", "_law_j"]) (sc := defScope s_law) (by decide +kernel)) (fun _ _ _ _ _ => pg_tup rfl (pgs_cons (pg_name (i := 13) sc_law.nd rfl (Or.inl rfl)) (pgs_cons (pg_name (i := 14) sc_law.nd rfl (Or.inl rfl)) pgs_nil))) (fun _ _ _ _ _ => pts_nil) (fun _ _ _ _ _ => pe_and (pv 13) (pe_one (pe_not (pv 14))))) (pa_cons (pv 7) pa_nil)))))) (pss_one (ps_ret pe_bl)) pss_nil)
 (Evl.pss_cut (ps_if (pt_not (pt_val (pe_cl c_is hr (pa_cons (pe_un (un_inv1 c_inv hr) (pv 3)) (pa_cons (pe_lc (own := [("_law_i", 13)]) (g := gName 13) (tt := tYes) rfl sc_law.nd (pi_list (pv 9)) (blkOk_by (N := ["_law_script", "_law_rows", "_law_k", "_law_one", "_law_two", "_law_last", "_law_row", "_law_clocks", "_law_p", "_law_left", "_law_right", "_law_pairs", "_law_turn", "_law_i", "_law_j"]) (sc := defScope s_law) (by decide +kernel)) (fun _ _ _ _ _ => pg_name (i := 13) sc_law.nd rfl (Or.inl rfl)) (fun _ _ _ _ _ => pts_nil) (fun _ _ _ _ _ => pe_not (pv 13))) (pa_cons (pv 7) pa_nil)))))) (pss_one (ps_ret pe_bl)) pss_nil)
 (pss_one (ps_if (pt_not (pt_val (pe_cl c_is hr (pa_cons (pe_op (op_own2 c_sub hr T.sf) (pv 4) (pv 3)) (pa_cons (pe_lc (own := [("_law_i", 13), ("_law_j", 14)]) (g := gTup K 2 (gCons (gName 13) (gCons (gName 14) gNil))) (tt := tYes) rfl sc_law.nd (pi_list (pv 11)) (blkOk_by (N := ["_law_script", "_law_rows", "_law_k", "_law_one", "_law_two", "_law_last", "_law_row", "_law_clocks", "_law_p", "_law_left", "_law_right", "_law_pairs", "_law_turn", "_law_i", "_law_j"]) (sc := defScope s_law) (by decide +kernel)) (fun _ _ _ _ _ => pg_tup rfl (pgs_cons (pg_name (i := 13) sc_law.nd rfl (Or.inl rfl)) (pgs_cons (pg_name (i := 14) sc_law.nd rfl (Or.inl rfl)) pgs_nil))) (fun _ _ _ _ _ => pts_nil) (fun _ _ _ _ _ => pe_and (pv 14) (pe_one (pe_not (pv 13))))) (pa_cons (pv 7) pa_nil)))))) (pss_one (ps_ret pe_bl)) pss_nil)))))))
 (Evl.pss_cut (ps_if (pw_or (pt_not (pt_cmpR (op_eq_own c_eq hr) (pe_un (un_inv1 c_inv hr) (pe_un (un_inv1 c_inv hr) (pv 3))) (pv 3) (nomark _))) (pw_or1 (pt_not (pt_cmpR (op_eq_own c_eq hr) (pe_un (un_inv1 c_inv hr) (pe_op (op_own2 c_and hr T.sf) (pv 3) (pv 4))) (pe_op (op_own2 c_or hr T.sf) (pe_un (un_inv1 c_inv hr) (pv 3)) (pe_un (un_inv1 c_inv hr) (pv 4))) (nomark _))))).pt (pss_one (ps_ret pe_bl)) pss_nil)
 (Evl.pss_cut (ps_if (pt_not (pt_cmpR (op_eq_own c_eq hr) (pe_op (op_own2 c_and hr T.sf) (pe_op (op_own2 c_and hr T.sf) (pv 3) (pv 4)) (pv 5)) (pe_op (op_own2 c_and hr T.sf) (pv 3) (pe_op (op_own2 c_and hr T.sf) (pv 4) (pv 5))) (nomark _))) (pss_one (ps_ret pe_bl)) pss_nil)
 (Evl.pss_cut (ps_if (pt_not (pt_cmpR (op_eq_own c_eq hr) (pe_op (op_own2 c_and hr T.sf) (pv 3) (pe_op (op_own2 c_or hr T.sf) (pv 4) (pv 5))) (pe_op (op_own2 c_or hr T.sf) (pe_op (op_own2 c_and hr T.sf) (pv 3) (pv 4)) (pe_op (op_own2 c_and hr T.sf) (pv 3) (pv 5))) (nomark _))) (pss_one (ps_ret pe_bl)) pss_nil)
 (Evl.pss_cut (ps_if (pt_not (pt_cmpR (op_eq_own c_eq hr) (pe_op (op_own2 c_or hr T.sf) (pv 3) (pv 4)) (pe_op (op_own2 c_or hr T.sf) (pv 4) (pv 3)) (nomark _))) (pss_one (ps_ret pe_bl)) pss_nil)
 (Evl.pss_cut (ps_if (pw_or (pt_own (pe_op (op_own2 c_sub hr T.sf) (pv 3) (pv 3)) (tru_own c_bool hr)) (pw_or (pt_not (pt_cmpR (op_eq_own c_eq hr) (pe_op (op_own2 c_or hr T.sf) (pv 3) (pe_un (un_inv1 c_inv hr) (pv 3))) (pe_cm0 c_every hr (pe_glob (v := .ref C) (by rfl) T.g rfl) ) (nomark _))) (pw_or1 (pt_own (pe_op (op_own2 c_and hr T.sf) (pv 3) (pe_un (un_inv1 c_inv hr) (pv 3))) (tru_own c_bool hr))))).pt (pss_one (ps_ret pe_bl)) pss_nil)
 (Evl.pss_cut (ps_if (pt_not (pt_cmpR (op_eq_own c_eq hr) (pe_op (op_own2 c_and hr T.sf) (pv 3) (pe_cm0 c_every hr (pe_glob (v := .ref C) (by rfl) T.g rfl) )) (pv 3) (nomark _))) (pss_one (ps_ret pe_bl)) pss_nil)
 (pss_one (ps_ret (pe_and (pe_cmpR (op_eq_own c_eq hr) (pv 3) (pe_ma c_cil hr T.g (pa_cons (pe_ix ix_list (pe_ix ix_list (pv 1) pe_int (fun _ _ => rfl)) pe_int (fun _ _ => rfl)) (pa_cons (pe_ix ix_list (pe_ix ix_list (pv 1) pe_int (fun _ _ => rfl)) pe_int (fun _ _ => rfl)) pa_nil))) (nomark _)) (pe_one (pe_cmpR (op_eq_own c_eq hr) (pv 4) (pe_ma c_cil hr T.g (pa_cons (pe_ix ix_list (pe_ix ix_list (pv 1) pe_int (fun _ _ => rfl)) pe_int (fun _ _ => rfl)) (pa_cons (pe_ix ix_list (pe_ix ix_list (pv 1) pe_int (fun _ _ => rfl)) pe_int (fun _ _ => rfl)) pa_nil))) (nomark _))))))))))))))))))), ?_⟩
    -- rows
    refine ⟨fun σ H' => ∃ (ro r0 r1 r2 : Addr) (e1 e2 e3 : Bool) (ns1 ns2 ns3 : List Int), Same H H' ∧ H' ro = some (.lst [.ref r0, .ref r1, .ref r2]) ∧ (RowAt H' r0 e1 ns1 ∧ (∀ z ∈ ns1, z ∈ menu22) ∧ ns1.length ≤ 6) ∧ (RowAt H' r1 e2 ns2 ∧ (∀ z ∈ ns2, z ∈ menu22) ∧ ns2.length ≤ 6) ∧ (RowAt H' r2 e3 ns3 ∧ (∀ z ∈ ns3, z ∈ menu22) ∧ ns3.length ≤ 6) ∧
      σ = [some (.ref l0), some (.ref ro), none, none, none, none, none, none, none, none, none, none, none, none, none], ?_, ?_⟩
    · refine ⟨3, rfl, by decide, by decide, fun D hD => lc_range (lo := 0) (n := 3) (fun i H' => Same H H' ∧ ∃ acc : List Addr, H' D = some (.lst (acc.map V.ref)) ∧ acc.length = i ∧ ∀ r ∈ acc, ∃ (q0 : Addr) (e : Bool) (ns : List Int), (∀ z ∈ ns, z ∈ menu22) ∧ ns.length ≤ 6 ∧ r ≠ D ∧ q0 ≠ D ∧ H' r = some (.lst [.bl e, .ref q0]) ∧ H' q0 = some (.lst (ns.map V.int)))
        ⟨same_upd hD, [], upd_same, rfl, fun _ h => nomatch h⟩ ?_ ?_⟩
      · rintro i H1 hi ⟨s1, acc, hacc, hl, hall⟩
        refine ⟨rfl, ?_⟩
        refine ⟨_, rfl, _, rfl, l0, ns0, i, (by rw [Int.zero_add] <;> rfl), s1.seq hS, fun c => ⟨c, rfl, fun r q0 e ns H2 hin hn nr nq hr2 hq2 s2 => ?_⟩⟩
        have rD : r ≠ D := fun z => by
          rw [z, hacc] at nr
          cases nr
        have qD : q0 ≠ D := fun z => by
          rw [z, hacc] at nq
          cases nq
        refine ⟨_, s2 _ _ hacc, by rw [List.length_map]; exact small1000 (by omega), fun b o eb => ?_, acc ++ [r], ?_, ?_, ?_⟩
        · rw [upd_ne (ne_of_none eb hD)]
          exact s2 _ _ (s1 _ _ eb)
        · rw [List.map_append]
          exact upd_same
        · rw [List.length_append, hl]
          rfl
        · intro r' hr'
          rcases List.mem_append.mp hr' with h | h
          · obtain ⟨q1, e1, m1, i1, i2, i3, i4, i5, i6⟩ := hall r' h
            exact ⟨q1, e1, m1, i1, i2, i3, i4, by rw [upd_ne i3]; exact s2 _ _ i5, by rw [upd_ne i4]; exact s2 _ _ i6⟩
          · rw [List.mem_singleton.mp h]
            exact ⟨q0, e, ns, hin, hn, rD, qD, by rw [upd_ne rD]; exact hr2, by rw [upd_ne qD]; exact hq2⟩
      · rintro H1 ⟨s1, acc, hacc, hl, hall⟩
        match acc, hl with
        | [r0, r1, r2], _ =>
          obtain ⟨q0, e1, ns1, i1, i2, _, _, i3, i4⟩ := hall r0 (by simp)
          obtain ⟨q1, e2, ns2, j1, j2, _, _, j3, j4⟩ := hall r1 (by simp)
          obtain ⟨q2, e3, ns3, k1, k2, _, _, k3, k4⟩ := hall r2 (by simp)
          exact ⟨D, r0, r1, r2, e1, e2, e3, ns1, ns2, ns3, s1, hacc, ⟨⟨q0, i3, i4⟩, i1, i2⟩, ⟨⟨q1, j3, j4⟩, j1, j2⟩, ⟨⟨q2, k3, k4⟩, k1, k2⟩, rfl⟩
    rintro σ H1 ⟨ro, r0, r1, r2, e1, e2, e3, ns1, ns2, ns3, s1, hro, ⟨R0, in1, k1⟩, ⟨R1, in2, k2⟩, ⟨R2, in3, k3⟩, rfl⟩
    have pr1 : ∀ z ∈ ns1, Pr z ∧ z < 2 ^ 62 := fun z hz => ⟨(menu22_pr z (in1 z hz)).1, (menu22_pr z (in1 z hz)).2.2⟩
    have pr2 : ∀ z ∈ ns2, Pr z ∧ z < 2 ^ 62 := fun z hz => ⟨(menu22_pr z (in2 z hz)).1, (menu22_pr z (in2 z hz)).2.2⟩
    have pr3 : ∀ z ∈ ns3, Pr z ∧ z < 2 ^ 62 := fun z hz => ⟨(menu22_pr z (in3 z hz)).1, (menu22_pr z (in3 z hz)).2.2⟩
    -- sets
    refine ⟨fun σ H' => ∃ (a1 a2 a3 : Addr) (l1 l2 l3 : List Int), Same H1 H' ∧ (CharsAt C H' a1 e1 l1 ∧ (∀ q, q ∈ l1 ↔ q ∈ ns1) ∧ l1.length ≤ 6) ∧ (CharsAt C H' a2 e2 l2 ∧ (∀ q, q ∈ l2 ↔ q ∈ ns2) ∧ l2.length ≤ 6) ∧ (CharsAt C H' a3 e3 l3 ∧ (∀ q, q ∈ l3 ↔ q ∈ ns3) ∧ l3.length ≤ 6) ∧
      σ = [some (.ref l0), some (.ref ro), none, some (.ref a1), some (.ref a2), some (.ref a3), none, none, none, none, none, none, none, none, none], ?_, ?_⟩
    · refine ⟨_, rfl, ro, rfl, ⟨_, SqL.of hro⟩, fun D hD => lc_list (K := K) (a := ro) (xs := [.ref r0, .ref r1, .ref r2]) (fun i H' => Same H1 H' ∧ ∃ acc : List Addr, H' D = some (.lst (acc.map V.ref)) ∧ acc.length = i ∧ ∀ (j : Nat) (x : Addr), acc[j]? = some x → ∃ l : List Int, CharsAt C H' x (tri e1 e2 e3 j) l ∧ (∀ q, q ∈ l ↔ q ∈ tri ns1 ns2 ns3 j) ∧ l.length ≤ 6)
        ⟨same_upd hD, [], upd_same, rfl, fun _ _ h => nomatch h⟩ (fun i H' _ h => h.1.seq (SqL.of hro)) ?_ ?_⟩
      · rintro i y H2 hi ⟨s2, acc, hacc, hl, hall⟩
        obtain ⟨r, rfl, R, hp, hk⟩ : ∃ r, y = .ref r ∧ RowAt H1 r (tri e1 e2 e3 i) (tri ns1 ns2 ns3 i) ∧ (∀ z ∈ tri ns1 ns2 ns3 i, Pr z ∧ z < 2 ^ 62) ∧ (tri ns1 ns2 ns3 i).length ≤ 6 := by
          match i, hi with
          | 0, hi => exact ⟨r0, (Option.some.inj hi).symm, R0, pr1, k1⟩
          | 1, hi => exact ⟨r1, (Option.some.inj hi).symm, R1, pr2, k2⟩
          | 2, hi => exact ⟨r2, (Option.some.inj hi).symm, R2, pr3, k3⟩
          | n + 3, hi => cases hi
        have i3 : i < 3 := (List.getElem?_eq_some_iff.mp hi).1
        obtain ⟨q0, w1, w2⟩ := R.same s2
        refine ⟨rfl, ?_⟩
        refine ⟨_, rfl, r, _, _, _, rfl, rfl, SqL.of w1, rfl, _, rfl, r, _, _, _, rfl, rfl, SqL.of w1, rfl, ?_⟩
        intro x dnx hnx hdx _
        refine make_at (CB := CB) (tup := false) (e := tri e1 e2 e3 i) (ns := tri ns1 ns2 ns3 i) hnx hdx (SqL.of w2) hp (by omega) fun l H3 mem len ch s3 => ⟨rfl, ?_⟩
        have hD3 := s3 _ _ hacc
        have bb : SameBut D H3 (upd H3 D (.lst (acc.map V.ref ++ [V.ref x]))) := fun b o hb eb => by
          rw [upd_ne hb]
          exact eb
        refine ⟨_, hD3, by rw [List.length_map]; exact small1000 (by omega), fun b o eb => ?_, acc ++ [x], ?_, ?_, ?_⟩
        · rw [upd_ne (ne_of_none eb hD)]
          exact s3 _ _ (s2 _ _ eb)
        · rw [List.map_append]
          exact upd_same
        · rw [List.length_append, hl]
          rfl
        · intro j x' hj
          by_cases c : j < acc.length
          · rw [List.getElem?_append_left c] at hj
            obtain ⟨l', c1, c2, c3⟩ := hall j x' hj
            exact ⟨l', (c1.same s3).but hD3 bb, c2, c3⟩
          · have ej : j = i := by
              have := (List.getElem?_eq_some_iff.mp hj).1
              rw [List.length_append] at this
              have : j < acc.length + 1 := this
              omega
            subst ej
            rw [List.getElem?_append_right (by omega), show j - acc.length = 0 by omega] at hj
            obtain rfl := Option.some.inj hj
            exact ⟨l, ch.but hD3 bb, mem, by omega⟩
      · rintro H2 ⟨s2, acc, hacc, hl, hall⟩
        match acc, hl, hall, hacc with
        | [a1, a2, a3], _, hall, hacc =>
          obtain ⟨l1, c1, m1, n1⟩ := hall 0 a1 rfl
          obtain ⟨l2, c2, m2, n2⟩ := hall 1 a2 rfl
          obtain ⟨l3, c3, m3, n3⟩ := hall 2 a3 rfl
          exact ⟨D, _, rfl, SqL.of hacc, rfl, _, _, rfl, _, _, rfl, _, _, rfl, rfl, a1, a2, a3, l1, l2, l3, s2, ⟨c1, m1, n1⟩, ⟨c2, m2, n2⟩, ⟨c3, m3, n3⟩, rfl⟩
    rintro σ H2 ⟨a1, a2, a3, l1, l2, l3, s2, ⟨c1, m1, n1⟩, ⟨c2, m2, n2⟩, ⟨c3, m3, n3⟩, rfl⟩
    -- clocks
    refine ⟨fun σ H' => Same H2 H' ∧ ∃ (ck : Addr) (cs : List Int), H' ck = some (.lst (cs.map V.int)) ∧ cs.length ≤ 200 ∧ (0 : Int) ∈ cs ∧ (∀ z, Pr z → z < 100 → z ∈ cs) ∧ σ = [some (.ref l0), some (.ref ro), none, some (.ref a1), some (.ref a2), some (.ref a3), none, some (.ref ck), none, none, none, none, none, none, none], ?_, ?_⟩
    · refine ⟨(by show 1 ≤ sizeLine; decide), fun q1 nq1 => ?_⟩
      have g1 := same_upd (o := .lst [.int 0]) nq1
      refine ⟨2, 100, rfl, ⟨by decide, by decide, by decide, by decide⟩, fun D hD => lc_range (lo := 2) (n := 98) (fun i H' => Same (upd H2 q1 (.lst [.int 0])) H' ∧ ∃ acc : List Int, H' D = some (.lst (acc.map V.int)) ∧ acc.length ≤ i ∧ ∀ j : Nat, j < i → Pr (2 + (j : Int)) → 2 + (j : Int) ∈ acc)
        ⟨same_upd hD, [], upd_same, Nat.le_refl _, fun j hj => absurd hj (Nat.not_lt_zero j)⟩ ?_ ?_⟩
      · rintro i H3 hi ⟨s3, acc, hacc, hl, hall⟩
        refine ⟨rfl, _, rfl, 2 + (i : Int), rfl, by omega, _, rfl, ?_⟩
        by_cases hp : Pr (2 + (i : Int))
        · refine if_pos_of (prB_true hp) ?_
          refine ⟨_, rfl, _, hacc, by rw [List.length_map]; exact small1000 (by omega), fun b o eb => ?_, acc ++ [2 + (i : Int)], ?_, ?_, ?_⟩
          · rw [upd_ne (ne_of_none eb hD)]
            exact s3 _ _ eb
          · rw [List.map_append]
            exact upd_same
          · rw [List.length_append]
            show acc.length + 1 ≤ i + 1
            omega
          · intro j hj hpj
            by_cases ej : j = i
            · rw [ej]
              exact List.mem_append_right _ List.mem_cons_self
            · exact List.mem_append_left _ (hall j (by omega) hpj)
        · refine if_neg_of (prB_false hp) ?_
          refine ⟨s3, acc, hacc, by omega, fun j hj hpj => ?_⟩
          by_cases ej : j = i
          · exact absurd (ej ▸ hpj) hp
          · exact hall j (by omega) hpj
      · rintro H3 ⟨s3, acc, hacc, hl, hall⟩
        refine ⟨q1, D, _, _, rfl, rfl, s3 _ _ upd_same, hacc, (by rw [List.length_map]; exact Nat.le_of_lt (small1000 (by show 1 + acc.length ≤ 1000; omega))), fun q2 nq2 => ?_⟩
        refine ⟨(g1.trans s3).trans (same_upd nq2), q2, 0 :: acc, upd_same, (by show acc.length + 1 ≤ 200; omega), List.mem_cons_self, fun z hz hz2 => List.mem_cons_of_mem _ ?_, rfl⟩
        have h2 := hz.1
        have e : z = 2 + (((z - 2).toNat : Nat) : Int) := by omega
        rw [e]
        exact hall (z - 2).toNat (by omega) (e ▸ hz)
    rintro σ H3 ⟨s3, ck, cs, hck, few, z0, allp, rfl⟩
    -- left
    refine ⟨fun σ H' => Same H3 H' ∧ ∃ le, H' le = some (.lst ((cs.map (memB e1 l1)).map V.bl)) ∧ σ = [some (.ref l0), some (.ref ro), none, some (.ref a1), some (.ref a2), some (.ref a3), none, some (.ref ck), none, some (.ref le), none, none, none, none, none], ?_, ?_⟩
    · refine ⟨_, rfl, ck, rfl, ⟨_, SqL.of hck⟩, fun D hD => lc_list (K := K) (a := ck) (xs := cs.map V.int) (fun i H' => Same H3 H' ∧ H' D = some (.lst (((cs.take i).map (memB e1 l1)).map V.bl)))
        ⟨same_upd hD, by rw [List.take_zero]; exact upd_same⟩ (fun i H' _ h => h.1.seq (SqL.of hck)) ?_ ?_⟩
      · rintro i y H4 hi ⟨s4, hD4⟩
        obtain ⟨z, rfl, hz⟩ := item_int hi
        have lt : i < cs.length := (List.getElem?_eq_some_iff.mp hz).1
        refine ⟨rfl, ?_⟩
        have t4 := (s2.trans s3).trans s4
        refine ⟨_, rfl, ro, _, _, _, rfl, rfl, SqL.of (t4 _ _ hro), rfl, _, rfl, r0, e1, ns1, z, rfl, R0.same t4, ?_⟩
        rw [due_is c1.prm m1]
        refine ⟨_, hD4, by rw [List.length_map, List.length_map, List.length_take]; exact small1000 (by omega), fun b o eb => ?_, ?_⟩
        · rw [upd_ne (ne_of_none eb hD)]
          exact s4 b o eb
        · rw [List.take_add_one, hz, List.map_append, List.map_append]
          exact upd_same
      · rintro H4 ⟨s4, hD4⟩
        rw [List.length_map, List.take_length] at hD4
        exact ⟨s4, D, hD4, rfl⟩
    rintro σ H4 ⟨s4, le, hle, rfl⟩
    have hck4 := s4 _ _ hck
    -- right
    refine ⟨fun σ H' => Same H4 H' ∧ ∃ ri, H' ri = some (.lst ((cs.map (memB e2 l2)).map V.bl)) ∧ σ = [some (.ref l0), some (.ref ro), none, some (.ref a1), some (.ref a2), some (.ref a3), none, some (.ref ck), none, some (.ref le), some (.ref ri), none, none, none, none], ?_, ?_⟩
    · refine ⟨_, rfl, ck, rfl, ⟨_, SqL.of hck4⟩, fun D hD => lc_list (K := K) (a := ck) (xs := cs.map V.int) (fun i H' => Same H4 H' ∧ H' D = some (.lst (((cs.take i).map (memB e2 l2)).map V.bl)))
        ⟨same_upd hD, by rw [List.take_zero]; exact upd_same⟩ (fun i H' _ h => h.1.seq (SqL.of hck4)) ?_ ?_⟩
      · rintro i y H5 hi ⟨s5, hD5⟩
        obtain ⟨z, rfl, hz⟩ := item_int hi
        have lt : i < cs.length := (List.getElem?_eq_some_iff.mp hz).1
        refine ⟨rfl, ?_⟩
        have t5 := ((s2.trans s3).trans s4).trans s5
        refine ⟨_, rfl, ro, _, _, _, rfl, rfl, SqL.of (t5 _ _ hro), rfl, _, rfl, r1, e2, ns2, z, rfl, R1.same t5, ?_⟩
        rw [due_is c2.prm m2]
        refine ⟨_, hD5, by rw [List.length_map, List.length_map, List.length_take]; exact small1000 (by omega), fun b o eb => ?_, ?_⟩
        · rw [upd_ne (ne_of_none eb hD)]
          exact s5 b o eb
        · rw [List.take_add_one, hz, List.map_append, List.map_append]
          exact upd_same
      · rintro H5 ⟨s5, hD5⟩
        rw [List.length_map, List.take_length] at hD5
        exact ⟨s5, D, hD5, rfl⟩
    rintro σ H5 ⟨s5, ri, hri, rfl⟩
    have hle5 := s5 _ _ hle
    -- pairs
    refine ⟨fun σ H' => Same H5 H' ∧ ∃ (pa : Addr) (Ts : List Addr), H' pa = some (.lst (Ts.map V.ref)) ∧ Ts.length = cs.length ∧ (∀ (i : Nat) (T : Addr), Ts[i]? = some T → ∃ c : Int, cs[i]? = some c ∧ H' T = some (.tup [.bl (memB e1 l1 c), .bl (memB e2 l2 c)])) ∧ σ = [some (.ref l0), some (.ref ro), none, some (.ref a1), some (.ref a2), some (.ref a3), none, some (.ref ck), none, some (.ref le), some (.ref ri), some (.ref pa), none, none, none], ?_, ?_⟩
    · refine ⟨_, rfl, _, rfl, le, ri, _, _, rfl, SqL.of hle5, SqL.of hri, (by simp), (by rw [List.length_map, List.length_map]; omega), fun D hD => ?_⟩
      refine ⟨fun k G => Same H5 G ∧ ∃ Ts : List Addr, G D = some (.lst (Ts.map V.ref)) ∧ Ts.length = k ∧ ∀ (i : Nat) (T : Addr), Ts[i]? = some T → ∃ c : Int, cs[i]? = some c ∧ G T = some (.tup [.bl (memB e1 l1 c), .bl (memB e2 l2 c)]), ?_, ?_, ?_, ?_⟩
      · exact ⟨same_upd hD, [], upd_same, rfl, fun _ _ h => nomatch h⟩
      · rintro k G Ti x y acc ⟨sg, Ts, hTs, hl, hT⟩ nT hacc hk hx hy
        have ea : acc = Ts.map V.ref := by
          have z := hTs.symm.trans hacc
          exact (HO.lst.inj (Option.some.inj z)).symm
        rw [List.getElem?_map, List.getElem?_map] at hx hy
        obtain ⟨bx, hbx, rfl⟩ := Option.map_eq_some_iff.mp hx
        obtain ⟨c, hc, rfl⟩ := Option.map_eq_some_iff.mp hbx
        obtain ⟨bv, hbv, rfl⟩ := Option.map_eq_some_iff.mp hy
        rw [hc] at hbv
        obtain rfl := Option.some.inj hbv
        have DT : D ≠ Ti := ne_of_none hacc nT
        refine ⟨fun b o eb => ?_, Ts ++ [Ti], ?_, ?_, fun j T' hj => ?_⟩
        · rw [upd_ne (ne_of_none eb hD), upd_ne (ne_of_none (sg _ _ eb) nT)]
          exact sg b o eb
        · rw [List.map_append, ← ea]
          exact upd_same
        · rw [List.length_append, hl]
          rfl
        · by_cases cj : j < Ts.length
          · rw [List.getElem?_append_left cj] at hj
            obtain ⟨c', h1, h2⟩ := hT j T' hj
            refine ⟨c', h1, ?_⟩
            rw [upd_ne (fun z => by rw [z, hacc] at h2; cases h2), upd_ne (ne_of_none h2 nT)]
            exact h2
          · have ej : j = k := by
              have := (List.getElem?_eq_some_iff.mp hj).1
              rw [List.length_append] at this
              have : j < Ts.length + 1 := this
              omega
            subst ej
            rw [List.getElem?_append_right (by omega), show j - Ts.length = 0 by omega] at hj
            obtain rfl := Option.some.inj hj
            refine ⟨c, hc, ?_⟩
            rw [upd_ne DT.symm]
            exact upd_same
      · exact fun k G h => ⟨h.1.seq (SqL.of hle5), h.1.seq (SqL.of hri)⟩
      · rintro G ⟨sg, Ts, hTs, hl, hT⟩
        rw [List.length_map, List.length_map] at hl
        exact ⟨sg, D, Ts, hTs, hl, hT, rfl⟩
    rintro σ H6 ⟨s6, pa, Ts, hpa, hTl, hT, rfl⟩
    have s36 := (s4.trans s5).trans s6
    have s26 := s3.trans s36
    have s16 := s2.trans s26
    have S6 : S22 C ro a1 a2 a3 ck le ri pa e1 e2 e3 ns1 ns2 l1 l2 l3 cs H6 :=
      ⟨⟨r0, r1, r2, s16 _ _ hro, R0.same s16, R1.same s16⟩, c1.same s26, c2.same s26, c3.same s26, n1, n2, n3, m1, m2, k1, k2, s36 _ _ hck, few, z0, fun z hz => allp z (c1.prm z hz).1 (menu22_pr z (in1 z ((m1 z).mp hz))).2.1, fun z hz => allp z (c2.prm z hz).1 (menu22_pr z (in2 z ((m2 z).mp hz))).2.1, s6 _ _ hle5, Ts, hpa, hTl, hT⟩
    clear s36 s26 s16 hpa hT hTl s6 hle5 hri s5 hck4 hle s4 hck s3 c1 c2 c3 s2 R0 R1 R2 hro s1 allp n1 n2 n3
    -- for turn
    refine ⟨fun σ H' => ∃ x12, S22 C ro a1 a2 a3 ck le ri pa e1 e2 e3 ns1 ns2 l1 l2 l3 cs H' ∧ σ = [some (.ref l0), some (.ref ro), none, some (.ref a1), some (.ref a2), some (.ref a3), none, some (.ref ck), none, some (.ref le), some (.ref ri), some (.ref pa), x12, none, none], ?_, ?_⟩
    · have S := S6
      refine ⟨2, rfl, by decide, by decide, for_range (lo := 0) (n := 2) (fun _ σ H' => Same H6 H' ∧ ∃ x12, σ = [some (.ref l0), some (.ref ro), none, some (.ref a1), some (.ref a2), some (.ref a3), none, some (.ref ck), none, some (.ref le), some (.ref ri), some (.ref pa), x12, none, none]) ⟨Same.refl _, _, rfl⟩ ?_ ?_⟩
      · rintro i σ H8 hi ⟨s8, x12, rfl⟩
        refine ⟨fun σ H' => Same H6 H' ∧ σ = [some (.ref l0), some (.ref ro), none, some (.ref a1), some (.ref a2), some (.ref a3), none, some (.ref ck), none, some (.ref le), some (.ref ri), some (.ref pa), some (.int (0 + (i : Int))), none, none], ?_, ?_⟩
        · refine ⟨_, rfl, _, rfl, use2 (S.ch1.same s8) (S.ch2.same s8) (by have := S.n1; have := S.n2; omega) fun r l H9 ch len mem s9 => ?_⟩
          have S9 := (S.same s8).same s9
          obtain ⟨Ts, hpa, hTl, hT⟩ := S9.pairs
          refine ⟨_, rfl, pa, rfl, ⟨_, SqL.of hpa⟩, fun D hD => lc_list (K := K) (a := pa) (xs := Ts.map V.ref) (fun i H' => Same H9 H' ∧ H' D = some (.lst (((cs.take i).map fun c => and (memB e1 l1 c) (memB e2 l2 c)).map V.bl)))
            ⟨same_upd hD, by rw [List.take_zero]; exact upd_same⟩ (fun i H' _ h => h.1.seq (SqL.of hpa)) ?_ ?_⟩
          · rintro i v H10 hi ⟨s10, hD10⟩
            rw [List.getElem?_map] at hi
            obtain ⟨Ti, hTi, rfl⟩ := Option.map_eq_some_iff.mp hi
            obtain ⟨c, hci, tup⟩ := hT i Ti hTi
            have lt : i < cs.length := (List.getElem?_eq_some_iff.mp hci).1
            have fin : ∀ b : Bool, b = and (memB e1 l1 c) (memB e2 l2 c) → ∃ acc, H10 D = some (.lst acc) ∧ acc.length < sizeLine ∧ (Same H9 (upd H10 D (.lst (acc ++ [V.bl b]))) ∧ upd H10 D (.lst (acc ++ [V.bl b])) D = some (.lst (((cs.take (i + 1)).map fun c => and (memB e1 l1 c) (memB e2 l2 c)).map V.bl))) := fun b hb => by
              refine ⟨_, hD10, by rw [List.length_map, List.length_map, List.length_take]; have := S.few; exact small1000 (by omega), fun d o eb => ?_, ?_⟩
              · rw [upd_ne (ne_of_none eb hD)]
                exact s10 d o eb
              · rw [List.take_add_one, hci, List.map_append, List.map_append, hb]
                exact upd_same
            refine ⟨Ti, _, rfl, .inl (.inl (s10 _ _ tup)), rfl, _, _, rfl, _, _, rfl, rfl, rfl, ?_⟩
            refine ⟨_, rfl, _, rfl, ?_⟩
            cases hx : memB e1 l1 c with
            | true => exact if_pos_of rfl ⟨_, rfl, fin _ (by rw [hx]; rfl)⟩
            | false => exact if_neg_of rfl (fin _ (by rw [hx]; rfl))
          · rintro H10 ⟨s10, hD10⟩
            rw [List.length_map, hTl, List.take_length] at hD10
            have S10 := S9.same s10
            refine ⟨_, rfl, r, D, ck, _, l, cs, _, rfl, ch.same s10, by have := S.n1; have := S.n2; omega, hD10, S10.ck, List.map_congr_left fun c _ => (mem c).symm, S.few, S.z0, fun z hz => (in_or (f := and) (e1 := e1) (e2 := e2) mem hz).elim (S.in1 z) (S.in2 z), fun H11 s11 => ?_⟩
            exact ⟨_, rfl, if_neg_of rfl ⟨s8.trans ((s9.trans s10).trans s11), rfl⟩⟩
        rintro σ H8 ⟨s8, rfl⟩
        refine ⟨fun σ H' => Same H6 H' ∧ σ = [some (.ref l0), some (.ref ro), none, some (.ref a1), some (.ref a2), some (.ref a3), none, some (.ref ck), none, some (.ref le), some (.ref ri), some (.ref pa), some (.int (0 + (i : Int))), none, none], ?_, ?_⟩
        · refine ⟨_, rfl, _, rfl, use2 (S.ch1.same s8) (S.ch2.same s8) (by have := S.n1; have := S.n2; omega) fun r l H9 ch len mem s9 => ?_⟩
          have S9 := (S.same s8).same s9
          obtain ⟨Ts, hpa, hTl, hT⟩ := S9.pairs
          refine ⟨_, rfl, pa, rfl, ⟨_, SqL.of hpa⟩, fun D hD => lc_list (K := K) (a := pa) (xs := Ts.map V.ref) (fun i H' => Same H9 H' ∧ H' D = some (.lst (((cs.take i).map fun c => or (memB e1 l1 c) (memB e2 l2 c)).map V.bl)))
            ⟨same_upd hD, by rw [List.take_zero]; exact upd_same⟩ (fun i H' _ h => h.1.seq (SqL.of hpa)) ?_ ?_⟩
          · rintro i v H10 hi ⟨s10, hD10⟩
            rw [List.getElem?_map] at hi
            obtain ⟨Ti, hTi, rfl⟩ := Option.map_eq_some_iff.mp hi
            obtain ⟨c, hci, tup⟩ := hT i Ti hTi
            have lt : i < cs.length := (List.getElem?_eq_some_iff.mp hci).1
            have fin : ∀ b : Bool, b = or (memB e1 l1 c) (memB e2 l2 c) → ∃ acc, H10 D = some (.lst acc) ∧ acc.length < sizeLine ∧ (Same H9 (upd H10 D (.lst (acc ++ [V.bl b]))) ∧ upd H10 D (.lst (acc ++ [V.bl b])) D = some (.lst (((cs.take (i + 1)).map fun c => or (memB e1 l1 c) (memB e2 l2 c)).map V.bl))) := fun b hb => by
              refine ⟨_, hD10, by rw [List.length_map, List.length_map, List.length_take]; have := S.few; exact small1000 (by omega), fun d o eb => ?_, ?_⟩
              · rw [upd_ne (ne_of_none eb hD)]
                exact s10 d o eb
              · rw [List.take_add_one, hci, List.map_append, List.map_append, hb]
                exact upd_same
            refine ⟨Ti, _, rfl, .inl (.inl (s10 _ _ tup)), rfl, _, _, rfl, _, _, rfl, rfl, rfl, ?_⟩
            refine ⟨_, rfl, _, rfl, ?_⟩
            cases hx : memB e1 l1 c with
            | true => exact if_pos_of rfl (fin _ (by rw [hx]; rfl))
            | false => exact if_neg_of rfl ⟨_, rfl, fin _ (by rw [hx]; rfl)⟩
          · rintro H10 ⟨s10, hD10⟩
            rw [List.length_map, hTl, List.take_length] at hD10
            have S10 := S9.same s10
            refine ⟨_, rfl, r, D, ck, _, l, cs, _, rfl, ch.same s10, by have := S.n1; have := S.n2; omega, hD10, S10.ck, List.map_congr_left fun c _ => (mem c).symm, S.few, S.z0, fun z hz => (in_or (f := or) (e1 := e1) (e2 := e2) mem hz).elim (S.in1 z) (S.in2 z), fun H11 s11 => ?_⟩
            exact ⟨_, rfl, if_neg_of rfl ⟨s8.trans ((s9.trans s10).trans s11), rfl⟩⟩
        rintro σ H8 ⟨s8, rfl⟩
        refine ⟨fun σ H' => Same H6 H' ∧ σ = [some (.ref l0), some (.ref ro), none, some (.ref a1), some (.ref a2), some (.ref a3), none, some (.ref ck), none, some (.ref le), some (.ref ri), some (.ref pa), some (.int (0 + (i : Int))), none, none], ?_, ?_⟩
        · refine ⟨_, rfl, _, rfl, use2 (S.ch1.same s8) (S.ch2.same s8) (by have := S.n1; have := S.n2; omega) fun r l H9 ch len mem s9 => ?_⟩
          have S9 := (S.same s8).same s9
          obtain ⟨Ts, hpa, hTl, hT⟩ := S9.pairs
          refine ⟨_, rfl, pa, rfl, ⟨_, SqL.of hpa⟩, fun D hD => lc_list (K := K) (a := pa) (xs := Ts.map V.ref) (fun i H' => Same H9 H' ∧ H' D = some (.lst (((cs.take i).map fun c => and (memB e1 l1 c) (!memB e2 l2 c)).map V.bl)))
            ⟨same_upd hD, by rw [List.take_zero]; exact upd_same⟩ (fun i H' _ h => h.1.seq (SqL.of hpa)) ?_ ?_⟩
          · rintro i v H10 hi ⟨s10, hD10⟩
            rw [List.getElem?_map] at hi
            obtain ⟨Ti, hTi, rfl⟩ := Option.map_eq_some_iff.mp hi
            obtain ⟨c, hci, tup⟩ := hT i Ti hTi
            have lt : i < cs.length := (List.getElem?_eq_some_iff.mp hci).1
            have fin : ∀ b : Bool, b = and (memB e1 l1 c) (!memB e2 l2 c) → ∃ acc, H10 D = some (.lst acc) ∧ acc.length < sizeLine ∧ (Same H9 (upd H10 D (.lst (acc ++ [V.bl b]))) ∧ upd H10 D (.lst (acc ++ [V.bl b])) D = some (.lst (((cs.take (i + 1)).map fun c => and (memB e1 l1 c) (!memB e2 l2 c)).map V.bl))) := fun b hb => by
              refine ⟨_, hD10, by rw [List.length_map, List.length_map, List.length_take]; have := S.few; exact small1000 (by omega), fun d o eb => ?_, ?_⟩
              · rw [upd_ne (ne_of_none eb hD)]
                exact s10 d o eb
              · rw [List.take_add_one, hci, List.map_append, List.map_append, hb]
                exact upd_same
            refine ⟨Ti, _, rfl, .inl (.inl (s10 _ _ tup)), rfl, _, _, rfl, _, _, rfl, rfl, rfl, ?_⟩
            refine ⟨_, rfl, _, rfl, ?_⟩
            cases hx : memB e1 l1 c with
            | true => exact if_pos_of rfl ⟨_, rfl, _, rfl, fin _ (by rw [hx]; rfl)⟩
            | false => exact if_neg_of rfl (fin _ (by rw [hx]; rfl))
          · rintro H10 ⟨s10, hD10⟩
            rw [List.length_map, hTl, List.take_length] at hD10
            have S10 := S9.same s10
            refine ⟨_, rfl, r, D, ck, _, l, cs, _, rfl, ch.same s10, by have := S.n1; have := S.n2; omega, hD10, S10.ck, List.map_congr_left fun c _ => (mem c).symm, S.few, S.z0, fun z hz => (in_or (f := fun x y => and x (!y)) (e1 := e1) (e2 := e2) mem hz).elim (S.in1 z) (S.in2 z), fun H11 s11 => ?_⟩
            exact ⟨_, rfl, if_neg_of rfl ⟨s8.trans ((s9.trans s10).trans s11), rfl⟩⟩
        rintro σ H8 ⟨s8, rfl⟩
        refine ⟨fun σ H' => Same H6 H' ∧ σ = [some (.ref l0), some (.ref ro), none, some (.ref a1), some (.ref a2), some (.ref a3), none, some (.ref ck), none, some (.ref le), some (.ref ri), some (.ref pa), some (.int (0 + (i : Int))), none, none], ?_, ?_⟩
        · refine ⟨_, rfl, use1 (S.ch1.same s8) (by have := S.n1; omega) fun r H9 ch s9 => ?_⟩
          have S9 := (S.same s8).same s9
          refine ⟨_, rfl, le, rfl, ⟨_, SqL.of S9.left⟩, fun D hD => lc_list (K := K) (a := le) (xs := (cs.map (memB e1 l1)).map V.bl) (fun i H' => Same H9 H' ∧ H' D = some (.lst (((cs.take i).map fun c => !memB e1 l1 c).map V.bl)))
            ⟨same_upd hD, by rw [List.take_zero]; exact upd_same⟩ (fun i H' _ h => h.1.seq (SqL.of S9.left)) ?_ ?_⟩
          · rintro i v H10 hi ⟨s10, hD10⟩
            rw [List.getElem?_map, List.getElem?_map] at hi
            obtain ⟨bx, hb, rfl⟩ := Option.map_eq_some_iff.mp hi
            obtain ⟨c, hci, rfl⟩ := Option.map_eq_some_iff.mp hb
            have lt : i < cs.length := (List.getElem?_eq_some_iff.mp hci).1
            refine ⟨rfl, _, rfl, _, rfl, ?_⟩
            refine ⟨_, hD10, by rw [List.length_map, List.length_map, List.length_take]; have := S.few; exact small1000 (by omega), fun d o eb => ?_, ?_⟩
            · rw [upd_ne (ne_of_none eb hD)]
              exact s10 d o eb
            · rw [List.take_add_one, hci, List.map_append, List.map_append]
              exact upd_same
          · rintro H10 ⟨s10, hD10⟩
            rw [List.length_map, List.length_map, List.take_length] at hD10
            have S10 := S9.same s10
            refine ⟨_, rfl, r, D, ck, _, l1, cs, _, rfl, ch.same s10, by have := S.n1; omega, hD10, S10.ck, List.map_congr_left fun c _ => (memB_not e1 l1 c).symm, S.few, S.z0, S.in1, fun H11 s11 => ?_⟩
            exact ⟨_, rfl, if_neg_of rfl ⟨s8.trans ((s9.trans s10).trans s11), rfl⟩⟩
        rintro σ H8 ⟨s8, rfl⟩
        refine ⟨_, rfl, _, rfl, use2 (S.ch2.same s8) (S.ch1.same s8) (by have := S.n1; have := S.n2; omega) fun r l H9 ch len mem s9 => ?_⟩
        have S9 := (S.same s8).same s9
        obtain ⟨Ts, hpa, hTl, hT⟩ := S9.pairs
        refine ⟨_, rfl, pa, rfl, ⟨_, SqL.of hpa⟩, fun D hD => lc_list (K := K) (a := pa) (xs := Ts.map V.ref) (fun i H' => Same H9 H' ∧ H' D = some (.lst (((cs.take i).map fun c => and (memB e2 l2 c) (!memB e1 l1 c)).map V.bl)))
          ⟨same_upd hD, by rw [List.take_zero]; exact upd_same⟩ (fun i H' _ h => h.1.seq (SqL.of hpa)) ?_ ?_⟩
        · rintro i v H10 hi ⟨s10, hD10⟩
          rw [List.getElem?_map] at hi
          obtain ⟨Ti, hTi, rfl⟩ := Option.map_eq_some_iff.mp hi
          obtain ⟨c, hci, tup⟩ := hT i Ti hTi
          have lt : i < cs.length := (List.getElem?_eq_some_iff.mp hci).1
          have fin : ∀ b : Bool, b = and (memB e2 l2 c) (!memB e1 l1 c) → ∃ acc, H10 D = some (.lst acc) ∧ acc.length < sizeLine ∧ (Same H9 (upd H10 D (.lst (acc ++ [V.bl b]))) ∧ upd H10 D (.lst (acc ++ [V.bl b])) D = some (.lst (((cs.take (i + 1)).map fun c => and (memB e2 l2 c) (!memB e1 l1 c)).map V.bl))) := fun b hb => by
            refine ⟨_, hD10, by rw [List.length_map, List.length_map, List.length_take]; have := S.few; exact small1000 (by omega), fun d o eb => ?_, ?_⟩
            · rw [upd_ne (ne_of_none eb hD)]
              exact s10 d o eb
            · rw [List.take_add_one, hci, List.map_append, List.map_append, hb]
              exact upd_same
          refine ⟨Ti, _, rfl, .inl (.inl (s10 _ _ tup)), rfl, _, _, rfl, _, _, rfl, rfl, rfl, ?_⟩
          refine ⟨_, rfl, _, rfl, ?_⟩
          cases hx : memB e2 l2 c with
          | true => exact if_pos_of rfl ⟨_, rfl, _, rfl, fin _ (by rw [hx]; rfl)⟩
          | false => exact if_neg_of rfl (fin _ (by rw [hx]; rfl))
        · rintro H10 ⟨s10, hD10⟩
          rw [List.length_map, hTl, List.take_length] at hD10
          have S10 := S9.same s10
          refine ⟨_, rfl, r, D, ck, _, l, cs, _, rfl, ch.same s10, by have := S.n1; have := S.n2; omega, hD10, S10.ck, List.map_congr_left fun c _ => (mem c).symm, S.few, S.z0, fun z hz => (in_or (f := fun x y => and x (!y)) (e1 := e2) (e2 := e1) mem hz).elim (S.in2 z) (S.in1 z), fun H11 s11 => ?_⟩
          exact ⟨_, rfl, if_neg_of rfl ⟨s8.trans ((s9.trans s10).trans s11), _, rfl⟩⟩
      · rintro σ H8 ⟨s8, x12, rfl⟩
        exact ⟨x12, S.same s8, rfl⟩
    rintro σ H7 ⟨x12, S7, rfl⟩
    clear S6
    have n1 := S7.n1
    have n2 := S7.n2
    have n3 := S7.n3
    -- ~~one == one, ~(one & two) == ~one | ~two
    refine ⟨fun σ H' => S22 C ro a1 a2 a3 ck le ri pa e1 e2 e3 ns1 ns2 l1 l2 l3 cs H' ∧ σ = [some (.ref l0), some (.ref ro), none, some (.ref a1), some (.ref a2), some (.ref a3), none, some (.ref ck), none, some (.ref le), some (.ref ri), some (.ref pa), x12, none, none], ?_, ?_⟩
    · refine ⟨_, rfl, use1 S7.ch1 (by omega) fun r1 H8 d1 t1 => ?_⟩
      refine use1 d1 (by omega) fun r2 H9 d2 t2 => ?_
      have S9 := (S7.same t1).same t2
      refine ⟨_, rfl, useEq d2 S9.ch1 ⟨_, rfl, if_neg_of ?_ ?_⟩⟩
      · rw [eq_sets d2 S9.ch1 (Bool.not_not e1) fun p => by rw [Bool.not_not]]
        rfl
      refine ⟨_, rfl, _, rfl, use2 S9.ch1 S9.ch2 (by omega) fun r3 l4 H10 d3 len3 mem3 t3 => ?_⟩
      refine use1 d3 (by omega) fun r4 H11 d4 t4 => ?_
      have S11 := (S9.same t3).same t4
      refine ⟨_, rfl, use1 S11.ch1 (by omega) fun r5 H12 d5 t5 => ⟨_, rfl, use1 (S11.ch2.same t5) (by omega) fun r6 H13 d6 t6 => ?_⟩⟩
      refine use2 (d5.same t6) d6 (by omega) fun r7 l5 H14 d7 len7 mem7 t7 => ?_
      refine useEq (((d4.same t5).same t6).same t7) d7 ⟨_, rfl, if_neg_of ?_ ?_⟩
      · rw [eq_sets d4 d7 (by cases e1 <;> cases e2 <;> rfl) fun p => by
          rw [memB_not, mem3, mem7, memB_not, memB_not]
          cases memB e1 l1 p <;> cases memB e2 l2 p <;> rfl]
        rfl
      exact ⟨((S11.same t5).same t6).same t7, rfl⟩
    rintro σ H8 ⟨S8, rfl⟩
    -- (one & two) & last
    refine ⟨fun σ H' => S22 C ro a1 a2 a3 ck le ri pa e1 e2 e3 ns1 ns2 l1 l2 l3 cs H' ∧ σ = [some (.ref l0), some (.ref ro), none, some (.ref a1), some (.ref a2), some (.ref a3), none, some (.ref ck), none, some (.ref le), some (.ref ri), some (.ref pa), x12, none, none], ?_, ?_⟩
    · refine ⟨_, rfl, _, rfl, use2 S8.ch1 S8.ch2 (by omega) fun r1 u1 H9 d1 w1 v1 t1 => ?_⟩
      refine ⟨_, rfl, use2 d1 (S8.ch3.same t1) (by omega) fun r2 u2 H10 d2 w2 v2 t2 => ?_⟩
      have S10 := (S8.same t1).same t2
      refine ⟨_, rfl, _, rfl, _, rfl, use2 S10.ch2 S10.ch3 (by omega) fun r3 u3 H11 d3 w3 v3 t3 => ?_⟩
      refine use2 (S10.ch1.same t3) d3 (by omega) fun r4 u4 H12 d4 w4 v4 t4 => ?_
      refine useEq ((d2.same t3).same t4) d4 ⟨_, rfl, if_neg_of ?_ ?_⟩
      · rw [eq_sets d2 d4 (by cases e1 <;> cases e2 <;> cases e3 <;> rfl) fun p => by
          rw [v2, v1, v4, v3]
          cases memB e1 l1 p <;> cases memB e2 l2 p <;> cases memB e3 l3 p <;> rfl]
        rfl
      exact ⟨(S10.same t3).same t4, rfl⟩
    rintro σ H9 ⟨S9, rfl⟩
    -- one & (two | last)
    refine ⟨fun σ H' => S22 C ro a1 a2 a3 ck le ri pa e1 e2 e3 ns1 ns2 l1 l2 l3 cs H' ∧ σ = [some (.ref l0), some (.ref ro), none, some (.ref a1), some (.ref a2), some (.ref a3), none, some (.ref ck), none, some (.ref le), some (.ref ri), some (.ref pa), x12, none, none], ?_, ?_⟩
    · refine ⟨_, rfl, _, rfl, _, rfl, use2 S9.ch2 S9.ch3 (by omega) fun r1 u1 H10 d1 w1 v1 t1 => ?_⟩
      refine use2 (S9.ch1.same t1) d1 (by omega) fun r2 u2 H11 d2 w2 v2 t2 => ?_
      have S11 := (S9.same t1).same t2
      refine ⟨_, rfl, _, rfl, use2 S11.ch1 S11.ch2 (by omega) fun r3 u3 H12 d3 w3 v3 t3 => ?_⟩
      refine ⟨_, rfl, _, rfl, use2 (S11.ch1.same t3) (S11.ch3.same t3) (by omega) fun r4 u4 H13 d4 w4 v4 t4 => ?_⟩
      refine use2 (d3.same t4) d4 (by omega) fun r5 u5 H14 d5 w5 v5 t5 => ?_
      refine useEq (((d2.same t3).same t4).same t5) d5 ⟨_, rfl, if_neg_of ?_ ?_⟩
      · rw [eq_sets d2 d5 (by cases e1 <;> cases e2 <;> cases e3 <;> rfl) fun p => by
          rw [v2, v1, v5, v3, v4]
          cases memB e1 l1 p <;> cases memB e2 l2 p <;> cases memB e3 l3 p <;> rfl]
        rfl
      exact ⟨((S11.same t3).same t4).same t5, rfl⟩
    rintro σ H10 ⟨S10, rfl⟩
    -- one | two
    refine ⟨fun σ H' => S22 C ro a1 a2 a3 ck le ri pa e1 e2 e3 ns1 ns2 l1 l2 l3 cs H' ∧ σ = [some (.ref l0), some (.ref ro), none, some (.ref a1), some (.ref a2), some (.ref a3), none, some (.ref ck), none, some (.ref le), some (.ref ri), some (.ref pa), x12, none, none], ?_, ?_⟩
    · refine ⟨_, rfl, _, rfl, use2 S10.ch1 S10.ch2 (by omega) fun r1 u1 H11 d1 w1 v1 t1 => ?_⟩
      refine ⟨_, rfl, _, rfl, use2 (S10.ch2.same t1) (S10.ch1.same t1) (by omega) fun r2 u2 H12 d2 w2 v2 t2 => ?_⟩
      refine useEq (d1.same t2) d2 ⟨_, rfl, if_neg_of ?_ ?_⟩
      · rw [eq_sets d1 d2 (by cases e1 <;> cases e2 <;> rfl) fun p => by
          rw [v1, v2]
          cases memB e1 l1 p <;> cases memB e2 l2 p <;> rfl]
        rfl
      exact ⟨(S10.same t1).same t2, rfl⟩
    rintro σ H11 ⟨S11, rfl⟩
    -- one - one, one | ~one, one & ~one
    refine ⟨fun σ H' => S22 C ro a1 a2 a3 ck le ri pa e1 e2 e3 ns1 ns2 l1 l2 l3 cs H' ∧ σ = [some (.ref l0), some (.ref ro), none, some (.ref a1), some (.ref a2), some (.ref a3), none, some (.ref ck), none, some (.ref le), some (.ref ri), some (.ref pa), x12, none, none], ?_, ?_⟩
    · refine ⟨_, rfl, _, rfl, use2 S11.ch1 S11.ch1 (by omega) fun r1 u1 H12 d1 w1 v1 t1 => ?_⟩
      have v1' : ∀ p, memB (and e1 (!e1)) u1 p = and (memB e1 l1 p) (memB (!e1) l1 p) := fun p => by
        rw [memB_not]
        exact v1 p
      obtain ⟨x1, x2⟩ := and_none v1'
      refine useTru d1 ?_
      refine if_neg_of (by rw [x1, x2] <;> rfl) ?_
      have S12 := S11.same t1
      refine ⟨_, rfl, _, rfl, use1 S12.ch1 (by omega) fun r2 H13 d2 t2 => ?_⟩
      refine use2 (S12.ch1.same t2) d2 (by omega) fun r3 u3 H14 d3 w3 v3 t3 => ?_
      obtain ⟨y1, y2⟩ := or_all v3
      refine ⟨rfl, rfl, fun r4 H15 d4 t4 => ?_⟩
      refine useEq (d3.same t4) d4 ⟨_, rfl, if_neg_of (by rw [y1, y2] <;> rfl) ?_⟩
      have S15 := ((S12.same t2).same t3).same t4
      refine ⟨_, rfl, _, rfl, use1 S15.ch1 (by omega) fun r5 H16 d5 t5 => ?_⟩
      refine use2 (S15.ch1.same t5) d5 (by omega) fun r6 u6 H17 d6 w6 v6 t6 => ?_
      obtain ⟨z1, z2⟩ := and_none v6
      refine useTru d6 ?_
      refine if_neg_of (by rw [z1, z2] <;> rfl) ?_
      exact ⟨(S15.same t5).same t6, rfl⟩
    rintro σ H12 ⟨S12, rfl⟩
    -- one & every
    refine ⟨fun σ H' => S22 C ro a1 a2 a3 ck le ri pa e1 e2 e3 ns1 ns2 l1 l2 l3 cs H' ∧ σ = [some (.ref l0), some (.ref ro), none, some (.ref a1), some (.ref a2), some (.ref a3), none, some (.ref ck), none, some (.ref le), some (.ref ri), some (.ref pa), x12, none, none], ?_, ?_⟩
    · refine ⟨_, rfl, rfl, rfl, fun r1 H13 d1 t1 => ?_⟩
      refine use2 (S12.ch1.same t1) d1 (by show l1.length + 0 < 64; omega) fun r2 u2 H14 d2 w2 v2 t2 => ?_
      have S14 := (S12.same t1).same t2
      refine ⟨_, rfl, useEq d2 S14.ch1 ⟨_, rfl, if_neg_of ?_ ?_⟩⟩
      · rw [eq_sets d2 S14.ch1 (by cases e1 <;> rfl) fun p => by
          rw [v2, memB_nil]
          cases memB e1 l1 p <;> rfl]
        rfl
      exact ⟨S14, rfl⟩
    rintro σ H13 ⟨S13, rfl⟩
    -- the end
    obtain ⟨r0, r1, r2, hro, ⟨q0, w1, w2⟩, ⟨q1, y1, y2⟩⟩ := S13.rows
    refine ⟨_, rfl, _, rfl, ro, _, _, _, rfl, rfl, SqL.of hro, rfl, r0, _, _, _, rfl, rfl, SqL.of w1, rfl, _, rfl, ro, _, _, _, rfl, rfl, SqL.of hro, rfl, r0, _, _, _, rfl, rfl, SqL.of w1, rfl, ?_⟩
    intro x dnx hnx hdx _
    refine make_at (CB := CB) (tup := false) (e := e1) (ns := ns1) hnx hdx (SqL.of w2) pr1 (by omega) fun u1 H14 mem1 len1 d1 t1 => ⟨rfl, ?_⟩
    have eu1 : l1 = u1 := sorted_uniq S13.ch1.srt d1.srt fun z => (S13.m1 z).trans (mem1 z).symm
    subst eu1
    refine useEq (S13.ch1.same t1) d1 ⟨_, rfl, if_pos_of (by simp) ?_⟩
    refine ⟨_, rfl, _, rfl, ro, _, _, _, rfl, rfl, SqL.of (t1 _ _ hro), rfl, r1, _, _, _, rfl, rfl, SqL.of (t1 _ _ y1), rfl, _, rfl, ro, _, _, _, rfl, rfl, SqL.of (t1 _ _ hro), rfl, r1, _, _, _, rfl, rfl, SqL.of (t1 _ _ y1), rfl, ?_⟩
    intro x2 dnx2 hnx2 hdx2 _
    refine make_at (CB := CB) (tup := false) (e := e2) (ns := ns2) hnx2 hdx2 (SqL.of (t1 _ _ y2)) pr2 (by omega) fun u2 H15 mem2 len2 d2 t2 => ⟨rfl, ?_⟩
    have eu2 : l2 = u2 := sorted_uniq S13.ch2.srt d2.srt fun z => (S13.m2 z).trans (mem2 z).symm
    subst eu2
    refine useEq ((S13.ch2.same t1).same t2) d2 ?_
    rw [decide_eq_true ⟨rfl, rfl⟩]
    exact q _
end
theorem all_mk {P : Program} {w : World} {K : PySem.W.Frag} {h : Heap} {mg : Str → Option Value} {fa : Addr} (X : K.In h) (G : h.Ns mainGlobals mg) (hfa : mg "law" = some (.ref fa))
    {f_least : Addr} {od_least an_least : Option Addr} {sl_least : Array (Option Value)} {oc_least kV_least dc_least pm_least cd_least ct_least : Value}
    {f_prime : Addr} {od_prime an_prime : Option Addr} {sl_prime : Array (Option Value)} {oc_prime kV_prime dc_prime pm_prime cd_prime ct_prime : Value}
    {f_pool : Addr} {od_pool an_pool : Option Addr} {sl_pool : Array (Option Value)} {oc_pool kV_pool dc_pool pm_pool cd_pool ct_pool : Value}
    {f_take : Addr} {od_take an_take : Option Addr} {sl_take : Array (Option Value)} {oc_take kV_take dc_take pm_take cd_take ct_take : Value}
    {f_cell : Addr} {od_cell an_cell : Option Addr} {sl_cell : Array (Option Value)} {oc_cell kV_cell dc_cell pm_cell cd_cell ct_cell : Value}
    {f_lprime : Addr} {od_lprime an_lprime : Option Addr} {sl_lprime : Array (Option Value)} {oc_lprime kV_lprime dc_lprime pm_lprime cd_lprime ct_lprime : Value}
    {f_set : Addr} {od_set an_set : Option Addr} {sl_set : Array (Option Value)} {oc_set kV_set dc_set pm_set cd_set ct_set : Value}
    {f_member : Addr} {od_member an_member : Option Addr} {sl_member : Array (Option Value)} {oc_member kV_member dc_member pm_member cd_member ct_member : Value}
    {f_is : Addr} {od_is an_is : Option Addr} {sl_is : Array (Option Value)} {oc_is kV_is dc_is pm_is cd_is ct_is : Value}
    {f_law : Addr} {od_law an_law : Option Addr} {sl_law : Array (Option Value)} {oc_law kV_law dc_law pm_law cd_law ct_law : Value}
    {CF : Addr}
    {C_ibc f_ibc : Addr} {nm_ibc q_ibc : Str} {N_ibc : Addr} {bs_ibc sb_ibc : List Value} {sn_ibc : List Str} {ab_ibc : Bool} {co_ibc : Option Bool} {dd_ibc : Option Addr} {x0_ibc x1_ibc x2_ibc x3_ibc x5_ibc : Option Value} {od_ibc an_ibc : Option Addr} {sl_ibc : Array (Option Value)} {oc_ibc kV_ibc dc_ibc pm_ibc cd_ibc ct_ibc : Value}
    {C_ch : Addr}
    {f_cinit : Addr} {od_cinit an_cinit : Option Addr} {sl_cinit : Array (Option Value)} {oc_cinit kV_cinit dc_cinit pm_cinit cd_cinit ct_cinit : Value}
    {f_ccont : Addr} {od_ccont an_ccont : Option Addr} {sl_ccont : Array (Option Value)} {oc_ccont kV_ccont dc_ccont pm_ccont cd_ccont ct_ccont : Value}
    {f_cand : Addr} {od_cand an_cand : Option Addr} {sl_cand : Array (Option Value)} {oc_cand kV_cand dc_cand pm_cand cd_cand ct_cand : Value}
    {f_cor : Addr} {od_cor an_cor : Option Addr} {sl_cor : Array (Option Value)} {oc_cor kV_cor dc_cor pm_cor cd_cor ct_cor : Value}
    {f_csub : Addr} {od_csub an_csub : Option Addr} {sl_csub : Array (Option Value)} {oc_csub kV_csub dc_csub pm_csub cd_csub ct_csub : Value}
    {f_cinv : Addr} {od_cinv an_cinv : Option Addr} {sl_cinv : Array (Option Value)} {oc_cinv kV_cinv dc_cinv pm_cinv cd_cinv ct_cinv : Value}
    {f_ceq : Addr} {od_ceq an_ceq : Option Addr} {sl_ceq : Array (Option Value)} {oc_ceq kV_ceq dc_ceq pm_ceq cd_ceq ct_ceq : Value}
    {f_cbool : Addr} {od_cbool an_cbool : Option Addr} {sl_cbool : Array (Option Value)} {oc_cbool kV_cbool dc_cbool pm_cbool cd_cbool ct_cbool : Value}
    {f_cevery : Addr} {od_cevery an_cevery : Option Addr} {sl_cevery : Array (Option Value)} {oc_cevery kV_cevery dc_cevery pm_cevery cd_cevery ct_cevery : Value}
    {p_cevery : Addr} {r_cevery : List Value}
    (a_least : PySem.W.nsIn K mainGlobals "_least_divisor" = some (some (.ref f_least))) (l_least : K.lookup f_least = some ⟨oc_least, od_least, .func (PySem.W.fnOf "_least_divisor" "_least_divisor" (defArgs s_least) (defBody s_least) (defScope s_least) .none kV_least dc_least pm_least an_least cd_least ct_least), sl_least⟩) (c_least : PySem.W.codeIn K cd_least "_least_divisor" = true) (k_least : PySem.W.keepIn K (.ref f_least) = true)
    (a_prime : PySem.W.nsIn K mainGlobals "is_prime" = some (some (.ref f_prime))) (l_prime : K.lookup f_prime = some ⟨oc_prime, od_prime, .func (PySem.W.fnOf "is_prime" "is_prime" (defArgs s_prime) (defBody s_prime) (defScope s_prime) .none kV_prime dc_prime pm_prime an_prime cd_prime ct_prime), sl_prime⟩) (c_prime : PySem.W.codeIn K cd_prime "is_prime" = true) (k_prime : PySem.W.keepIn K (.ref f_prime) = true)
    (a_pool : PySem.W.nsIn K mainGlobals "_law_pool" = some (some (.ref f_pool))) (l_pool : K.lookup f_pool = some ⟨oc_pool, od_pool, .func (PySem.W.fnOf "_law_pool" "_law_pool" (defArgs s_pool) (defBody s_pool) (defScope s_pool) .none kV_pool dc_pool pm_pool an_pool cd_pool ct_pool), sl_pool⟩) (c_pool : PySem.W.codeIn K cd_pool "_law_pool" = true) (k_pool : PySem.W.keepIn K (.ref f_pool) = true)
    (a_take : PySem.W.nsIn K mainGlobals "_law_take" = some (some (.ref f_take))) (l_take : K.lookup f_take = some ⟨oc_take, od_take, .func (PySem.W.fnOf "_law_take" "_law_take" (defArgs s_take) (defBody s_take) (defScope s_take) .none kV_take dc_take pm_take an_take cd_take ct_take), sl_take⟩) (c_take : PySem.W.codeIn K cd_take "_law_take" = true) (k_take : PySem.W.keepIn K (.ref f_take) = true)
    (a_cell : PySem.W.nsIn K mainGlobals "_law_cell" = some (some (.ref f_cell))) (l_cell : K.lookup f_cell = some ⟨oc_cell, od_cell, .func (PySem.W.fnOf "_law_cell" "_law_cell" (defArgs s_cell) (defBody s_cell) (defScope s_cell) .none kV_cell dc_cell pm_cell an_cell cd_cell ct_cell), sl_cell⟩) (c_cell : PySem.W.codeIn K cd_cell "_law_cell" = true) (k_cell : PySem.W.keepIn K (.ref f_cell) = true)
    (a_lprime : PySem.W.nsIn K mainGlobals "_law_is_prime" = some (some (.ref f_lprime))) (l_lprime : K.lookup f_lprime = some ⟨oc_lprime, od_lprime, .func (PySem.W.fnOf "_law_is_prime" "_law_is_prime" (defArgs s_lprime) (defBody s_lprime) (defScope s_lprime) .none kV_lprime dc_lprime pm_lprime an_lprime cd_lprime ct_lprime), sl_lprime⟩) (c_lprime : PySem.W.codeIn K cd_lprime "_law_is_prime" = true) (k_lprime : PySem.W.keepIn K (.ref f_lprime) = true)
    (a_set : PySem.W.nsIn K mainGlobals "_law_set" = some (some (.ref f_set))) (l_set : K.lookup f_set = some ⟨oc_set, od_set, .func (PySem.W.fnOf "_law_set" "_law_set" (defArgs s_set) (defBody s_set) (defScope s_set) .none kV_set dc_set pm_set an_set cd_set ct_set), sl_set⟩) (c_set : PySem.W.codeIn K cd_set "_law_set" = true) (k_set : PySem.W.keepIn K (.ref f_set) = true)
    (a_member : PySem.W.nsIn K mainGlobals "_law_member" = some (some (.ref f_member))) (l_member : K.lookup f_member = some ⟨oc_member, od_member, .func (PySem.W.fnOf "_law_member" "_law_member" (defArgs s_member) (defBody s_member) (defScope s_member) .none kV_member dc_member pm_member an_member cd_member ct_member), sl_member⟩) (c_member : PySem.W.codeIn K cd_member "_law_member" = true) (k_member : PySem.W.keepIn K (.ref f_member) = true)
    (a_is : PySem.W.nsIn K mainGlobals "_law_is" = some (some (.ref f_is))) (l_is : K.lookup f_is = some ⟨oc_is, od_is, .func (PySem.W.fnOf "_law_is" "_law_is" (defArgs s_is) (defBody s_is) (defScope s_is) .none kV_is dc_is pm_is an_is cd_is ct_is), sl_is⟩) (c_is : PySem.W.codeIn K cd_is "_law_is" = true) (k_is : PySem.W.keepIn K (.ref f_is) = true)
    (a_law : PySem.W.nsIn K mainGlobals "law" = some (some (.ref f_law))) (l_law : K.lookup f_law = some ⟨oc_law, od_law, .func (PySem.W.fnOf "law" "law" (defArgs s_law) (defBody s_law) (defScope s_law) .none kV_law dc_law pm_law an_law cd_law ct_law), sl_law⟩) (c_law : PySem.W.codeIn K cd_law "law" = true) (k_law : PySem.W.keepIn K (.ref f_law) = true)
    (aF : PySem.W.nsIn K mainGlobals "FieldError" = some (some (.ref CF))) (rF : PySem.W.readsIn K CF (.type "type") = true) (gF : PySem.W.specialIn K (.ref CF) "__getattribute__" = some (some (.builtin "type.__getattribute__"))) (iF : PySem.W.findCls K (.ref CF) (.type "type") "__init__" = some (.val (.builtin "ValueError.__init__")))
    (aC_ibc : PySem.W.nsIn K mainGlobals "BadCharacteristic" = some (some (.ref C_ibc))) (xC_ibc : K.lookup C_ibc = some (excClassObj nm_ibc q_ibc C_ibc N_ibc bs_ibc [.ref CF, .type "ValueError", .type "Exception", .type "BaseException", .type "object"] true sn_ibc sb_ibc ab_ibc co_ibc dd_ibc x0_ibc x1_ibc x2_ibc x3_ibc x5_ibc "ValueError.__new__")) (sa_ibc : PySem.W.findIn K (.ref C_ibc) "__setattr__" = some (some (.builtin "object.__setattr__"))) (ga_ibc : PySem.W.findIn K (.ref C_ibc) "__getattribute__" = some (some (.builtin "BaseException.__getattribute__"))) (gg_ibc : PySem.W.findIn K (.ref C_ibc) "__getattr__" = some none) (no_ibc : PySem.W.findIn K (.ref C_ibc) "p" = some none) (ic_ibc : PySem.W.findIn K (.ref C_ibc) "__init__" = some (some (.ref f_ibc))) (ti_ibc : PySem.W.typeIn K (.ref f_ibc) = some (.type "function")) (kc_ibc : PySem.W.keepIn K (.ref C_ibc) = true) (ec_ibc : PySem.W.subIn K (.ref C_ibc) (.type "BaseException") = some true) (tc_ibc : PySem.W.typeIn K (.ref C_ibc) = some (.type "type")) (hd_ibc : PySem.W.hasDictIn K C_ibc = true) (is_ibc : PySem.W.isClsIn K C_ibc = true) (sc_ibc : PySem.W.subIn K (.ref C_ibc) (.ref C_ibc) = some true) (l_ibc : K.lookup f_ibc = some ⟨oc_ibc, od_ibc, .func (PySem.W.fnOf "__init__" "BadCharacteristic.__init__" (defArgs s_ibc) (defBody s_ibc) (defScope s_ibc) .none kV_ibc dc_ibc pm_ibc an_ibc cd_ibc ct_ibc), sl_ibc⟩) (c_ibc : PySem.W.codeIn K cd_ibc "BadCharacteristic.__init__" = true) (k_ibc : PySem.W.keepIn K (.ref f_ibc) = true)
    (K_aK : PySem.W.nsIn K mainGlobals "Chars" = some (some (.ref C_ch)))
    (K_pg : PySem.W.plainGet K C_ch Str.empty = true)
    (K_hd : PySem.W.hasDictIn K C_ch = true)
    (K_po : PySem.W.plainOver K C_ch = true)
    (K_sa : PySem.W.findIn K (.ref C_ch) "__setattr__" = some (some (.builtin "object.__setattr__")))
    (K_sf : PySem.W.selfFirst K C_ch = true)
    (K_ha : PySem.W.findIn K (.ref C_ch) "__class__" = some (some (.builtin "object.__class__")))
    (K_hn : PySem.W.specialIn K (.builtin "object.__class__") "__get__" = some (some (.builtin "getset_descriptor.__get__")))
    (K_htk : PySem.W.takesIn K (.builtin "object.__class__") = some true)
    (K_hm : PySem.W.mroIn K C_ch (.type "object") = some true)
    (K_mk : PySem.W.makesIn K C_ch = true)
    (K_kp : PySem.W.keepIn K (.ref C_ch) = true)
    (K_no_endless : PySem.W.findIn K (.ref C_ch) "endless" = some none)
    (K_no_primes : PySem.W.findIn K (.ref C_ch) "primes" = some none)
    (K_rd : PySem.W.readsIn K C_ch (.type "type") = true)
    (K_sg : PySem.W.specialIn K (.ref C_ch) "__getattribute__" = some (some (.builtin "type.__getattribute__")))
    (K_at_cinit : PySem.W.findIn K (.ref C_ch) "__init__" = some (some (.ref f_cinit)))
    (K_fn_cinit : PySem.W.isFn K (.ref f_cinit) = true)
    (K_l_cinit : K.lookup f_cinit = some ⟨oc_cinit, od_cinit, .func (PySem.W.fnOf "__init__" "Chars.__init__" (defArgs s_cinit) (defBody s_cinit) (defScope s_cinit) .none kV_cinit dc_cinit pm_cinit an_cinit cd_cinit ct_cinit), sl_cinit⟩)
    (K_c_cinit : PySem.W.codeIn K cd_cinit "Chars.__init__" = true)
    (K_k_cinit : PySem.W.keepIn K (.ref f_cinit) = true)
    (K_at_ccont : PySem.W.findIn K (.ref C_ch) "__contains__" = some (some (.ref f_ccont)))
    (K_fn_ccont : PySem.W.isFn K (.ref f_ccont) = true)
    (K_l_ccont : K.lookup f_ccont = some ⟨oc_ccont, od_ccont, .func (PySem.W.fnOf "__contains__" "Chars.__contains__" (defArgs s_ccont) (defBody s_ccont) (defScope s_ccont) .none kV_ccont dc_ccont pm_ccont an_ccont cd_ccont ct_ccont), sl_ccont⟩)
    (K_c_ccont : PySem.W.codeIn K cd_ccont "Chars.__contains__" = true)
    (K_k_ccont : PySem.W.keepIn K (.ref f_ccont) = true)
    (K_at_cand : PySem.W.findIn K (.ref C_ch) "__and__" = some (some (.ref f_cand)))
    (K_fn_cand : PySem.W.isFn K (.ref f_cand) = true)
    (K_l_cand : K.lookup f_cand = some ⟨oc_cand, od_cand, .func (PySem.W.fnOf "__and__" "Chars.__and__" (defArgs s_cand) (defBody s_cand) (defScope s_cand) .none kV_cand dc_cand pm_cand an_cand cd_cand ct_cand), sl_cand⟩)
    (K_c_cand : PySem.W.codeIn K cd_cand "Chars.__and__" = true)
    (K_k_cand : PySem.W.keepIn K (.ref f_cand) = true)
    (K_at_cor : PySem.W.findIn K (.ref C_ch) "__or__" = some (some (.ref f_cor)))
    (K_fn_cor : PySem.W.isFn K (.ref f_cor) = true)
    (K_l_cor : K.lookup f_cor = some ⟨oc_cor, od_cor, .func (PySem.W.fnOf "__or__" "Chars.__or__" (defArgs s_cor) (defBody s_cor) (defScope s_cor) .none kV_cor dc_cor pm_cor an_cor cd_cor ct_cor), sl_cor⟩)
    (K_c_cor : PySem.W.codeIn K cd_cor "Chars.__or__" = true)
    (K_k_cor : PySem.W.keepIn K (.ref f_cor) = true)
    (K_at_csub : PySem.W.findIn K (.ref C_ch) "__sub__" = some (some (.ref f_csub)))
    (K_fn_csub : PySem.W.isFn K (.ref f_csub) = true)
    (K_l_csub : K.lookup f_csub = some ⟨oc_csub, od_csub, .func (PySem.W.fnOf "__sub__" "Chars.__sub__" (defArgs s_csub) (defBody s_csub) (defScope s_csub) .none kV_csub dc_csub pm_csub an_csub cd_csub ct_csub), sl_csub⟩)
    (K_c_csub : PySem.W.codeIn K cd_csub "Chars.__sub__" = true)
    (K_k_csub : PySem.W.keepIn K (.ref f_csub) = true)
    (K_at_cinv : PySem.W.findIn K (.ref C_ch) "__invert__" = some (some (.ref f_cinv)))
    (K_fn_cinv : PySem.W.isFn K (.ref f_cinv) = true)
    (K_l_cinv : K.lookup f_cinv = some ⟨oc_cinv, od_cinv, .func (PySem.W.fnOf "__invert__" "Chars.__invert__" (defArgs s_cinv) (defBody s_cinv) (defScope s_cinv) .none kV_cinv dc_cinv pm_cinv an_cinv cd_cinv ct_cinv), sl_cinv⟩)
    (K_c_cinv : PySem.W.codeIn K cd_cinv "Chars.__invert__" = true)
    (K_k_cinv : PySem.W.keepIn K (.ref f_cinv) = true)
    (K_at_ceq : PySem.W.findIn K (.ref C_ch) "__eq__" = some (some (.ref f_ceq)))
    (K_fn_ceq : PySem.W.isFn K (.ref f_ceq) = true)
    (K_l_ceq : K.lookup f_ceq = some ⟨oc_ceq, od_ceq, .func (PySem.W.fnOf "__eq__" "Chars.__eq__" (defArgs s_ceq) (defBody s_ceq) (defScope s_ceq) .none kV_ceq dc_ceq pm_ceq an_ceq cd_ceq ct_ceq), sl_ceq⟩)
    (K_c_ceq : PySem.W.codeIn K cd_ceq "Chars.__eq__" = true)
    (K_k_ceq : PySem.W.keepIn K (.ref f_ceq) = true)
    (K_at_cbool : PySem.W.findIn K (.ref C_ch) "__bool__" = some (some (.ref f_cbool)))
    (K_fn_cbool : PySem.W.isFn K (.ref f_cbool) = true)
    (K_l_cbool : K.lookup f_cbool = some ⟨oc_cbool, od_cbool, .func (PySem.W.fnOf "__bool__" "Chars.__bool__" (defArgs s_cbool) (defBody s_cbool) (defScope s_cbool) .none kV_cbool dc_cbool pm_cbool an_cbool cd_cbool ct_cbool), sl_cbool⟩)
    (K_c_cbool : PySem.W.codeIn K cd_cbool "Chars.__bool__" = true)
    (K_k_cbool : PySem.W.keepIn K (.ref f_cbool) = true)
    (K_at_cevery : PySem.W.findCls K (.ref C_ch) (.type "type") "every" = some (.get (.builtin "classmethod.__get__") (.ref p_cevery) .none (.ref C_ch)))
    (K_rc_cevery : PySem.W.recIn K p_cevery "classmethod" = some (.ref f_cevery :: r_cevery))
    (K_fi_cevery : PySem.W.fnIn K f_cevery = true)
    (K_l_cevery : K.lookup f_cevery = some ⟨oc_cevery, od_cevery, .func (PySem.W.fnOf "every" "Chars.every" (defArgs s_cevery) (defBody s_cevery) (defScope s_cevery) .none kV_cevery dc_cevery pm_cevery an_cevery cd_cevery ct_cevery), sl_cevery⟩)
    (K_c_cevery : PySem.W.codeIn K cd_cevery "Chars.every" = true)
    (K_k_cevery : PySem.W.keepIn K (.ref f_cevery) = true)
    (z_int : PySem.W.nsIn K mainGlobals "int" = some none)
    (z_len : PySem.W.nsIn K mainGlobals "len" = some none)
    (z_abs : PySem.W.nsIn K mainGlobals "abs" = some none)
    (z_isinstance : PySem.W.nsIn K mainGlobals "isinstance" = some none)
    (z_bool : PySem.W.nsIn K mainGlobals "bool" = some none)
    (z_tuple : PySem.W.nsIn K mainGlobals "tuple" = some none)
    (z_list : PySem.W.nsIn K mainGlobals "list" = some none)
    (z_str : PySem.W.nsIn K mainGlobals "str" = some none)
    (z_range : PySem.W.nsIn K mainGlobals "range" = some none)
    (z_max : PySem.W.nsIn K mainGlobals "max" = some none)
    (z_min : PySem.W.nsIn K mainGlobals "min" = some none)
    (z_sorted : PySem.W.nsIn K mainGlobals "sorted" = some none)
    (z_set : PySem.W.nsIn K mainGlobals "set" = some none)
    (z_zip : PySem.W.nsIn K mainGlobals "zip" = some none)
    (g_isqrt : PySem.W.nsIn K mainGlobals "isqrt" = some (some (.builtin "math.isqrt"))) :
    ∃ fd : FuncData, (∀ (s : Shared) (v : Value), BindsTo s fd ⟨[v], []⟩ [("_law_script", v)]) ∧ ∀ base : Heap, K.In base → base.Ns mainGlobals mg → FnOk P w K mg base CX0 8 fa fd ["_law_script"] (spLaw K) := by
  have e := hfa.symm.trans (PySem.W.mg_of X G a_law)
  cases e
  have T : Txt mg := ⟨PySem.W.mg_none_of X G z_int, PySem.W.mg_none_of X G z_len, PySem.W.mg_none_of X G z_abs, PySem.W.mg_none_of X G z_isinstance, PySem.W.mg_none_of X G z_bool, PySem.W.mg_none_of X G z_tuple, PySem.W.mg_none_of X G z_list, PySem.W.mg_none_of X G z_str, PySem.W.mg_none_of X G z_range, PySem.W.mg_none_of X G z_max, PySem.W.mg_none_of X G z_min, PySem.W.mg_none_of X G z_sorted, PySem.W.mg_none_of X G z_set⟩
  have n_zip := PySem.W.mg_none_of X G z_zip
  have TF : FErr K mg CF := ⟨PySem.W.mg_of X G aF, rF, gF, iF⟩
  have F_ibc := fun_mk (st := s_ibc) l_ibc c_ibc k_ibc
  have b_ibc := F_ibc.binds (ps := ["self", "p"]) fun _ _ _ _ _ _ us hl => match us, hl with | [_, _], _ => rfl
  have E_ibc : ErrC K mg "BadCharacteristic" "p" C_ibc f_ibc := ⟨PySem.W.mg_of X G aC_ibc, ⟨⟨_, _, _, _, _, _, _, _, _, _, _, _, _, _, _, xC_ibc, rfl⟩, sa_ibc, ec_ibc, tc_ibc, kc_ibc⟩, no_ibc, ic_ibc, ti_ibc, ⟨ga_ibc, gg_ibc, ec_ibc, hd_ibc⟩, exm_me ec_ibc is_ibc tc_ibc sc_ibc⟩
  have TC : ChT K mg C_ch := ⟨PySem.W.mg_of X G K_aK, ⟨K_pg, K_hd, K_po, K_sa⟩, K_no_endless, K_no_primes, K_sf, ⟨⟨K_pg, K_hd, K_po, K_sa⟩, K_ha, K_hn, K_htk, K_hm, if_pos (beq_self_eq_true _)⟩⟩
  have F_cinit := fun_mk (st := s_cinit) K_l_cinit K_c_cinit K_k_cinit
  have b_cinit := F_cinit.binds (ps := ["self", "endless", "primes"]) fun _ _ _ _ _ _ us hl => match us, hl with | [_, _, _], _ => rfl
  have F_ccont := fun_mk (st := s_ccont) K_l_ccont K_c_ccont K_k_ccont
  have b_ccont := F_ccont.binds (ps := ["self", "p"]) fun _ _ _ _ _ _ us hl => match us, hl with | [_, _], _ => rfl
  have M_ccont : Meth K C_ch "__contains__" f_ccont := ⟨K_at_ccont, K_fn_ccont, K_k_ccont⟩
  have F_cand := fun_mk (st := s_cand) K_l_cand K_c_cand K_k_cand
  have b_cand := F_cand.binds (ps := ["self", "other"]) fun _ _ _ _ _ _ us hl => match us, hl with | [_, _], _ => rfl
  have M_cand : Meth K C_ch "__and__" f_cand := ⟨K_at_cand, K_fn_cand, K_k_cand⟩
  have F_cor := fun_mk (st := s_cor) K_l_cor K_c_cor K_k_cor
  have b_cor := F_cor.binds (ps := ["self", "other"]) fun _ _ _ _ _ _ us hl => match us, hl with | [_, _], _ => rfl
  have M_cor : Meth K C_ch "__or__" f_cor := ⟨K_at_cor, K_fn_cor, K_k_cor⟩
  have F_csub := fun_mk (st := s_csub) K_l_csub K_c_csub K_k_csub
  have b_csub := F_csub.binds (ps := ["self", "other"]) fun _ _ _ _ _ _ us hl => match us, hl with | [_, _], _ => rfl
  have M_csub : Meth K C_ch "__sub__" f_csub := ⟨K_at_csub, K_fn_csub, K_k_csub⟩
  have F_cinv := fun_mk (st := s_cinv) K_l_cinv K_c_cinv K_k_cinv
  have b_cinv := F_cinv.binds (ps := ["self"]) fun _ _ _ _ _ _ us hl => match us, hl with | [_], _ => rfl
  have M_cinv : Meth K C_ch "__invert__" f_cinv := ⟨K_at_cinv, K_fn_cinv, K_k_cinv⟩
  have F_ceq := fun_mk (st := s_ceq) K_l_ceq K_c_ceq K_k_ceq
  have b_ceq := F_ceq.binds (ps := ["self", "other"]) fun _ _ _ _ _ _ us hl => match us, hl with | [_, _], _ => rfl
  have M_ceq : Meth K C_ch "__eq__" f_ceq := ⟨K_at_ceq, K_fn_ceq, K_k_ceq⟩
  have F_cbool := fun_mk (st := s_cbool) K_l_cbool K_c_cbool K_k_cbool
  have b_cbool := F_cbool.binds (ps := ["self"]) fun _ _ _ _ _ _ us hl => match us, hl with | [_], _ => rfl
  have M_cbool : Meth K C_ch "__bool__" f_cbool := ⟨K_at_cbool, K_fn_cbool, K_k_cbool⟩
  have F_cevery := fun_mk (st := s_cevery) K_l_cevery K_c_cevery K_k_cevery
  have b_cevery := F_cevery.binds (ps := ["cls"]) fun _ _ _ _ _ _ us hl => match us, hl with | [_], _ => rfl
  have M_cevery : ClX.CMet K C_ch (.type "type") "every" p_cevery f_cevery := ⟨K_at_cevery, ⟨_, K_rc_cevery⟩, K_fi_cevery⟩
  have CR : ClX.CRead K C_ch (.type "type") := ⟨K_rd, K_sg⟩
  have F_least := fun_mk (st := s_least) l_least c_least k_least
  have b_least := F_least.binds (ps := ["n"]) fun _ _ _ _ _ _ us hl => match us, hl with | [_], _ => rfl
  have F_prime := fun_mk (st := s_prime) l_prime c_prime k_prime
  have b_prime := F_prime.binds (ps := ["n"]) fun _ _ _ _ _ _ us hl => match us, hl with | [_], _ => rfl
  have F_pool := fun_mk (st := s_pool) l_pool c_pool k_pool
  have b_pool := F_pool.binds (ps := ["_law_cell_here"]) fun _ _ _ _ _ _ us hl => match us, hl with | [_], _ => rfl
  have F_take := fun_mk (st := s_take) l_take c_take k_take
  have b_take := F_take.binds (ps := ["_law_pool_here", "_law_limit"]) fun _ _ _ _ _ _ us hl => match us, hl with | [_, _], _ => rfl
  have F_cell := fun_mk (st := s_cell) l_cell c_cell k_cell
  have b_cell := F_cell.binds (ps := ["_law_script", "_law_k"]) fun _ _ _ _ _ _ us hl => match us, hl with | [_, _], _ => rfl
  have F_lprime := fun_mk (st := s_lprime) l_lprime c_lprime k_lprime
  have b_lprime := F_lprime.binds (ps := ["_law_n"]) fun _ _ _ _ _ _ us hl => match us, hl with | [_], _ => rfl
  have F_set := fun_mk (st := s_set) l_set c_set k_set
  have b_set := F_set.binds (ps := ["_law_cell_here"]) fun _ _ _ _ _ _ us hl => match us, hl with | [_], _ => rfl
  have F_member := fun_mk (st := s_member) l_member c_member k_member
  have b_member := F_member.binds (ps := ["_law_row", "_law_p"]) fun _ _ _ _ _ _ us hl => match us, hl with | [_, _], _ => rfl
  have F_is := fun_mk (st := s_is) l_is c_is k_is
  have b_is := F_is.binds (ps := ["_law_told", "_law_due", "_law_clocks"]) fun _ _ _ _ _ _ us hl => match us, hl with | [_, _, _], _ => rfl
  have F_law := fun_mk (st := s_law) l_law c_law k_law
  have m_isqrt := PySem.W.mg_of X G g_isqrt
  refine ⟨PySem.W.fnOf "law" "law" (defArgs s_law) (defBody s_law) (defScope s_law) .none kV_law dc_law pm_law an_law cd_law ct_law, fun s v => .of_eq rfl, fun base _ _ => ?_⟩
  have x_ibc : Er P w K mg base "BadCharacteristic" "p" C_ibc := ⟨_, _, _, E_ibc, ok_ibc TF E_ibc.oex E_ibc.no F_ibc, b_ibc⟩
  have d_least : Cl P w K mg base CX0 1 "_least_divisor" spLeast := ⟨_, _, _, ok_least T m_isqrt F_least, PySem.W.mg_of X G a_least, k_least, b_least⟩
  have d_prime : Cl P w K mg base CX0 2 "is_prime" spPrime := ⟨_, _, _, ok_prime F_prime d_least, PySem.W.mg_of X G a_prime, k_prime, b_prime⟩
  have d_pool : Cl P w K mg base CX0 1 "_law_pool" spPool := ⟨_, _, _, ok_pool F_pool, PySem.W.mg_of X G a_pool, k_pool, b_pool⟩
  have d_take : Cl P w K mg base CX0 1 "_law_take" spTake := ⟨_, _, _, ok_take T F_take, PySem.W.mg_of X G a_take, k_take, b_take⟩
  have d_cell : Cl P w K mg base CX0 1 "_law_cell" (spCellL K) := ⟨_, _, _, ok_cell T F_cell, PySem.W.mg_of X G a_cell, k_cell, b_cell⟩
  have d_lprime : Cl P w K mg base CX0 1 "_law_is_prime" spPrime := ⟨_, _, _, ok_lprime F_lprime, PySem.W.mg_of X G a_lprime, k_lprime, b_lprime⟩
  have d_set : Cl P w K mg base CX0 2 "_law_set" spSet := ⟨_, _, _, ok_set T F_set d_pool d_take, PySem.W.mg_of X G a_set, k_set, b_set⟩
  have d_member : Cl P w K mg base CX0 1 "_law_member" spMember := ⟨_, _, _, ok_member F_member, PySem.W.mg_of X G a_member, k_member, b_member⟩
  have c_cit : Ma P w K mg base 3 C_ch (spCI C_ch C_ibc true K) := ⟨_, _, _, ⟨K_mk, K_at_cinit, K_fn_cinit, K_kp⟩, ok_cinit true T TC F_cinit d_prime x_ibc, b_cinit⟩
  have c_cil : Ma P w K mg base 3 C_ch (spCI C_ch C_ibc false K) := ⟨_, _, _, ⟨K_mk, K_at_cinit, K_fn_cinit, K_kp⟩, ok_cinit false T TC F_cinit d_prime x_ibc, b_cinit⟩
  have m_cont : Me P w K mg base 1 C_ch "__contains__" (spCont C_ch) := ⟨_, _, _, M_ccont, ok_ccont TC F_ccont, b_ccont⟩
  have m_inv : Me P w K mg base 5 C_ch "__invert__" (spInv C_ch) := ⟨_, _, _, M_cinv, ok_cinv TC F_cinv c_cit, b_cinv⟩
  have m_and : Me P w K mg base 5 C_ch "__and__" (spAnd C_ch and) := ⟨_, _, _, M_cand, ok_cand TC F_cand c_cit c_cil m_cont, b_cand⟩
  have m_or : Me P w K mg base 5 C_ch "__or__" (spAnd C_ch or) := ⟨_, _, _, M_cor, ok_cor TC F_cor c_cit c_cil m_cont, b_cor⟩
  have m_sub : Me P w K mg base 6 C_ch "__sub__" (spAnd C_ch fun x y => and x (!y)) := ⟨_, _, _, M_csub, ok_csub TC F_csub m_and m_inv, b_csub⟩
  have m_eq : Me P w K mg base 1 C_ch "__eq__" (spCeq C_ch) := ⟨_, _, _, M_ceq, ok_ceq T TC F_ceq, b_ceq⟩
  have m_bool : Me P w K mg base 1 C_ch "__bool__" (spCbool C_ch) := ⟨_, _, _, M_cbool, ok_cbool T TC F_cbool, b_cbool⟩
  have m_every : Cm P w K mg base 5 C_ch "every" (spCevery C_ch true) := ⟨_, _, _, _, _, CR, M_cevery, ok_cevery TC F_cevery c_cit, b_cevery⟩
  have d_is : Cl P w K mg base CX0 5 "_law_is" (spIs C_ch) := ⟨_, _, _, ok_is T TC F_is c_cit m_cont m_eq m_bool, PySem.W.mg_of X G a_is, k_is, b_is⟩
  exact ok_law (CB := C_ibc) T n_zip TC F_law d_cell d_lprime d_set d_member d_is c_cil m_every m_and m_or m_sub m_inv m_eq m_bool
theorem walk {l : PySem.W.OpenLaw} {q : Program} {loose : List Str} {XP : (Str → Option Value) → Heap → Prop} {YP : World → Heap → Prop} {d : DefRec} {K : Params → PySem.W.Frag} (hn : l.most = some 63) (hdf : d.params.defaults = [])
    (hY : ∀ (w : World) (h : Heap), YP w h → (K w.params).In h)
    (F : ∀ (w : World) (mg : Str → Option Value) (fa : Addr) (h : Heap), (K w.params).In h → h.Ns mainGlobals mg → mg d.name = some (.ref fa) →
      ∃ fd : FuncData, (∀ (s : Shared) (u : Value), BindsTo s fd ⟨[u], []⟩ [("_law_script", u)]) ∧ ∀ base : Heap, (K w.params).In base → base.Ns mainGlobals mg → FnOk l.prog w (K w.params) mg base CX0 8 fa fd ["_law_script"] (spLaw (K w.params))) :
    PySem.W.WalkO q loose XP YP l.row.toRowW d [] (fun f vs => PySem.call f vs) :=
  L2.walk_of (n := 63) (k := 8) (x := "_law_script") (CX := fun _ => CX0) (sp := fun w => spLaw (K w.params)) hn (by decide) hdf ⟨rfl, by decide, by decide⟩ hY F (fun _ _ a ns hl _ hS => ⟨a, ns, rfl, hS, hl, fun _ => rfl⟩) fun _ _ _ _ _ z => z
end My
open PySem PySem.W PyProof.Rows
set_option maxRecDepth 100000 in
set_option maxHeartbeats 0 in
theorem PySem.Challenge.cw_everyfield_k22_whole_sets_combined_holds : PySem.Challenge.rw_everyfield_k22_whole_sets_combined.Holds := by
  w_on; o_law; k_head; (case hw => w_witness2)
  k_fill
  refine My.walk (l := PySem.Challenge.rw_everyfield_k22_whole_sets_combined) rfl rfl (fun w h Y => PySem.W.kIn_of Y) ?F
  case F =>
    intro w mg fa h KX G hmg
    refine' My.all_mk KX G hmg ?a_least ?l_least ?c_least ?k_least ?a_prime ?l_prime ?c_prime ?k_prime ?a_pool ?l_pool ?c_pool ?k_pool ?a_take ?l_take ?c_take ?k_take ?a_cell ?l_cell ?c_cell ?k_cell ?a_lprime ?l_lprime ?c_lprime ?k_lprime ?a_set ?l_set ?c_set ?k_set ?a_member ?l_member ?c_member ?k_member ?a_is ?l_is ?c_is ?k_is ?a_law ?l_law ?c_law ?k_law ?aF ?rF ?gF ?iF ?aC_ibc ?xC_ibc ?sa_ibc ?ga_ibc ?gg_ibc ?no_ibc ?ic_ibc ?ti_ibc ?kc_ibc ?ec_ibc ?tc_ibc ?hd_ibc ?is_ibc ?sc_ibc ?l_ibc ?c_ibc ?k_ibc ?K_aK ?K_pg ?K_hd ?K_po ?K_sa ?K_sf ?K_ha ?K_hn ?K_htk ?K_hm ?K_mk ?K_kp ?K_no_endless ?K_no_primes ?K_rd ?K_sg ?K_at_cinit ?K_fn_cinit ?K_l_cinit ?K_c_cinit ?K_k_cinit ?K_at_ccont ?K_fn_ccont ?K_l_ccont ?K_c_ccont ?K_k_ccont ?K_at_cand ?K_fn_cand ?K_l_cand ?K_c_cand ?K_k_cand ?K_at_cor ?K_fn_cor ?K_l_cor ?K_c_cor ?K_k_cor ?K_at_csub ?K_fn_csub ?K_l_csub ?K_c_csub ?K_k_csub ?K_at_cinv ?K_fn_cinv ?K_l_cinv ?K_c_cinv ?K_k_cinv ?K_at_ceq ?K_fn_ceq ?K_l_ceq ?K_c_ceq ?K_k_ceq ?K_at_cbool ?K_fn_cbool ?K_l_cbool ?K_c_cbool ?K_k_cbool ?K_at_cevery ?K_rc_cevery ?K_fi_cevery ?K_l_cevery ?K_c_cevery ?K_k_cevery ?z_int ?z_len ?z_abs ?z_isinstance ?z_bool ?z_tuple ?z_list ?z_str ?z_range ?z_max ?z_min ?z_sorted ?z_set ?z_zip ?g_isqrt
    (case a_least => k_is)
    (case l_least => k_is)
    (case c_least => k_is)
    (case k_least => k_is)
    (case a_prime => k_is)
    (case l_prime => k_is)
    (case c_prime => k_is)
    (case k_prime => k_is)
    (case a_pool => k_is)
    (case l_pool => k_is)
    (case c_pool => k_is)
    (case k_pool => k_is)
    (case a_take => k_is)
    (case l_take => k_is)
    (case c_take => k_is)
    (case k_take => k_is)
    (case a_cell => k_is)
    (case l_cell => k_is)
    (case c_cell => k_is)
    (case k_cell => k_is)
    (case a_lprime => k_is)
    (case l_lprime => k_is)
    (case c_lprime => k_is)
    (case k_lprime => k_is)
    (case a_set => k_is)
    (case l_set => k_is)
    (case c_set => k_is)
    (case k_set => k_is)
    (case a_member => k_is)
    (case l_member => k_is)
    (case c_member => k_is)
    (case k_member => k_is)
    (case a_is => k_is)
    (case l_is => k_is)
    (case c_is => k_is)
    (case k_is => k_is)
    (case a_law => k_is)
    (case l_law => k_is)
    (case c_law => k_is)
    (case k_law => k_is)
    (case aF => k_is)
    (case rF => k_is)
    (case gF => k_is)
    (case iF => k_is)
    (case aC_ibc => k_is)
    (case xC_ibc => k_is)
    (case sa_ibc => k_is)
    (case ga_ibc => k_is)
    (case gg_ibc => k_is)
    (case no_ibc => k_is)
    (case ic_ibc => k_is)
    (case ti_ibc => k_is)
    (case kc_ibc => k_is)
    (case ec_ibc => k_is)
    (case tc_ibc => k_is)
    (case hd_ibc => k_is)
    (case is_ibc => k_is)
    (case sc_ibc => k_is)
    (case l_ibc => k_is)
    (case c_ibc => k_is)
    (case k_ibc => k_is)
    (case K_aK => k_is)
    (case K_pg => k_is)
    (case K_hd => k_is)
    (case K_po => k_is)
    (case K_sa => k_is)
    (case K_sf => k_is)
    (case K_ha => k_is)
    (case K_hn => k_is)
    (case K_htk => k_is)
    (case K_hm => k_is)
    (case K_mk => k_is)
    (case K_kp => k_is)
    (case K_no_endless => k_is)
    (case K_no_primes => k_is)
    (case K_rd => k_is)
    (case K_sg => k_is)
    (case K_at_cinit => k_is)
    (case K_fn_cinit => k_is)
    (case K_l_cinit => k_is)
    (case K_c_cinit => k_is)
    (case K_k_cinit => k_is)
    (case K_at_ccont => k_is)
    (case K_fn_ccont => k_is)
    (case K_l_ccont => k_is)
    (case K_c_ccont => k_is)
    (case K_k_ccont => k_is)
    (case K_at_cand => k_is)
    (case K_fn_cand => k_is)
    (case K_l_cand => k_is)
    (case K_c_cand => k_is)
    (case K_k_cand => k_is)
    (case K_at_cor => k_is)
    (case K_fn_cor => k_is)
    (case K_l_cor => k_is)
    (case K_c_cor => k_is)
    (case K_k_cor => k_is)
    (case K_at_csub => k_is)
    (case K_fn_csub => k_is)
    (case K_l_csub => k_is)
    (case K_c_csub => k_is)
    (case K_k_csub => k_is)
    (case K_at_cinv => k_is)
    (case K_fn_cinv => k_is)
    (case K_l_cinv => k_is)
    (case K_c_cinv => k_is)
    (case K_k_cinv => k_is)
    (case K_at_ceq => k_is)
    (case K_fn_ceq => k_is)
    (case K_l_ceq => k_is)
    (case K_c_ceq => k_is)
    (case K_k_ceq => k_is)
    (case K_at_cbool => k_is)
    (case K_fn_cbool => k_is)
    (case K_l_cbool => k_is)
    (case K_c_cbool => k_is)
    (case K_k_cbool => k_is)
    (case K_at_cevery => k_is)
    (case K_rc_cevery => k_is)
    (case K_fi_cevery => k_is)
    (case K_l_cevery => k_is)
    (case K_c_cevery => k_is)
    (case K_k_cevery => k_is)
    (case z_int => k_is)
    (case z_len => k_is)
    (case z_abs => k_is)
    (case z_isinstance => k_is)
    (case z_bool => k_is)
    (case z_tuple => k_is)
    (case z_list => k_is)
    (case z_str => k_is)
    (case z_range => k_is)
    (case z_max => k_is)
    (case z_min => k_is)
    (case z_sorted => k_is)
    (case z_set => k_is)
    (case z_zip => k_is)
    (case g_isqrt => k_is)
