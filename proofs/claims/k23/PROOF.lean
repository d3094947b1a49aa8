import PyProof.Rows.All
import Wide.All
import OpenK.AllK
import Wide.FinOn
import PyProof.NoPylong
import Flt.Len
import HandS.ForMost
import HandS.ForExc
import HandS.Wide
import HandS.Gcd
import HandS.IsInst
import HandS.Evl
import HandS.Flow
import HandS.Iter
import HandS.ExcInit
import HandS.ExcField
import HandS.ExcCtx
import HandS.HotCalls
import HandS.ExcInitHot
import HandS.TupLe
import HandS.TupAny
import HandS.Conv
import HandS.Strs
import HandS.SetFor
import HandS.Zip
import HandS.ClsMeth
import HandS.Codes
import HandS.SlotsOwn
import Flt.RightSqrt
import PySem.Challenge.RW_everyfield_k23_characteristics_of_number
set_option Elab.async false
set_option linter.all false
set_option maxRecDepth 100000
set_option maxHeartbeats 4000000
set_option exponentiation.threshold 20000
namespace My
open PySem PySem.Spec PyProof.Rows L2
def top (i : Nat) : Stmt := PySem.Challenge.pw_everyfield_k23_characteristics_of_number.main.body.getD i (.Pass ⟨0, 0, 0, 0⟩)
def Pr (n : Int) : Prop := 2 ≤ n ∧ ∀ m : Int, 2 ≤ m → m < n → ¬ m ∣ n
noncomputable def prB (n : Int) : Bool := @decide (Pr n) (Classical.propDecidable _)
theorem prB_true {n : Int} (h : Pr n) : prB n = true := by unfold prB; exact @decide_eq_true _ (Classical.propDecidable _) h
theorem prB_false {n : Int} (h : ¬ Pr n) : prB n = false := by unfold prB; exact @decide_eq_false _ (Classical.propDecidable _) h
theorem prB_iff {n : Int} : prB n = true ↔ Pr n := by unfold prB; exact @decide_eq_true_iff _ (Classical.propDecidable _)
/-- r is the least divisor of n from 2 on -/
structure Least (n r : Int) : Prop where
  two : 2 ≤ r
  dvd : r ∣ n
  min : ∀ m : Int, 2 ≤ m → m < r → ¬ m ∣ n
theorem Least.le {n r : Int} (h : Least n r) (hn : 2 ≤ n) : r ≤ n := Int.le_of_dvd (by omega) h.dvd
theorem Least.pr {n r : Int} (h : Least n r) : Pr r := ⟨h.two, fun m h1 h2 h3 => h.min m h1 h2 (Int.dvd_trans h3 h.dvd)⟩
theorem Least.uniq {n r r' : Int} (h : Least n r) (h' : Least n r') : r = r' := by
  rcases Int.lt_trichotomy r r' with c | c | c
  · exact absurd h.dvd (h'.min r h.two c)
  · exact c
  · exact absurd h'.dvd (h.min r' h'.two c)
theorem Least.self {n r : Int} (h : Least n r) (hn : 2 ≤ n) : r = n ↔ Pr n := by
  constructor
  · intro e
    rw [e] at h
    exact h.pr
  · intro p
    have := h.le hn
    by_cases c : r = n
    · exact c
    · exact absurd h.dvd (p.2 r h.two (by omega))
/-- a proper divisor: one at most the root -/
theorem small_div {n m s : Int} (hn : 2 ≤ n) (h2 : 2 ≤ m) (hm : m < n) (hd : m ∣ n) (hs0 : 0 ≤ s) (hs : n < (s + 1) * (s + 1)) : ∃ d : Int, 2 ≤ d ∧ d ≤ s ∧ d ≤ m ∧ d ∣ n := by
  obtain ⟨k, e⟩ := hd
  have hk : 2 ≤ k := by
    rcases Int.lt_trichotomy k 1 with c | c | c
    · have : m * k ≤ m * 0 := Int.mul_le_mul_of_nonneg_left (by omega) (by omega)
      omega
    · subst c
      omega
    · omega
  by_cases c : m ≤ s
  · exact ⟨m, h2, c, Int.le_refl _, ⟨k, e⟩⟩
  · refine ⟨k, hk, ?_, ?_, ⟨m, by rw [e, Int.mul_comm]⟩⟩
    · by_cases c2 : k ≤ s
      · exact c2
      · have : (s + 1) * (s + 1) ≤ m * k := Int.mul_le_mul (by omega) (by omega) (by omega) (by omega)
        omega
    · by_cases c2 : k ≤ m
      · exact c2
      · have c3 : k ≤ s := by
          by_cases c4 : k ≤ s
          · exact c4
          · have : (s + 1) * (s + 1) ≤ m * k := Int.mul_le_mul (by omega) (by omega) (by omega) (by omega)
            omega
        omega
/-- the trial over the odd ints: what is left at its end -/
theorem least_of_odd {n s : Int} (hn : 2 ≤ n) (h2 : ¬ (2 : Int) ∣ n) (hs0 : 0 ≤ s) (hs : n < (s + 1) * (s + 1)) (h : ∀ i : Nat, 3 + (i : Int) * 2 ≤ s → ¬ (3 + (i : Int) * 2) ∣ n) : Least n n := by
  refine ⟨hn, Int.dvd_refl n, fun m h1 hm hd => ?_⟩
  obtain ⟨d, d2, ds, _, dn⟩ := small_div hn h1 hm hd hs0 hs
  have odd : d % 2 = 1 := by
    have := Int.emod_two_eq d
    rcases this with e | e
    · exact absurd (Int.dvd_trans (Int.dvd_of_emod_eq_zero e) dn) h2
    · exact e
  have e : d = 3 + ((((d - 3) / 2).toNat : Nat) : Int) * 2 := by omega
  exact h ((d - 3) / 2).toNat (by omega) (e ▸ dn)
theorem least_at {n : Int} {i : Nat} (h2 : ¬ (2 : Int) ∣ n) (hd : (3 + (i : Int) * 2) ∣ n) (h : ∀ j : Nat, j < i → ¬ (3 + (j : Int) * 2) ∣ n) : Least n (3 + (i : Int) * 2) := by
  refine ⟨by omega, hd, fun m h1 hm hdv => ?_⟩
  have odd : m % 2 = 1 := by
    have := Int.emod_two_eq m
    rcases this with e | e
    · exact absurd (Int.dvd_trans (Int.dvd_of_emod_eq_zero e) hdv) h2
    · exact e
  have e : m = 3 + ((((m - 3) / 2).toNat : Nat) : Int) * 2 := by omega
  exact h ((m - 3) / 2).toNat (by omega) (e ▸ hdv)
theorem least_two {n : Int} (h : (2 : Int) ∣ n) : Least n 2 := ⟨by omega, h, fun m h1 h2 => by omega⟩
/-- every int from 2 on has a least divisor -/
theorem least_ex {n : Int} (hn : 2 ≤ n) : ∃ r, Least n r := by
  have key : ∀ (k : Nat) (r : Int), n - r ≤ k → 2 ≤ r → r ≤ n → (∀ m : Int, 2 ≤ m → m < r → ¬ m ∣ n) → ∃ r, Least n r := by
    intro k
    induction k with
    | zero =>
      intro r h1 h2 h3 h4
      have : r = n := by omega
      subst this
      exact ⟨r, h2, Int.dvd_refl r, h4⟩
    | succ k ih =>
      intro r h1 h2 h3 h4
      by_cases c : r ∣ n
      · exact ⟨r, h2, c, h4⟩
      · by_cases e : r = n
        · exact absurd (e ▸ Int.dvd_refl r) c
        · refine ih (r + 1) (by omega) (by omega) (by omega) fun m hm1 hm2 => ?_
          by_cases e2 : m = r
          · rw [e2]
            exact c
          · exact h4 m hm1 (by omega)
  exact key (n - 2).toNat 2 (by omega) (by omega) hn (fun m h1 h2 => by omega)
/-- a check of a prime by trial, for the kernel -/
def trial (n : Nat) : Nat → Nat → Bool
  | 0, _ => false
  | f + 1, k => if n < k * k then true else if n % k = 0 then false else trial n f (k + 1)
theorem trial_ok {n : Nat} (hn : 2 ≤ n) : ∀ (f k : Nat), 2 ≤ k → (∀ m : Nat, 2 ≤ m → m < k → ¬ m ∣ n) → trial n f k = true → Pr (n : Int) := by
  intro f
  induction f with
  | zero => intro k _ _ h; exact absurd h (by simp [trial])
  | succ f ih =>
    intro k hk hm h
    unfold trial at h
    by_cases c : n < k * k
    · refine ⟨by omega, fun m h1 h2 h3 => ?_⟩
      obtain ⟨d, d2, ds, _, dn⟩ := small_div (n := n) (s := (k : Int) - 1) (by omega) h1 h2 h3 (by omega) (by
        rw [Int.sub_add_cancel]
        exact_mod_cast c)
      refine hm d.toNat (by omega) (by omega) ?_
      have : ((d.toNat : Nat) : Int) ∣ (n : Int) := by rw [Int.toNat_of_nonneg (by omega)]; exact dn
      exact Int.natCast_dvd_natCast.mp this
    · rw [if_neg c] at h
      by_cases c2 : n % k = 0
      · rw [if_pos c2] at h
        exact absurd h (by simp)
      · rw [if_neg c2] at h
        refine ih (k + 1) (by omega) (fun m h1 h2 h3 => ?_) h
        by_cases e : m = k
        · subst e
          exact c2 (Nat.mod_eq_zero_of_dvd h3)
        · exact hm m h1 (by omega) h3
theorem pr_of_trial {n : Nat} (f : Nat) (h : (decide (2 ≤ n) && trial n f 2) = true) : Pr (n : Int) := by
  rw [Bool.and_eq_true] at h
  exact trial_ok (of_decide_eq_true h.1) f 2 (by omega) (fun m h1 h2 => by omega) h.2
theorem pr_10007 : Pr 10007 := pr_of_trial (n := 10007) 200 (by decide +kernel)
/-- a prime divides a factor -/
theorem pr_mul {q a b : Int} (hq : Pr q) (h : q ∣ a * b) : q ∣ a ∨ q ∣ b := by
  by_cases c : q ∣ a
  · exact .inl c
  · refine .inr ?_
    have hco : Nat.Coprime q.natAbs a.natAbs := by
      have g1 : Nat.gcd q.natAbs a.natAbs ∣ q.natAbs := Nat.gcd_dvd_left _ _
      have g2 : Nat.gcd q.natAbs a.natAbs ∣ a.natAbs := Nat.gcd_dvd_right _ _
      have hq2 := hq.1
      generalize hg : Nat.gcd q.natAbs a.natAbs = g at *
      have gi : (g : Int) ∣ q := Int.natAbs_dvd_natAbs.mp (by rw [Int.natAbs_natCast]; exact g1)
      have ga : (g : Int) ∣ a := Int.natAbs_dvd_natAbs.mp (by rw [Int.natAbs_natCast]; exact g2)
      have gpos : 0 < g := by
        rcases Nat.eq_zero_or_pos g with z | z
        · rw [z] at gi
          have := Int.zero_dvd.mp gi
          omega
        · exact z
      have gle : (g : Int) ≤ q := Int.le_of_dvd (by omega) gi
      by_cases g1' : g = 1
      · unfold Nat.Coprime
        rw [hg, g1']
      · by_cases g2' : (g : Int) = q
        · rw [g2'] at ga
          exact absurd ga c
        · exact absurd gi (hq.2 g (by omega) (by omega))
    have h2 : q.natAbs ∣ a.natAbs * b.natAbs := by
      rw [← Int.natAbs_mul]
      exact Int.natAbs_dvd_natAbs.mpr h
    exact Int.natAbs_dvd_natAbs.mp (Nat.Coprime.dvd_of_dvd_mul_left hco h2)
theorem pr_dvd_pr {p q : Int} (hp : Pr p) (hq : Pr q) (h : q ∣ p) : q = p := by
  have := Int.le_of_dvd (by have := hp.1; omega) h
  by_cases c : q = p
  · exact c
  · exact absurd h (hp.2 q hq.1 (by omega))
/-- l tells the primes that divide n, ascending -/
def PD (n : Int) (l : List Int) : Prop := l.Pairwise (· < ·) ∧ ∀ q, q ∈ l ↔ Pr q ∧ q ∣ n
theorem sorted_uniq : ∀ {l m : List Int}, l.Pairwise (· < ·) → m.Pairwise (· < ·) → (∀ q, q ∈ l ↔ q ∈ m) → l = m
  | [], [], _, _, _ => rfl
  | [], b :: m, _, _, h => absurd ((h b).mpr List.mem_cons_self) (by simp)
  | a :: l, [], _, _, h => absurd ((h a).mp List.mem_cons_self) (by simp)
  | a :: l, b :: m, hl, hm, h => by
    rw [List.pairwise_cons] at hl hm
    have hab : a = b := by
      rcases List.mem_cons.mp ((h a).mp List.mem_cons_self) with e | e
      · exact e
      · rcases List.mem_cons.mp ((h b).mpr List.mem_cons_self) with e2 | e2
        · exact e2.symm
        · have := hm.1 a e
          have := hl.1 b e2
          omega
    subst hab
    rw [sorted_uniq hl.2 hm.2 fun q => ?_]
    constructor
    · intro hq
      have := hl.1 q hq
      rcases List.mem_cons.mp ((h q).mp (List.mem_cons_of_mem _ hq)) with e | e
      · omega
      · exact e
    · intro hq
      have := hm.1 q hq
      rcases List.mem_cons.mp ((h q).mpr (List.mem_cons_of_mem _ hq)) with e | e
      · omega
      · exact e
theorem PD.uniq {n : Int} {l m : List Int} (h : PD n l) (h' : PD n m) : l = m := sorted_uniq h.1 h'.1 fun q => (h.2 q).trans (h'.2 q).symm
/-- what holds between two turns: fs found, r left of n; every prime of r is at least d, those found are less -/
structure Fac (n : Int) (fs : List Int) (r d : Int) : Prop where
  pos : 1 ≤ r
  dv : r ∣ n
  asc : fs.Pairwise (· < ·)
  low : ∀ f ∈ fs, f < d
  mem : ∀ f ∈ fs, Pr f ∧ f ∣ n
  all : ∀ q, Pr q → q ∣ n → q ∣ r ∨ q ∈ fs
  up : ∀ q, Pr q → q ∣ r → d ≤ q
  len : (2 : Int) ^ fs.length * r ≤ n
theorem fac0 {n : Int} (hn : 1 ≤ n) : Fac n [] n 2 := ⟨hn, Int.dvd_refl n, List.Pairwise.nil, (fun _ h => nomatch h), (fun _ h => nomatch h), (fun q _ h => .inl h), (fun q h _ => h.1), by show (2 : Int) ^ 0 * n ≤ n; omega⟩
/-- within the inner loop: r0 at its start, p taken out -/
structure Tak (r0 p r : Int) : Prop where
  pos : 1 ≤ r
  dv : r ∣ r0
  keep : ∀ q, Pr q → q ∣ r0 → q ∣ r ∨ q = p
  half : r = r0 ∨ 2 * r ≤ r0
theorem tak0 {r0 p : Int} (h : 1 ≤ r0) : Tak r0 p r0 := ⟨h, Int.dvd_refl _, fun q _ h => .inl h, .inl rfl⟩
theorem tak_step {r0 p r : Int} (hp : Pr p) (h : Tak r0 p r) (hd : p ∣ r) : Tak r0 p (r / p) ∧ r / p < r := by
  have hp2 := hp.1
  have hpos := h.pos
  obtain ⟨k, e⟩ := hd
  have ek : r / p = k := by rw [e, Int.mul_ediv_cancel_left _ (by omega)]
  rw [ek]
  have k1 : 1 ≤ k := by
    by_cases c : 1 ≤ k
    · exact c
    · have : p * k ≤ p * 0 := Int.mul_le_mul_of_nonneg_left (by omega) (by omega)
      omega
  have k2 : 2 * k ≤ r := by
    have : 2 * k ≤ p * k := Int.mul_le_mul_of_nonneg_right hp2 (by omega)
    omega
  refine ⟨⟨k1, Int.dvd_trans ⟨p, by rw [e, Int.mul_comm]⟩ h.dv, fun q hq hd => ?_, .inr ?_⟩, by omega⟩
  · rcases h.keep q hq hd with c | c
    · rw [e] at c
      rcases pr_mul hq c with c2 | c2
      · exact .inr (pr_dvd_pr hp hq c2)
      · exact .inl c2
    · exact .inr c
  · rcases h.half with c | c <;> omega
/-- behind the inner loop -/
theorem fac_step {n : Int} {fs : List Int} {r0 d p r : Int} (F : Fac n fs r0 d) (hp : Pr p) (hd : p ∣ r0) (T : Tak r0 p r) (hn : ¬ p ∣ r) (hmin : ∀ q, Pr q → q ∣ r0 → p ≤ q) : Fac n (fs ++ [p]) r (p + 1) ∧ r < r0 := by
  have hr : 2 * r ≤ r0 := T.half.resolve_left fun e => hn (e ▸ hd)
  have hdp : d ≤ p := F.up p hp hd
  refine ⟨⟨T.pos, Int.dvd_trans T.dv F.dv, ?_, ?_, ?_, ?_, ?_, ?_⟩, by have := T.pos; omega⟩
  · rw [List.pairwise_append]
    refine ⟨F.asc, List.pairwise_singleton _ _, fun a ha b hb => ?_⟩
    rw [List.mem_singleton.mp hb]
    have := F.low a ha
    omega
  · intro f hf
    rcases List.mem_append.mp hf with h | h
    · have := F.low f h
      omega
    · rw [List.mem_singleton.mp h]
      omega
  · intro f hf
    rcases List.mem_append.mp hf with h | h
    · exact F.mem f h
    · rw [List.mem_singleton.mp h]
      exact ⟨hp, Int.dvd_trans hd F.dv⟩
  · intro q hq h
    rcases F.all q hq h with c | c
    · rcases T.keep q hq c with c2 | c2
      · exact .inl c2
      · exact .inr (List.mem_append_right _ (by rw [c2]; exact List.mem_singleton.mpr rfl))
    · exact .inr (List.mem_append_left _ c)
  · intro q hq h
    have h1 := hmin q hq (Int.dvd_trans h T.dv)
    by_cases c : q = p
    · exact absurd (c ▸ h) hn
    · omega
  · rw [List.length_append]
    show (2 : Int) ^ (fs.length + 1) * r ≤ n
    rw [Int.pow_succ, Int.mul_assoc]
    have h1 : (2 : Int) ^ fs.length * (2 * r) ≤ 2 ^ fs.length * r0 := Int.mul_le_mul_of_nonneg_left hr (Int.pow_nonneg (by decide))
    have := F.len
    omega
theorem fac_end {n : Int} {fs : List Int} {d : Int} (F : Fac n fs 1 d) : PD n fs := by
  refine ⟨F.asc, fun q => ⟨F.mem q, fun ⟨h1, h2⟩ => (F.all q h1 h2).resolve_left fun c => ?_⟩⟩
  have := Int.le_of_dvd (by decide) c
  have := h1.1
  omega
theorem fac_len {n : Int} {fs : List Int} {r d : Int} (F : Fac n fs r d) (hn : n < 2 ^ 62) : fs.length < 62 := by
  by_cases c : fs.length < 62
  · exact c
  · have h1 : (2 : Int) ^ 62 ≤ 2 ^ fs.length := by
      have : (2 : Nat) ^ 62 ≤ 2 ^ fs.length := Nat.pow_le_pow_right (by decide) (by omega)
      have h2 := Int.ofNat_le.mpr this
      rw [Int.natCast_pow, Int.natCast_pow] at h2
      exact h2
    have h2 : (2 : Int) ^ fs.length * 1 ≤ 2 ^ fs.length * r := Int.mul_le_mul_of_nonneg_left F.pos (Int.pow_nonneg (by decide))
    have := F.len
    omega
theorem fac_up {n : Int} {fs : List Int} {r d : Int} (F : Fac n fs r d) (h : ¬ d ∣ r) : Fac n fs r (d + 1) := by
  refine ⟨F.pos, F.dv, F.asc, fun f hf => by have := F.low f hf; omega, F.mem, F.all, fun q h1 h2 => ?_, F.len⟩
  have := F.up q h1 h2
  by_cases c : q = d
  · exact absurd (c ▸ h2) h
  · omega
/-- d divides what is left: it is a prime -/
theorem fac_pr {n : Int} {fs : List Int} {r d : Int} (F : Fac n fs r d) (h2 : 2 ≤ d) (h : d ∣ r) : Pr d := by
  obtain ⟨q, hq⟩ := least_ex h2
  have h1 := F.up q hq.pr (Int.dvd_trans hq.dvd h)
  have := hq.le h2
  have e : q = d := by omega
  exact e ▸ hq.pr
/-- d * d above what is left: that is a prime -/
theorem fac_jump {n : Int} {fs : List Int} {r d : Int} (F : Fac n fs r d) (h2 : 2 ≤ d) (hr : 1 < r) (h : r < d * d) : Pr r ∧ ∀ q, Pr q → q ∣ r → r ≤ q := by
  have hp : Pr r := by
    refine ⟨by omega, fun m h1 h3 h4 => ?_⟩
    obtain ⟨e, e2, es, _, en⟩ := small_div (n := r) (s := d - 1) (by omega) h1 h3 h4 (by omega) (by rw [Int.sub_add_cancel]; exact h)
    obtain ⟨q, hq⟩ := least_ex e2
    have := F.up q hq.pr (Int.dvd_trans hq.dvd en)
    have := hq.le e2
    omega
  exact ⟨hp, fun q hq hd => by have := pr_dvd_pr hp hq hd; omega⟩

structure Cl (P : Program) (w : World) (K : PySem.W.Frag) (mg : Str → Option Value) (base : Heap) (CX : CXT) (k : Nat) (x : Str) (sp : Sp) : Prop where
  ex : ∃ (f : Addr) (fd : FuncData) (ps : List Str), FnOk P w K mg base CX k f fd ps sp ∧ mg x = some (.ref f) ∧ PySem.W.keepIn K (.ref f) = true ∧ Binds K fd ps []
theorem pe_cl {X : Cx} {k j : Nat} {x : Str} {sp : Sp} {p pos : Pos} {e : Expr} {es : List Expr} {t : TA} (c : Cl X.prog X.w X.K X.mg X.base CX0 k x sp) (hr : Room j X.A) (ha : PA X (e :: es) t) (hk : k ≤ j := by decide) (hg : Gl X x := by rfl)
    (hdb : (x == ("__debug__" : Str)) = false := by decide) (he : starEach (e :: es) X.env = (false, eval e X.env) :: starEach es X.env := by rfl) (hpl : (backTo pos (starEach es X.env)).any (·.1) = false := by rfl) :
    PE X (.Call (.Name x p) (e :: es) [] pos) (tCall sp [] E0 t) := by
  obtain ⟨f, fd, ps, F, hm, kp, b⟩ := c.ex
  exact pe_call F (hr.mono hk) hg hm kp b .nil pass0 ha hdb he hpl
structure Txt (mg : Str → Option Value) : Prop where
  int : mg "int" = none
  len : mg "len" = none
  abs : mg "abs" = none
  isinstance : mg "isinstance" = none
  bool : mg "bool" = none
  tuple : mg "tuple" = none
  list : mg "list" = none
  str : mg "str" = none
  range : mg "range" = none
  max : mg "max" = none
  min : mg "min" = none
  sorted : mg "sorted" = none
  set : mg "set" = none
theorem if_pos_of {c : Bool} {A B : Prop} (hc : c = true) (h : A) : if c = true then A else B := by
  rw [if_pos hc]
  exact h
theorem if_neg_of {c : Bool} {A B : Prop} (hc : c = false) (h : B) : if c = true then A else B := by
  rw [hc, if_neg Bool.false_ne_true]
  exact h
theorem same_upd {H : Hp} {p : Addr} {o : HO} (h : H p = none) : Same H (upd H p o) := fun b u e => by
  rw [upd_ne (ne_of_none e h)]
  exact e
/-- a call of a def that may raise, where it doesn't -/
theorem pe_cl0 {X : Cx} {k j : Nat} {x : Str} {sp : Sp} {p pos : Pos} {e : Expr} {es : List Expr} {t : TA} (c : Cl X.prog X.w X.K X.mg X.base (L2.CX X.prog X.w) k x sp) (hr : Room j X.A) (ha : PA X (e :: es) t) (hk : k ≤ j := by decide) (hg : Gl X x := by rfl)
    (hdb : (x == ("__debug__" : Str)) = false := by decide) (he : starEach (e :: es) X.env = (false, eval e X.env) :: starEach es X.env := by rfl) (hpl : (backTo pos (starEach es X.env)).any (·.1) = false := by rfl) :
    PE X (.Call (.Name x p) (e :: es) [] pos) (tCall sp [] E0 t) := by
  obtain ⟨f, fd, ps, F, hm, kp, b⟩ := c.ex
  exact pe_call F (hr.mono hk) hg hm kp b .nil passL ha hdb he hpl
/-- a call of a def that may raise, in a def or try that takes it -/
theorem pe_clX {X : Cx} {W : WX} {k j : Nat} {x : Str} {sp : Sp} {p pos : Pos} {e : Expr} {es : List Expr} {t : TA} (c : Cl X.prog X.w X.K X.mg X.base (L2.CX X.prog X.w) k x sp) (hr : Room j X.A) (tk : Takes X W) (ha : PA X (e :: es) t) (hk : k ≤ j := by decide) (hg : Gl X x := by rfl)
    (hdb : (x == ("__debug__" : Str)) = false := by decide) (he : starEach (e :: es) X.env = (false, eval e X.env) :: starEach es X.env := by rfl) (hpl : (backTo pos (starEach es X.env)).any (·.1) = false := by rfl) :
    PE X (.Call (.Name x p) (e :: es) [] pos) (tCallS sp (WE W) t) := by
  obtain ⟨f, fd, ps, F, hm, kp, b⟩ := c.ex
  exact pe_callS F (hr.mono hk) hg hm kp b (fun σ => passAt tk σ) ha hdb he hpl
/-- FieldError, and what its __init__ is -/
structure FErr (K : PySem.W.Frag) (mg : Str → Option Value) (C : Addr) : Prop where
  g : mg "FieldError" = some (.ref C)
  rd : PySem.W.readsIn K C (.type "type") = true
  ga : PySem.W.specialIn K (.ref C) "__getattribute__" = some (some (.builtin "type.__getattribute__"))
  fi : PySem.W.findCls K (.ref C) (.type "type") "__init__" = some (.val (.builtin "ValueError.__init__"))
theorem pe_feinit {X : Cx} {CF : Addr} {e : Expr} {es : List Expr} {ta : TA} {p1 p2 pos : Pos} {pl : Sem Bool} (F : FErr X.K X.mg CF) (ha : PA X (e :: es) ta) (hg : Gl X "FieldError" := by rfl)
    (hc : eval (.Call (.Attribute (.Name "FieldError" p1) "__init__" p2) (e :: es) [] pos) X.env = (do
      let ov ← eval (.Name "FieldError" p1) X.env
      standAt p2.atName
      let (f, first) ← holding [ov] (getMethod ov "__init__" pl)
      callWith pos f first (backTo pos (starEach (e :: es) X.env)) (backToKw pos (keywordEach [] X.env))) := by rfl)
    (he : starEach (e :: es) X.env = (false, eval e X.env) :: starEach es X.env := by rfl) (hpl : (backTo pos (starEach es X.env)).any (·.1) = false := by rfl) :
    PE X (.Call (.Attribute (.Name "FieldError" p1) "__init__" p2) (e :: es) [] pos) (tVeI X.K ta) := by
  refine ⟨fun pins s σ H Q I h => ?_⟩
  refine PySem.W.methodCall_KW (ld_glob I hg F.g ?_ (by decide)) hc
  refine PySem.W.method_cls I.kIn F.ga (PySem.W.cls_value I.kIn F.rd F.fi (by decide +kernel) ?_)
  show wpAny _ _ (callWith pos (Value.builtin "ValueError.__init__") [] (backTo pos (starEach (e :: es) X.env)) []) _ _ _
  refine PyProof.Rows.callWith_method1 (thn (ha.run pos pins _ σ H _ (I.tok _) h) fun us s1 ⟨vs, H1, I1, r1, a, C, ws, ev, hl, T, ea, q⟩ => ?_) he hpl
  subst ev
  cases r1 with
  | @cons _ u0 _ ur ra rw' =>
    obtain rfl : u0 = Value.ref a := ra
    have hlen : ur.length ≤ sizeLine := by
      rw [← Paired.length rw', sizeLine_eq]
      omega
    exact oinit_ok T I1 ea hlen fun s' J => ⟨.non, H1, J, rfl, q⟩
/-- an own error class with one attribute, and its __init__ by its promise -/
def spInit (C : Addr) (fld : Str) : Sp := fun vs H Q _ => ∃ (a : Addr) (v : V), vs = [.ref a, v] ∧ H a = some (exo a C none) ∧
  ∀ d, H d = none → d ≠ a → Q .non (upd (upd H d (exd d [(fld, v)])) a (exo a C (some d)))
structure ErrC (K : PySem.W.Frag) (mg : Str → Option Value) (nm fld : Str) (C fI : Addr) : Prop where
  g : mg nm = some (.ref C)
  oex : OexC K C
  no : PySem.W.findIn K (.ref C) fld = some none
  iC : PySem.W.findIn K (.ref C) "__init__" = some (some (.ref fI))
  tI : PySem.W.typeIn K (.ref fI) = some (.type "function")
  xf : XfC K C
  te : PySem.W.exmOne K (.ref C) (.ref C) = some true
structure Er (P : Program) (w : World) (K : PySem.W.Frag) (mg : Str → Option Value) (base : Heap) (nm fld : Str) (C : Addr) : Prop where
  ex : ∃ (fI : Addr) (fd : FuncData) (ps : List Str), ErrC K mg nm fld C fI ∧ FnOk P w K mg base CX0 1 fI fd ps (spInit C fld) ∧ Binds K fd ps []
theorem Er.c {P : Program} {w : World} {K : PySem.W.Frag} {mg : Str → Option Value} {base : Heap} {nm fld : Str} {C : Addr} (e : Er P w K mg base nm fld C) : ∃ fI, ErrC K mg nm fld C fI := by
  obtain ⟨fI, _, _, T, _⟩ := e.ex
  exact ⟨fI, T⟩
theorem exm_me {K : PySem.W.Frag} {S : Addr} (h1 : PySem.W.subIn K (.ref S) (.type "BaseException") = some true) (h2 : PySem.W.isClsIn K S = true) (h3 : PySem.W.typeIn K (.ref S) = some (.type "type")) (h4 : PySem.W.subIn K (.ref S) (.ref S) = some true) :
    PySem.W.exmOne K (.ref S) (.ref S) = some true := by
  have e1 : (PySem.W.subIn K (.ref S) (.type "BaseException") == some true) = true := by rw [h1] <;> rfl
  have h2' : (PySem.W.clsIn K S).isSome = true := h2
  have e2 : ((PySem.W.clsIn K S).isSome && PySem.W.typeIn K (.ref S) == some (.type "type")) = true := by rw [h2', h3] <;> rfl
  unfold PySem.W.exmOne
  rw [if_pos e1]
  show (if ((PySem.W.clsIn K S).isSome && PySem.W.typeIn K (.ref S) == some (.type "type")) = true then PySem.W.subIn K (.ref S) (.ref S) else none) = some true
  rw [if_pos e2]
  exact h4
/-- raise C(v): the argument, then what C's own __init__ asks (mk1 answers it) -/
theorem ps_raise1 {X : Cx} {W : WX} {x fld : Str} {C : Addr} {j : Nat} {e : Expr} {ta : TA} {p pos pos' : Pos} (c : Er X.prog X.w X.K X.mg X.base x fld C) (hr : Room j X.A) (tk : Takes X W) (ha : PA X [e] ta) (hj : 2 ≤ j := by decide) (hcalm : X.calm = true := by rfl) (hg : Gl X x := by rfl)
    (hdb : (x == ("__debug__" : Str)) = false := by decide) (he : starEach [e] X.env = (false, eval e X.env) :: starEach [] X.env := by rfl) (hpl : (backTo pos (starEach [] X.env)).any (·.1) = false := by rfl) :
    PS X (.Raise (some (.Call (.Name x p) [e] [] pos)) none pos') (fun _ σ H => tMkO C (spInit C fld) [] ta σ H fun cls d H' => W cls d σ H') := by
  obtain ⟨fI, fd, ps, T, F, b⟩ := c.ex
  exact ps_raise hcalm tk (pmk_oex (X := X) (p := p) (pos := pos) T.oex T.iC T.tI F (hr.mono hj) b .nil (fun _ _ _ _ _ _ _ h => h.elim) hg T.g ha hdb he hpl)
theorem mk1 {C : Addr} {fld : Str} {v : V} {H1 : Hp} {Q : XK} (k : ∀ d H2, Same H1 H2 → H1 d = none → H2 d = some (.xd [(fld, v)]) → Q (.ref C) (some d) H2) :
    ([v] : List V).length ≤ 1000 ∧ ∀ a, H1 a = none → spInit C fld (.ref a :: ([v] ++ [])) (upd H1 a (exo a C none))
      (fun u H2 => u = .non ∧ ∃ (d : Addr) (fs : List (Str × V)), H2 a = some (exo a C (some d)) ∧ H2 d = some (exd d fs) ∧ H1 d = none ∧ Q (.ref C) (some d) (upd (del H2 a) d (.xd fs))) (fun _ _ _ => False) := by
  refine ⟨(by show 1 ≤ 1000; decide), fun a ha => ⟨a, v, rfl, upd_same, fun d hd hda => ⟨rfl, d, [(fld, v)], upd_same, ?_, ?_, ?_⟩⟩⟩
  · rw [upd_ne hda, upd_same]
  · rw [upd_ne hda] at hd
    exact hd
  · rw [upd_ne hda] at hd
    refine k d _ (fun b o e => ?_) hd upd_same
    have hba := ne_of_none e ha
    have hbd := ne_of_none e hd
    rw [upd_ne hbd, del_ne hba, upd_ne hba, upd_ne hbd, upd_ne hba]
    exact e
/-! the same for exceptions whose context is None -/
theorem passN {X : Cx} : Passes (L2N.CX X.prog X.w) X E0 := fun _ _ _ _ _ _ _ ⟨_, _, _, _, _, _, _, _, _, _, _, _, z⟩ => z.elim
theorem takes0N {X : Cx} : L2N.Takes X (fun _ _ _ _ => False) := fun _ _ ⟨_, _, _, _, _, _, _, _, _, _, _, _, _, _, _, _, z⟩ => z.elim
theorem okN {P : Program} {w : World} {K : PySem.W.Frag} {mg : Str → Option Value} {base : Heap} {x qual : Str} {st : Stmt} {f : Addr} {fd : FuncData} {N ps : List Str} {k : Nat} {sp : Sp} (F : Fun K x qual st f fd) (S : FnScope N ps (defScope st)) (len : ∀ vs H Q E, sp vs H Q E → vs.length = ps.length)
    (body : ∀ (cdv : Value) (A : Around) (outer : List Env) (s : Shared) (H : Hp) (vs : List V) (Q : VK) (E : XK), Room k (A.deeper (envOfC qual (defScope st) s.heap.objs.size f cdv)) → sp vs H Q E →
      ∃ t, PSs (cxOf (L2N.CX P w) P w K mg base N qual (defScope st) f cdv A outer s H E) (defBody st) t ∧ t { nx := fun _ H' => Q .non H', rt := Q } (start N vs) H) : FnOk P w K mg base (L2N.CX P w) (k + 1) f fd ps sp := by
  obtain ⟨oc, od, kV, doc, pm, an, cdv, ct, osl, rfl, lk, hcd⟩ := F.ex
  exact fn_of lk hcd S len fun A outer s H vs Q E hr h => body cdv A outer s H vs Q E hr h
/-- a call of such a def, where it doesn't raise -/
theorem pe_clN0 {X : Cx} {k j : Nat} {x : Str} {sp : Sp} {p pos : Pos} {e : Expr} {es : List Expr} {t : TA} (c : Cl X.prog X.w X.K X.mg X.base (L2N.CX X.prog X.w) k x sp) (hr : Room j X.A) (ha : PA X (e :: es) t) (hk : k ≤ j := by decide) (hg : Gl X x := by rfl)
    (hdb : (x == ("__debug__" : Str)) = false := by decide) (he : starEach (e :: es) X.env = (false, eval e X.env) :: starEach es X.env := by rfl) (hpl : (backTo pos (starEach es X.env)).any (·.1) = false := by rfl) :
    PE X (.Call (.Name x p) (e :: es) [] pos) (tCall sp [] E0 t) := by
  obtain ⟨f, fd, ps, F, hm, kp, b⟩ := c.ex
  exact pe_call F (hr.mono hk) hg hm kp b .nil passN ha hdb he hpl
theorem pe_clNX {X : Cx} {W : WX} {k j : Nat} {x : Str} {sp : Sp} {p pos : Pos} {e : Expr} {es : List Expr} {t : TA} (c : Cl X.prog X.w X.K X.mg X.base (L2N.CX X.prog X.w) k x sp) (hr : Room j X.A) (tk : L2N.Takes X W) (ha : PA X (e :: es) t) (hk : k ≤ j := by decide) (hg : Gl X x := by rfl)
    (hdb : (x == ("__debug__" : Str)) = false := by decide) (he : starEach (e :: es) X.env = (false, eval e X.env) :: starEach es X.env := by rfl) (hpl : (backTo pos (starEach es X.env)).any (·.1) = false := by rfl) :
    PE X (.Call (.Name x p) (e :: es) [] pos) (tCallS sp (WE W) t) := by
  obtain ⟨f, fd, ps, F, hm, kp, b⟩ := c.ex
  exact pe_callS F (hr.mono hk) hg hm kp b (fun σ => L2N.passAt tk σ) ha hdb he hpl
theorem pmk_oexN {X : Cx} {e : Expr} {es : List Expr} {ta : TA} {p pos : Pos} {x : Str} {C fI : Addr} {k : Nat} {fd : FuncData} {ps : List Str} {sp : Sp} {ds : List Value} {dvs : List V} (T : OexC X.K C) (iC : PySem.W.findIn X.K (.ref C) "__init__" = some (some (.ref fI))) (tI : PySem.W.typeIn X.K (.ref fI) = some (.type "function"))
    (F1 : FnOk X.prog X.w X.K X.mg X.base CX0 k fI fd ps sp) (hr : Room (k + 1) X.A) (hb : Binds X.K fd ps ds) (hd : Vals dvs ds) (hg : Gl X x) (hm : X.mg x = some (.ref C)) (ha : PA X (e :: es) ta)
    (hdb : (x == ("__debug__" : Str)) = false) (he : starEach (e :: es) X.env = (false, eval e X.env) :: starEach es X.env) (hpl : (backTo pos (starEach es X.env)).any (·.1) = false) :
    L2N.PMk X (.Call (.Name x p) (e :: es) [] pos) (tMkO C sp dvs ta) := by
  intro pins s σ H Q I h
  obtain ⟨nm, q, N, bs, bm, sn, sub, ab, col, dd, k0, k1, k2, k3, k5, hC, hbm⟩ := T.cls
  refine wpAny_Call_Name_kw (ld_glob I hg hm ?_ hdb)
  refine PySem.W.callWith_K (h₀ := X.base) I.ok.mod.kin T.kC (thn (ha.run pos pins s σ H _ I h) fun us st got => ?_) he hpl
  obtain ⟨vs, G1, I1, r1, hz, q1⟩ := got
  refine ⟨I1.kIn, ?_⟩
  show wpAny _ _ (call (.ref C) us) _ _ _
  obtain ⟨hp, g, dr, tk, os⟩ := st
  generalize ex : hp.objs.size + 1 = x1 at *
  have le1 : hp.objs.size ≤ x1 := by omega
  have sp1 := q1 x1 (I1.hok.fresh le1)
  have old : ∀ b o, hp.get? b = some o → ((hp.push (PySem.W.kdv_tup us)).push (PySem.HandSPX.excO C hp.objs.size)).get? b = some o := fun b o z =>
    Heap.get?_push_of_some _ (Heap.get?_push_of_some _ z)
  have new1 : ((hp.push (PySem.W.kdv_tup us)).push (PySem.HandSPX.excO C hp.objs.size)).get? x1 = some (PySem.HandSPX.excO C hp.objs.size) := by
    subst ex
    heap_get
  have I2 := I1.laid (t' := tk) (a := x1) (o := exo x1 C none) old le1 (exo_ok new1)
  have rel : Vals (V.ref x1 :: (vs ++ dvs)) (Value.ref x1 :: (us ++ ds)) := .cons rfl (r1.append hd)
  have few : us.length ≤ sizeLine := by
    have := Paired.length r1
    rw [sizeLine_eq]
    omega
  have many : (Value.ref x1 :: us ++ ds).length = ps.length := by
    have z := rel.length
    rw [F1.len _ _ _ _ sp1] at z
    exact z.symm
  have run := F1.run _ X.stack _ _ ⟨Value.ref x1 :: us, []⟩ (Value.ref x1 :: (us ++ ds)) _ _ (fun _ _ _ => False) (hr.make C us []) (I2.env0.make C us []) (hb _ (Value.ref x1 :: us) I2.kIn many) rel sp1
  refine wpAny_call (PySem.HandSPX.call_own F.excBase_ValueError (fun Y => PySem.HandSPX.refsVE_contains Y bm hbm) (I1.kIn _ _ hC) (PySem.W.looks_findIn I1.kIn iC) (fun self => PySem.W.bind_fn I1.kIn self tI) few ?_)
  subst ex
  refine codeAny_mono run fun r s' back => ?_
  cases r with
  | error er => exact False.elim back
  | ok fl =>
    cases fl with
    | ret u =>
      obtain ⟨v, H2, os2, bare2, un2, hok2, rv, ev, d, fs, ea, ed, hd1, q2⟩ := back
      subst ev
      obtain ⟨h2, g2, d2, t2, os'⟩ := s'
      obtain ⟨t0, G, J, kG, ge, hoe, na⟩ := mk_end0 (d2 := d2) (t2 := t2) I1 le1 old un2 hok2 os2 bare2 ea ed hd1
      exact ⟨rv, _, _, _, ⟨G, g2, d2, t2, os'⟩, _, .ref C, some d, rfl, J, kG, ge, hoe, ⟨rfl, rfl, fun vs z => by cases z; rfl⟩, rfl, rfl, na, rfl, bare2, raises_own T.exC T.tyC, q2⟩
    | next => exact False.elim back
    | brk => exact False.elim back
    | cont => exact False.elim back
theorem ps_raise1N {X : Cx} {W : WX} {x fld : Str} {C : Addr} {j : Nat} {e : Expr} {ta : TA} {p pos pos' : Pos} (c : Er X.prog X.w X.K X.mg X.base x fld C) (hr : Room j X.A) (tk : L2N.Takes X W) (ha : PA X [e] ta) (hj : 2 ≤ j := by decide) (hcalm : X.calm = true := by rfl) (hg : Gl X x := by rfl)
    (hdb : (x == ("__debug__" : Str)) = false := by decide) (he : starEach [e] X.env = (false, eval e X.env) :: starEach [] X.env := by rfl) (hpl : (backTo pos (starEach [] X.env)).any (·.1) = false := by rfl) :
    PS X (.Raise (some (.Call (.Name x p) [e] [] pos)) none pos') (fun _ σ H => tMkO C (spInit C fld) [] ta σ H fun cls d H' => W cls d σ H') := by
  obtain ⟨fI, fd, ps, T, F, b⟩ := c.ex
  exact L2N.ps_raise hcalm tk (pmk_oexN (X := X) (p := p) (pos := pos) T.oex T.iC T.tI F (hr.mono hj) b .nil hg T.g ha hdb he hpl)

section
variable {P : Program} {w : World} {K : PySem.W.Frag} {mg : Str → Option Value} {base : Heap}
/-- a pool: three values -/
def PoolAt (H : Hp) (p : Addr) : Prop := ∃ (c n : Int) (b : Bool), H p = some (.lst [.int c, .int n, .bl b])
def spPool : Sp := fun vs H Q _ => ∃ c : Int, vs = [.int c] ∧ ∀ p H', H p = none → Same H H' → PoolAt H' p → Q (.ref p) H'
abbrev s_pool : Stmt := top 23
theorem sc_pool : FnScope ["_law_cell_here"] ["_law_cell_here"] (defScope s_pool) := ⟨rfl, rfl, rfl, by decide +kernel, rfl, by decide +kernel, by decide +kernel⟩
theorem ok_pool {f : Addr} {fd : FuncData} (F : Fun K "_law_pool" "_law_pool" s_pool f fd) : FnOk P w K mg base CX0 1 f fd ["_law_cell_here"] spPool := by
  refine F.ok sc_pool (fun vs H Q E h => ?_) (fun cdv A outer s H vs Q E hr h => ?_)
  · obtain ⟨c, rfl, _⟩ := h
    rfl
  · obtain ⟨c, rfl, k⟩ := h
    refine ⟨_, (pss_one (ps_ret (pe_lst (pa_cons (pv 0) (pa_cons pe_int (pa_cons (pe_cmpR op_ge (pv 0) (pe_op op_pow pe_int pe_int) (nomark _)) pa_nil)))))), ?_⟩
    refine ⟨_, rfl, _, rfl, _, _, rfl, rfl, ⟨by decide, by decide, by decide⟩, _, _, rfl, rfl, (by show 3 ≤ sizeLine; decide), fun p hp => ?_⟩
    exact k p _ hp (same_upd hp) ⟨_, _, _, upd_same⟩

abbrev s_take : Stmt := top 24
theorem sc_take : FnScope ["_law_pool_here", "_law_limit", "_law_drawn", "_law_mixed"] ["_law_pool_here", "_law_limit"] (defScope s_take) := ⟨rfl, rfl, rfl, by decide +kernel, rfl, by decide +kernel, by decide +kernel⟩
def spTake : Sp := fun vs H Q _ => ∃ (p : Addr) (m : Int), vs = [.ref p, .int m] ∧ PoolAt H p ∧ 0 < m ∧ m.natAbs.log2 < 9000 ∧
  ∀ v H', 0 ≤ v → v < m → (∀ q, q ≠ p → H' q = H q) → PoolAt H' p → Q (.int v) H'
theorem mix_small (z : Int) : (z % 2147483647).natAbs < 2 ^ 64 := by
  have h1 := Int.emod_nonneg z (show (2147483647 : Int) ≠ 0 by decide)
  have h2 := Int.emod_lt_of_pos z (show (0 : Int) < 2147483647 by decide)
  have : (2147483647 : Nat) < 2 ^ 64 := by decide
  omega
theorem ok_take {f : Addr} {fd : FuncData} (T : Txt mg) (F : Fun K "_law_take" "_law_take" s_take f fd) : FnOk P w K mg base CX0 1 f fd ["_law_pool_here", "_law_limit"] spTake := by
  refine F.ok sc_take (fun vs H Q E h => ?_) (fun cdv A outer s H vs Q E hr h => ?_)
  · obtain ⟨p, m, rfl, _⟩ := h
    rfl
  · obtain ⟨p, m, rfl, ⟨c, n, b, hp⟩, hm, hb, k⟩ := h
    refine ⟨_, (pss_cons (ps_asg (pe_op op_add (pe_ix ix_list (pv 0) pe_int (fun _ _ => rfl)) pe_int) (pg_sub (pv 0) pe_int set_list))
 (pss_cons (ps_if (pt_val (pe_ix ix_list (pv 0) pe_int (fun _ _ => rfl))) (pss_cons (ps_set (i := 2) sc_take.nd rfl (Or.inl rfl) (pe_op op_mod (pe_callTy call_int1 (by rfl) T.int boot_int (pa_cons (pe_ix ix_list (pv 0) pe_int (fun _ _ => rfl)) pa_nil)) (pv 1)))
 (pss_cons (ps_asg (pe_op op_fdivW (pe_callTy call_int1 (by rfl) T.int boot_int (pa_cons (pe_ix ix_list (pv 0) pe_int (fun _ _ => rfl)) pa_nil)) (pv 1)) (pg_sub (pv 0) pe_int set_list))
 (pss_one (ps_ret (pv 2))))) pss_nil)
 (pss_cons (ps_set (i := 3) sc_take.nd rfl (Or.inl rfl) (pe_op op_mod (pe_callTy call_int1 (by rfl) T.int boot_int (pa_cons (pe_op op_add (pe_op op_add (pe_op op_mul (pe_ix ix_list (pv 0) pe_int (fun _ _ => rfl)) pe_int) (pe_op op_mul (pe_ix ix_list (pv 0) pe_int (fun _ _ => rfl)) pe_int)) pe_int) pa_nil)) pe_int))
 (pss_one (ps_ret (pe_op op_mod (pe_op op_fdivW (pe_callTy call_int1 (by rfl) T.int boot_int (pa_cons (pe_op op_mod (pe_op op_pow (pv 3) pe_int) pe_int) pa_nil)) pe_int) (pv 1))))))), ?_⟩
    refine ⟨_, rfl, p, _, _, _, rfl, rfl, SqL.of hp, rfl, _, _, rfl, rfl, _, rfl, p, _, _, _, rfl, rfl, hp, rfl, ?_⟩
    refine ⟨_, rfl, p, _, _, _, rfl, rfl, SqL.of upd_same, rfl, b, rfl, ?_⟩
    cases b with
    | true =>
      refine iteT ?_
      refine ⟨_, rfl, p, _, _, _, rfl, rfl, SqL.of upd_same, rfl, .inl ⟨_, rfl, _, rfl, _, _, rfl, rfl, hm, ?_⟩⟩
      refine ⟨_, rfl, p, _, _, _, rfl, rfl, SqL.of upd_same, rfl, .inl ⟨_, rfl, _, rfl, _, _, rfl, rfl, ⟨hm, hb⟩, _, rfl, p, _, _, _, rfl, rfl, upd_same, rfl, ?_⟩⟩
      refine ⟨_, rfl, k _ _ (Int.emod_nonneg _ (by omega)) (Int.emod_lt_of_pos _ hm) (fun q hq => ?_) ⟨_, _, _, upd_same⟩⟩
      rw [upd_ne hq, upd_ne hq]
    | false =>
      refine iteF ?_
      refine ⟨_, rfl, p, _, _, _, rfl, rfl, SqL.of upd_same, rfl, _, _, rfl, rfl, (.inr ⟨by decide, by decide⟩), _, rfl, p, _, _, _, rfl, rfl, SqL.of upd_same, rfl, _, _, rfl, rfl, (.inr ⟨by decide, by decide⟩), _, _, rfl, rfl, _, _, rfl, rfl, .inl ⟨_, rfl, _, _, rfl, rfl, (by show (0 : Int) < 2147483647; decide), ?_⟩⟩
      refine ⟨_, rfl, _, _, rfl, rfl, ⟨by decide, by decide, mix_small _⟩, _, _, rfl, rfl, (by show (0 : Int) < 2147483647; decide), .inl ⟨_, rfl, _, _, rfl, rfl, ⟨by decide, by decide⟩, _, rfl, _, _, rfl, rfl, hm, ?_⟩⟩
      refine k _ _ (Int.emod_nonneg _ (by omega)) (Int.emod_lt_of_pos _ hm) (fun q hq => ?_) ⟨_, _, _, upd_same⟩
      rw [upd_ne hq]

abbrev s_cell : Stmt := top 25
theorem sc_cell : FnScope ["_law_script", "_law_k"] ["_law_script", "_law_k"] (defScope s_cell) := ⟨rfl, rfl, rfl, by decide +kernel, rfl, by decide +kernel, by decide +kernel⟩
def spCellL (K : PySem.W.Frag) : Sp := fun vs H Q _ => ∃ (a : Addr) (ns : List Int) (k : Nat), vs = [.ref a, .int (k : Int)] ∧ SqL K H a (ns.map V.int) ∧ ∀ v, Q (.int v) H
theorem ok_cell {f : Addr} {fd : FuncData} (T : Txt mg) (F : Fun K "_law_cell" "_law_cell" s_cell f fd) : FnOk P w K mg base CX0 1 f fd ["_law_script", "_law_k"] (spCellL K) := by
  refine F.ok sc_cell (fun vs H Q E h => ?_) (fun cdv A outer s H vs Q E hr h => ?_)
  · obtain ⟨a, ns, k, rfl, _⟩ := h
    rfl
  · obtain ⟨a, ns, k, rfl, hS, q⟩ := h
    refine ⟨_, (pss_cons (ps_if (pt_cmpR op_lt (pv 1) (pe_callB call_len_seq (by rfl) T.len PySem.boot_len (pa_cons (pv 0) pa_nil)) (nomark _)) (pss_one (ps_ret (pe_ix ix_list (pv 0) (pv 1) (fun _ _ => rfl)))) pss_nil)
 (pss_one (ps_ret pe_int))), ?_⟩
    refine ⟨_, rfl, _, rfl, a, _, rfl, .inl hS, _, _, rfl, rfl, _, rfl, ?_⟩
    rw [List.length_map]
    by_cases c : k < ns.length
    · refine if_pos_of (decide_eq_true (by omega)) ?_
      refine ⟨_, rfl, _, rfl, a, _, _, .int ns[k], rfl, rfl, hS, atI_nat (by rw [List.getElem?_map, List.getElem?_eq_getElem c]; rfl), ?_⟩
      exact q _
    · refine if_neg_of (decide_eq_false (by omega)) ?_
      exact q _
def rIsqrt : List V → Hp → VK → Prop := fun vs H Q => ∃ a : Int, vs = [.int a] ∧ 0 ≤ a ∧ a < 2 ^ 64 ∧ ∀ r : Int, 0 ≤ r → r * r ≤ a → a < (r + 1) * (r + 1) → Q (.int r) H
theorem cr_isqrt {X : Cx} : CallR X (.builtin "math.isqrt") rIsqrt := by
  intro pins s σ H vs us Q I r h
  obtain ⟨a, rfl, h0, h1, q⟩ := h
  cases r with
  | cons r1 r2 =>
    cases r2
    obtain ⟨t, rfl⟩ := r1
    obtain ⟨s1, s2⟩ := Float64.isqrt_spec a.toNat
    refine PySem.W.mg_isqrt h0 h1 ⟨.int _, H, I.tok _, ⟨_, rfl⟩, q _ (Int.natCast_nonneg _) ?_ ?_⟩
    · have : ((Float64.isqrt a.toNat * Float64.isqrt a.toNat : Nat) : Int) ≤ ((a.toNat : Nat) : Int) := Int.ofNat_le.mpr s1
      rw [Int.natCast_mul, Int.toNat_of_nonneg h0] at this
      exact this
    · have : ((a.toNat : Nat) : Int) < (((Float64.isqrt a.toNat + 1) * (Float64.isqrt a.toNat + 1) : Nat) : Int) := Int.ofNat_lt.mpr s2
      rw [Int.natCast_mul, Int.natCast_add, Int.toNat_of_nonneg h0] at this
      exact this
abbrev s_least : Stmt := top 9
theorem sc_least : FnScope ["n", "d"] ["n"] (defScope s_least) := ⟨rfl, rfl, rfl, by decide +kernel, rfl, by decide +kernel, by decide +kernel⟩
def spLeast : Sp := fun vs H Q _ => ∃ n : Int, vs = [.int n] ∧ 2 ≤ n ∧ n < 2 ^ 62 ∧ ∀ r, Least n r → Q (.int r) H
theorem rgc_two {j : Int} (h0 : 0 ≤ j) (h1 : j < 2 ^ 62) : RgC 3 j 2 (if 3 < j then ((j - 3 - 1) / 2 + 1).toNat else 0) := by
  refine ⟨by decide, by decide, ?_, ?_⟩
  · unfold Builtin.Range.small Builtin.Range.rangeSize
    simp only [Builtin.Range.rangeFitsLong, Bool.and_eq_true, Bool.or_eq_true, decide_eq_true_eq, beq_iff_eq, show ((2 : Int) > 0) by decide, if_true]
    split <;> omega
  · unfold Builtin.Range.rangeSize
    rw [if_pos (by decide)]
    split <;> omega
theorem root_lt {r n : Int} (h0 : 0 ≤ r) (h : r * r ≤ n) (hn : n < 2 ^ 62) : r + 1 < 2 ^ 62 := by
  by_cases c : r < 2 ^ 32
  · omega
  · have : (2 ^ 32 : Int) * 2 ^ 32 ≤ r * r := Int.mul_le_mul (by omega) (by omega) (by decide) h0
    omega
theorem ok_least {f : Addr} {fd : FuncData} (T : Txt mg) (hsq : mg "isqrt" = some (.builtin "math.isqrt")) (F : Fun K "_least_divisor" "_least_divisor" s_least f fd) : FnOk P w K mg base CX0 1 f fd ["n"] spLeast := by
  refine F.ok sc_least (fun vs H Q E h => ?_) (fun cdv A outer s H vs Q E hr h => ?_)
  · obtain ⟨n, rfl, _⟩ := h
    rfl
  · obtain ⟨n, rfl, h2, hb, q⟩ := h
    refine ⟨_, (pss_cons (ps_if (pt_cmpR op_eq (pe_op op_mod (pv 0) pe_int) pe_int (nomark _)) (pss_one (ps_ret pe_int)) pss_nil)
 (pss_cons (ps_for PassesOwn.never rfl (pi_range3 rfl T.range (pa_cons pe_int (pa_cons (pe_op op_add (pe_callBfun cr_isqrt (by rfl) hsq (pa_cons (pv 0) pa_nil)) pe_int) (pa_cons pe_int pa_nil)))) (pg_name (i := 1) sc_least.nd rfl (Or.inl rfl)) (pss_one (ps_if (pt_cmpR op_eq (pe_op op_mod (pv 0) (pv 1)) pe_int (nomark _)) (pss_one (ps_ret (pv 1))) pss_nil)))
 (pss_one (ps_ret (pv 0))))), ?_⟩
    refine ⟨_, rfl, _, _, rfl, rfl, (by show (0 : Int) < 2; decide), rfl, _, rfl, ?_⟩
    by_cases c : (2 : Int) ∣ n
    · refine if_pos_of (decide_eq_true (congrArg V.int (Int.emod_eq_zero_of_dvd c))) ?_
      exact q _ (least_two c)
    · refine if_neg_of (decide_eq_false fun e => c (Int.dvd_of_emod_eq_zero (V.int.inj e))) ?_
      refine ⟨_, rfl, n, rfl, by omega, by omega, fun r r0 r1 r2 => ⟨_, _, rfl, rfl, 3, r + 1, 2, _, rfl, rgc_two (by omega) (root_lt r0 r1 hb), ?_⟩⟩
      refine for_rangeC (lo := 3) (c := 2) (fun i σ H' => H' = H ∧ ∃ x, σ = [some (.int n), x] ∧ ∀ j : Nat, j < i → ¬ (3 + (j : Int) * 2) ∣ n) ⟨rfl, _, rfl, fun j hj => absurd hj (Nat.not_lt_zero j)⟩ ?_ ?_
      · rintro i σ _ hi ⟨rfl, x, rfl, hx⟩
        refine ⟨_, rfl, _, rfl, _, _, rfl, rfl, (by show (0 : Int) < 3 + ((i : Nat) : Int) * 2; omega), rfl, _, rfl, ?_⟩
        by_cases c3 : (3 + (i : Int) * 2) ∣ n
        · refine if_pos_of (decide_eq_true (congrArg V.int (Int.emod_eq_zero_of_dvd c3))) ?_
          exact ⟨_, rfl, q _ (least_at c c3 hx)⟩
        · refine if_neg_of (decide_eq_false fun e => c3 (Int.dvd_of_emod_eq_zero (V.int.inj e))) ?_
          refine ⟨rfl, _, rfl, fun j hj => ?_⟩
          by_cases e : j = i
          · rw [e]
            exact c3
          · exact hx j (by omega)
      · rintro σ _ ⟨rfl, x, rfl, hx⟩
        refine ⟨_, rfl, q _ (least_of_odd h2 c r0 r2 fun i hi => hx i ?_)⟩
        split <;> omega
abbrev s_prime : Stmt := top 10
theorem sc_prime : FnScope ["n"] ["n"] (defScope s_prime) := ⟨rfl, rfl, rfl, by decide +kernel, rfl, by decide +kernel, by decide +kernel⟩
def spPrime : Sp := fun vs H Q _ => ∃ n : Int, vs = [.int n] ∧ n < 2 ^ 62 ∧ Q (.bl (prB n)) H
theorem ok_prime {f : Addr} {fd : FuncData} (F : Fun K "is_prime" "is_prime" s_prime f fd) (c_least : Cl P w K mg base CX0 1 "_least_divisor" spLeast) : FnOk P w K mg base CX0 2 f fd ["n"] spPrime := by
  refine F.ok sc_prime (fun vs H Q E h => ?_) (fun cdv A outer s H vs Q E hr h => ?_)
  · obtain ⟨n, rfl, _⟩ := h
    rfl
  · obtain ⟨n, rfl, hb, q⟩ := h
    refine ⟨_, (pss_one (ps_ret (pe_and (pe_cmpR op_gt (pv 0) pe_int (nomark _)) (pe_one (pe_cmpR op_eq (pe_cl c_least hr (pa_cons (pv 0) pa_nil)) (pv 0) (nomark _)))))), ?_⟩
    refine ⟨_, rfl, _, _, rfl, rfl, _, rfl, ?_⟩
    by_cases c : 1 < n
    · refine if_pos_of (decide_eq_true c) ?_
      refine ⟨_, rfl, n, rfl, by omega, hb, fun r hl => ⟨_, rfl, rfl, ?_⟩⟩
      have e : decide (V.int r = V.int n) = prB n := by
        by_cases p : Pr n
        · rw [prB_true p, (hl.self (by omega)).mpr p]
          exact decide_eq_true rfl
        · rw [prB_false p]
          exact decide_eq_false fun e => p ((hl.self (by omega)).mp (V.int.inj e))
      show Q (.bl (decide (V.int r = V.int n))) H
      rw [e]
      exact q
    · refine if_neg_of (decide_eq_false c) ?_
      have e : prB n = false := prB_false fun p => c (by have := p.1; omega)
      rw [e] at q
      exact q
abbrev s_lprime : Stmt := top 26
theorem sc_lprime : FnScope ["_law_n", "_law_k"] ["_law_n"] (defScope s_lprime) := ⟨rfl, rfl, rfl, by decide +kernel, rfl, by decide +kernel, by decide +kernel⟩
theorem pr_of_trials {n k : Int} (hn : 2 ≤ n) (hk : 2 ≤ k) (hs : n < k * k) (hm : ∀ m : Int, 2 ≤ m → m < k → ¬ m ∣ n) : Pr n := by
  refine ⟨hn, fun m h1 h2 h3 => ?_⟩
  obtain ⟨d, d2, ds, _, dn⟩ := small_div (n := n) (s := k - 1) hn h1 h2 h3 (by omega) (by rw [Int.sub_add_cancel]; exact hs)
  exact hm d d2 (by omega) dn
theorem root_le {k n : Int} (hk : 2 ≤ k) (h : k * k ≤ n) : k < n ∧ 2 * k ≤ n := by
  have : 2 * k ≤ k * k := Int.mul_le_mul_of_nonneg_right hk (by omega)
  omega
theorem ok_lprime {f : Addr} {fd : FuncData} (F : Fun K "_law_is_prime" "_law_is_prime" s_lprime f fd) : FnOk P w K mg base CX0 1 f fd ["_law_n"] spPrime := by
  refine F.ok sc_lprime (fun vs H Q E h => ?_) (fun cdv A outer s H vs Q E hr h => ?_)
  · obtain ⟨n, rfl, _⟩ := h
    rfl
  · obtain ⟨n, rfl, hb, q⟩ := h
    refine ⟨_, (pss_cons (ps_if (pt_cmpR op_lt (pv 0) pe_int (nomark _)) (pss_one (ps_ret pe_bl)) pss_nil)
 (pss_cons (ps_set (i := 1) sc_lprime.nd rfl (Or.inl rfl) pe_int)
 (pss_cons (ps_while PassesOwn.never (pt_cmpR op_le (pe_op op_mul (pv 1) (pv 1)) (pv 0) (nomark _)) (pss_cons (ps_if (pt_cmpR op_eq (pe_op op_mod (pv 0) (pv 1)) pe_int (nomark _)) (pss_one (ps_ret pe_bl)) pss_nil)
 (pss_one (ps_set (i := 1) sc_lprime.nd rfl (Or.inl rfl) (pe_op op_add (pv 1) pe_int)))))
 (pss_one (ps_ret pe_bl))))), ?_⟩
    refine ⟨_, rfl, _, _, rfl, rfl, _, rfl, ?_⟩
    by_cases c : n < 2
    · refine if_pos_of (decide_eq_true c) ?_
      rw [prB_false fun p => by have := p.1; omega] at q
      exact q
    · refine if_neg_of (decide_eq_false c) ?_
      refine while_by (fun σ H' => H' = H ∧ ∃ k : Int, σ = [some (.int n), some (.int k)] ∧ 2 ≤ k ∧ k ≤ n + 1 ∧ ∀ m : Int, 2 ≤ m → m < k → ¬ m ∣ n) (fun σ _ => match σ[1]? with | some (some (V.int k)) => (n + 2 - k).toNat | _ => 0)
        ⟨rfl, 2, rfl, by omega, by omega, fun m h1 h2 => by omega⟩ ?_ ?_
      · rintro σ _ ⟨rfl, k, rfl, k2, k3, hm⟩
        refine ⟨_, rfl, _, rfl, _, _, rfl, rfl, .inl ⟨by omega, by omega⟩, _, rfl, _, _, rfl, rfl, _, rfl, ?_⟩
        by_cases c2 : k * k ≤ n
        · refine if_pos_of (decide_eq_true c2) ?_
          have kn := root_le k2 c2
          refine ⟨_, rfl, _, rfl, _, _, rfl, rfl, (by show 0 < k; omega), rfl, _, rfl, ?_⟩
          by_cases c3 : k ∣ n
          · refine if_pos_of (decide_eq_true (congrArg V.int (Int.emod_eq_zero_of_dvd c3))) ?_
            rw [prB_false fun p => p.2 k k2 (by omega) c3] at q
            exact q
          · refine if_neg_of (decide_eq_false fun e => c3 (Int.dvd_of_emod_eq_zero (V.int.inj e))) ?_
            refine ⟨_, rfl, _, _, rfl, rfl, ⟨rfl, k + 1, rfl, by omega, by omega, fun m h1 h2 => ?_⟩, ?_⟩
            · by_cases e : m = k
              · rw [e]
                exact c3
              · exact hm m h1 (by omega)
            · show (n + 2 - (k + 1)).toNat < (n + 2 - k).toNat
              omega
        · refine if_neg_of (decide_eq_false c2) ?_
          rw [prB_true (pr_of_trials (by omega) k2 (by omega) hm)] at q
          exact q
      · rintro σ H1 Q1 Q2 h ⟨v, e1, v2, e2, i, j, e3, e4, hc, v3, e5, i2, j2, e6, e7, k, e8, qq⟩
        exact ⟨v, e1, v2, e2, i, j, e3, e4, hc, v3, e5, i2, j2, e6, e7, k, e8, h _ _ qq⟩
abbrev s_next : Stmt := top 27
theorem sc_next : FnScope ["_law_n", "_law_found"] ["_law_n"] (defScope s_next) := ⟨rfl, rfl, rfl, by decide +kernel, rfl, by decide +kernel, by decide +kernel⟩
def spNext : Sp := fun vs H Q _ => ∃ (n b : Int), vs = [.int n] ∧ Pr b ∧ n ≤ b ∧ b < 2 ^ 61 ∧ ∀ p : Int, Pr p → n ≤ p → p ≤ b → Q (.int p) H
theorem ok_next {f : Addr} {fd : FuncData} (T : Txt mg) (F : Fun K "_law_next_prime" "_law_next_prime" s_next f fd) (c_lprime : Cl P w K mg base CX0 1 "_law_is_prime" spPrime) : FnOk P w K mg base CX0 2 f fd ["_law_n"] spNext := by
  refine F.ok sc_next (fun vs H Q E h => ?_) (fun cdv A outer s H vs Q E hr h => ?_)
  · obtain ⟨n, b, rfl, _⟩ := h
    rfl
  · obtain ⟨n, b, rfl, hp, hn, hb, q⟩ := h
    refine ⟨_, (pss_cons (ps_set (i := 1) sc_next.nd rfl (Or.inl rfl) (pe_callB (call_max2 rfl) (by rfl) T.max boot_max (pa_cons pe_int (pa_cons (pv 0) pa_nil))))
 (pss_cons (ps_while PassesOwn.never (pt_not (pt_val (pe_cl c_lprime hr (pa_cons (pv 1) pa_nil)))) (pss_one (ps_set (i := 1) sc_next.nd rfl (Or.inl rfl) (pe_op op_add (pv 1) pe_int))))
 (pss_one (ps_ret (pv 1))))), ?_⟩
    refine ⟨_, rfl, _, _, rfl, ?_⟩
    refine while_by (fun σ H' => H' = H ∧ ∃ k : Int, σ = [some (.int n), some (.int k)] ∧ n ≤ k ∧ k ≤ b) (fun σ _ => match σ[1]? with | some (some (V.int k)) => (b - k).toNat | _ => 0)
      ⟨rfl, _, rfl, by split <;> omega, by have := hp.1; split <;> omega⟩ ?_ ?_
    · rintro σ _ ⟨rfl, k, rfl, k2, k3⟩
      refine ⟨_, rfl, k, rfl, by omega, _, rfl, ?_⟩
      by_cases c : Pr k
      · refine if_neg_of (by rw [prB_true c]; rfl) ?_
        exact ⟨_, rfl, q k c k2 k3⟩
      · refine if_pos_of (by rw [prB_false c]; rfl) ?_
        have : k ≠ b := fun e => c (e ▸ hp)
        refine ⟨_, rfl, _, _, rfl, rfl, ⟨rfl, k + 1, rfl, by omega, by omega⟩, ?_⟩
        show (b - (k + 1)).toNat < (b - k).toNat
        omega
    · rintro σ H1 Q1 Q2 h ⟨v, e1, n, e2, hl, k, e3, qq⟩
      exact ⟨v, e1, n, e2, hl, k, e3, h _ _ qq⟩
abbrev s_ibc : Stmt := inClass (top 5) 0
theorem sc_ibc : FnScope ["self", "p"] ["self", "p"] (defScope s_ibc) := ⟨rfl, rfl, rfl, by decide +kernel, rfl, by decide +kernel, by decide +kernel⟩
theorem ok_ibc {f C CF : Addr} {fd : FuncData} (TF : FErr K mg CF) (hC : OexC K C) (hno : PySem.W.findIn K (.ref C) "p" = some none) (F : Fun K "__init__" "BadCharacteristic.__init__" s_ibc f fd) : FnOk P w K mg base CX0 1 f fd ["self", "p"] (spInit C "p") := by
  refine F.ok sc_ibc (fun vs H Q E h => ?_) (fun cdv A outer s H vs Q E hr h => ?_)
  · obtain ⟨a, v, rfl, _⟩ := h
    rfl
  · obtain ⟨a, v, rfl, ha, q⟩ := h
    refine ⟨_, (pss_cons (ps_expr (pe_feinit TF (pa_cons (pv 0) (pa_cons pe_str pa_nil))))
 (pss_one (ps_ost (pv 0) (pv 1)))), ?_⟩
    refine ⟨_, rfl, a, C, _, rfl, (by show 1 ≤ 1000; decide), hC, ha, ?_⟩
    exact ⟨_, rfl, _, rfl, a, C, rfl, hC, hno, .inl ⟨ha, fun dx hn hne => q dx hn hne⟩⟩
abbrev s_chkp : Stmt := top 12
theorem sc_chkp : FnScope ["p"] ["p"] (defScope s_chkp) := ⟨rfl, rfl, rfl, by decide +kernel, rfl, by decide +kernel, by decide +kernel⟩
def spChkp (C : Addr) : Sp := fun vs H Q E => ∃ p : Int, vs = [.int p] ∧ p < 2 ^ 62 ∧ (Pr p → Q (.int p) H) ∧ (¬ Pr p → ∀ d H', Same H H' → H' d = some (.xd [("p", .int p)]) → E (.ref C) (some d) H')
theorem ok_chkp {f C : Addr} {fd : FuncData} (F : Fun K "checked_prime" "checked_prime" s_chkp f fd) (c_prime : Cl P w K mg base CX0 2 "is_prime" spPrime) (x_bc : Er P w K mg base "BadCharacteristic" "p" C) : FnOk P w K mg base (L2.CX P w) 3 f fd ["p"] (spChkp C) := by
  refine F.okX sc_chkp (fun vs H Q E h => ?_) (fun cdv A outer s H vs Q E hr h => ?_)
  · obtain ⟨n, rfl, _⟩ := h
    rfl
  · obtain ⟨p, rfl, hb, q, e⟩ := h
    refine ⟨_, (pss_cons (ps_if (pt_not (pt_val (pe_cl c_prime hr (pa_cons (pv 0) pa_nil)))) (pss_one (ps_raise1 x_bc hr (takes_of rfl rfl rfl rfl) (pa_cons (pv 0) pa_nil))) pss_nil)
 (pss_one (ps_ret (pv 0)))), ?_⟩
    refine ⟨_, rfl, p, rfl, hb, _, rfl, ?_⟩
    by_cases c2 : Pr p
    · refine if_neg_of (by rw [prB_true c2]; rfl) ?_
      exact ⟨_, rfl, q c2⟩
    · refine if_pos_of (by rw [prB_false c2]; rfl) ?_
      refine ⟨_, rfl, ?_⟩
      exact mk1 fun d H2 s _ hd => e c2 d H2 s hd
abbrev s_checked : Stmt := top 13
theorem sc_checked : FnScope ["p"] ["p"] (defScope s_checked) := ⟨rfl, rfl, rfl, by decide +kernel, rfl, by decide +kernel, by decide +kernel⟩
/-- a characteristic: 0 or a prime -/
def Chr (p : Int) : Prop := p = 0 ∨ Pr p
def spChecked (C : Addr) : Sp := fun vs H Q E => ∃ p : Int, vs = [.int p] ∧ p < 2 ^ 62 ∧ (Chr p → Q (.int p) H) ∧ (¬ Chr p → ∀ d H', Same H H' → H' d = some (.xd [("p", .int p)]) → E (.ref C) (some d) H')
theorem ok_checked {f C : Addr} {fd : FuncData} (F : Fun K "checked" "checked" s_checked f fd) (c_chkp : Cl P w K mg base (L2.CX P w) 3 "checked_prime" (spChkp C)) : FnOk P w K mg base (L2.CX P w) 4 f fd ["p"] (spChecked C) := by
  refine F.okX sc_checked (fun vs H Q E h => ?_) (fun cdv A outer s H vs Q E hr h => ?_)
  · obtain ⟨n, rfl, _⟩ := h
    rfl
  · obtain ⟨p, rfl, hb, q, e⟩ := h
    refine ⟨_, (pss_cons (ps_if (pt_cmpR op_eq (pv 0) pe_int (nomark _)) (pss_one (ps_ret (pv 0))) pss_nil)
 (pss_one (ps_ret (pe_clX c_chkp hr (takes_of rfl rfl rfl rfl) (pa_cons (pv 0) pa_nil))))), ?_⟩
    refine ⟨_, rfl, rfl, _, rfl, ?_⟩
    by_cases c : p = 0
    · subst c
      refine if_pos_of rfl ?_
      exact ⟨_, rfl, q (.inl rfl)⟩
    · refine if_neg_of (by simp [c]) ?_
      refine ⟨_, rfl, p, rfl, hb, fun hp => q (.inr hp), fun hp d H' s hd => e (fun h => h.elim c hp) d H' s hd⟩
abbrev s_rem : Stmt := top 15
theorem sc_rem : FnScope ["n", "p"] ["n", "p"] (defScope s_rem) := ⟨rfl, rfl, rfl, by decide +kernel, rfl, by decide +kernel, by decide +kernel⟩
def spRem0 : Sp := fun vs H Q _ => ∃ n p : Int, vs = [.int n, .int p] ∧ 0 ≤ p ∧ Q (.int (if p = 0 then n else n % p)) H
theorem ok_rem0 {f : Addr} {fd : FuncData} (F : Fun K "remainder" "remainder" s_rem f fd) : FnOk P w K mg base CX0 1 f fd ["n", "p"] spRem0 := by
  refine F.ok sc_rem (fun vs H Q E h => ?_) (fun cdv A outer s H vs Q E hr h => ?_)
  · obtain ⟨n, p, rfl, _⟩ := h
    rfl
  · obtain ⟨n, p, rfl, hp, q⟩ := h
    refine ⟨_, (pss_cons (ps_if (pt_cmpR op_eq (pv 1) pe_int (nomark _)) (pss_one (ps_ret (pv 0))) pss_nil)
 (pss_one (ps_ret (pe_op op_mod (pv 0) (pv 1))))), ?_⟩
    refine ⟨_, rfl, rfl, _, rfl, ?_⟩
    by_cases c : p = 0
    · rw [if_pos c] at q
      exact if_pos_of (by rw [c]; rfl) ⟨_, rfl, q⟩
    · rw [if_neg c] at q
      exact if_neg_of (decide_eq_false fun e => c (V.int.inj e)) ⟨_, rfl, _, rfl, _, _, rfl, rfl, (by show 0 < p; omega), q⟩
abbrev s_zero : Stmt := top 14
theorem sc_zero : FnScope ["n", "p"] ["n", "p"] (defScope s_zero) := ⟨rfl, rfl, rfl, by decide +kernel, rfl, by decide +kernel, by decide +kernel⟩
def spZero (C : Addr) : Sp := fun vs H Q E => ∃ n p : Int, vs = [.int n, .int p] ∧ p < 2 ^ 62 ∧ (p = 0 → Q (.bl (decide (V.int n = V.int 0))) H) ∧ (Pr p → Q (.bl (decide (V.int (n % p) = V.int 0))) H) ∧
  (¬ Chr p → ∀ d H', Same H H' → H' d = some (.xd [("p", .int p)]) → E (.ref C) (some d) H')
theorem ok_zero {f C : Addr} {fd : FuncData} (F : Fun K "is_zero" "is_zero" s_zero f fd) (c_checked : Cl P w K mg base (L2.CX P w) 4 "checked" (spChecked C)) (c_rem : Cl P w K mg base CX0 1 "remainder" spRem0) : FnOk P w K mg base (L2.CX P w) 5 f fd ["n", "p"] (spZero C) := by
  refine F.okX sc_zero (fun vs H Q E h => ?_) (fun cdv A outer s H vs Q E hr h => ?_)
  · obtain ⟨n, p, rfl, _⟩ := h
    rfl
  · obtain ⟨n, p, rfl, hb, q0, q1, e⟩ := h
    refine ⟨_, (pss_one (ps_ret (pe_cmpR op_eq (pe_cl c_rem hr (pa_cons (pv 0) (pa_cons (pe_clX c_checked hr (takes_of rfl rfl rfl rfl) (pa_cons (pv 1) pa_nil)) pa_nil))) pe_int (nomark _)))), ?_⟩
    refine ⟨_, rfl, _, rfl, p, rfl, hb, fun hc => ?_, fun hc d H' s hd => e hc d H' s hd⟩
    by_cases c : p = 0
    · refine ⟨n, p, rfl, by omega, rfl, ?_⟩
      rw [if_pos c]
      exact q0 c
    · have hp := hc.resolve_left c
      refine ⟨n, p, rfl, by have := hp.1; omega, rfl, ?_⟩
      rw [if_neg c]
      exact q1 hp
abbrev s_ibn : Stmt := inClass (top 4) 0
theorem sc_ibn : FnScope ["self", "n"] ["self", "n"] (defScope s_ibn) := ⟨rfl, rfl, rfl, by decide +kernel, rfl, by decide +kernel, by decide +kernel⟩
theorem ok_ibn {f C CF : Addr} {fd : FuncData} (TF : FErr K mg CF) (hC : OexC K C) (hno : PySem.W.findIn K (.ref C) "n" = some none) (F : Fun K "__init__" "BadNumber.__init__" s_ibn f fd) : FnOk P w K mg base CX0 1 f fd ["self", "n"] (spInit C "n") := by
  refine F.ok sc_ibn (fun vs H Q E h => ?_) (fun cdv A outer s H vs Q E hr h => ?_)
  · obtain ⟨a, v, rfl, _⟩ := h
    rfl
  · obtain ⟨a, v, rfl, ha, q⟩ := h
    refine ⟨_, (pss_cons (ps_expr (pe_feinit TF (pa_cons (pv 0) (pa_cons pe_str pa_nil))))
 (pss_one (ps_ost (pv 0) (pv 1)))), ?_⟩
    refine ⟨_, rfl, a, C, _, rfl, (by show 1 ≤ 1000; decide), hC, ha, ?_⟩
    exact ⟨_, rfl, _, rfl, a, C, rfl, hC, hno, .inl ⟨ha, fun dx hn hne => q dx hn hne⟩⟩
abbrev s_divs : Stmt := top 11
theorem sc_divs : FnScope ["n", "found", "rest", "p"] ["n"] (defScope s_divs) := ⟨rfl, rfl, rfl, by decide +kernel, rfl, by decide +kernel, by decide +kernel⟩
def absI (n : Int) : Int := if n < 0 then -n else n
def spDivs (C : Addr) : Sp := fun vs H Q E => ∃ n : Int, vs = [.int n] ∧ absI n < 2 ^ 62 ∧ (n = 0 → ∀ d H', Same H H' → H' d = some (.xd [("n", .int n)]) → E (.ref C) (some d) H') ∧
  (n ≠ 0 → ∀ (l : List Int) (a : Addr) (H' : Hp), PD (absI n) l → l.length < 62 → (2 : Int) ^ l.length ≤ absI n → Same H H' → H a = none → H' a = some (.lst (l.map V.int)) → Q (.ref a) H')
theorem ok_divs {f C : Addr} {fd : FuncData} (T : Txt mg) (F : Fun K "prime_divisors" "prime_divisors" s_divs f fd) (c_least : Cl P w K mg base CX0 1 "_least_divisor" spLeast) (x_bn : Er P w K mg base "BadNumber" "n" C) : FnOk P w K mg base (L2N.CX P w) 3 f fd ["n"] (spDivs C) := by
  refine okN F sc_divs (fun vs H Q E h => ?_) (fun cdv A outer s H vs Q E hr h => ?_)
  · obtain ⟨n, rfl, _⟩ := h
    rfl
  · obtain ⟨n, rfl, hb, e0, q⟩ := h
    refine ⟨_, (pss_cons (ps_if (pt_cmpR op_eq (pv 0) pe_int (nomark _)) (pss_one (ps_raise1N x_bn hr (L2N.takes_of rfl rfl rfl rfl) (pa_cons (pv 0) pa_nil))) pss_nil)
 (pss_cons (ps_set (i := 1) sc_divs.nd rfl (Or.inl rfl) (pe_lst pa_nil))
 (pss_cons (ps_set (i := 2) sc_divs.nd rfl (Or.inl rfl) (pe_callB call_abs (by rfl) T.abs boot_abs (pa_cons (pv 0) pa_nil)))
 (pss_cons (ps_while (passes_of rfl) (pt_cmpR op_gt (pv 2) pe_int (nomark _)) (pss_cons (ps_set (i := 3) sc_divs.nd rfl (Or.inl rfl) (pe_cl c_least hr (pa_cons (pv 2) pa_nil)))
 (pss_cons (ps_expr (pe_bm PySem.F.plainAttrs_list PySem.F.slot_list_append PySem.F.type_list_append mt_append (pv 1) (pa_cons (pv 3) pa_nil)))
 (pss_one (ps_while (passes_of rfl) (pt_cmpR op_eq (pe_op op_mod (pv 2) (pv 3)) pe_int (nomark _)) (pss_one (ps_set (i := 2) sc_divs.nd rfl (Or.inl rfl) (pe_op op_fdivW (pv 2) (pv 3)))))))))
 (pss_one (ps_ret (pv 1))))))), ?_⟩
    refine ⟨_, rfl, rfl, _, rfl, ?_⟩
    by_cases c : n = 0
    · refine if_pos_of (by simp [c]) ?_
      refine ⟨_, rfl, ?_⟩
      exact mk1 fun d H2 s _ hd => e0 c d H2 s hd
    · refine if_neg_of (by simp [c]) ?_
      refine ⟨(by show 0 ≤ sizeLine; decide), fun a ha => ⟨_, rfl, _, rfl, ?_⟩⟩
      have hN : 1 ≤ absI n := by unfold absI; split <;> omega
      have q' := q c
      generalize hM : absI n = m at *
      have hM' : (if n < 0 then -n else n) = m := hM
      refine while_by (fun σ H' => ∃ (fs : List Int) (r d : Int) (x : Option V), σ = [some (.int n), some (.ref a), some (.int r), x] ∧ Fac m fs r d ∧ H' a = some (.lst (fs.map V.int)) ∧ Same H H') (fun σ _ => match σ[2]? with | some (some (V.int r)) => r.toNat | _ => 0)
        ⟨[], m, 2, none, by rw [← hM'] <;> rfl, fac0 hN, upd_same, same_upd ha⟩ ?_ ?_
      · rintro σ H1 ⟨fs, r, d, x, rfl, I, ha1, s1⟩
        have hrm : r ≤ m := Int.le_of_dvd (by omega) I.dv
        refine ⟨_, rfl, _, _, rfl, rfl, _, rfl, ?_⟩
        by_cases c1 : 1 < r
        · refine if_pos_of (decide_eq_true c1) ?_
          refine ⟨_, rfl, r, rfl, by omega, by omega, fun p hp => ?_⟩
          have pp := hp.pr
          have p2 := pp.1
          have pr := hp.le (by omega)
          refine ⟨_, rfl, .inl ⟨rfl, _, SqL.of ha1⟩, _, rfl, a, _, _, rfl, rfl, ha1, (by rw [List.length_map]; exact small1000 (by have := fac_len I hb; omega)), ?_⟩
          refine while_by (fun σ H' => H' = upd H1 a (.lst ((fs ++ [p]).map V.int)) ∧ ∃ r' : Int, σ = [some (.int n), some (.ref a), some (.int r'), some (.int p)] ∧ Tak r p r') (fun σ _ => match σ[2]? with | some (some (V.int r)) => r.toNat | _ => 0)
            ⟨by rw [List.map_append] <;> rfl, r, rfl, tak0 (by omega)⟩ ?_ ?_
          · rintro σ _ ⟨rfl, r', rfl, J⟩
            have jp := J.pos
            refine ⟨_, rfl, _, rfl, _, _, rfl, rfl, (by show 0 < p; omega), rfl, _, rfl, ?_⟩
            by_cases c2 : p ∣ r'
            · refine if_pos_of (decide_eq_true (congrArg V.int (Int.emod_eq_zero_of_dvd c2))) ?_
              have st := tak_step pp J c2
              refine ⟨_, rfl, _, rfl, _, _, rfl, rfl, ⟨by omega, PySem.Flt.log2_lt_of (by decide) (show p.natAbs < 2 ^ 9000 from Nat.lt_of_lt_of_le (show p.natAbs < 2 ^ 62 by omega) (Nat.pow_le_pow_right (by decide) (by decide)))⟩, ⟨rfl, r' / p, rfl, st.1⟩, ?_⟩
              have := st.1.pos
              show (r' / p).toNat < r'.toNat
              omega
            · refine if_neg_of (decide_eq_false fun e => c2 (Int.dvd_of_emod_eq_zero (V.int.inj e))) ?_
              have st := fac_step I pp hp.dvd J c2 fun q hq hd => by
                by_cases z : q < p
                · exact absurd hd (hp.min q hq.1 z)
                · omega
              refine ⟨⟨fs ++ [p], r', p + 1, _, rfl, st.1, upd_same, fun b o e => ?_⟩, ?_⟩
              · rw [upd_ne (ne_of_none e ha)]
                exact s1 b o e
              · show r'.toNat < r.toNat
                have := st.2
                omega
          · rintro σ H1 Q1 Q2 h ⟨v, e1, v2, e2, i, j, e3, e4, hc, e5, k, e6, qq⟩
            exact ⟨v, e1, v2, e2, i, j, e3, e4, hc, e5, k, e6, h _ _ qq⟩
        · refine if_neg_of (decide_eq_false c1) ?_
          have hr1 : r = 1 := by have := I.pos; omega
          subst hr1
          exact ⟨_, rfl, q' fs a H1 (fac_end I) (fac_len I hb) (by have := I.len; omega) s1 ha ha1⟩
      · rintro σ H1 Q1 Q2 h ⟨v, e1, i, j, e3, e4, k, e6, qq⟩
        exact ⟨v, e1, i, j, e3, e4, k, e6, h _ _ qq⟩
/-- within an except suite: of 1 and -1 -/
def spDivs1 : Sp := fun vs H Q _ => ∃ n : Int, vs = [.int n] ∧ (n = 1 ∨ n = -1) ∧ ∀ a H', Same H H' → H a = none → H' a = some (.lst []) → Q (.ref a) H'
theorem hot_divs {f : Addr} {fd : FuncData} (T : Txt mg) (F : Fun K "prime_divisors" "prime_divisors" s_divs f fd) : L2H.FnH P w K mg base CX0 1 f fd ["n"] spDivs1 := by
  obtain ⟨oc, od, kV, doc, pm, an, cdv, ct, osl, rfl, lk, hcd⟩ := F.ex
  refine L2H.fn_ofH lk hcd sc_divs (fun vs H Q E h => ?_) fun A outer s H vs Q E p hot hr h => ?_
  · obtain ⟨n, rfl, _⟩ := h
    rfl
  · obtain ⟨n, rfl, hn, q⟩ := h
    refine ⟨_, (pss_cons (ps_if (pt_cmpR op_eq (pv 0) pe_int (nomark _)) pss_never pss_nil)
      (pss_cons (ps_set (i := 1) sc_divs.nd rfl (Or.inl rfl) (pe_lst pa_nil))
      (pss_cons (ps_set (i := 2) sc_divs.nd rfl (Or.inl rfl) (pe_callB call_abs (by rfl) T.abs boot_abs (pa_cons (pv 0) pa_nil)))
      (pss_cons (ps_while (passes_of rfl) (pt_cmpR op_gt (pv 2) pe_int (nomark _)) pss_never) (pss_one (ps_ret (pv 1))))))), ?_⟩
    refine ⟨_, rfl, rfl, _, rfl, if_neg_of (decide_eq_false fun e => by have := V.int.inj e; omega) ?_⟩
    refine ⟨(by show 0 ≤ sizeLine; decide), fun a ha => ⟨_, rfl, _, rfl, ?_⟩⟩
    have h1 : (if n < 0 then -n else n) = 1 := by split <;> omega
    refine while_by (fun σ H' => σ = [some (.int n), some (.ref a), some (.int 1), none] ∧ H' = upd H a (.lst [])) (fun _ _ => 0) ⟨by rw [← h1] <;> rfl, rfl⟩ ?_ ?_
    · rintro σ _ ⟨rfl, rfl⟩
      refine ⟨_, rfl, _, _, rfl, rfl, _, rfl, if_neg_of rfl ?_⟩
      exact ⟨_, rfl, q a _ (same_upd ha) ha upd_same⟩
    · rintro σ H1 Q1 Q2 h ⟨v, e1, i, j, e3, e4, k, e6, qq⟩
      exact ⟨v, e1, i, j, e3, e4, k, e6, h _ _ qq⟩
theorem eqvAll_ints : ∀ l m : List Int, PyData.eqvAll (l.map PyData.int) (m.map PyData.int) = decide (l = m)
  | [], [] => by rw [List.map_nil, PyData.eqvAll]; rfl
  | [], b :: m => by rw [List.map_nil, List.map_cons, PyData.eqvAll] <;> first | (exact (decide_eq_false (by simp)).symm) | skip
  | a :: l, [] => by rw [List.map_nil, List.map_cons, PyData.eqvAll] <;> first | (exact (decide_eq_false (by simp)).symm) | skip
  | a :: l, b :: m => by
    rw [List.map_cons, List.map_cons, PyData.eqvAll, PyData.eqv, eqvAll_ints l m]
    by_cases c : a = b
    · subst c
      by_cases c2 : l = m
      · subst c2
        simp
      · simp [c2]
    · simp [c]
theorem eqv_ints (l m : List Int) : PyData.eqv (.list (l.map PyData.int)) (.list (m.map PyData.int)) = decide (l = m) := by
  rw [PyData.eqv]
  exact eqvAll_ints l m
theorem eqv_intsT (l m : List Int) : PyData.eqv (.tuple (l.map PyData.int)) (.tuple (m.map PyData.int)) = decide (l = m) := by
  rw [PyData.eqv]
  exact eqvAll_ints l m
theorem canLay_ints : ∀ l : List Int, PyData.canLayAll0 (l.map PyData.int) = true
  | [] => by rw [List.map_nil, PyData.canLayAll0]
  | a :: l => by rw [List.map_cons, PyData.canLayAll0, PyData.canLay0, canLay_ints l]; rfl
theorem depth_ints : ∀ l : List Int, PyData.depthAll (l.map PyData.int) = 0
  | [] => by rw [List.map_nil, PyData.depthAll]
  | a :: l => by rw [List.map_cons, PyData.depthAll, PyData.depth, depth_ints l]; rfl
theorem shaped_ints (l : List Int) : SeqAt.shaped (.list (l.map PyData.int)) = true := by
  unfold SeqAt.shaped
  rw [PyData.canLay0, canLay_ints, PyData.depth, depth_ints]
  rfl
theorem shaped_intsT (l : List Int) : SeqAt.shaped (.tuple (l.map PyData.int)) = true := by
  unfold SeqAt.shaped
  rw [PyData.canLay0, canLay_ints, PyData.depth, depth_ints]
  rfl
theorem dpAll_ints {K : PySem.W.Frag} {H : Hp} : ∀ l : List Int, DpAll K H (l.map V.int) (l.map PyData.int)
  | [] => .nil
  | a :: l => .cons (.int a) (dpAll_ints l)
theorem dp_lst {K : PySem.W.Frag} {H : Hp} {a : Addr} {l : List Int} (h : SqL K H a (l.map V.int)) : Dp K H (.ref a) (.list (l.map PyData.int)) := .lst h (dpAll_ints l)
theorem dp_tup {K : PySem.W.Frag} {H : Hp} {a : Addr} {l : List Int} (h : SqT K H a (l.map V.int)) : Dp K H (.ref a) (.tuple (l.map PyData.int)) := .tup h (dpAll_ints l)
theorem hu64 {k : Nat} {A : Around} (hr : Room k A) : A.units + 64 < cLine := by
  have := hr.un
  omega
theorem item_int {l : List Int} {i : Nat} {y : V} (h : (l.map V.int)[i]? = some y) : ∃ z : Int, y = .int z ∧ l[i]? = some z := by
  rw [List.getElem?_map] at h
  cases e : l[i]? with
  | none =>
    rw [e] at h
    cases h
  | some z =>
    rw [e] at h
    exact ⟨z, (Option.some.inj h).symm, rfl⟩
/-! set(xs) of a list of ints; the walk of the list, as for a tuple -/
/-- the empty set as it is made -/
def set0 (w : World) : Obj := { cls := .type "set", dict := none, data := .set #[] 0 (.fresh 0 0 (!w.params.followText "set-order")) }
open PySem.Calls in
theorem set_of_list {P : Program} {w : World} {A : Around} {E : Value → Shared → Prop} {s : Shared} {l : Addr} {items : Array Value} (ns : List Int) {Q : Value → Shared → Prop} (hh : A.handled = none)
    (hl : s.heap.IsList l items) (hit : IntsAre items.toList ns) (hb : ns.length + 1 < scanBound)
    (h : ∀ (h' : Heap) (tk c : Nat), SetR w h' s.heap.objs.size (fun j => decide (j ∈ ns)) c → c ≤ ns.length → (∀ b o, s.heap.get? b = some o → h'.get? b = some o) →
      Q (.ref s.heap.objs.size) { s with heap := h', toks := tk }) :
    wpAny (model P w) A (call (.type "set") [.ref l]) Q E s := by
  have size_eq : items.size = ns.length := by
    have z := IntsAre.length hit
    rwa [Array.length_toList] at z
  obtain ⟨c, tl, hmro⟩ := F.called_set.mro
  have made_set := F.called_set.made
  have sub_set := F.called_set.sub
  refine wpAny_call (codeAny_of_tree ?_)
  show wpAny _ _ (callAny (.type "set") _) _ _ _
  refine wpAny_pure ⟨Code.quiet_builtin _ (by decide +kernel), codeAny_builtin F.entry_type_call ?_⟩
  rw [Around.under_plain (weight_type_call_type "set" [.ref l] []) rfl]
  have not_type := F.called_set.notType
  have can_create := F.called_set.canCreate
  have type_call := F.typeCall_set_1 (.ref l)
  repeat (any_goals (first | assumption | wp_step))
  refine codeAny_mono (code_set_led1 (.ref l) (E := E) (Q₁ := fun obj st => obj = .ref s.heap.objs.size ∧ st = { s with heap := s.heap.push (set0 w) }) ⟨rfl, rfl⟩) fun r st hr => ?_
  cases r with
  | error e => exact hr
  | ok fl =>
    cases fl with
    | ret obj =>
      obtain ⟨rfl, rfl⟩ := hr
      have at_set : (s.heap.push (set0 w)).get? s.heap.objs.size = some (set0 w) := Heap.get?_push_size _ rfl
      have is_set : Shared.TypeIs { s with heap := s.heap.push (set0 w) } (.ref s.heap.objs.size) "set" := ⟨_, at_set, rfl⟩
      have init_look := F.called_set.init.lookup
      have init_bind := F.called_set.init.bind (.ref s.heap.objs.size)
      repeat (any_goals (first | assumption | wp_step))
      refine codeAny_mono (codeAny_call_builtin (R := wants (fun r t => r = .none ∧ ∃ h' tk c, t = { s with heap := h', toks := tk } ∧ SetR w h' s.heap.objs.size (fun j => decide (j ∈ ns)) c ∧
        c ≤ ns.length ∧ (∀ b o, s.heap.get? b = some o → h'.get? b = some o)) E) F.called_set.init.plain F.entry_set_init (check_set_init_1 is_set ?_)) fun r₂ s₂ hr₂ => ?_
      · obtain ⟨ol, hol, hcl, nl, hdl⟩ := hl
        obtain ⟨ocls, odict, odata, oslots⟩ := ol
        simp only at hcl hdl
        subst hcl
        subst hdl
        have hol' : (s.heap.push (set0 w)).get? l = some { cls := .type "list", dict := odict, data := .seq items nl, slots := oslots } := Heap.get?_push_of_some _ hol
        have no_set := F.sub_list_set
        have no_frozen := F.sub_list_frozenset
        have no_dict : (Value.type "list" == Value.type "dict") = false := by decide
        have list1 : (s.heap.push (set0 w)).IsList l items := ⟨_, hol', rfl, nl, rfl⟩
        unfold Builtin.«set.__init__» noKeywords Builtin.Frozenset.updateFrom
        generalize iter_is : pyIter = PI
        wp_walk
        subst iter_is
        refine wpAny_pyIter_list list1 ?_
        refine wpAny_bind (wpAny_runValue ?_)
        have l_old : l < s.heap.objs.size := Heap.lt_size hol
        have calm3 : A.in1.in1.in1.handled = none := by simp [hh]
        have next_is : (s.heap.push (set0 w)).objs.size = s.heap.objs.size + 1 := Heap.size_push ..
        have l_ne : l ≠ (s.heap.push (set0 w)).objs.size := by
          rw [next_is]
          exact Nat.ne_of_lt (Nat.lt_succ_of_lt l_old)
        have off : s.heap.objs.size ∉ [(s.heap.push (set0 w)).objs.size, l] := by
          rw [next_is]
          simp only [List.mem_cons, List.not_mem_nil, or_false, not_or]
          exact ⟨Nat.ne_of_lt (Nat.lt_succ_self _), Nat.ne_of_gt l_old⟩
        have vals : ∀ (i : Nat) (v : Value), items[i]? = some v → ∃ k t, ns[i]? = some k ∧ v = .int k t := fun i v hv => by
          have lt : i < ns.length := by
            rw [← size_eq]
            exact (Array.getElem?_eq_some_iff.mp hv).1
          obtain ⟨t, e⟩ := IntsAre.int_at hit i v (by rw [Array.getElem?_toList]; exact hv)
          refine ⟨ns[i], t, List.getElem?_eq_getElem lt, ?_⟩
          rw [e, List.getD_eq_getElem?_getD, List.getElem?_eq_getElem lt] <;> rfl
        refine set_update_ints ((Walks.list calm3 _ l l_ne items).toS) s.heap.objs.size off ns size_eq hb vals (items.size - 0) 0 _ (by omega) (Nat.zero_le _) ⟨⟨_, Heap.get?_push_size _ rfl, rfl, rfl⟩, (list1.push _)⟩ ?start ?done
        case start =>
          refine ⟨0, Nat.le_refl 0, setR_new_at ?_⟩
          exact Heap.get?_push_of_some _ at_set
        case done =>
          intro s' c' hm hc' hS'
          obtain ⟨h', g2, d', tk', os'⟩ := s'
          have eg : g2 = s.gens := hm.gens
          have ed : d' = s.drawn := hm.drawn
          have eo : os' = s.os := hm.os
          subst eg
          subst ed
          subst eo
          show wpAny _ _ _ _ _ _
          refine wpAny_pure ?_
          show wpAny _ _ (ret Value.none) _ _ _
          rw [size_eq] at hc'
          refine wpAny_pure ⟨rfl, h', tk', c', rfl, hS', hc', fun b o e => ?_⟩
          have old := Heap.lt_size e
          refine hm.heap b o ?_ (Heap.get?_push_of_some _ (Heap.get?_push_of_some _ e))
          rw [next_is]
          simp only [List.mem_cons, List.not_mem_nil, or_false, not_or]
          exact ⟨Nat.ne_of_lt old, Nat.ne_of_lt (Nat.lt_succ_of_lt old)⟩
      · cases r₂ with
        | error e => exact hr₂
        | ok fl₂ =>
          cases fl₂ with
          | ret r =>
            obtain ⟨rfl, h', tk, c', rfl, hS', hc', hk'⟩ := hr₂
            repeat (any_goals (first | assumption | wp_step))
            exact h _ _ _ hS' hc' hk'
          | _ => exact hr₂.elim
    | _ => exact hr.elim
/-- set(xs): xs a list or a tuple of ints -/
def rSetInts (K : PySem.W.Frag) (w : World) : List V → Hp → VK → Prop := fun xs H Q => ∃ (a : Addr) (ns : List Int), xs = [.ref a] ∧ (SqL K H a (ns.map V.int) ∨ SqT K H a (ns.map V.int)) ∧ ns.length ≤ 1000 ∧
  ∀ p c, H p = none → c ≤ ns.length → Q (.ref p) (upd H p (SetO w p (fun j => decide (j ∈ ns)) c))
theorem cr_setInts {X : Cx} (hc : X.calm = true) : CallR X (.type "set") (rSetInts X.K X.w) := by
  intro pins s σ H vs us Q I r h
  obtain ⟨a, ns, rfl, hq, hl, q⟩ := h
  cases r with
  | cons r1 r2 =>
    cases r2
    cases r1
    have few : ns.length + 1 < scanBound := by unfold scanBound; omega
    have fresh : H s.heap.objs.size = none := I.hok.fresh (Nat.le_refl _)
    have fin : ∀ (h' : Heap) (tk c : Nat), SetR X.w h' s.heap.objs.size (fun j => decide (j ∈ ns)) c → c ≤ ns.length → (∀ b o, s.heap.get? b = some o → h'.get? b = some o) →
        EP X pins σ Q (.ref s.heap.objs.size) { s with heap := h', toks := tk } := fun h' tk c hS hle keep =>
      ⟨.ref s.heap.objs.size, upd H s.heap.objs.size (SetO X.w s.heap.objs.size (fun j => decide (j ∈ ns)) c), I.laid (t' := tk) keep (Nat.le_refl _) (setO_new hS), rfl, q _ _ fresh hle⟩
    rcases hq with hq | hq
    · obtain ⟨its, r, pl, hz⟩ := I.list hq
      exact set_of_list ns (I.ok.hd hc) pl.isList (by simpa using RZ.intsAre_vals r) few fin
    · obtain ⟨its, r, pl, hz⟩ := I.tuple hq
      exact call_set_tupI ns (I.ok.hd hc) pl (by simpa using RZ.intsAre_vals r) few fin
/-! operators of an own class -/
/-- a method of the class at C, by its promise -/
structure Me (P : Program) (w : World) (K : PySem.W.Frag) (mg : Str → Option Value) (base : Heap) (k : Nat) (C : Addr) (m : Str) (sp : Sp) : Prop where
  ex : ∃ (f : Addr) (fd : FuncData) (ps : List Str), Meth K C m f ∧ FnOk P w K mg base CX0 k f fd ps sp ∧ Binds K fd ps []
section
variable {X : Cx} {C : Addr} {m : Str} {sp : Sp} {k j : Nat}
theorem inst_of {pins : List (Addr × Obj)} {σ : L2.St} {H : Hp} {s : Shared} {a dx : Addr} {fs : List (Str × V)} (I : Inv X pins σ H s) (e : H a = some (.ins C dx fs)) : ∃ ox od, PySem.W.InstAt s.heap a ox C od := by
  obtain ⟨mA, O, _⟩ := ins_get I.hok e
  obtain ⟨od, J, _⟩ := O.look
  exact ⟨_, _, J⟩
/-- x op y of two instances -/
def rOwn2 (C : Addr) (sp : Sp) : R2 := fun x y H Q => ∃ a b dx dy fs gs, x = .ref a ∧ y = .ref b ∧ H a = some (.ins C dx fs) ∧ H b = some (.ins C dy gs) ∧ sp [x, y] H Q E0
theorem op_own2 {op : Operator} (c : Me X.prog X.w X.K X.mg X.base k C m sp) (hr : Room j X.A) (sf : PySem.W.selfFirst X.K C = true) (hm : PySem.dunder op.info.2 = m := by decide +kernel) (hk : k ≤ j := by decide) : OpR X (binaryOp op) (rOwn2 C sp) := by
  obtain ⟨f, fd, ps, M, F, b⟩ := c.ex
  intro pins s σ H x y v u Q I rx ry h
  obtain ⟨a, b', dx, dy, fs, gs, rfl, rfl, ha, hb, q⟩ := h
  cases (show v = Value.ref a from rx)
  cases (show u = Value.ref b' from ry)
  obtain ⟨ox, od, J⟩ := inst_of I ha
  obtain ⟨oy, od', J'⟩ := inst_of I hb
  obtain ⟨mm, hF⟩ := I.fr
  refine PySem.W.binop_K hF I.ok.mod.kin J J'.type sf (by rw [hm]; exact M.at_) M.fn ?_
  refine wpAny_mono (run_fn (us := [.ref a, .ref b']) (vs := [.ref a, .ref b']) F (hr.mono hk) b .nil pass0 I (.cons rfl (.cons rfl .nil)) q) (fun u' s' z => ?_) fun _ _ x => x
  obtain ⟨z', H', I', rz, qz⟩ := z
  exact SlX.cmpback rz ⟨z', H', I', rz, qz⟩
/-- op x of an instance -/
def rOwn1 (C : Addr) (sp : Sp) : V → Hp → VK → Prop := fun x H Q => ∃ a dx fs, x = .ref a ∧ H a = some (.ins C dx fs) ∧ sp [x] H Q E0
theorem un_inv1 (c : Me X.prog X.w X.K X.mg X.base k C "__invert__" sp) (hr : Room j X.A) (hk : k ≤ j := by decide) : UnR X (unaryOp .Invert) (rOwn1 C sp) := by
  obtain ⟨f, fd, ps, M, F, b⟩ := c.ex
  intro pins s σ H x v Q I rx h
  obtain ⟨a, dx, fs, rfl, ha, q⟩ := h
  cases (show v = Value.ref a from rx)
  obtain ⟨ox, od, J⟩ := inst_of I ha
  obtain ⟨mm, hF⟩ := I.fr
  exact PySem.W.ksp_inv hF I.ok.mod.kin J M.at_ M.fn (run_fn (us := [.ref a]) (vs := [.ref a]) F (hr.mono hk) b .nil pass0 I (.cons rfl .nil) q)
theorem un_neg1 (c : Me X.prog X.w X.K X.mg X.base k C "__neg__" sp) (hr : Room j X.A) (hk : k ≤ j := by decide) : UnR X (unaryOp .USub) (rOwn1 C sp) := by
  obtain ⟨f, fd, ps, M, F, b⟩ := c.ex
  intro pins s σ H x v Q I rx h
  obtain ⟨a, dx, fs, rfl, ha, q⟩ := h
  cases (show v = Value.ref a from rx)
  obtain ⟨ox, od, J⟩ := inst_of I ha
  obtain ⟨mm, hF⟩ := I.fr
  exact PySem.W.ksp_neg hF I.ok.mod.kin J M.at_ M.fn (run_fn (us := [.ref a]) (vs := [.ref a]) F (hr.mono hk) b .nil pass0 I (.cons rfl .nil) q)
/-- x in y, y an instance: the answer a bool -/
def rOwnIn (neg : Bool) (C : Addr) (sp : Sp) : R2 := fun x y H Q => ∃ b dx fs, y = .ref b ∧ H b = some (.ins C dx fs) ∧ sp [y, x] H (fun v H' => ∃ c : Bool, v = .bl c ∧ Q (.bl (if neg then !c else c)) H') E0
theorem op_in_own (c : Me X.prog X.w X.K X.mg X.base k C "__contains__" sp) (hr : Room j X.A) (hk : k ≤ j := by decide) : OpR X (compareOp .In) (rOwnIn false C sp) := by
  obtain ⟨f, fd, ps, M, F, b⟩ := c.ex
  intro pins s σ H x y v u Q I rx ry h
  obtain ⟨a, dx, fs, rfl, ha, q⟩ := h
  cases (show u = Value.ref a from ry)
  obtain ⟨ox, od, J⟩ := inst_of I ha
  obtain ⟨mm, hF⟩ := I.fr
  refine PySem.W.in_K hF I.ok.mod.kin J M.at_ M.fn (wpAny_mono (run_fn (us := [.ref a, v]) (vs := [.ref a, x]) F (hr.mono hk) b .nil pass0 I (.cons rfl (.cons rx .nil)) q) (fun u' s' z => ?_) fun _ _ x => x)
  obtain ⟨z', H', I', rz, d, ez, qz⟩ := z
  subst ez
  cases (show u' = Value.bool d from rz)
  exact wpAny_truthy_bool ⟨.bl d, H', I', rfl, qz⟩
theorem op_notIn_own (c : Me X.prog X.w X.K X.mg X.base k C "__contains__" sp) (hr : Room j X.A) (hk : k ≤ j := by decide) : OpR X (compareOp .NotIn) (rOwnIn true C sp) := by
  obtain ⟨f, fd, ps, M, F, b⟩ := c.ex
  intro pins s σ H x y v u Q I rx ry h
  obtain ⟨a, dx, fs, rfl, ha, q⟩ := h
  cases (show u = Value.ref a from ry)
  obtain ⟨ox, od, J⟩ := inst_of I ha
  obtain ⟨mm, hF⟩ := I.fr
  refine PySem.W.notIn_K hF I.ok.mod.kin J M.at_ M.fn (wpAny_mono (run_fn (us := [.ref a, v]) (vs := [.ref a, x]) F (hr.mono hk) b .nil pass0 I (.cons rfl (.cons rx .nil)) q) (fun u' s' z => ?_) fun _ _ x => x)
  obtain ⟨z', H', I', rz, d, ez, qz⟩ := z
  subst ez
  cases (show u' = Value.bool d from rz)
  exact wpAny_truthy_bool ⟨.bl (!d), H', I', rfl, qz⟩
/-- x == y of two instances -/
theorem op_eq_own (c : Me X.prog X.w X.K X.mg X.base k C "__eq__" sp) (hr : Room j X.A) (hk : k ≤ j := by decide) : OpR X (compareOp .Eq) (rOwn2 C sp) := by
  obtain ⟨f, fd, ps, M, F, b⟩ := c.ex
  intro pins s σ H x y v u Q I rx ry h
  obtain ⟨a, b', dx, dy, fs, gs, rfl, rfl, ha, hb, q⟩ := h
  cases (show v = Value.ref a from rx)
  cases (show u = Value.ref b' from ry)
  obtain ⟨ox, od, J⟩ := inst_of I ha
  obtain ⟨oy, od', J'⟩ := inst_of I hb
  obtain ⟨mm, hF⟩ := I.fr
  show wpAny _ _ (richCompare .Eq (.ref a) (.ref b')) _ _ _
  refine PySem.W.cmp_K (op := .Eq) (tb := .ref C) hr.units0 hF I.ok.mod.kin J J'.type (by unfold PySem.W.notFirst; simp) M.at_ M.fn ?_
  refine wpAny_mono (run_fn (us := [.ref a, .ref b']) (vs := [.ref a, .ref b']) F (hr.mono hk) b .nil pass0 I (.cons rfl (.cons rfl .nil)) q) (fun u' s' z => ?_) fun _ _ x => x
  obtain ⟨z', H', I', rz, qz⟩ := z
  exact SlX.cmpback rz ⟨z', H', I', rz, qz⟩
/-- the truth of an instance, by its __bool__ -/
def rTruOwn (C : Addr) (sp : Sp) : V → Hp → (Bool → Hp → Prop) → Prop := fun x H Q => ∃ a dx fs, x = .ref a ∧ H a = some (.ins C dx fs) ∧ sp [x] H (fun v H' => ∃ c : Bool, v = .bl c ∧ Q c H') E0
theorem tru_own (c : Me X.prog X.w X.K X.mg X.base k C "__bool__" sp) (hr : Room j X.A) (hk : k ≤ j := by decide) : TruR X (rTruOwn C sp) := by
  obtain ⟨f, fd, ps, M, F, b⟩ := c.ex
  intro pins s σ H x v Q I rx h
  obtain ⟨a, dx, fs, rfl, ha, q⟩ := h
  cases (show v = Value.ref a from rx)
  obtain ⟨ox, od, J⟩ := inst_of I ha
  obtain ⟨mm, hF⟩ := I.fr
  refine PySem.W.truthy_K hF I.ok.mod.kin J M.at_ M.fn (wpAny_mono (run_fn (us := [.ref a]) (vs := [.ref a]) F (hr.mono hk) b .nil pass0 I (.cons rfl .nil) q) (fun u' s' z => ?_) fun _ _ x => x)
  obtain ⟨z', H', I', rz, d, ez, qz⟩ := z
  subst ez
  cases (show u' = Value.bool d from rz)
  exact ⟨H', I', qz⟩
end
/-- a class that makes instances, its __init__ by its promise (it may raise, and here doesn't) -/
structure Ma (P : Program) (w : World) (K : PySem.W.Frag) (mg : Str → Option Value) (base : Heap) (k : Nat) (C : Addr) (sp : Sp) : Prop where
  ex : ∃ (f : Addr) (fd : FuncData) (ps : List Str), Mk K C f ∧ FnOk P w K mg base (L2N.CX P w) k f fd ps sp ∧ Binds K fd ps []
section
variable {X : Cx} {C : Addr} {x : Str} {sp : Sp} {k j i : Nat} {p pos : Pos} {e : Expr} {es : List Expr} {t : TA}
theorem pe_ma (c : Ma X.prog X.w X.K X.mg X.base k C sp) (hr : Room j X.A) (hm : X.mg x = some (.ref C)) (ha : PA X (e :: es) t) (hk : k + 1 ≤ j := by decide) (hg : Gl X x := by rfl)
    (hdb : (x == ("__debug__" : Str)) = false := by decide) (he : starEach (e :: es) X.env = (false, eval e X.env) :: starEach es X.env := by rfl) (hpl : (backTo pos (starEach es X.env)).any (·.1) = false := by rfl) :
    PE X (.Call (.Name x p) (e :: es) [] pos) (tMake C sp [] E0 t) := by
  obtain ⟨f, fd, ps, M, F, b⟩ := c.ex
  exact pe_make M F (hr.mono hk) hg hm b .nil passN ha hdb he hpl
/-- cls(..), cls a parameter that holds the class -/
def tMakeL (i : Nat) (C : Addr) (sp : Sp) (t : TA) : TE := fun σ H Q => σ[i]? = some (some (.ref C)) ∧ tMake C sp [] E0 t σ H Q
theorem pe_maL (c : Ma X.prog X.w X.K X.mg X.base k C sp) (hr : Room j X.A) (hN : X.N[i]? = some x) (ha : PA X (e :: es) t) (hk : k + 1 ≤ j := by decide)
    (hv : Vis X.env.scope x := by first | exact Or.inl rfl | exact Or.inr (Or.inl rfl) | exact Or.inr (Or.inr rfl))
    (hdb : (x == ("__debug__" : Str)) = false := by decide) (hcd : (x == ("__classdict__" : Str)) = false := by decide)
    (he : starEach (e :: es) X.env = (false, eval e X.env) :: starEach es X.env := by rfl) (hpl : (backTo pos (starEach es X.env)).any (·.1) = false := by rfl) :
    PE X (.Call (.Name x p) (e :: es) [] pos) (tMakeL i C sp t) := by
  obtain ⟨f, fd, ps, M, F, b⟩ := c.ex
  refine ⟨fun pins s σ H Q I h => ?_⟩
  obtain ⟨at_i, rest⟩ := h
  refine wpAny_Call_Name_kw (thn ((pe_var (pos := p) hN hv hdb hcd).run pins s σ H (fun v G => v = .ref C ∧ G = H) I ⟨.ref C, at_i, rfl, rfl⟩) fun u s1 ⟨v, G, I1, r1, e1, e2⟩ => ?_)
  subst e1
  subst e2
  cases r1
  refine PySem.W.callWith_K (h₀ := X.base) I.ok.mod.kin M.kp (thn (ha.run pos pins s1 σ _ _ I1 rest) fun us s2 ⟨vs, G2, I2, r, q⟩ => ⟨I2.kIn, ?_⟩) he hpl
  exact run_make M F (hr.mono hk) b .nil passN I2 r q
end
/-- a call of a classmethod without arguments -/
structure Cm (P : Program) (w : World) (K : PySem.W.Frag) (mg : Str → Option Value) (base : Heap) (k : Nat) (C : Addr) (m : Str) (sp : Sp) : Prop where
  ex : ∃ (mc : Value) (p g : Addr) (fd : FuncData) (ps : List Str), ClX.CRead K C mc ∧ ClX.CMet K C mc m p g ∧ FnOk P w K mg base CX0 k g fd ps sp ∧ Binds K fd ps []
theorem fnR_of {P : Program} {w : World} {K : PySem.W.Frag} {mg : Str → Option Value} {base : Heap} {CX : CXT} {k : Nat} {f : Addr} {fd : FuncData} {ps : List Str} {sp : Sp} (F : FnOk P w K mg base CX k f fd ps sp) (b : Binds K fd ps []) : FnR P w K mg base CX k f sp :=
  fun A outer s H us vs Q E hr e0 r h => by
    have hl : us.length = ps.length := by
      rw [← r.length]
      exact F.len _ _ _ _ h
    have z := b s us (e0.mod.kin.keeps fun b o e => (e0.bs b o e).1) (by rw [List.append_nil]; exact hl)
    rw [List.append_nil] at z
    exact F.run A outer s H ⟨us, []⟩ us vs Q E hr e0 z r h
theorem pe_cm {X : Cx} {C : Addr} {m : Str} {sp : Sp} {k j : Nat} {o e : Expr} {es : List Expr} {ta : TE} {t : TA} {apos pos : Pos} {pl : Sem Bool} (c : Cm X.prog X.w X.K X.mg X.base k C m sp) (hr : Room j X.A) (he : PE X o ta) (ha : PA X (e :: es) t) (hk : k ≤ j := by decide)
    (hst : starEach (e :: es) X.env = (false, eval e X.env) :: starEach es X.env := by rfl) (hpl : (backTo pos (starEach es X.env)).any (·.1) = false := by rfl)
    (ht : eval (.Call (.Attribute o m apos) (e :: es) [] pos) X.env = (do
      let got ← eval o X.env
      standAt apos.atName
      let (fn, fst) ← holding [got] (getMethod got m pl)
      callWith pos fn fst (backTo pos (starEach (e :: es) X.env)) (backToKw pos (keywordEach [] X.env))) := by rfl) :
    PE X (.Call (.Attribute o m apos) (e :: es) [] pos) (ClX.tCMeth C sp E0 ta t) := by
  obtain ⟨mc, p, g, fd, ps, r, c, F, b⟩ := c.ex
  exact ClX.pe_cmeth he r c (fnR_of F b) (hr.mono hk) pass0 ha hst hpl ht
theorem pe_cm0 {X : Cx} {C : Addr} {m : Str} {sp : Sp} {k j : Nat} {o : Expr} {ta : TE} {apos pos : Pos} {pl : Sem Bool} (c : Cm X.prog X.w X.K X.mg X.base k C m sp) (hr : Room j X.A) (he : PE X o ta) (hk : k ≤ j := by decide)
    (ht : eval (.Call (.Attribute o m apos) [] [] pos) X.env = (do
      let got ← eval o X.env
      standAt apos.atName
      let (fn, fst) ← holding [got] (getMethod got m pl)
      callWith pos fn fst (backTo pos (starEach [] X.env)) (backToKw pos (keywordEach [] X.env))) := by rfl) :
    PE X (.Call (.Attribute o m apos) [] [] pos) (ClX.tCMeth C sp E0 ta tNil) := by
  obtain ⟨mc, p, g, fd, ps, r, c, F, b⟩ := c.ex
  refine ⟨fun pins s σ H Q I h => ?_⟩
  refine PySem.W.methodCall_KW (pl := pl) (thn (he.run pins s σ H _ I h) fun u s1 ⟨x, H1, I1, rx, ex, q⟩ => ?_) ht
  subst ex
  obtain rfl : u = Value.ref C := rx
  have notin : X.base.get? s1.heap.objs.size = none := by
    cases z : X.base.get? s1.heap.objs.size with
    | none => rfl
    | some o => exact absurd (Heap.lt_size (I1.bk _ o z)) (Nat.lt_irrefl _)
  refine ClX.getmethcm_ok I1 r c fun s2 I2 => ?_
  have hq := ClX.pin_at I2
  have hL : s1.heap.objs.size ≠ X.env.locals := (I2.pin (s1.heap.objs.size, PySem.W.methodObj (.ref g) (.ref C)) (List.mem_append_right _ List.mem_cons_self)).2.2.1
  show wpAny _ _ (callWith pos (Value.ref s1.heap.objs.size) [] (backTo pos (starEach [] X.env)) []) _ _ _
  refine PySem.W.callWith_M0 (K := X.K) (g := g) (self := .ref C) ?_ c.fi ?_
  · exact ⟨hq, I2.kIn⟩
  · have z := ClX.run_cm (us := []) (vs := []) (fnR_of F b) (hr.mono hk) pass0 I2 .nil q
    exact z
open PySem.Sem (wp) in
theorem meets_bool_tup (l : Addr) (items : Array Value) (fit : (items.size : Int) < 2 ^ 63) :
    Meets (Builtin.«bool.__new__» ⟨[.type "bool", .ref l], []⟩) (fun _ R s => IsTup s.heap l items ∧ R (.ok (.ret (.bool (!items.isEmpty)))) { s with toks := s.toks + 1 + 1 }) :=
  Meets.of_wp fun prog w A R s hs => by
    obtain ⟨hl, hs⟩ := hs
    obtain ⟨hp, g, d, tk, os⟩ := s
    have no_bool := F.conv_sub_bool
    repeat (any_goals (first | assumption | (with_reducible refine truthy_tuple hl fit ?_) | wp_step))
    all_goals first | exact ⟨_, rfl, hs⟩ | exact hs | skip
/-- bool(x): a bool, or a tuple -/
def rBoolT (K : PySem.W.Frag) : List V → Hp → VK → Prop := fun xs H Q => (∃ k, xs = [.bl k] ∧ Q (.bl k) H) ∨ ∃ (a : Addr) (zs : List V), xs = [.ref a] ∧ SqT K H a zs ∧ Q (.bl (!zs.isEmpty)) H
theorem cr_boolT {X : Cx} : CallR X (.type "bool") (rBoolT X.K) := by
  intro pins s σ H xs us Q I r h
  rcases h with ⟨k, rfl, q⟩ | ⟨a, zs, rfl, hq, q⟩
  · exact call_bool1 pins s σ H _ us Q I r (.inr ⟨k, rfl, q⟩)
  · obtain rfl := Vals.ref1 r
    obtain ⟨its, rv, pl, hz⟩ := I.tuple hq
    have hl := line63
    have hlen := rv.length
    have e : its.toArray.isEmpty = zs.isEmpty := by
      cases zs with
      | nil =>
        cases rv
        rfl
      | cons z zs =>
        cases rv
        rfl
    refine call_bool_1 (meets_bool_tup a its.toArray (by simp only [List.size_toArray]; omega)) ⟨pl, rfl, ?_⟩
    exact ⟨.bl (!zs.isEmpty), H, I.tok _, by rw [e]; rfl, q⟩
theorem chE : ¬ (("endless" : Str) = "primes") := by decide +kernel
/-- the attributes, in the order in which __init__ stores them -/
def chF (e : Bool) (t : Addr) : List (Str × V) := putF "primes" (.ref t) (putF "endless" (.bl e) [])
theorem chF_e (e : Bool) (t : Addr) : (chF e t).lookup ("endless" : Str) = some (.bl e) := by
  unfold chF
  rw [lookup_putF, if_neg chE, lookup_putF, if_pos rfl]
theorem chF_p (e : Bool) (t : Addr) : (chF e t).lookup ("primes" : Str) = some (.ref t) := by
  unfold chF
  rw [lookup_putF, if_pos rfl]
theorem chF_no (e : Bool) (t : Addr) {m : Str} (h1 : ¬ m = "primes") (h2 : ¬ m = "endless") : (chF e t).lookup m = none := by
  unfold chF
  rw [lookup_putF, if_neg h1, lookup_putF, if_neg h2]
  all_goals rfl
/-- a set of characteristics stands at a -/
structure CharsAt (C : Addr) (H : Hp) (a : Addr) (e : Bool) (l : List Int) : Prop where
  ob : ∃ dx t, H a = some (.ins C dx (chF e t)) ∧ H t = some (.tup (l.map V.int))
  srt : l.Pairwise (· < ·)
  prm : ∀ q ∈ l, Pr q ∧ q < 2 ^ 62
theorem CharsAt.same {C : Addr} {H H' : Hp} {a : Addr} {e : Bool} {l : List Int} (h : CharsAt C H a e l) (s : Same H H') : CharsAt C H' a e l := by
  obtain ⟨dx, t, h1, h2⟩ := h.ob
  exact ⟨⟨dx, t, s _ _ h1, s _ _ h2⟩, h.srt, h.prm⟩
/-- is p in the set -/
def memB (e : Bool) (l : List Int) (p : Int) : Bool := if e = true then !decide (p ∈ l) else decide (p ∈ l)
/-- what is told of the class -/
structure ChT (K : PySem.W.Frag) (mg : Str → Option Value) (C : Addr) : Prop where
  g : mg "Chars" = some (.ref C)
  cl : Cls K C
  nE : NoAttr K C "endless"
  nP : NoAttr K C "primes"
  sf : PySem.W.selfFirst K C = true
  isC : C8.InsC K C
abbrev s_cinit : Stmt := inClass (top 21) 0
theorem sc_cinit : FnScope ["self", "endless", "primes", "p"] ["self", "endless", "primes"] (defScope s_cinit) := ⟨rfl, rfl, rfl, by decide +kernel, rfl, by decide +kernel, by decide +kernel⟩
def spCI (C CB : Addr) (tup : Bool) (K : PySem.W.Frag) : Sp := fun vs H Q E => ∃ (x dx a : Addr) (e : Bool) (ns : List Int), vs = [.ref x, .bl e, .ref a] ∧ H x = some (.ins C dx []) ∧ (if tup = true then SqT K H a (ns.map V.int) else SqL K H a (ns.map V.int)) ∧
  (∀ q ∈ ns, q < 2 ^ 62) ∧ ns.length < 64 ∧
  ((∀ q ∈ ns, Pr q) → ∀ (l : List Int) (H' : Hp), (∀ q, q ∈ l ↔ q ∈ ns) → l.length ≤ ns.length → CharsAt C H' x e l → (∀ b o, H b = some o → b ≠ x → H' b = some o) → Q .non H') ∧
  (∀ (i : Nat) (b : Int), ns[i]? = some b → ¬ Pr b → (∀ (j : Nat) (q : Int), j < i → ns[j]? = some q → Pr q) → ∀ d H', Same H H' → H' d = some (.xd [("p", .int b)]) → E (.ref CB) (some d) H')
theorem cinit_end {C CB : Addr} {mg : Str → Option Value} {K : PySem.W.Frag} (T : ChT K mg C) {H : Hp} {x dx a : Addr} {e : Bool} {ns : List Int} {Q : VK} {y3 : Option V} (hx : H x = some (.ins C dx [])) (hS : SqL K H a (ns.map V.int) ∨ SqT K H a (ns.map V.int)) (few : ns.length < 64) (hp : ∀ q ∈ ns, Pr q ∧ q < 2 ^ 62)
    (q : ∀ (l : List Int) (H' : Hp), (∀ q, q ∈ l ↔ q ∈ ns) → l.length ≤ ns.length → CharsAt C H' x e l → (∀ b o, H b = some o → b ≠ x → H' b = some o) → Q .non H') :
    tSeq (sFld K (tVar 0) (tVar 1) "endless") (sFld K (tVar 0) (tThen (tCB (rSortedSet w) (tCons (tCB (rSetInts K w) (tCons (tVar 2) tNil)) tNil)) (kTup K)) "primes") { nx := fun _ H' => Q .non H', rt := Q } [some (.ref x), some (.bl e), some (.ref a), y3] H := by
  have hxa : x ≠ a ∨ True := .inr trivial
  refine ⟨_, rfl, _, rfl, x, C, dx, [], rfl, hx, T.cl, T.nE, (by show 0 < 1000; decide), ?_⟩
  have hS1 : SqL K (upd H x (.ins C dx (putF "endless" (.bl e) []))) a (ns.map V.int) ∨ SqT K (upd H x (.ins C dx (putF "endless" (.bl e) []))) a (ns.map V.int) := by
    rcases hS with h | h
    · refine .inl ?_
      rcases h with h | h
      · rcases h with h | ⟨o, h⟩
        · exact .inl (.inl (by rw [upd_ne (fun z => by rw [z, hx] at h; cases h)]; exact h))
        · exact .inl (.inr ⟨o, by rw [upd_ne (fun z => by rw [z, hx] at h; cases h)]; exact h⟩)
      · exact .inr h
    · refine .inr ?_
      rcases h with h | h
      · rcases h with h | ⟨o, h⟩
        · exact .inl (.inl (by rw [upd_ne (fun z => by rw [z, hx] at h; cases h)]; exact h))
        · exact .inl (.inr ⟨o, by rw [upd_ne (fun z => by rw [z, hx] at h; cases h)]; exact h⟩)
      · exact .inr h
  refine ⟨_, rfl, a, ns, rfl, hS1, (by omega), fun p c np hc => ?_⟩
  refine ⟨p, _, c, rfl, upd_same, (by omega), fun l p2 srt mem len np2 => ?_⟩
  have npx : p ≠ x := fun z => by
    rw [z, upd_same] at np
    cases np
  refine .inl ⟨p2, _, rfl, SqL.of upd_same, fun t nt => ?_⟩
  have g1 := same_upd (o := SetO w p (fun j => decide (j ∈ ns)) c) np
  have g2 := same_upd (o := .lst (l.map V.int)) np2
  have g3 := same_upd (o := .tup (l.map V.int)) nt
  have hx3 := g3 _ _ (g2 _ _ (g1 _ _ (upd_same (H := H) (a := x) (o := .ins C dx (putF "endless" (.bl e) [])))))
  refine ⟨_, rfl, x, C, dx, _, rfl, hx3, T.cl, T.nP, (by show 1 < 1000; decide), ?_⟩
  have ntx : t ≠ x := fun z => by
    rw [z] at nt
    rw [g2 _ _ (g1 _ _ (upd_same (H := H) (a := x) (o := .ins C dx (putF "endless" (.bl e) []))))] at nt
    cases nt
  refine q l _ (fun z => by rw [mem z]; exact decide_eq_true_iff) (by omega) ⟨⟨dx, t, upd_same, by rw [upd_ne ntx]; exact upd_same⟩, srt, fun z hz => hp z (of_decide_eq_true ((mem z).mp hz))⟩ fun b o hb hbx => ?_
  rw [upd_ne hbx]
  refine g3 _ _ (g2 _ _ (g1 _ _ ?_))
  rw [upd_ne hbx]
  exact hb
theorem ok_cinit {f C CB : Addr} {fd : FuncData} (tup : Bool) (TT : Txt mg) (T : ChT K mg C) (F : Fun K "__init__" "Chars.__init__" s_cinit f fd) (c_prime : Cl P w K mg base CX0 2 "is_prime" spPrime) (x_bc : Er P w K mg base "BadCharacteristic" "p" CB) : FnOk P w K mg base (L2N.CX P w) 3 f fd ["self", "endless", "primes"] (spCI C CB tup K) := by
  refine okN F sc_cinit (fun vs H Q E h => ?_) (fun cdv A outer s H vs Q E hr h => ?_)
  · obtain ⟨x, dx, a, e, ns, rfl, _⟩ := h
    rfl
  · obtain ⟨x, dx, a, e, ns, rfl, hx, hS, hb, few, q, qe⟩ := h
    have turn : ∀ (i : Nat) (y : V), (ns.map V.int)[i]? = some y → ∃ z : Int, y = .int z ∧ ns[i]? = some z ∧ z < 2 ^ 62 := fun i y hi => by
      rw [List.getElem?_map] at hi
      cases e : ns[i]? with
      | none =>
        rw [e] at hi
        cases hi
      | some z =>
        rw [e] at hi
        exact ⟨z, (Option.some.inj hi).symm, rfl, hb z (List.mem_of_getElem? e)⟩
    have all : (∀ (j : Nat) (q : Int), j < (ns.map V.int).length → ns[j]? = some q → Pr q) → ∀ q ∈ ns, Pr q := fun h q hq => by
      obtain ⟨j, hj⟩ := List.mem_iff_getElem?.mp hq
      exact h j q (by rw [List.length_map]; exact (List.getElem?_eq_some_iff.mp hj).1) hj
    cases tup with
    | false =>
      refine ⟨_, (pss_cons (ps_for (passes_of rfl) rfl (pi_list (pv 2)) (pg_name (i := 3) sc_cinit.nd rfl (Or.inl rfl)) (pss_one (ps_if (pt_not (pt_val (pe_cl c_prime hr (pa_cons (pv 3) pa_nil)))) (pss_one (ps_raise1N x_bc hr (L2N.takes_of rfl rfl rfl rfl) (pa_cons (pv 3) pa_nil))) pss_nil)))
 (pss_cons (ps_fld (pv 0) (pv 1) rfl)
 (pss_one (ps_fld (pv 0) (pe_tupleOf (by rfl) TT.tuple (pe_callB (cr_sortedSet rfl) (by rfl) TT.sorted boot_sorted (pa_cons (pe_callTy (cr_setInts rfl) (by rfl) TT.set boot_set (pa_cons (pv 2) pa_nil)) pa_nil))) rfl)))), ?_⟩
      have hS' : SqL K H a (ns.map V.int) := hS
      refine ⟨_, rfl, a, rfl, ⟨_, hS'⟩, for_list (K := K) (a := a) (xs := ns.map V.int) (fun i σ H' => H' = H ∧ (∃ y3, σ = [some (.ref x), some (.bl e), some (.ref a), y3]) ∧ ∀ (j : Nat) (q : Int), j < i → ns[j]? = some q → Pr q)
        ⟨rfl, ⟨none, rfl⟩, fun j q hj => absurd hj (Nat.not_lt_zero j)⟩ (fun i σ H' _ h => by rw [h.1]; exact hS') ?_ ?_⟩
      · rintro i y σ _ hi ⟨rfl, ⟨y3, rfl⟩, hp⟩
        obtain ⟨z, rfl, hz, hzb⟩ := turn i y hi
        refine ⟨_, rfl, z, rfl, hzb, _, rfl, ?_⟩
        by_cases c : Pr z
        · refine if_neg_of (by rw [prB_true c]; rfl) ?_
          refine ⟨rfl, ⟨_, rfl⟩, fun j q hj hq => ?_⟩
          by_cases ej : j = i
          · rw [ej, hz] at hq
            rw [← Option.some.inj hq]
            exact c
          · exact hp j q (by omega) hq
        · refine if_pos_of (by rw [prB_false c]; rfl) ?_
          refine ⟨_, rfl, ?_⟩
          exact mk1 fun d H2 s _ hd => qe i z hz c hp d H2 s hd
      · rintro σ _ ⟨rfl, ⟨y3, rfl⟩, hp⟩
        exact cinit_end (w := w) (CB := CB) T hx (.inl hS') few (fun z hz => ⟨all hp z hz, hb z hz⟩) (q (all hp))
    | true =>
      refine ⟨_, (pss_cons (ps_for (passes_of rfl) rfl (pi_tup (pv 2)) (pg_name (i := 3) sc_cinit.nd rfl (Or.inl rfl)) (pss_one (ps_if (pt_not (pt_val (pe_cl c_prime hr (pa_cons (pv 3) pa_nil)))) (pss_one (ps_raise1N x_bc hr (L2N.takes_of rfl rfl rfl rfl) (pa_cons (pv 3) pa_nil))) pss_nil)))
 (pss_cons (ps_fld (pv 0) (pv 1) rfl)
 (pss_one (ps_fld (pv 0) (pe_tupleOf (by rfl) TT.tuple (pe_callB (cr_sortedSet rfl) (by rfl) TT.sorted boot_sorted (pa_cons (pe_callTy (cr_setInts rfl) (by rfl) TT.set boot_set (pa_cons (pv 2) pa_nil)) pa_nil))) rfl)))), ?_⟩
      have hS' : SqT K H a (ns.map V.int) := hS
      refine ⟨_, rfl, a, rfl, ⟨_, hS'⟩, for_tup (K := K) (a := a) (xs := ns.map V.int) (fun i σ H' => H' = H ∧ (∃ y3, σ = [some (.ref x), some (.bl e), some (.ref a), y3]) ∧ ∀ (j : Nat) (q : Int), j < i → ns[j]? = some q → Pr q)
        ⟨rfl, ⟨none, rfl⟩, fun j q hj => absurd hj (Nat.not_lt_zero j)⟩ (fun i σ H' _ h => by rw [h.1]; exact hS') ?_ ?_⟩
      · rintro i y σ _ hi ⟨rfl, ⟨y3, rfl⟩, hp⟩
        obtain ⟨z, rfl, hz, hzb⟩ := turn i y hi
        refine ⟨_, rfl, z, rfl, hzb, _, rfl, ?_⟩
        by_cases c : Pr z
        · refine if_neg_of (by rw [prB_true c]; rfl) ?_
          refine ⟨rfl, ⟨_, rfl⟩, fun j q hj hq => ?_⟩
          by_cases ej : j = i
          · rw [ej, hz] at hq
            rw [← Option.some.inj hq]
            exact c
          · exact hp j q (by omega) hq
        · refine if_pos_of (by rw [prB_false c]; rfl) ?_
          refine ⟨_, rfl, ?_⟩
          exact mk1 fun d H2 s _ hd => qe i z hz c hp d H2 s hd
      · rintro σ _ ⟨rfl, ⟨y3, rfl⟩, hp⟩
        exact cinit_end (w := w) (CB := CB) T hx (.inr hS') few (fun z hz => ⟨all hp z hz, hb z hz⟩) (q (all hp))
theorem make_ch {C CB : Addr} {tup : Bool} {H1 : Hp} {e : Bool} {a : Addr} {ns : List Int} {Q : VK} (hS : if tup = true then SqT K H1 a (ns.map V.int) else SqL K H1 a (ns.map V.int)) (hp : ∀ q ∈ ns, Pr q ∧ q < 2 ^ 62) (few : ns.length < 64)
    (k : ∀ (r : Addr) (l : List Int) (H2 : Hp), (∀ q, q ∈ l ↔ q ∈ ns) → l.length ≤ ns.length → CharsAt C H2 r e l → Same H1 H2 → Q (.ref r) H2) :
    ∀ x dx, H1 x = none → H1 dx = none → dx ≠ x → spCI C CB tup K (.ref x :: ([.bl e, .ref a] ++ [])) (upd (upd H1 dx (.own x)) x (.ins C dx [])) (fun v H2 => v = .non ∧ Q (.ref x) H2) E0 := by
  intro x dx hx hdx hne
  have s1 : Same H1 (upd (upd H1 dx (.own x)) x (.ins C dx [])) := fun b o eb => by
    rw [upd_ne (ne_of_none eb hx), upd_ne (ne_of_none eb hdx)]
    exact eb
  refine ⟨x, dx, a, e, ns, rfl, upd_same, ?_, fun q hq => (hp q hq).2, few, fun _ l H' mem len ch keep => ⟨rfl, k x l H' mem len ch fun b o eb => keep b o (s1 b o eb) (ne_of_none eb hx)⟩, fun i b hi hb _ => absurd (hp b (List.mem_of_getElem? hi)).1 hb⟩
  cases tup with
  | true =>
    have h : SqT K H1 a (ns.map V.int) := hS
    show SqT K _ a (ns.map V.int)
    exact Evl.ex_t s1 h
  | false =>
    have h : SqL K H1 a (ns.map V.int) := hS
    exact s1.seq h
theorem all_flat : ∀ l : List Int, (l.map V.int).all flatV = true
  | [] => rfl
  | a :: l => by
    rw [List.map_cons, List.all_cons, all_flat l]
    rfl
theorem inV_ints (p : Int) : ∀ l : List Int, inV (.int p) (l.map V.int) = decide (p ∈ l)
  | [] => by simp [inV]
  | a :: l => by
    have ih := inV_ints p l
    unfold inV at ih ⊢
    rw [List.map_cons, List.any_cons, ih]
    show (a == p || decide (p ∈ l)) = decide (p ∈ a :: l)
    by_cases c : a = p
    · subst c
      simp
    · have c2 : ¬ p = a := fun h => c h.symm
      simp [c, c2]
abbrev s_ccont : Stmt := inClass (top 21) 8
theorem sc_ccont : FnScope ["self", "p"] ["self", "p"] (defScope s_ccont) := ⟨rfl, rfl, rfl, by decide +kernel, rfl, by decide +kernel, by decide +kernel⟩
def spCont (C : Addr) : Sp := fun vs H Q _ => ∃ (a : Addr) (e : Bool) (l : List Int) (p : Int), vs = [.ref a, .int p] ∧ CharsAt C H a e l ∧ Q (.bl (memB e l p)) H
theorem ok_ccont {f C : Addr} {fd : FuncData} (T : ChT K mg C) (F : Fun K "__contains__" "Chars.__contains__" s_ccont f fd) : FnOk P w K mg base CX0 1 f fd ["self", "p"] (spCont C) := by
  refine F.ok sc_ccont (fun vs H Q E h => ?_) (fun cdv A outer s H vs Q E hr h => ?_)
  · obtain ⟨a, e, l, p, rfl, _⟩ := h
    rfl
  · obtain ⟨a, e, l, p, rfl, ch, q⟩ := h
    obtain ⟨dx, t, h1, h2⟩ := ch.ob
    refine ⟨_, (pss_cons (ps_if (pt_val (pe_fld (pv 0) rfl)) (pss_one (ps_ret (pe_cmpR op_notIn_seq (pv 1) (pe_fld (pv 0) rfl) (by with_unfolding_all rfl)))) pss_nil)
 (pss_one (ps_ret (pe_cmpR op_in_seq (pv 1) (pe_fld (pv 0) rfl) (by with_unfolding_all rfl))))), ?_⟩
    refine ⟨_, rfl, a, C, dx, _, _, rfl, h1, T.cl, T.nE, chF_e _ _, _, rfl, ?_⟩
    unfold memB at q
    cases e with
    | true =>
      refine if_pos_of rfl ?_
      rw [if_pos rfl] at q
      refine ⟨_, rfl, _, rfl, a, C, dx, _, _, rfl, h1, T.cl, T.nP, chF_p _ _, t, _, rfl, .inr (.inl (.inl h2)), rfl, all_flat l, ?_⟩
      rw [if_pos rfl, inV_ints]
      exact q
    | false =>
      refine if_neg_of rfl ?_
      rw [if_neg (by decide)] at q
      refine ⟨_, rfl, _, rfl, a, C, dx, _, _, rfl, h1, T.cl, T.nP, chF_p _ _, t, _, rfl, .inr (.inl (.inl h2)), rfl, all_flat l, ?_⟩
      rw [if_neg (by decide), inV_ints]
      exact q
abbrev s_cinv : Stmt := inClass (top 21) 12
theorem sc_cinv : FnScope ["self"] ["self"] (defScope s_cinv) := ⟨rfl, rfl, rfl, by decide +kernel, rfl, by decide +kernel, by decide +kernel⟩
def spInv (C : Addr) : Sp := fun vs H Q _ => ∃ (a : Addr) (e : Bool) (l : List Int), vs = [.ref a] ∧ CharsAt C H a e l ∧ l.length < 64 ∧ ∀ r H', CharsAt C H' r (!e) l → Same H H' → Q (.ref r) H'
theorem ok_cinv {f C CB : Addr} {fd : FuncData} (T : ChT K mg C) (F : Fun K "__invert__" "Chars.__invert__" s_cinv f fd) (c_cit : Ma P w K mg base 3 C (spCI C CB true K)) : FnOk P w K mg base CX0 5 f fd ["self"] (spInv C) := by
  refine F.ok sc_cinv (fun vs H Q E h => ?_) (fun cdv A outer s H vs Q E hr h => ?_)
  · obtain ⟨a, e, l, rfl, _⟩ := h
    rfl
  · obtain ⟨a, e, l, rfl, ch, few, q⟩ := h
    obtain ⟨dx, t, h1, h2⟩ := ch.ob
    refine ⟨_, (pss_one (ps_ret (pe_ma c_cit hr T.g (pa_cons (pe_not (pe_fld (pv 0) rfl)) (pa_cons (pe_fld (pv 0) rfl) pa_nil))))), ?_⟩
    refine ⟨_, rfl, a, C, dx, _, _, rfl, h1, T.cl, T.nE, chF_e _ _, _, rfl, _, rfl, a, C, dx, _, _, rfl, h1, T.cl, T.nP, chF_p _ _, ?_⟩
    refine make_ch (CB := CB) (tup := true) (e := !e) (ns := l) (.inl (.inl h2)) ch.prm few fun r l' H' mem len ch' s' => ?_
    have el : l' = l := sorted_uniq ch'.srt ch.srt mem
    subst el
    exact q r H' ch' s'
abbrev s_cand : Stmt := inClass (top 21) 9
theorem sc_cand : FnScope ["self", "other", "p"] ["self", "other"] (defScope s_cand) := ⟨rfl, rfl, rfl, by decide +kernel, rfl, by decide +kernel, by decide +kernel⟩
theorem cat_use {K : PySem.W.Frag} {a b : Addr} {xs ys : List Int} {H : Hp} {Q : VK} (ha : SqT K H a (xs.map V.int)) (hb : SqT K H b (ys.map V.int)) (few : xs.length + ys.length < 64) (k : ∀ c H', SqT K H' c ((xs ++ ys).map V.int) → Same H H' → Q (.ref c) H') : rCatA K (.ref a) (.ref b) H Q := by
  refine ⟨a, b, _, _, rfl, rfl, ha, hb, ?_, fun e => ?_, fun e1 e2 => ?_, fun e1 e2 p hp => ?_⟩
  · rw [List.length_map, List.length_map]
    exact Nat.le_of_lt (small1000 (by omega))
  · have z : xs = [] := List.map_eq_nil_iff.mp e
    subst z
    exact k b H hb (Same.refl H)
  · have z : ys = [] := List.map_eq_nil_iff.mp e2
    subst z
    refine k a H ?_ (Same.refl H)
    rw [List.append_nil]
    exact ha
  · refine k p _ ?_ (same_upd hp)
    rw [List.map_append]
    exact .inl (.inl upd_same)
theorem filter_take {l : List Int} {g : Int → Bool} {i : Nat} {z : Int} (h : l[i]? = some z) : (l.take (i + 1)).filter g = (l.take i).filter g ++ (if g z = true then [z] else []) := by
  rw [List.take_add_one, h, List.filter_append]
  show (l.take i).filter g ++ List.filter g [z] = _
  rw [List.filter_cons, List.filter_nil]
theorem and_false_l (b : Bool) : (false && b) = false := rfl
def spAnd (C : Addr) (f : Bool → Bool → Bool) : Sp := fun vs H Q _ => ∃ (a b : Addr) (e1 e2 : Bool) (l1 l2 : List Int), vs = [.ref a, .ref b] ∧ CharsAt C H a e1 l1 ∧ CharsAt C H b e2 l2 ∧ l1.length + l2.length < 64 ∧
  ∀ (r : Addr) (l : List Int) (H' : Hp), CharsAt C H' r (f e1 e2) l → l.length ≤ l1.length + l2.length → (∀ p, memB (f e1 e2) l p = f (memB e1 l1 p) (memB e2 l2 p)) → Same H H' → Q (.ref r) H'
theorem ok_cand {f C CB : Addr} {fd : FuncData} (T : ChT K mg C) (F : Fun K "__and__" "Chars.__and__" s_cand f fd) (c_cit : Ma P w K mg base 3 C (spCI C CB true K)) (c_cil : Ma P w K mg base 3 C (spCI C CB false K)) (c_cont : Me P w K mg base 1 C "__contains__" (spCont C)) : FnOk P w K mg base CX0 5 f fd ["self", "other"] (spAnd C and) := by
  refine F.ok sc_cand (fun vs H Q E h => ?_) (fun cdv A outer s H vs Q E hr h => ?_)
  · obtain ⟨a, b, _, _, _, _, rfl, _⟩ := h
    rfl
  · obtain ⟨a, b, e1, e2, l1, l2, rfl, ch1, ch2, few, q⟩ := h
    obtain ⟨dx, t, h1, h2⟩ := ch1.ob
    obtain ⟨dy, u, g1, g2⟩ := ch2.ob
    refine ⟨_, (pss_cons (ps_if (pt_not (pt_val (pe_fld (pv 0) rfl))) (pss_one (ps_ret (pe_ma c_cil hr T.g (pa_cons pe_bl (pa_cons (pe_lc (own := [("p", 2)]) (g := gName 2) rfl sc_cand.nd (pi_tup (pe_fld (pv 0) rfl)) (blkOk_by (N := ["self", "other", "p"]) (sc := defScope s_cand) (by decide +kernel)) (fun _ _ _ _ _ => pg_name (i := 2) sc_cand.nd rfl (Or.inl rfl)) (fun _ _ _ _ _ => pts_one (pt_cmpR (op_in_own c_cont (by exact hr)) (pv 2) (pv 1) (by with_unfolding_all rfl))) (fun _ _ _ _ _ => pv 2)) pa_nil))))) pss_nil)
 (pss_cons (ps_if (pt_not (pt_val (pe_fld (pv 1) rfl))) (pss_one (ps_ret (pe_ma c_cil hr T.g (pa_cons pe_bl (pa_cons (pe_lc (own := [("p", 2)]) (g := gName 2) rfl sc_cand.nd (pi_tup (pe_fld (pv 1) rfl)) (blkOk_by (N := ["self", "other", "p"]) (sc := defScope s_cand) (by decide +kernel)) (fun _ _ _ _ _ => pg_name (i := 2) sc_cand.nd rfl (Or.inl rfl)) (fun _ _ _ _ _ => pts_one (pt_cmpR (op_in_own c_cont (by exact hr)) (pv 2) (pv 0) (by with_unfolding_all rfl))) (fun _ _ _ _ _ => pv 2)) pa_nil))))) pss_nil)
 (pss_one (ps_ret (pe_ma c_cit hr T.g (pa_cons pe_bl (pa_cons (pe_op op_catA (pe_fld (pv 0) rfl) (pe_fld (pv 1) rfl)) pa_nil))))))), ?_⟩
    refine ⟨_, rfl, a, C, dx, _, _, rfl, h1, T.cl, T.nE, chF_e _ _, _, rfl, ?_⟩
    cases e1 with
    | false =>
      refine if_pos_of rfl ?_
      refine ⟨_, rfl, a, C, dx, _, _, rfl, h1, T.cl, T.nP, chF_p _ _, t, rfl, ⟨_, .inl (.inl h2)⟩, fun D hD => lc_tup (K := K) (a := t) (xs := l1.map V.int) (fun i H' => Same H H' ∧ H' D = some (.lst (((l1.take i).filter (memB e2 l2)).map V.int)))
        ⟨same_upd hD, upd_same⟩ (fun i H' _ h => Evl.ex_t h.1 (.inl (.inl h2))) ?_ ?_⟩
      · rintro i y H' hi ⟨s', hD'⟩
        obtain ⟨z, rfl, hz⟩ := item_int hi
        refine ⟨rfl, _, rfl, _, rfl, _, _, _, rfl, s' _ _ g1, ?_⟩
        refine ⟨_, e2, l2, z, rfl, ch2.same s', _, rfl, _, rfl, ?_⟩
        have ft := filter_take (g := memB e2 l2) hz
        cases hm : memB e2 l2 z with
        | true =>
          rw [hm, if_pos rfl] at ft
          refine if_pos_of rfl ?_
          refine ⟨_, rfl, _, hD', ?_, fun b o eb => ?_, ?_⟩
          · rw [List.length_map]
            have h3 := List.length_filter_le (memB e2 l2) (l1.take i)
            have h4 : (l1.take i).length ≤ l1.length := by rw [List.length_take]; omega
            exact small1000 (by omega)
          · rw [upd_ne (ne_of_none eb hD)]
            exact s' b o eb
          · rw [ft, List.map_append]
            exact upd_same
        | false =>
          rw [hm, if_neg (by decide), List.append_nil] at ft
          refine if_neg_of rfl ?_
          exact ⟨s', by rw [ft]; exact hD'⟩
      · rintro H' ⟨s', hD'⟩
        rw [List.length_map, List.take_length] at hD'
        refine make_ch (CB := CB) (tup := false) (e := false) (ns := l1.filter (memB e2 l2)) (SqL.of hD') (fun z hz => ch1.prm z (List.mem_filter.mp hz).1) (by have := List.length_filter_le (memB e2 l2) l1; omega) fun r l' H2 mem len ch' s2 => ?_
        have hl := List.length_filter_le (memB e2 l2) l1
        have mem2 : ∀ z, z ∈ l' ↔ z ∈ l1 ∧ memB e2 l2 z = true := fun z => (mem z).trans List.mem_filter
        exact q r l' H2 ch' (by omega) (fun z => by
          rw [and_false_l]
          have := mem2 z
          unfold memB at this ⊢
          by_cases c : z ∈ l1 <;> simp_all) (s'.trans s2)
    | true =>
      refine if_neg_of rfl ?_
      refine ⟨_, rfl, b, C, dy, _, _, rfl, g1, T.cl, T.nE, chF_e _ _, _, rfl, ?_⟩
      cases e2 with
      | false =>
        refine if_pos_of rfl ?_
        refine ⟨_, rfl, b, C, dy, _, _, rfl, g1, T.cl, T.nP, chF_p _ _, u, rfl, ⟨_, .inl (.inl g2)⟩, fun D hD => lc_tup (K := K) (a := u) (xs := l2.map V.int) (fun i H' => Same H H' ∧ H' D = some (.lst (((l2.take i).filter (memB true l1)).map V.int)))
          ⟨same_upd hD, upd_same⟩ (fun i H' _ h => Evl.ex_t h.1 (.inl (.inl g2))) ?_ ?_⟩
        · rintro i y H' hi ⟨s', hD'⟩
          obtain ⟨z, rfl, hz⟩ := item_int hi
          refine ⟨rfl, _, rfl, _, rfl, _, _, _, rfl, s' _ _ h1, ?_⟩
          refine ⟨_, true, l1, z, rfl, ch1.same s', _, rfl, _, rfl, ?_⟩
          have ft := filter_take (g := memB true l1) hz
          cases hm : memB true l1 z with
          | true =>
            rw [hm, if_pos rfl] at ft
            refine if_pos_of rfl ?_
            refine ⟨_, rfl, _, hD', ?_, fun b o eb => ?_, ?_⟩
            · rw [List.length_map]
              have h3 := List.length_filter_le (memB true l1) (l2.take i)
              have h4 : (l2.take i).length ≤ l2.length := by rw [List.length_take]; omega
              exact small1000 (by omega)
            · rw [upd_ne (ne_of_none eb hD)]
              exact s' b o eb
            · rw [ft, List.map_append]
              exact upd_same
          | false =>
            rw [hm, if_neg (by decide), List.append_nil] at ft
            refine if_neg_of rfl ?_
            exact ⟨s', by rw [ft]; exact hD'⟩
        · rintro H' ⟨s', hD'⟩
          rw [List.length_map, List.take_length] at hD'
          refine make_ch (CB := CB) (tup := false) (e := false) (ns := l2.filter (memB true l1)) (SqL.of hD') (fun z hz => ch2.prm z (List.mem_filter.mp hz).1) (by have := List.length_filter_le (memB true l1) l2; omega) fun r l' H2 mem len ch' s2 => ?_
          have hl := List.length_filter_le (memB true l1) l2
          have mem2 : ∀ z, z ∈ l' ↔ z ∈ l2 ∧ memB true l1 z = true := fun z => (mem z).trans List.mem_filter
          exact q r l' H2 ch' (by omega) (fun z => by
            have := mem2 z
            unfold memB at this ⊢
            by_cases c : z ∈ l2 <;> simp_all) (s'.trans s2)
      | true =>
        refine if_neg_of rfl ?_
        refine ⟨_, rfl, a, C, dx, _, _, rfl, h1, T.cl, T.nP, chF_p _ _, _, rfl, b, C, dy, _, _, rfl, g1, T.cl, T.nP, chF_p _ _, ?_⟩
        refine cat_use (xs := l1) (ys := l2) (.inl (.inl h2)) (.inl (.inl g2)) few fun c H' hc s' => ?_
        refine make_ch (CB := CB) (tup := true) (e := true) (ns := l1 ++ l2) hc (fun z hz => (List.mem_append.mp hz).elim (ch1.prm z) (ch2.prm z)) (by rw [List.length_append]; exact few) fun r l' H2 mem len ch' s2 => ?_
        rw [List.length_append] at len
        exact q r l' H2 ch' len (fun z => by
          have := mem z
          rw [List.mem_append] at this
          unfold memB
          by_cases c1 : z ∈ l1 <;> by_cases c2 : z ∈ l2 <;> simp_all) (s'.trans s2)
abbrev s_cor : Stmt := inClass (top 21) 10
theorem sc_cor : FnScope ["self", "other", "p"] ["self", "other"] (defScope s_cor) := ⟨rfl, rfl, rfl, by decide +kernel, rfl, by decide +kernel, by decide +kernel⟩
theorem true_or_l (b : Bool) : (true || b) = true := rfl
theorem ok_cor {f C CB : Addr} {fd : FuncData} (T : ChT K mg C) (F : Fun K "__or__" "Chars.__or__" s_cor f fd) (c_cit : Ma P w K mg base 3 C (spCI C CB true K)) (c_cil : Ma P w K mg base 3 C (spCI C CB false K)) (c_cont : Me P w K mg base 1 C "__contains__" (spCont C)) : FnOk P w K mg base CX0 5 f fd ["self", "other"] (spAnd C or) := by
  refine F.ok sc_cor (fun vs H Q E h => ?_) (fun cdv A outer s H vs Q E hr h => ?_)
  · obtain ⟨a, b, _, _, _, _, rfl, _⟩ := h
    rfl
  · obtain ⟨a, b, e1, e2, l1, l2, rfl, ch1, ch2, few, q⟩ := h
    obtain ⟨dx, t, h1, h2⟩ := ch1.ob
    obtain ⟨dy, u, g1, g2⟩ := ch2.ob
    refine ⟨_, (pss_cons (ps_if (pt_val (pe_fld (pv 0) rfl)) (pss_one (ps_ret (pe_ma c_cil hr T.g (pa_cons pe_bl (pa_cons (pe_lc (own := [("p", 2)]) (g := gName 2) rfl sc_cor.nd (pi_tup (pe_fld (pv 0) rfl)) (blkOk_by (N := ["self", "other", "p"]) (sc := defScope s_cor) (by decide +kernel)) (fun _ _ _ _ _ => pg_name (i := 2) sc_cor.nd rfl (Or.inl rfl)) (fun _ _ _ _ _ => pts_one (pt_cmpR (op_notIn_own c_cont (by exact hr)) (pv 2) (pv 1) (by with_unfolding_all rfl))) (fun _ _ _ _ _ => pv 2)) pa_nil))))) pss_nil)
 (pss_cons (ps_if (pt_val (pe_fld (pv 1) rfl)) (pss_one (ps_ret (pe_ma c_cil hr T.g (pa_cons pe_bl (pa_cons (pe_lc (own := [("p", 2)]) (g := gName 2) rfl sc_cor.nd (pi_tup (pe_fld (pv 1) rfl)) (blkOk_by (N := ["self", "other", "p"]) (sc := defScope s_cor) (by decide +kernel)) (fun _ _ _ _ _ => pg_name (i := 2) sc_cor.nd rfl (Or.inl rfl)) (fun _ _ _ _ _ => pts_one (pt_cmpR (op_notIn_own c_cont (by exact hr)) (pv 2) (pv 0) (by with_unfolding_all rfl))) (fun _ _ _ _ _ => pv 2)) pa_nil))))) pss_nil)
 (pss_one (ps_ret (pe_ma c_cit hr T.g (pa_cons pe_bl (pa_cons (pe_op op_catA (pe_fld (pv 0) rfl) (pe_fld (pv 1) rfl)) pa_nil))))))), ?_⟩
    refine ⟨_, rfl, a, C, dx, _, _, rfl, h1, T.cl, T.nE, chF_e _ _, _, rfl, ?_⟩
    cases e1 with
    | true =>
      refine if_pos_of rfl ?_
      refine ⟨_, rfl, a, C, dx, _, _, rfl, h1, T.cl, T.nP, chF_p _ _, t, rfl, ⟨_, .inl (.inl h2)⟩, fun D hD => lc_tup (K := K) (a := t) (xs := l1.map V.int) (fun i H' => Same H H' ∧ H' D = some (.lst (((l1.take i).filter (fun z => !memB e2 l2 z)).map V.int)))
        ⟨same_upd hD, upd_same⟩ (fun i H' _ h => Evl.ex_t h.1 (.inl (.inl h2))) ?_ ?_⟩
      · rintro i y H' hi ⟨s', hD'⟩
        obtain ⟨z, rfl, hz⟩ := item_int hi
        refine ⟨rfl, _, rfl, _, rfl, _, _, _, rfl, s' _ _ g1, ?_⟩
        refine ⟨_, e2, l2, z, rfl, ch2.same s', _, rfl, _, rfl, ?_⟩
        have ft := filter_take (g := fun z => !memB e2 l2 z) hz
        cases hm : (!memB e2 l2 z) with
        | true =>
          rw [hm, if_pos rfl] at ft
          refine if_pos_of rfl ?_
          refine ⟨_, rfl, _, hD', ?_, fun b o eb => ?_, ?_⟩
          · rw [List.length_map]
            have h3 := List.length_filter_le (fun z => !memB e2 l2 z) (l1.take i)
            have h4 : (l1.take i).length ≤ l1.length := by rw [List.length_take]; omega
            exact small1000 (by omega)
          · rw [upd_ne (ne_of_none eb hD)]
            exact s' b o eb
          · rw [ft, List.map_append]
            exact upd_same
        | false =>
          rw [hm, if_neg (by decide), List.append_nil] at ft
          refine if_neg_of rfl ?_
          exact ⟨s', by rw [ft]; exact hD'⟩
      · rintro H' ⟨s', hD'⟩
        rw [List.length_map, List.take_length] at hD'
        refine make_ch (CB := CB) (tup := false) (e := true) (ns := l1.filter (fun z => !memB e2 l2 z)) (SqL.of hD') (fun z hz => ch1.prm z (List.mem_filter.mp hz).1) (by have := List.length_filter_le (fun z => !memB e2 l2 z) l1; omega) fun r l' H2 mem len ch' s2 => ?_
        have hl := List.length_filter_le (fun z => !memB e2 l2 z) l1
        have mem2 : ∀ z, z ∈ l' ↔ z ∈ l1 ∧ (!memB e2 l2 z) = true := fun z => (mem z).trans List.mem_filter
        exact q r l' H2 ch' (by omega) (fun z => by
          rw [true_or_l]
          have := mem2 z
          unfold memB at this ⊢
          cases e2 <;> by_cases c : z ∈ l1 <;> by_cases c2 : z ∈ l2 <;> simp_all) (s'.trans s2)
    | false =>
      refine if_neg_of rfl ?_
      refine ⟨_, rfl, b, C, dy, _, _, rfl, g1, T.cl, T.nE, chF_e _ _, _, rfl, ?_⟩
      cases e2 with
      | true =>
        refine if_pos_of rfl ?_
        refine ⟨_, rfl, b, C, dy, _, _, rfl, g1, T.cl, T.nP, chF_p _ _, u, rfl, ⟨_, .inl (.inl g2)⟩, fun D hD => lc_tup (K := K) (a := u) (xs := l2.map V.int) (fun i H' => Same H H' ∧ H' D = some (.lst (((l2.take i).filter (fun z => !memB false l1 z)).map V.int)))
          ⟨same_upd hD, upd_same⟩ (fun i H' _ h => Evl.ex_t h.1 (.inl (.inl g2))) ?_ ?_⟩
        · rintro i y H' hi ⟨s', hD'⟩
          obtain ⟨z, rfl, hz⟩ := item_int hi
          refine ⟨rfl, _, rfl, _, rfl, _, _, _, rfl, s' _ _ h1, ?_⟩
          refine ⟨_, false, l1, z, rfl, ch1.same s', _, rfl, _, rfl, ?_⟩
          have ft := filter_take (g := fun z => !memB false l1 z) hz
          cases hm : (!memB false l1 z) with
          | true =>
            rw [hm, if_pos rfl] at ft
            refine if_pos_of rfl ?_
            refine ⟨_, rfl, _, hD', ?_, fun b o eb => ?_, ?_⟩
            · rw [List.length_map]
              have h3 := List.length_filter_le (fun z => !memB false l1 z) (l2.take i)
              have h4 : (l2.take i).length ≤ l2.length := by rw [List.length_take]; omega
              exact small1000 (by omega)
            · rw [upd_ne (ne_of_none eb hD)]
              exact s' b o eb
            · rw [ft, List.map_append]
              exact upd_same
          | false =>
            rw [hm, if_neg (by decide), List.append_nil] at ft
            refine if_neg_of rfl ?_
            exact ⟨s', by rw [ft]; exact hD'⟩
        · rintro H' ⟨s', hD'⟩
          rw [List.length_map, List.take_length] at hD'
          refine make_ch (CB := CB) (tup := false) (e := true) (ns := l2.filter (fun z => !memB false l1 z)) (SqL.of hD') (fun z hz => ch2.prm z (List.mem_filter.mp hz).1) (by have := List.length_filter_le (fun z => !memB false l1 z) l2; omega) fun r l' H2 mem len ch' s2 => ?_
          have hl := List.length_filter_le (fun z => !memB false l1 z) l2
          have mem2 : ∀ z, z ∈ l' ↔ z ∈ l2 ∧ (!memB false l1 z) = true := fun z => (mem z).trans List.mem_filter
          exact q r l' H2 ch' (by omega) (fun z => by
            have := mem2 z
            unfold memB at this ⊢
            by_cases c : z ∈ l2 <;> by_cases c2 : z ∈ l1 <;> simp_all) (s'.trans s2)
      | false =>
        refine if_neg_of rfl ?_
        refine ⟨_, rfl, a, C, dx, _, _, rfl, h1, T.cl, T.nP, chF_p _ _, _, rfl, b, C, dy, _, _, rfl, g1, T.cl, T.nP, chF_p _ _, ?_⟩
        refine cat_use (xs := l1) (ys := l2) (.inl (.inl h2)) (.inl (.inl g2)) few fun c H' hc s' => ?_
        refine make_ch (CB := CB) (tup := true) (e := false) (ns := l1 ++ l2) hc (fun z hz => (List.mem_append.mp hz).elim (ch1.prm z) (ch2.prm z)) (by rw [List.length_append]; exact few) fun r l' H2 mem len ch' s2 => ?_
        rw [List.length_append] at len
        exact q r l' H2 ch' len (fun z => by
          have := mem z
          rw [List.mem_append] at this
          unfold memB
          by_cases c1 : z ∈ l1 <;> by_cases c2 : z ∈ l2 <;> simp_all) (s'.trans s2)
abbrev s_ceq : Stmt := inClass (top 21) 13
theorem sc_ceq : FnScope ["self", "other"] ["self", "other"] (defScope s_ceq) := ⟨rfl, rfl, rfl, by decide +kernel, rfl, by decide +kernel, by decide +kernel⟩
def spCeq (C : Addr) : Sp := fun vs H Q _ => ∃ (a b : Addr) (e1 e2 : Bool) (l1 l2 : List Int), vs = [.ref a, .ref b] ∧ CharsAt C H a e1 l1 ∧ CharsAt C H b e2 l2 ∧ Q (.bl (decide (e1 = e2 ∧ l1 = l2))) H
theorem ok_ceq {f C : Addr} {fd : FuncData} (TT : Txt mg) (T : ChT K mg C) (F : Fun K "__eq__" "Chars.__eq__" s_ceq f fd) : FnOk P w K mg base CX0 1 f fd ["self", "other"] (spCeq C) := by
  refine F.ok sc_ceq (fun vs H Q E h => ?_) (fun cdv A outer s H vs Q E hr h => ?_)
  · obtain ⟨a, b, _, _, _, _, rfl, _⟩ := h
    rfl
  · obtain ⟨a, b, e1, e2, l1, l2, rfl, ch1, ch2, q⟩ := h
    obtain ⟨dx, t, h1, h2⟩ := ch1.ob
    obtain ⟨dy, u, g1, g2⟩ := ch2.ob
    refine ⟨_, (pss_one (ps_ret (pe_and (pe_callB (C8.call_isC T.isC) (by rfl) TT.isinstance boot_isinstance (pa_cons (pv 1) (pa_cons (pe_glob (v := .ref C) (by rfl) T.g rfl) pa_nil))) (pe_and (pe_cmpR op_eq (pe_fld (pv 0) rfl) (pe_fld (pv 1) rfl) (nomark _)) (pe_one (pe_cmpR (op_eqD (hu64 hr)) (pe_fld (pv 0) rfl) (pe_fld (pv 1) rfl) (nomark _))))))), ?_⟩
    refine ⟨_, rfl, b, dy, _, rfl, g1, _, rfl, if_pos_of rfl ?_⟩
    refine ⟨_, rfl, a, C, dx, _, _, rfl, h1, T.cl, T.nE, chF_e _ _, _, rfl, b, C, dy, _, _, rfl, g1, T.cl, T.nE, chF_e _ _, rfl, _, rfl, ?_⟩
    by_cases c : e1 = e2
    · refine if_pos_of (decide_eq_true (by rw [c])) ?_
      refine ⟨_, rfl, a, C, dx, _, _, rfl, h1, T.cl, T.nP, chF_p _ _, _, rfl, b, C, dy, _, _, rfl, g1, T.cl, T.nP, chF_p _ _, _, _, dp_tup (.inl (.inl h2)), dp_tup (.inl (.inl g2)), shaped_intsT _, shaped_intsT _, ?_⟩
      rw [eqv_intsT]
      have z : decide (e1 = e2 ∧ l1 = l2) = decide (l1 = l2) := by simp [c]
      rw [z] at q
      exact q
    · refine if_neg_of (decide_eq_false fun z => c (V.bl.inj z)) ?_
      rw [decide_eq_false fun z => c z.1] at q
      exact q
abbrev s_cbool : Stmt := inClass (top 21) 14
theorem sc_cbool : FnScope ["self"] ["self"] (defScope s_cbool) := ⟨rfl, rfl, rfl, by decide +kernel, rfl, by decide +kernel, by decide +kernel⟩
def spCbool (C : Addr) : Sp := fun vs H Q _ => ∃ (a : Addr) (e : Bool) (l : List Int), vs = [.ref a] ∧ CharsAt C H a e l ∧ Q (.bl (e || !l.isEmpty)) H
theorem ok_cbool {f C : Addr} {fd : FuncData} (TT : Txt mg) (T : ChT K mg C) (F : Fun K "__bool__" "Chars.__bool__" s_cbool f fd) : FnOk P w K mg base CX0 1 f fd ["self"] (spCbool C) := by
  refine F.ok sc_cbool (fun vs H Q E h => ?_) (fun cdv A outer s H vs Q E hr h => ?_)
  · obtain ⟨a, e, l, rfl, _⟩ := h
    rfl
  · obtain ⟨a, e, l, rfl, ch, q⟩ := h
    obtain ⟨dx, t, h1, h2⟩ := ch.ob
    refine ⟨_, (pss_one (ps_ret (pe_callTy cr_boolT (by rfl) TT.bool boot_bool (pa_cons (pe_orT (pe_fld (pv 0) rfl) (pe_one (pe_fld (pv 0) rfl))) pa_nil)))), ?_⟩
    refine ⟨_, rfl, a, C, dx, _, _, rfl, h1, T.cl, T.nE, chF_e _ _, e, rfl, ?_⟩
    cases e with
    | true => exact if_pos_of rfl (.inl ⟨_, rfl, q⟩)
    | false =>
      refine if_neg_of rfl ?_
      refine ⟨_, rfl, a, C, dx, _, _, rfl, h1, T.cl, T.nP, chF_p _ _, .inr ⟨t, _, rfl, .inl (.inl h2), ?_⟩⟩
      have z : (l.map V.int).isEmpty = l.isEmpty := by cases l <;> rfl
      rw [z]
      exact q
abbrev s_cevery : Stmt := inClass (top 21) 1
theorem sc_cevery : FnScope ["cls"] ["cls"] (defScope s_cevery) := ⟨rfl, rfl, rfl, by decide +kernel, rfl, by decide +kernel, by decide +kernel⟩
def spCevery (C : Addr) (e : Bool) : Sp := fun vs H Q _ => vs = [.ref C] ∧ ∀ r H', CharsAt C H' r e [] → Same H H' → Q (.ref r) H'
theorem ok_cevery {f C CB : Addr} {fd : FuncData} (T : ChT K mg C) (F : Fun K "every" "Chars.every" s_cevery f fd) (c_cit : Ma P w K mg base 3 C (spCI C CB true K)) : FnOk P w K mg base CX0 5 f fd ["cls"] (spCevery C true) := by
  refine F.ok sc_cevery (fun vs H Q E h => ?_) (fun cdv A outer s H vs Q E hr h => ?_)
  · obtain ⟨rfl, _⟩ := h
    rfl
  · obtain ⟨rfl, q⟩ := h
    refine ⟨_, (pss_one (ps_ret (pe_maL (i := 0) c_cit hr rfl (pa_cons pe_bl (pa_cons (pe_tup pa_nil) pa_nil))))), ?_⟩
    refine ⟨rfl, (by show 0 ≤ sizeLine; decide), fun t nt => ?_⟩
    refine make_ch (CB := CB) (tup := true) (e := true) (ns := []) (.inl (.inl upd_same)) (fun _ h => nomatch h) (by decide) fun r l H' mem len ch s' => ?_
    have el : l = [] := List.length_eq_zero_iff.mp (Nat.le_zero.mp len)
    subst el
    exact q r H' ch ((same_upd nt).trans s')
abbrev s_czero : Stmt := inClass (top 21) 5
theorem sc_czero : FnScope ["cls", "n"] ["cls", "n"] (defScope s_czero) := ⟨rfl, rfl, rfl, by decide +kernel, rfl, by decide +kernel, by decide +kernel⟩
def zl (n : Int) (l : List Int) : Prop := (n = 0 → l = []) ∧ (n ≠ 0 → PD (absI n) l) ∧ l.length < 62 ∧ (n ≠ 0 → (2 : Int) ^ l.length ≤ absI n)
def spCzero (C : Addr) (neg : Bool) : Sp := fun vs H Q _ => ∃ n : Int, vs = [.ref C, .int n] ∧ absI n < 2 ^ 62 ∧ ∀ r l H', CharsAt C H' r (if neg = true then !decide (n = 0) else decide (n = 0)) l → zl n l → Same H H' → Q (.ref r) H'
theorem ok_czero {f C CB CN : Addr} {fd : FuncData} (T : ChT K mg C) (F : Fun K "zero_of" "Chars.zero_of" s_czero f fd) (c_cil : Ma P w K mg base 3 C (spCI C CB false K)) (c_every : Cm P w K mg base 5 C "every" (spCevery C true)) (c_divs : Cl P w K mg base (L2N.CX P w) 3 "prime_divisors" (spDivs CN)) : FnOk P w K mg base CX0 6 f fd ["cls", "n"] (spCzero C false) := by
  refine F.ok sc_czero (fun vs H Q E h => ?_) (fun cdv A outer s H vs Q E hr h => ?_)
  · obtain ⟨n, rfl, _⟩ := h
    rfl
  · obtain ⟨n, rfl, hb, q⟩ := h
    refine ⟨_, (pss_cons (ps_if (pt_cmpR op_eq (pv 1) pe_int (nomark _)) (pss_one (ps_ret (pe_cm0 c_every hr (pv 0) ))) pss_nil)
 (pss_one (ps_ret (pe_maL (i := 0) c_cil hr rfl (pa_cons pe_bl (pa_cons (pe_clN0 c_divs hr (pa_cons (pv 1) pa_nil)) pa_nil)))))), ?_⟩
    refine ⟨_, rfl, rfl, _, rfl, ?_⟩
    by_cases c : n = 0
    · refine if_pos_of (by simp [c]) ?_
      refine ⟨_, rfl, rfl, rfl, fun r H' ch s' => ?_⟩
      refine q r [] H' ?_ ⟨fun _ => rfl, fun h => absurd c h, by decide, fun h => absurd c h⟩ s'
      rw [if_neg (by decide), decide_eq_true c]
      exact ch
    · refine if_neg_of (by simp [c]) ?_
      refine ⟨rfl, _, rfl, n, rfl, hb, fun h => absurd h c, fun _ l a H' pd hl h2 s' na ha => ?_⟩
      have bd : ∀ z ∈ l, Pr z ∧ z < 2 ^ 62 := fun z hz => by
        obtain ⟨h1, h2⟩ := (pd.2 z).mp hz
        have := Int.le_of_dvd (by unfold absI; split <;> omega) h2
        exact ⟨h1, by omega⟩
      refine make_ch (CB := CB) (tup := false) (e := false) (ns := l) (SqL.of ha) bd (by omega) fun r l' H2 mem len ch s2 => ?_
      have el : l' = l := sorted_uniq ch.srt pd.1 mem
      subst el
      refine q r l' H2 ?_ ⟨fun h => absurd h c, fun _ => pd, hl, fun _ => h2⟩ (s'.trans s2)
      rw [if_neg (by decide), decide_eq_false c]
      exact ch
abbrev s_cunit : Stmt := inClass (top 21) 6
theorem sc_cunit : FnScope ["cls", "n"] ["cls", "n"] (defScope s_cunit) := ⟨rfl, rfl, rfl, by decide +kernel, rfl, by decide +kernel, by decide +kernel⟩
theorem ok_cunit {f C : Addr} {fd : FuncData} (F : Fun K "unit_of" "Chars.unit_of" s_cunit f fd) (c_zero : Cm P w K mg base 6 C "zero_of" (spCzero C false)) (c_inv : Me P w K mg base 5 C "__invert__" (spInv C)) : FnOk P w K mg base CX0 7 f fd ["cls", "n"] (spCzero C true) := by
  refine F.ok sc_cunit (fun vs H Q E h => ?_) (fun cdv A outer s H vs Q E hr h => ?_)
  · obtain ⟨n, rfl, _⟩ := h
    rfl
  · obtain ⟨n, rfl, hb, q⟩ := h
    refine ⟨_, (pss_one (ps_ret (pe_un (un_inv1 c_inv hr) (pe_cm c_zero hr (pv 0) (pa_cons (pv 1) pa_nil))))), ?_⟩
    refine ⟨_, rfl, rfl, _, rfl, n, rfl, hb, fun r l H' ch hz s' => ?_⟩
    obtain ⟨dx, t, h1, h2⟩ := ch.ob
    refine ⟨r, dx, _, rfl, h1, r, _, l, rfl, ch, by have := hz.2.2.1; omega, fun r2 H2 ch2 s2 => ?_⟩
    rw [if_neg (by decide)] at ch2
    refine q r2 l H2 ?_ hz (s'.trans s2)
    rw [if_pos rfl]
    exact ch2
theorem allN {R : V → Prop} : ∀ x ∈ ([] : List V), R x := fun _ h => nomatch h
theorem allC {R : V → Prop} {a : V} {l : List V} (h : R a) (t : ∀ x ∈ l, R x) : ∀ x ∈ a :: l, R x := fun x hx => by
  rcases List.mem_cons.mp hx with e | e
  · rw [e]
    exact h
  · exact t x e
/-- an item at an open place in bounds -/
theorem at_some {xs : List V} {v : Int} (h0 : 0 ≤ v) (h1 : v < xs.length) : ∃ x, atI xs v = some x ∧ x ∈ xs := by
  have hv : ((v.toNat : Nat) : Int) = v := Int.toNat_of_nonneg h0
  have hl : v.toNat < xs.length := by omega
  have z : atI xs ((v.toNat : Nat) : Int) = some xs[v.toNat] := atI_nat (List.getElem?_eq_getElem hl)
  rw [hv] at z
  exact ⟨xs[v.toNat], z, List.getElem_mem hl⟩
def SameBut (p : Addr) (H H' : Hp) : Prop := ∀ b o, b ≠ p → H b = some o → H' b = some o
theorem SameBut.of {p : Addr} {H H' : Hp} (e : ∀ q, q ≠ p → H' q = H q) : SameBut p H H' := fun b o hb h => by
  rw [e b hb]
  exact h
theorem SameBut.trans {p : Addr} {H H1 H2 : Hp} (a : SameBut p H H1) (b : SameBut p H1 H2) : SameBut p H H2 := fun c o hc h => b c o hc (a c o hc h)
theorem sbut {p : Addr} {H H' : Hp} (s : Same H H') : SameBut p H H' := fun b o _ h => s b o h
/-- what was tracked ahead of the pool -/
theorem SameBut.same {p : Addr} {H0 H H' : Hp} (s : Same H0 H) (np : H0 p = none) (e : SameBut p H H') : Same H0 H' := fun b o h => e b o (ne_of_none h np) (s b o h)
theorem PoolAt.same {H H' : Hp} {p : Addr} (h : PoolAt H p) (s : Same H H') : PoolAt H' p := by
  obtain ⟨x, y, z, e⟩ := h
  exact ⟨x, y, z, s _ _ e⟩
theorem PoolAt.new {H : Hp} {p a : Addr} (h : PoolAt H p) (n : H a = none) : a ≠ p := fun e => by
  obtain ⟨x, y, z, q⟩ := h
  rw [e, q] at n
  cases n

abbrev s_common : Stmt := top 8
theorem sc_common : FnScope ["a", "b"] ["a", "b"] (defScope s_common) := ⟨rfl, rfl, rfl, by decide +kernel, rfl, by decide +kernel, by decide +kernel⟩
def spCommon : Sp := fun vs H Q _ => ∃ (a b : Int), vs = [.int a, .int b] ∧ Q (.int ((a.gcd b : Nat) : Int)) H
theorem ok_common {f : Addr} {fd : FuncData} (hg : mg "gcd" = some (.builtin "math.gcd")) (F : Fun K "common" "common" s_common f fd) : FnOk P w K mg base CX0 1 f fd ["a", "b"] spCommon := by
  refine F.ok sc_common (fun vs H Q E h => ?_) (fun cdv A outer s H vs Q E hr h => ?_)
  · obtain ⟨a, b, rfl, _⟩ := h
    rfl
  · obtain ⟨a, b, rfl, q⟩ := h
    exact ⟨_, (pss_one (ps_ret (pe_callBfun cr_gcd (by rfl) hg (pa_cons (pv 0) (pa_cons (pv 1) pa_nil))))), _, rfl, _, rfl, _, _, rfl, q⟩
abbrev s_number : Stmt := top 28
theorem sc_number : FnScope ["_law_pool_here", "_law_which", "_law_n", "_law_k"] ["_law_pool_here"] (defScope s_number) := ⟨rfl, rfl, rfl, by decide +kernel, rfl, by decide +kernel, by decide +kernel⟩
def spNum23 : Sp := fun vs H Q _ => ∃ p : Addr, vs = [.ref p] ∧ PoolAt H p ∧ ∀ v H', absI v ≤ 200000 → SameBut p H H' → Q (.int v) H'
theorem pow_step {n z : Int} {i : Nat} (h1 : 1 ≤ n) (h2 : n ≤ 11 ^ i) (z1 : 1 ≤ z) (z2 : z ≤ 11) : 1 ≤ n * z ∧ n * z ≤ 11 ^ (i + 1) := by
  have a : n * 1 ≤ n * z := Int.mul_le_mul_of_nonneg_left z1 (by omega)
  have b : n * z ≤ 11 ^ i * 11 := Int.mul_le_mul h2 z2 (by omega) (by have := Int.pow_pos (n := 11) (m := i) (by decide); omega)
  rw [Int.pow_succ]
  omega
theorem pow_le4 {n : Int} {i : Nat} (hi : i ≤ 4) (h : n ≤ 11 ^ i) : n ≤ 14641 := by
  have : i = 0 ∨ i = 1 ∨ i = 2 ∨ i = 3 ∨ i = 4 := by omega
  rcases this with rfl | rfl | rfl | rfl | rfl
  all_goals
    refine Int.le_trans h ?_
    decide
theorem ok_number {f : Addr} {fd : FuncData} (T : Txt mg) (F : Fun K "_law_number" "_law_number" s_number f fd) (c_take : Cl P w K mg base CX0 1 "_law_take" spTake) : FnOk P w K mg base CX0 3 f fd ["_law_pool_here"] spNum23 := by
  refine F.ok sc_number (fun vs H Q E h => ?_) (fun cdv A outer s H vs Q E hr h => ?_)
  · obtain ⟨p, rfl, _⟩ := h
    rfl
  · obtain ⟨p, rfl, P0, q⟩ := h
    refine ⟨_, (pss_cons (ps_set (i := 1) sc_number.nd rfl (Or.inl rfl) (pe_cl c_take hr (pa_cons (pv 0) (pa_cons pe_int pa_nil))))
 (pss_cons (ps_if (pt_cmpR op_eq (pv 1) pe_int (nomark _)) (pss_one (ps_ret pe_int)) pss_nil)
 (pss_cons (ps_if (pt_cmpR op_eq (pv 1) pe_int (nomark _)) (pss_cons (ps_set (i := 2) sc_number.nd rfl (Or.inl rfl) pe_int)
 (pss_cons (ps_for PassesOwn.never rfl (pi_range1 rfl T.range (pa_cons (pe_cl c_take hr (pa_cons (pv 0) (pa_cons pe_int pa_nil))) pa_nil)) (pg_name (i := 3) sc_number.nd rfl (Or.inl rfl)) (pss_one (ps_set (i := 2) sc_number.nd rfl (Or.inl rfl) (pe_op op_mul (pv 2) (pe_ix ix_list (pe_lst (pa_cons pe_int (pa_cons pe_int (pa_cons pe_int (pa_cons pe_int (pa_cons pe_int (pa_cons pe_int pa_nil))))))) (pe_cl c_take hr (pa_cons (pv 0) (pa_cons pe_int pa_nil))) (fun _ _ => rfl))))))
 (pss_one (ps_ret (pv 2))))) pss_nil)
 (pss_cons (ps_if (pt_cmpR op_eq (pv 1) pe_int (nomark _)) (pss_one (ps_ret (pe_op op_sub (pe_cl c_take hr (pa_cons (pv 0) (pa_cons pe_int pa_nil))) pe_int))) pss_nil)
 (pss_one (ps_ret (pe_op op_sub (pe_cl c_take hr (pa_cons (pv 0) (pa_cons pe_int pa_nil))) pe_int))))))), ?_⟩
    refine ⟨_, rfl, p, 5, rfl, P0, by decide, by decide, fun wh H1 _ _ e1 P1 => ?_⟩
    have s1 := SameBut.of e1
    refine ⟨_, rfl, rfl, _, rfl, ite2 (fun _ => q _ _ (by decide) s1) (fun _ => ?_)⟩
    refine ⟨_, rfl, rfl, _, rfl, ite2 (fun _ => ?_) (fun _ => ?_)⟩
    · refine ⟨_, rfl, p, 5, rfl, P1, by decide, by decide, fun c H2 c0 c5 e2 P2 => ?_⟩
      refine ⟨_, rfl, by omega, by omega, for_range (fun i σ H' => SameBut p H H' ∧ PoolAt H' p ∧ ∃ (n : Int) (x : Option V), σ = [some (.ref p), some (.int wh), some (.int n), x] ∧ 1 ≤ n ∧ n ≤ 11 ^ i)
        ⟨s1.trans (SameBut.of e2), P2, 1, none, rfl, by decide, by decide⟩ ?_ ?_⟩
      · rintro i σ H3 hi ⟨s3, P3, n, x, rfl, n1, n2⟩
        have n3 := pow_le4 (i := i) (by omega) n2
        refine ⟨_, rfl, (by show 6 ≤ sizeLine; decide), fun m hm => ?_⟩
        have s4 := same_upd (o := .lst [.int 2, .int 2, .int 3, .int 5, .int 7, .int 11]) hm
        refine ⟨_, rfl, p, 6, rfl, P3.same s4, by decide, by decide, fun v H5 v0 v6 e5 P5 => ?_⟩
        have hm5 : H5 m = some (.lst [.int 2, .int 2, .int 3, .int 5, .int 7, .int 11]) := by
          rw [e5 m (P3.new hm)]
          exact upd_same
        have menu : ∀ x ∈ ([.int 2, .int 2, .int 3, .int 5, .int 7, .int 11] : List V), ∃ z : Int, x = .int z ∧ 1 ≤ z ∧ z ≤ 11 :=
          allC ⟨2, rfl, by decide, by decide⟩ (allC ⟨2, rfl, by decide, by decide⟩ (allC ⟨3, rfl, by decide, by decide⟩ (allC ⟨5, rfl, by decide, by decide⟩ (allC ⟨7, rfl, by decide, by decide⟩ (allC ⟨11, rfl, by decide, by decide⟩ allN)))))
        obtain ⟨x, hx, hmem⟩ := at_some (xs := [.int 2, .int 2, .int 3, .int 5, .int 7, .int 11]) v0 v6
        obtain ⟨z, rfl, z1, z2⟩ := menu x hmem
        refine ⟨m, _, v, _, rfl, rfl, SqL.of hm5, hx, _, _, rfl, rfl, .inl ⟨by omega, by omega⟩, ?_⟩
        have st := pow_step n1 n2 z1 z2
        exact ⟨s3.trans ((sbut s4).trans (SameBut.of e5)), P5, n * z, _, rfl, st.1, st.2⟩
      · rintro σ H3 ⟨s3, P3, n, x, rfl, n1, n2⟩
        have n3 := pow_le4 (i := c.toNat) (by omega) n2
        exact ⟨_, rfl, q n H3 (by unfold absI; split <;> omega) s3⟩
    refine ⟨_, rfl, rfl, _, rfl, ite2 (fun _ => ?_) (fun _ => ?_)⟩
    · exact ⟨_, rfl, p, 199999, rfl, P1, by decide, by decide, fun c H2 c0 c5 e2 P2 => ⟨_, _, rfl, rfl, q _ _ (by show absI (c - 99999) ≤ 200000; unfold absI; split <;> omega) (s1.trans (SameBut.of e2))⟩⟩
    · exact ⟨_, rfl, p, 61, rfl, P1, by decide, by decide, fun c H2 c0 c5 e2 P2 => ⟨_, _, rfl, rfl, q _ _ (by show absI (c - 30) ≤ 200000; unfold absI; split <;> omega) (s1.trans (SameBut.of e2))⟩⟩
theorem memB_inj {e : Bool} {l m : List Int} (hl : l.Pairwise (· < ·)) (hm : m.Pairwise (· < ·)) (h : ∀ p, memB e l p = memB e m p) : l = m := sorted_uniq hl hm fun q => by
  have z := h q
  unfold memB at z
  cases e with
  | true =>
    rw [if_pos rfl, if_pos rfl] at z
    have := congrArg not z
    rw [Bool.not_not, Bool.not_not] at this
    exact decide_eq_decide.mp this
  | false =>
    rw [if_neg (by decide), if_neg (by decide)] at z
    exact decide_eq_decide.mp z
/-- the other set: all but these -/
theorem memB_not (e : Bool) (l : List Int) (p : Int) : memB (!e) l p = !memB e l p := by
  unfold memB
  cases e <;> simp
theorem memB_nil (e : Bool) (p : Int) : memB e [] p = e := by
  unfold memB
  cases e <;> simp
theorem bool_iff {a b : Bool} {p : Prop} (h1 : a = true ↔ p) (h2 : b = true ↔ p) : a = b := by
  cases a <;> cases b <;> simp_all
theorem and_none {e : Bool} {l m : List Int} (h : ∀ p, memB (and e (!e)) l p = and (memB e m p) (memB (!e) m p)) : and e (!e) = false ∧ l = [] := by
  have e1 : and e (!e) = false := by cases e <;> rfl
  refine ⟨e1, ?_⟩
  match l with
  | [] => rfl
  | a :: r =>
    have z := h a
    rw [e1, memB_not] at z
    unfold memB at z
    cases e <;> by_cases c : a ∈ m <;> simp_all
theorem or_all {e : Bool} {l m : List Int} (h : ∀ p, memB (or e (!e)) l p = or (memB e m p) (memB (!e) m p)) : or e (!e) = true ∧ l = [] := by
  have e1 : or e (!e) = true := by cases e <;> rfl
  refine ⟨e1, ?_⟩
  match l with
  | [] => rfl
  | a :: r =>
    have z := h a
    rw [e1, memB_not] at z
    unfold memB at z
    cases e <;> by_cases c : a ∈ m <;> simp_all
/-- membership in the set of the characteristics in which n is 0 -/
theorem zl_mem {C : Addr} {H : Hp} {r : Addr} {n : Int} {l : List Int} (ch : ∃ e, CharsAt C H r e l) (h : zl n l) (p : Int) : memB (decide (n = 0)) l p = true ↔ n = 0 ∨ (Pr p ∧ p ∣ n) := by
  unfold memB
  by_cases c : n = 0
  · rw [h.1 c]
    simp [c]
  · have e : absI n = n ∨ absI n = -n := by unfold absI; split <;> omega
    rw [decide_eq_false c, if_neg (by decide), decide_eq_true_iff, (h.2.1 c).2 p]
    have d : p ∣ absI n ↔ p ∣ n := by
      rcases e with e | e
      · rw [e]
      · rw [e, Int.dvd_neg]
    rw [d]
    exact ⟨fun z => .inr z, fun z => z.resolve_left c⟩
def dueB (n c : Int) : Bool := if 0 < c then decide (V.int (n % c) = V.int 0) else decide (V.int n = V.int 0)
theorem due_mem {n c : Int} (hc : Chr c) : dueB n c = true ↔ n = 0 ∨ (Pr c ∧ c ∣ n) := by
  unfold dueB
  rcases hc with rfl | hp
  · rw [if_neg (by decide), decide_eq_true_iff]
    constructor
    · intro h
      exact .inl (V.int.inj h)
    · rintro (h | ⟨h, _⟩)
      · rw [h]
      · exact absurd h.1 (by decide)
  · have h2 := hp.1
    rw [if_pos (by omega), decide_eq_true_iff]
    constructor
    · intro h
      exact .inr ⟨hp, Int.dvd_of_emod_eq_zero (V.int.inj h)⟩
    · rintro (h | ⟨_, h⟩)
      · rw [h, Int.zero_emod]
      · rw [Int.emod_eq_zero_of_dvd h]
theorem pr_9973 : Pr 9973 := pr_of_trial (n := 9973) 120 (by decide +kernel)
theorem pr_999983 : Pr 999983 := pr_of_trial (n := 999983) 1010 (by decide +kernel)

theorem zl_few {n : Int} {l : List Int} (h : zl n l) (hn : absI n ≤ 200000) : l.length ≤ 17 := by
  by_cases c : n = 0
  · rw [h.1 c]
    decide
  · have h2 := h.2.2.2 c
    by_cases d : l.length ≤ 17
    · exact d
    · have : (2 : Nat) ^ 18 ≤ 2 ^ l.length := Nat.pow_le_pow_right (by decide) (by omega)
      have h3 := Int.ofNat_le.mpr this
      rw [Int.natCast_pow, Int.natCast_pow] at h3
      have h4 : ((2 : Nat) : Int) ^ 18 = 262144 := by decide
      rw [h4] at h3
      have h5 : (262144 : Int) ≤ 2 ^ l.length := h3
      omega
theorem zl_uniq {n : Int} {l m : List Int} (h : zl n l) (h' : zl n m) : l = m := by
  by_cases c : n = 0
  · rw [h.1 c, h'.1 c]
  · exact (h.2.1 c).uniq (h'.2.1 c)
theorem dec_int (z : Int) : decide (V.int z = V.int 0) = decide (z = 0) := by
  by_cases c : z = 0
  · subst c
    simp
  · simp [c]
theorem set_or {a b : Int} {l la lb lo : List Int} {C : Addr} {H Ha Hb : Hp} {r ra rb : Addr} (ch : CharsAt C H r (decide (a * b = 0)) l) (hz : zl (a * b) l) (cha : CharsAt C Ha ra (decide (a = 0)) la) (za : zl a la) (chb : CharsAt C Hb rb (decide (b = 0)) lb) (zb : zl b lb)
    (so : lo.Pairwise (· < ·)) (mem : ∀ p, memB (or (decide (a = 0)) (decide (b = 0))) lo p = or (memB (decide (a = 0)) la p) (memB (decide (b = 0)) lb p)) : decide (a * b = 0) = or (decide (a = 0)) (decide (b = 0)) ∧ l = lo := by
  have e : decide (a * b = 0) = or (decide (a = 0)) (decide (b = 0)) := by
    by_cases c1 : a = 0 <;> by_cases c2 : b = 0 <;> simp [c1, c2]
  refine ⟨e, memB_inj (e := decide (a * b = 0)) ch.srt so fun p => ?_⟩
  have m2 := mem p
  rw [← e] at m2
  rw [m2]
  refine bool_iff (zl_mem ⟨_, ch⟩ hz p) ?_
  show (memB (decide (a = 0)) la p || memB (decide (b = 0)) lb p) = true ↔ _
  rw [Bool.or_eq_true, zl_mem ⟨_, cha⟩ za p, zl_mem ⟨_, chb⟩ zb p]
  constructor
  · rintro ((h | ⟨h1, h2⟩) | (h | ⟨h1, h2⟩))
    · exact .inl (by rw [h, Int.zero_mul])
    · exact .inr ⟨h1, Int.dvd_mul_of_dvd_left h2⟩
    · exact .inl (by rw [h, Int.mul_zero])
    · exact .inr ⟨h1, Int.dvd_mul_of_dvd_right h2⟩
  · rintro (h | ⟨h1, h2⟩)
    · rcases Int.mul_eq_zero.mp h with h | h
      · exact .inl (.inl h)
      · exact .inr (.inl h)
    · rcases pr_mul h1 h2 with h | h
      · exact .inl (.inr ⟨h1, h⟩)
      · exact .inr (.inr ⟨h1, h⟩)
theorem set_and {a b : Int} {l la lb lo : List Int} {C : Addr} {H Ha Hb : Hp} {r ra rb : Addr} (ch : CharsAt C H r (decide (((a.gcd b : Nat) : Int) = 0)) l) (hz : zl ((a.gcd b : Nat) : Int) l) (cha : CharsAt C Ha ra (decide (a = 0)) la) (za : zl a la) (chb : CharsAt C Hb rb (decide (b = 0)) lb) (zb : zl b lb)
    (so : lo.Pairwise (· < ·)) (mem : ∀ p, memB (and (decide (a = 0)) (decide (b = 0))) lo p = and (memB (decide (a = 0)) la p) (memB (decide (b = 0)) lb p)) : decide (((a.gcd b : Nat) : Int) = 0) = and (decide (a = 0)) (decide (b = 0)) ∧ l = lo := by
  have g0 : ((a.gcd b : Nat) : Int) = 0 ↔ a = 0 ∧ b = 0 := by
    constructor
    · intro h
      have ha := Int.gcd_dvd_left a b
      have hb := Int.gcd_dvd_right a b
      rw [h] at ha hb
      exact ⟨Int.zero_dvd.mp ha, Int.zero_dvd.mp hb⟩
    · rintro ⟨rfl, rfl⟩
      rfl
  have e : decide (((a.gcd b : Nat) : Int) = 0) = and (decide (a = 0)) (decide (b = 0)) := by
    refine bool_iff (p := a = 0 ∧ b = 0) ?_ ?_
    · rw [decide_eq_true_iff]
      exact g0
    · show (decide (a = 0) && decide (b = 0)) = true ↔ _
      rw [Bool.and_eq_true, decide_eq_true_iff, decide_eq_true_iff]
  refine ⟨e, memB_inj (e := decide (((a.gcd b : Nat) : Int) = 0)) ch.srt so fun p => ?_⟩
  have m2 := mem p
  rw [← e] at m2
  rw [m2]
  refine bool_iff (zl_mem ⟨_, ch⟩ hz p) ?_
  show (memB (decide (a = 0)) la p && memB (decide (b = 0)) lb p) = true ↔ _
  rw [Bool.and_eq_true, zl_mem ⟨_, cha⟩ za p, zl_mem ⟨_, chb⟩ zb p, g0]
  have da := Int.gcd_dvd_left a b
  have db := Int.gcd_dvd_right a b
  constructor
  · rintro ⟨h | ⟨h1, h2⟩, h' | ⟨h1', h2'⟩⟩
    · exact .inl ⟨h, h'⟩
    · exact .inr ⟨h1', Int.dvd_coe_gcd (by rw [h]; exact Int.dvd_zero p) h2'⟩
    · exact .inr ⟨h1, Int.dvd_coe_gcd h2 (by rw [h']; exact Int.dvd_zero p)⟩
    · exact .inr ⟨h1, Int.dvd_coe_gcd h2 h2'⟩
  · rintro (⟨h, h'⟩ | ⟨h1, h2⟩)
    · exact ⟨.inl h, .inl h'⟩
    · exact ⟨.inr ⟨h1, Int.dvd_trans h2 da⟩, .inr ⟨h1, Int.dvd_trans h2 db⟩⟩
/-- an isinstance of an int -/
theorem isi_int {K : PySem.W.Frag} {i : Int} {T : String} {b : Bool} {H : Hp} {Q : VK} (h : kitB "int" T = some b) (q : Q (.bl b) H) : rIsi K [.int i, .ty T] H Q :=
  ⟨_, _, _, _, b, rfl, .ty T, .base (.int i), kit_ty h, q⟩
theorem isi_tup {K : PySem.W.Frag} {a : Addr} {xs : List V} {T : String} {b : Bool} {H : Hp} {Q : VK} (ha : H a = some (.tup xs)) (h : kitB "tuple" T = some b) (q : Q (.bl b) H) : rIsi K [.ref a, .ty T] H Q :=
  ⟨_, _, _, _, b, rfl, .ty T, .base (.tup ha), kit_ty h, q⟩
theorem isi_bl {K : PySem.W.Frag} {x : Bool} {T : String} {b : Bool} {H : Hp} {Q : VK} (h : kitB "bool" T = some b) (q : Q (.bl b) H) : rIsi K [.bl x, .ty T] H Q :=
  ⟨_, _, _, _, b, rfl, .ty T, .base (.bl x), kit_ty h, q⟩
theorem isi_lst {K : PySem.W.Frag} {a : Addr} {xs : List V} {T : String} {b : Bool} {H : Hp} {Q : VK} (ha : H a = some (.lst xs)) (h : kitB "list" T = some b) (q : Q (.bl b) H) : rIsi K [.ref a, .ty T] H Q :=
  ⟨_, _, _, _, b, rfl, .ty T, .base (.lst ha), kit_ty h, q⟩
/-- the law's own promise -/
def spLaw (K : PySem.W.Frag) : Sp := fun vs H Q _ => ∃ (a : Addr) (ns : List Int), vs = [.ref a] ∧ SqL K H a (ns.map V.int) ∧ ns.length ≤ 63 ∧ ∀ H', Q (.bl true) H'
/-- a test by an own truth -/
theorem pt_own {X : Cx} {a : Expr} {ta : TE} {r : V → Hp → (Bool → Hp → Prop) → Prop} (ha : PE X a ta) (hr : TruR X r) (he : ∀ whole, isTrue a X.env whole = (do let v ← whole; standAt a.pos; holding [v] (truthy v)) := by intro _; rfl) :
    PT X a (fun σ H Q => ta σ H fun x H' => r x H' Q) :=
  ⟨fun pins s σ H Q I h => isTrue_plain (thn (ha.run pins s σ H _ I h) fun v s1 ⟨x, H1, I1, r1, q1⟩ => hr pins s1 σ H1 x v Q I1 r1 q1) (he _)⟩
abbrev s_law : Stmt := top 29
theorem sc_law : FnScope ["_law_script", "_law_numbers", "_law_k", "_law_clocks", "_law_p", "_law_n", "_law_found", "_law_others", "_law_due", "_law_first", "_law_second"] ["_law_script"] (defScope s_law) := ⟨rfl, rfl, rfl, by decide +kernel, rfl, by decide +kernel, by decide +kernel⟩
/-- a row of ints, each of which is a characteristic -/
def Clk (cs : List Int) : Prop := ∀ c ∈ cs, Chr c ∧ c < 2 ^ 61 ∧ 0 ≤ c
theorem ok_law {f C fI CB : Addr} {fd : FuncData} (TT : Txt mg) (T : ChT K mg C) (F : Fun K "law" "law" s_law f fd) (c_pool : Cl P w K mg base CX0 1 "_law_pool" spPool) (c_cell : Cl P w K mg base CX0 1 "_law_cell" (spCellL K)) (c_number : Cl P w K mg base CX0 3 "_law_number" spNum23) (c_lprime : Cl P w K mg base CX0 1 "_law_is_prime" spPrime)
    (c_common : Cl P w K mg base CX0 1 "common" spCommon) (c_isz : Cl P w K mg base (L2.CX P w) 5 "is_zero" (spZero CB)) (c_every : Cm P w K mg base 5 C "every" (spCevery C true)) (c_zero : Cm P w K mg base 6 C "zero_of" (spCzero C false)) (c_unit : Cm P w K mg base 7 C "unit_of" (spCzero C true))
    (c_cont : Me P w K mg base 1 C "__contains__" (spCont C)) (c_and : Me P w K mg base 5 C "__and__" (spAnd C and)) (c_or : Me P w K mg base 5 C "__or__" (spAnd C or)) (c_inv : Me P w K mg base 5 C "__invert__" (spInv C)) (c_eq : Me P w K mg base 1 C "__eq__" (spCeq C)) (c_bool : Me P w K mg base 1 C "__bool__" (spCbool C)) : FnOk P w K mg base CX0 9 f fd ["_law_script"] (spLaw K) := by
  refine F.ok sc_law (fun vs H Q E h => ?_) (fun cdv A outer s H vs Q E hr h => ?_)
  · obtain ⟨a, ns, rfl, _⟩ := h
    rfl
  · obtain ⟨l, ns, rfl, hS, hlen, q⟩ := h
    refine ⟨_, (Evl.pss_cut (ps_setLc (i := 1) (own := [("_law_k", 2)]) (g := gName 2) (tt := tYes) rfl sc_law.nd rfl rfl (sw_true rfl rfl rfl (by decide +kernel)) (pi_range1 rfl TT.range (pa_cons pe_int pa_nil)) (blkOk_by (N := ["_law_script", "_law_numbers", "_law_k", "_law_clocks", "_law_p", "_law_n", "_law_found", "_law_others", "_law_due", "_law_first", "_law_second"]) (sc := defScope s_law) (by decide +kernel)) (fun _ _ _ _ _ => pg_name (i := 2) sc_law.nd rfl (Or.inl rfl)) (fun _ _ _ _ _ => pts_nil) (fun _ _ _ _ _ => pe_cl c_number (by exact hr) (pa_cons (pe_cl c_pool (by exact hr) (pa_cons (pe_cl c_cell (by exact hr) (pa_cons (pv 0) (pa_cons (pv 2) pa_nil))) pa_nil)) pa_nil)))
 (Evl.pss_cut (ps_set (i := 3) sc_law.nd rfl (Or.inl rfl) (pe_op op_cat (pe_op op_cat (pe_lst (pa_cons pe_int pa_nil)) (pe_lc (own := [("_law_p", 4)]) (g := gName 4) rfl sc_law.nd (pi_range2 rfl TT.range (pa_cons pe_int (pa_cons pe_int pa_nil))) (blkOk_by (N := ["_law_script", "_law_numbers", "_law_k", "_law_clocks", "_law_p", "_law_n", "_law_found", "_law_others", "_law_due", "_law_first", "_law_second"]) (sc := defScope s_law) (by decide +kernel)) (fun _ _ _ _ _ => pg_name (i := 4) sc_law.nd rfl (Or.inl rfl)) (fun _ _ _ _ _ => pts_one (pt_val (pe_cl c_lprime (by exact hr) (pa_cons (pv 4) pa_nil)))) (fun _ _ _ _ _ => pv 4))) (pe_lst (pa_cons pe_int (pa_cons pe_int pa_nil)))))
 (Evl.pss_cut (ps_for PassesOwn.never rfl (pi_list (pe_op op_cat (pe_op op_cat (pv 1) (pe_slice sl_list (pv 1) po_none (po_some pe_int))) (pe_lst (pa_cons pe_int (pa_cons (pe_un un_neg pe_int) (pa_cons pe_int pa_nil)))))) (pg_name (i := 5) sc_law.nd rfl (Or.inl rfl)) (Evl.pss_cut (ps_set (i := 6) sc_law.nd rfl (Or.inl rfl) (pe_cm c_zero hr (pe_glob (v := .ref C) (by rfl) T.g rfl) (pa_cons (pv 5) pa_nil)))
 (Evl.pss_cut (ps_set (i := 7) sc_law.nd rfl (Or.inl rfl) (pe_cm c_unit hr (pe_glob (v := .ref C) (by rfl) T.g rfl) (pa_cons (pv 5) pa_nil)))
 (Evl.pss_cut (ps_if (pw_or (pt_not (pt_cmpR (op_eq_own c_eq hr) (pv 7) (pe_un (un_inv1 c_inv hr) (pv 6)) (nomark _))) (pw_or (pt_cmpR op_ne (pe_fld (pv 6) rfl) (pe_cmpR op_eq (pv 5) pe_int (nomark _)) (nomark _)) (pw_or1 (pt_own (pe_op (op_own2 c_and hr T.sf) (pv 6) (pv 7)) (tru_own c_bool hr))))).pt (pss_one (ps_ret pe_bl)) pss_nil)
 (Evl.pss_cut (ps_if (pt_not (pt_cmpR (op_eq_own c_eq hr) (pe_op (op_own2 c_or hr T.sf) (pv 6) (pv 7)) (pe_cm0 c_every hr (pe_glob (v := .ref C) (by rfl) T.g rfl) ) (nomark _))) (pss_one (ps_ret pe_bl)) pss_nil)
 (Evl.pss_cut (ps_for PassesOwn.never rfl (pi_list (pv 3)) (pg_name (i := 4) sc_law.nd rfl (Or.inl rfl)) (pss_cons (ps_set (i := 8) sc_law.nd rfl (Or.inl rfl) (pe_cmpR op_eq (pv 5) pe_int (nomark _)))
 (Evl.pss_cut (ps_if (pt_cmpR op_gt (pv 4) pe_int (nomark _)) (pss_one (ps_set (i := 8) sc_law.nd rfl (Or.inl rfl) (pe_cmpR op_eq (pe_op op_mod (pe_callTy call_int1 (by rfl) TT.int boot_int (pa_cons (pv 5) pa_nil)) (pv 4)) pe_int (nomark _)))) pss_nil)
 (pss_cons (ps_if (pw_or (pt_cmpR op_ne (pe_cmpR (op_in_own c_cont hr) (pv 4) (pv 6) (by with_unfolding_all rfl)) (pv 8) (nomark _)) (pw_or1 (pt_cmpR op_eq (pe_cmpR (op_in_own c_cont hr) (pv 4) (pv 7) (by with_unfolding_all rfl)) (pv 8) (nomark _)))).pt (pss_one (ps_ret pe_bl)) pss_nil)
 (pss_one (ps_if (pt_cmpR op_ne (pe_cl0 c_isz hr (pa_cons (pv 5) (pa_cons (pv 4) pa_nil))) (pv 8) (nomark _)) (pss_one (ps_ret pe_bl)) pss_nil))))))
 (pss_one (ps_for PassesOwn.never rfl (pi_tup (pe_fld (pv 6) rfl)) (pg_name (i := 4) sc_law.nd rfl (Or.inl rfl)) (pss_one (ps_if (pw_or (pt_not (pt_val (pe_cl c_lprime hr (pa_cons (pv 4) pa_nil)))) (pw_or1 (pt_cmpR op_ne (pe_op op_mod (pe_callTy call_int1 (by rfl) TT.int boot_int (pa_cons (pv 5) pa_nil)) (pv 4)) pe_int (nomark _)))).pt (pss_one (ps_ret pe_bl)) pss_nil))))))))))
 (Evl.pss_cut (ps_asg (pv 1) (pg_lst rfl (pgs_cons (pg_name (i := 9) sc_law.nd rfl (Or.inl rfl)) (pgs_cons (pg_name (i := 10) sc_law.nd rfl (Or.inl rfl)) pgs_nil))))
 (pss_cons (ps_if (pt_not (pt_cmpR (op_eq_own c_eq hr) (pe_cm c_zero hr (pe_glob (v := .ref C) (by rfl) T.g rfl) (pa_cons (pe_op op_mul (pv 9) (pv 10)) pa_nil)) (pe_op (op_own2 c_or hr T.sf) (pe_cm c_zero hr (pe_glob (v := .ref C) (by rfl) T.g rfl) (pa_cons (pv 9) pa_nil)) (pe_cm c_zero hr (pe_glob (v := .ref C) (by rfl) T.g rfl) (pa_cons (pv 10) pa_nil))) (nomark _))) (pss_one (ps_ret pe_bl)) pss_nil)
 (pss_one (ps_ret (pe_cmpR (op_eq_own c_eq hr) (pe_cm c_zero hr (pe_glob (v := .ref C) (by rfl) T.g rfl) (pa_cons (pe_cl c_common hr (pa_cons (pv 9) (pa_cons (pv 10) pa_nil))) pa_nil)) (pe_op (op_own2 c_and hr T.sf) (pe_cm c_zero hr (pe_glob (v := .ref C) (by rfl) T.g rfl) (pa_cons (pv 9) pa_nil)) (pe_cm c_zero hr (pe_glob (v := .ref C) (by rfl) T.g rfl) (pa_cons (pv 10) pa_nil))) (nomark _))))))))), ?_⟩
    -- numbers
    refine ⟨fun σ H' => Same H H' ∧ ∃ (nu : Addr) (a b : Int), H' nu = some (.lst [.int a, .int b]) ∧ absI a ≤ 200000 ∧ absI b ≤ 200000 ∧ σ = [some (.ref l), some (.ref nu), none, none, none, none, none, none, none, none, none], ?_, ?_⟩
    · refine ⟨2, rfl, by decide, by decide, fun D hD => lc_range (lo := 0) (n := 2) (fun i H' => Same H H' ∧ ∃ acc : List Int, H' D = some (.lst (acc.map V.int)) ∧ acc.length = i ∧ ∀ z ∈ acc, absI z ≤ 200000)
        ⟨same_upd hD, [], upd_same, rfl, fun _ h => nomatch h⟩ ?_ ?_⟩
      · rintro i H1 hi ⟨s1, acc, hacc, hl, hb⟩
        refine ⟨rfl, ?_⟩
        refine ⟨_, rfl, _, rfl, l, ns, i, (by rw [Int.zero_add] <;> rfl), s1.seq hS, fun c => ⟨c, rfl, fun p H2 np s2 P2 => ⟨p, rfl, P2, fun v H3 bv sb => ?_⟩⟩⟩
        have s3 : Same H1 H3 := SameBut.same s2 np sb
        refine ⟨_, s3 _ _ hacc, by rw [List.length_map]; exact small1000 (by omega), fun b o eb => ?_, acc ++ [v], ?_, ?_, ?_⟩
        · rw [upd_ne (ne_of_none eb hD)]
          exact s3 _ _ (s1 _ _ eb)
        · rw [List.map_append]
          exact upd_same
        · rw [List.length_append, hl]
          rfl
        · intro z hz
          rcases List.mem_append.mp hz with h | h
          · exact hb z h
          · rw [List.mem_singleton.mp h]
            exact bv
      · rintro H1 ⟨s1, acc, hacc, hl, hb⟩
        match acc, hl with
        | [a, b], _ => exact ⟨s1, D, a, b, hacc, hb a List.mem_cons_self, hb b (List.mem_cons_of_mem _ List.mem_cons_self), rfl⟩
    rintro σ H1 ⟨s1, nu, a, b, hnu, ba, bb, rfl⟩
    -- clocks
    refine ⟨fun σ H' => Same H1 H' ∧ ∃ (ck : Addr) (cs : List Int), H' ck = some (.lst (cs.map V.int)) ∧ Clk cs ∧ σ = [some (.ref l), some (.ref nu), none, some (.ref ck), none, none, none, none, none, none, none], ?_, ?_⟩
    · refine ⟨(by show 1 ≤ sizeLine; decide), fun q1 n1 => ?_⟩
      have g1 := same_upd (o := .lst [.int 0]) n1
      refine ⟨2, 60, rfl, ⟨by decide, by decide, by decide, by decide⟩, fun D hD => lc_range (lo := 2) (n := 58) (fun i H' => Same (upd H1 q1 (.lst [.int 0])) H' ∧ ∃ acc : List Int, H' D = some (.lst (acc.map V.int)) ∧ acc.length ≤ i ∧ Clk acc)
        ⟨same_upd hD, [], upd_same, Nat.le_refl _, fun _ h => nomatch h⟩ ?_ ?_⟩
      · rintro i H2 hi ⟨s2, acc, hacc, hl, hc⟩
        refine ⟨rfl, _, rfl, 2 + (i : Int), rfl, by omega, _, rfl, ?_⟩
        by_cases hp : Pr (2 + (i : Int))
        · refine if_pos_of (prB_true hp) ?_
          refine ⟨_, rfl, _, hacc, by rw [List.length_map]; exact small1000 (by omega), fun b o eb => ?_, acc ++ [2 + (i : Int)], ?_, ?_, ?_⟩
          · rw [upd_ne (ne_of_none eb hD)]
            exact s2 _ _ eb
          · rw [List.map_append]
            exact upd_same
          · rw [List.length_append]
            show acc.length + 1 ≤ i + 1
            omega
          · intro z hz
            rcases List.mem_append.mp hz with h | h
            · exact hc z h
            · rw [List.mem_singleton.mp h]
              exact ⟨.inr hp, by omega, by omega⟩
        · refine if_neg_of (prB_false hp) ?_
          exact ⟨s2, acc, hacc, by omega, hc⟩
      · rintro H2 ⟨s2, acc, hacc, hl, hc⟩
        refine ⟨q1, D, _, _, rfl, rfl, s2 _ _ upd_same, hacc, (by rw [List.length_map]; exact Nat.le_of_lt (small1000 (by show 1 + acc.length ≤ 1000; omega))), fun q2 n2 => ?_⟩
        have g2 := same_upd (o := .lst ([.int 0] ++ acc.map V.int)) n2
        refine ⟨(by show 2 ≤ sizeLine; decide), fun q3 n3 => ?_⟩
        have g3 := same_upd (o := .lst [.int 9973, .int 999983]) n3
        refine ⟨q2, q3, _, _, rfl, rfl, g3 _ _ upd_same, upd_same, (by rw [List.length_append, List.length_map]; exact Nat.le_of_lt (small1000 (by show 1 + acc.length + 2 ≤ 1000; omega))), fun q4 n4 => ?_⟩
        refine ⟨((g1.trans s2).trans (g2.trans g3)).trans (same_upd n4), q4, 0 :: acc ++ [9973, 999983], ?_, ?_, rfl⟩
        · rw [List.map_append]
          exact upd_same
        · intro z hz
          rcases List.mem_append.mp hz with h | h
          · rcases List.mem_cons.mp h with h | h
            · rw [h]
              exact ⟨.inl rfl, by decide, by decide⟩
            · exact hc z h
          · rcases List.mem_cons.mp h with h | h
            · rw [h]
              exact ⟨.inr pr_9973, by decide, by decide⟩
            · rw [List.mem_singleton.mp h]
              exact ⟨.inr pr_999983, by decide, by decide⟩
    rintro σ H2 ⟨s2, ck, cs, hck, hclk, rfl⟩
    have hnu2 := s2 _ _ hnu
    -- for n in ..
    refine ⟨fun σ H' => Same H2 H' ∧ ∃ x4 x5 x6 x7 x8, σ = [some (.ref l), some (.ref nu), none, some (.ref ck), x4, x5, x6, x7, x8, none, none], ?_, ?_⟩
    · refine ⟨_, rfl, _, rfl, 1, rfl, nu, _, rfl, SqL.of hnu2, fun q1 n1 => ?_⟩
      have g1 := same_upd (o := .lst [.int a]) n1
      refine ⟨nu, q1, _, _, rfl, rfl, g1 _ _ hnu2, upd_same, (by show 3 ≤ sizeLine; decide), fun q2 n2 => ?_⟩
      have g2 := same_upd (o := .lst [.int a, .int b, .int a]) n2
      refine ⟨_, rfl, (by show 3 ≤ sizeLine; decide), fun q3 n3 => ?_⟩
      have g3 := same_upd (o := .lst [.int 1, .int (-1), .int 0]) n3
      refine ⟨q2, q3, _, _, rfl, rfl, g3 _ _ upd_same, upd_same, (by show 6 ≤ sizeLine; decide), fun q4 n4 => ?_⟩
      have g4 := same_upd (o := .lst [.int a, .int b, .int a, .int 1, .int (-1), .int 0]) n4
      have gs := ((g1.trans g2).trans g3).trans g4
      have all : ∀ x ∈ ([.int a, .int b, .int a, .int 1, .int (-1), .int 0] : List V), ∃ z : Int, x = .int z ∧ absI z ≤ 200000 :=
        allC ⟨a, rfl, ba⟩ (allC ⟨b, rfl, bb⟩ (allC ⟨a, rfl, ba⟩ (allC ⟨1, rfl, by decide⟩ (allC ⟨-1, rfl, by decide⟩ (allC ⟨0, rfl, by decide⟩ allN)))))
      refine ⟨q4, rfl, ⟨_, SqL.of upd_same⟩, for_list (K := K) (a := q4) (xs := [.int a, .int b, .int a, .int 1, .int (-1), .int 0]) (fun _ σ H' => Same _ H' ∧ ∃ x4 x5 x6 x7 x8, σ = [some (.ref l), some (.ref nu), none, some (.ref ck), x4, x5, x6, x7, x8, none, none])
        ⟨Same.refl _, _, _, _, _, _, rfl⟩ (fun i σ H' _ h => h.1.seq (SqL.of upd_same)) ?_ ?_⟩
      · rintro i y σ H4 hi ⟨s4, x4, x5, x6, x7, x8, rfl⟩
        obtain ⟨z, rfl, hz⟩ := all y (List.mem_of_getElem? hi)
        have hb : absI z < 2 ^ 62 := by omega
        have hck4 := s4 _ _ (gs _ _ hck)
        -- found
        refine ⟨fun σ H' => Same H4 H' ∧ ∃ (r : Addr) (l1 : List Int), CharsAt C H' r (decide (z = 0)) l1 ∧ zl z l1 ∧ σ = [some (.ref l), some (.ref nu), none, some (.ref ck), x4, some (.int z), some (.ref r), x7, x8, none, none], ?_, ?_⟩
        · refine ⟨rfl, _, rfl, z, rfl, hb, fun r l1 H5 ch hz1 s5 => ?_⟩
          rw [if_neg (by decide)] at ch
          exact ⟨s5, r, l1, ch, hz1, rfl⟩
        rintro σ H5 ⟨s5, r, l1, ch, hz1, rfl⟩
        -- others
        refine ⟨fun σ H' => Same H5 H' ∧ ∃ (r2 : Addr), CharsAt C H' r2 (!decide (z = 0)) l1 ∧ σ = [some (.ref l), some (.ref nu), none, some (.ref ck), x4, some (.int z), some (.ref r), some (.ref r2), x8, none, none], ?_, ?_⟩
        · refine ⟨rfl, _, rfl, z, rfl, hb, fun r2 l2 H6 ch2 hz2 s6 => ?_⟩
          rw [if_pos rfl] at ch2
          have el := zl_uniq hz2 hz1
          subst el
          exact ⟨s6, r2, ch2, rfl⟩
        rintro σ H6 ⟨s6, r2, ch2, rfl⟩
        have ch6 := ch.same s6
        have few := zl_few hz1 hz
        obtain ⟨dx, t, o1, o2⟩ := ch6.ob
        obtain ⟨dy, u, p1, p2⟩ := ch2.ob
        refine ⟨fun σ H' => Same H6 H' ∧ σ = [some (.ref l), some (.ref nu), none, some (.ref ck), x4, some (.int z), some (.ref r), some (.ref r2), x8, none, none], ?_, ?_⟩
        · refine ⟨_, rfl, _, rfl, r, dx, _, rfl, o1, r, _, l1, rfl, ch6, by omega, fun r3 H7 ch3 s7 => ?_⟩
          obtain ⟨dz, v, w1, w2⟩ := ch3.ob
          have p7 := s7 _ _ p1
          have o7 := s7 _ _ o1
          refine ⟨r2, r3, _, _, _, _, rfl, rfl, p7, w1, r2, r3, _, _, _, _, rfl, ch2.same s7, ch3, _, rfl, if_neg_of (by simp) ?_⟩
          refine ⟨_, rfl, r, C, dx, _, _, rfl, o7, T.cl, T.nE, chF_e _ _, _, rfl, rfl, rfl, _, rfl, iteNS (by rw [dec_int]) ?_⟩
          refine ⟨_, rfl, _, rfl, r, r2, dx, dy, _, _, rfl, rfl, o7, p7, r, r2, _, _, _, _, rfl, ch6.same s7, ch2.same s7, by omega, fun r4 l4 H8 ch4 len4 mem4 s8 => ?_⟩
          obtain ⟨n1', n2'⟩ := and_none mem4
          obtain ⟨d4, t4, y1, y2⟩ := ch4.ob
          refine ⟨r4, d4, _, rfl, y1, r4, _, l4, rfl, ch4, _, rfl, if_neg_of (by rw [n1', n2']; rfl) ?_⟩
          exact ⟨s7.trans s8, rfl⟩
        rintro σ H7 ⟨s7, rfl⟩
        have ch7 := ch6.same s7
        have ch27 := ch2.same s7
        refine ⟨fun σ H' => Same H7 H' ∧ σ = [some (.ref l), some (.ref nu), none, some (.ref ck), x4, some (.int z), some (.ref r), some (.ref r2), x8, none, none], ?_, ?_⟩
        · refine ⟨_, rfl, _, rfl, r, r2, dx, dy, _, _, rfl, rfl, s7 _ _ o1, s7 _ _ p1, r, r2, _, _, _, _, rfl, ch7, ch27, by omega, fun r5 l5 H8 ch5 len5 mem5 s8 => ?_⟩
          obtain ⟨n1', n2'⟩ := or_all mem5
          refine ⟨rfl, rfl, fun r6 H9 ch6' s9 => ?_⟩
          obtain ⟨d5, t5, y1, y2⟩ := ch5.ob
          obtain ⟨d6, t6, y3, y4⟩ := ch6'.ob
          refine ⟨r5, r6, _, _, _, _, rfl, rfl, s9 _ _ y1, y3, r5, r6, _, _, _, _, rfl, ch5.same s9, ch6', _, rfl, if_neg_of (by rw [n1', n2']; rfl) ?_⟩
          exact ⟨s8.trans s9, rfl⟩
        rintro σ H8 ⟨s8, rfl⟩
        have ch8 := ch7.same s8
        have ch28 := ch27.same s8
        have hck8 := s8 _ _ (s7 _ _ (s6 _ _ (s5 _ _ hck4)))
        refine ⟨fun σ H' => Same H8 H' ∧ ∃ x4 x8, σ = [some (.ref l), some (.ref nu), none, some (.ref ck), x4, some (.int z), some (.ref r), some (.ref r2), x8, none, none], ?_, ?_⟩
        · refine ⟨_, rfl, ck, rfl, ⟨_, SqL.of hck8⟩, for_list (K := K) (a := ck) (xs := cs.map V.int) (fun _ σ H' => Same H8 H' ∧ ∃ x4 x8, σ = [some (.ref l), some (.ref nu), none, some (.ref ck), x4, some (.int z), some (.ref r), some (.ref r2), x8, none, none])
            ⟨Same.refl _, _, _, rfl⟩ (fun i σ H' _ h => h.1.seq (SqL.of hck8)) ?_ ?_⟩
          · rintro j y σ H9 hj ⟨s9, x4, x8, rfl⟩
            obtain ⟨c, rfl, hcj⟩ := item_int hj
            obtain ⟨hc, hc2, hc0⟩ := hclk c (List.mem_of_getElem? hcj)
            refine ⟨_, rfl, rfl, ?_⟩
            refine ⟨fun σ H' => H' = H9 ∧ σ = [some (.ref l), some (.ref nu), none, some (.ref ck), some (.int c), some (.int z), some (.ref r), some (.ref r2), some (.bl (dueB z c)), none, none], ?_, ?_⟩
            · refine ⟨_, rfl, _, _, rfl, rfl, _, rfl, ?_⟩
              by_cases c0 : 0 < c
              · refine if_pos_of (decide_eq_true c0) ?_
                refine ⟨_, rfl, .inl ⟨_, rfl, _, rfl, _, _, rfl, rfl, c0, rfl, rfl, ?_⟩⟩
                unfold dueB
                rw [if_pos c0]
                rfl
              · refine if_neg_of (decide_eq_false c0) ?_
                refine ⟨rfl, ?_⟩
                unfold dueB
                rw [if_neg c0]
                rfl
            rintro σ _ ⟨rfl, rfl⟩
            have ch9 := ch8.same s9
            have ch29 := ch28.same s9
            have o9 := s9 _ _ (s8 _ _ (s7 _ _ o1))
            have p9 := s9 _ _ (s8 _ _ (s7 _ _ p1))
            have md : memB (decide (z = 0)) l1 c = dueB z c := bool_iff (zl_mem ⟨_, ch9⟩ hz1 c) (due_mem hc)
            have md2 : memB (!decide (z = 0)) l1 c = !dueB z c := by rw [memB_not, md]
            refine ⟨_, rfl, _, rfl, r, dx, _, rfl, o9, r, _, l1, c, rfl, ch9, _, rfl, _, rfl, rfl, _, rfl, iteNS (congrArg V.bl (by show memB _ _ _ = dueB z c; exact md)) ?_⟩
            refine ⟨_, rfl, _, rfl, r2, dy, _, rfl, p9, r2, _, l1, c, rfl, ch29, _, rfl, _, rfl, rfl, _, rfl, if_neg_of (decide_eq_false fun e => ?_) ?_⟩
            · have e2 : memB (!decide (z = 0)) l1 c = dueB z c := V.bl.inj e
              rw [md2] at e2
              cases hd : dueB z c <;> rw [hd] at e2 <;> cases e2
            have d0 : c = 0 → decide (V.int z = V.int 0) = dueB z c := fun h => by
              unfold dueB
              rw [if_neg (by omega)]
            have d1 : Pr c → decide (V.int (z % c) = V.int 0) = dueB z c := fun h => by
              have := h.1
              unfold dueB
              rw [if_pos (by omega)]
            refine ⟨_, rfl, _, rfl, z, c, rfl, by omega, fun h => ?_, fun h => ?_, fun h => absurd hc h⟩
            · rw [d0 h]
              refine ⟨_, rfl, rfl, _, rfl, iteNS rfl ?_⟩
              exact ⟨s9, _, _, rfl⟩
            · rw [d1 h]
              refine ⟨_, rfl, rfl, _, rfl, iteNS rfl ?_⟩
              exact ⟨s9, _, _, rfl⟩
          · rintro σ H9 ⟨s9, x4, x8, rfl⟩
            exact ⟨s9, _, _, rfl⟩
        rintro σ H9 ⟨s9, x4, x8, rfl⟩
        have o9 := s9 _ _ (s8 _ _ (s7 _ _ o1))
        have t9 := s9 _ _ (s8 _ _ (s7 _ _ o2))
        have s49 := (((s5.trans s6).trans s7).trans s8).trans s9
        refine ⟨_, rfl, r, C, dx, _, _, rfl, o9, T.cl, T.nP, chF_p _ _, t, rfl, ⟨_, .inl (.inl t9)⟩, for_tup (K := K) (a := t) (xs := l1.map V.int) (fun _ σ H' => H' = H9 ∧ ∃ x4, σ = [some (.ref l), some (.ref nu), none, some (.ref ck), x4, some (.int z), some (.ref r), some (.ref r2), x8, none, none])
          ⟨rfl, _, rfl⟩ (fun i σ H' _ h => by rw [h.1]; exact .inl (.inl t9)) ?_ ?_⟩
        · rintro j y σ _ hj ⟨rfl, x4, rfl⟩
          obtain ⟨c, rfl, hcj⟩ := item_int hj
          have hm := List.mem_of_getElem? hcj
          obtain ⟨pc, bc⟩ := ch.prm c hm
          have dc : c ∣ z := by
            by_cases z0 : z = 0
            · rw [hz1.1 z0] at hm
              cases hm
            · have h1 := ((hz1.2.1 z0).2 c).mp hm
              have e : absI z = z ∨ absI z = -z := by unfold absI; split <;> omega
              rcases e with e | e
              · rw [e] at h1
                exact h1.2
              · rw [e, Int.dvd_neg] at h1
                exact h1.2
          refine ⟨_, rfl, c, rfl, bc, _, rfl, if_neg_of (by rw [prB_true pc]; rfl) ?_⟩
          refine ⟨_, rfl, .inl ⟨_, rfl, _, rfl, _, _, rfl, rfl, (by show 0 < c; have := pc.1; omega), rfl, _, rfl, iteNS (congrArg V.int (Int.emod_eq_zero_of_dvd dc)) ?_⟩⟩
          exact ⟨rfl, _, rfl⟩
        · rintro σ _ ⟨rfl, x4, rfl⟩
          exact ⟨s4.trans s49, _, _, _, _, _, rfl⟩
      · rintro σ H4 ⟨s4, x4, x5, x6, x7, x8, rfl⟩
        exact ⟨gs.trans s4, _, _, _, _, _, rfl⟩
    rintro σ H3 ⟨s3, x4, x5, x6, x7, x8, rfl⟩
    have hnu3 := s3 _ _ hnu2
    refine ⟨fun σ H' => H' = H3 ∧ σ = [some (.ref l), some (.ref nu), none, some (.ref ck), x4, x5, x6, x7, x8, some (.int a), some (.int b)], ?_, ?_⟩
    · exact ⟨_, rfl, nu, _, rfl, SqL.of hnu3, rfl, _, _, rfl, _, _, rfl, rfl, rfl, rfl⟩
    rintro σ _ ⟨rfl, rfl⟩
    have a1 : a.natAbs ≤ 200000 := by unfold absI at ba; split at ba <;> omega
    have b1 : b.natAbs ≤ 200000 := by unfold absI at bb; split at bb <;> omega
    have ab1 : (a * b).natAbs ≤ 40000000000 := by
      rw [Int.natAbs_mul]
      exact Nat.le_trans (Nat.mul_le_mul a1 b1) (by decide)
    have bab : absI (a * b) < 2 ^ 62 := by unfold absI; split <;> omega
    refine ⟨rfl, _, rfl, _, rfl, _, _, rfl, rfl, .inl ⟨by omega, by omega⟩, a * b, rfl, bab, fun r l1 H5 ch hz s5 => ?_⟩
    refine ⟨rfl, _, rfl, a, rfl, by omega, fun ra la H6 cha za s6 => ⟨rfl, _, rfl, b, rfl, by omega, fun rb lb H7 chb zb s7 => ?_⟩⟩
    rw [if_neg (by decide)] at ch cha chb
    have fa := zl_few za ba
    have fb := zl_few zb bb
    obtain ⟨d1, t1, o1, _⟩ := ch.ob
    obtain ⟨d2, t2, o2, _⟩ := cha.ob
    obtain ⟨d3, t3, o3, _⟩ := chb.ob
    refine ⟨ra, rb, _, _, _, _, rfl, rfl, s7 _ _ o2, o3, ra, rb, _, _, _, _, rfl, cha.same s7, chb, by omega, fun ro lo H8 cho leno memo s8 => ?_⟩
    obtain ⟨d4, t4, o4, _⟩ := cho.ob
    obtain ⟨z1, z2⟩ := set_or ch hz cha za chb zb cho.srt memo
    refine ⟨r, ro, _, _, _, _, rfl, rfl, s8 _ _ (s7 _ _ (s6 _ _ o1)), o4, r, ro, _, _, _, _, rfl, ((ch.same s6).same s7).same s8, cho, _, rfl, if_neg_of (by rw [z1, z2]; simp) ?_⟩
    have g1 : ((a.gcd b : Nat) : Int) ≤ 200000 ∨ a = 0 := by
      by_cases c : a = 0
      · exact .inr c
      · refine .inl ?_
        have := Int.le_of_dvd (a := ((a.gcd b : Nat) : Int)) (b := (a.natAbs : Int)) (by omega) (Int.dvd_natAbs.mpr (Int.gcd_dvd_left a b))
        omega
    have bg : absI ((a.gcd b : Nat) : Int) < 2 ^ 62 := by
      rcases g1 with h | h
      · unfold absI
        split <;> omega
      · rw [h, Int.gcd_zero_left]
        unfold absI
        split <;> omega
    refine ⟨rfl, _, rfl, _, rfl, a, b, rfl, _, rfl, bg, fun r' l1' H9 ch' hz' s9 => ?_⟩
    refine ⟨rfl, _, rfl, a, rfl, by omega, fun ra' la' H10 cha' za' s10 => ⟨rfl, _, rfl, b, rfl, by omega, fun rb' lb' H11 chb' zb' s11 => ?_⟩⟩
    rw [if_neg (by decide)] at ch' cha' chb'
    have fa' := zl_few za' ba
    have fb' := zl_few zb' bb
    obtain ⟨d1', t1', o1', _⟩ := ch'.ob
    obtain ⟨d2', t2', o2', _⟩ := cha'.ob
    obtain ⟨d3', t3', o3', _⟩ := chb'.ob
    refine ⟨ra', rb', _, _, _, _, rfl, rfl, s11 _ _ o2', o3', ra', rb', _, _, _, _, rfl, cha'.same s11, chb', by omega, fun ro' lo' H12 cho' leno' memo' s12 => ?_⟩
    obtain ⟨d4', t4', o4', _⟩ := cho'.ob
    obtain ⟨z1', z2'⟩ := set_and ch' hz' cha' za' chb' zb' cho'.srt memo'
    refine ⟨r', ro', _, _, _, _, rfl, rfl, s12 _ _ (s11 _ _ (s10 _ _ o1')), o4', r', ro', _, _, _, _, rfl, ((ch'.same s10).same s11).same s12, cho', ?_⟩
    rw [decide_eq_true ⟨z1', z2'⟩]
    exact q _
end
theorem all_mk {P : Program} {w : World} {K : PySem.W.Frag} {h : Heap} {mg : Str → Option Value} {fa : Addr} (X : K.In h) (G : h.Ns mainGlobals mg) (hfa : mg "law" = some (.ref fa))
    {f_least : Addr} {od_least an_least : Option Addr} {sl_least : Array (Option Value)} {oc_least kV_least dc_least pm_least cd_least ct_least : Value}
    {f_prime : Addr} {od_prime an_prime : Option Addr} {sl_prime : Array (Option Value)} {oc_prime kV_prime dc_prime pm_prime cd_prime ct_prime : Value}
    {f_divs : Addr} {od_divs an_divs : Option Addr} {sl_divs : Array (Option Value)} {oc_divs kV_divs dc_divs pm_divs cd_divs ct_divs : Value}
    {f_chkp : Addr} {od_chkp an_chkp : Option Addr} {sl_chkp : Array (Option Value)} {oc_chkp kV_chkp dc_chkp pm_chkp cd_chkp ct_chkp : Value}
    {f_checked : Addr} {od_checked an_checked : Option Addr} {sl_checked : Array (Option Value)} {oc_checked kV_checked dc_checked pm_checked cd_checked ct_checked : Value}
    {f_rem : Addr} {od_rem an_rem : Option Addr} {sl_rem : Array (Option Value)} {oc_rem kV_rem dc_rem pm_rem cd_rem ct_rem : Value}
    {f_zero : Addr} {od_zero an_zero : Option Addr} {sl_zero : Array (Option Value)} {oc_zero kV_zero dc_zero pm_zero cd_zero ct_zero : Value}
    {f_common : Addr} {od_common an_common : Option Addr} {sl_common : Array (Option Value)} {oc_common kV_common dc_common pm_common cd_common ct_common : Value}
    {f_pool : Addr} {od_pool an_pool : Option Addr} {sl_pool : Array (Option Value)} {oc_pool kV_pool dc_pool pm_pool cd_pool ct_pool : Value}
    {f_take : Addr} {od_take an_take : Option Addr} {sl_take : Array (Option Value)} {oc_take kV_take dc_take pm_take cd_take ct_take : Value}
    {f_cell : Addr} {od_cell an_cell : Option Addr} {sl_cell : Array (Option Value)} {oc_cell kV_cell dc_cell pm_cell cd_cell ct_cell : Value}
    {f_lprime : Addr} {od_lprime an_lprime : Option Addr} {sl_lprime : Array (Option Value)} {oc_lprime kV_lprime dc_lprime pm_lprime cd_lprime ct_lprime : Value}
    {f_number : Addr} {od_number an_number : Option Addr} {sl_number : Array (Option Value)} {oc_number kV_number dc_number pm_number cd_number ct_number : Value}
    {f_law : Addr} {od_law an_law : Option Addr} {sl_law : Array (Option Value)} {oc_law kV_law dc_law pm_law cd_law ct_law : Value}
    {CF : Addr}
    {C_ibn f_ibn : Addr} {nm_ibn q_ibn : Str} {N_ibn : Addr} {bs_ibn sb_ibn : List Value} {sn_ibn : List Str} {ab_ibn : Bool} {co_ibn : Option Bool} {dd_ibn : Option Addr} {x0_ibn x1_ibn x2_ibn x3_ibn x5_ibn : Option Value} {od_ibn an_ibn : Option Addr} {sl_ibn : Array (Option Value)} {oc_ibn kV_ibn dc_ibn pm_ibn cd_ibn ct_ibn : Value}
    {C_ibc f_ibc : Addr} {nm_ibc q_ibc : Str} {N_ibc : Addr} {bs_ibc sb_ibc : List Value} {sn_ibc : List Str} {ab_ibc : Bool} {co_ibc : Option Bool} {dd_ibc : Option Addr} {x0_ibc x1_ibc x2_ibc x3_ibc x5_ibc : Option Value} {od_ibc an_ibc : Option Addr} {sl_ibc : Array (Option Value)} {oc_ibc kV_ibc dc_ibc pm_ibc cd_ibc ct_ibc : Value}
    {C_ch : Addr}
    {f_cinit : Addr} {od_cinit an_cinit : Option Addr} {sl_cinit : Array (Option Value)} {oc_cinit kV_cinit dc_cinit pm_cinit cd_cinit ct_cinit : Value}
    {f_ccont : Addr} {od_ccont an_ccont : Option Addr} {sl_ccont : Array (Option Value)} {oc_ccont kV_ccont dc_ccont pm_ccont cd_ccont ct_ccont : Value}
    {f_cand : Addr} {od_cand an_cand : Option Addr} {sl_cand : Array (Option Value)} {oc_cand kV_cand dc_cand pm_cand cd_cand ct_cand : Value}
    {f_cor : Addr} {od_cor an_cor : Option Addr} {sl_cor : Array (Option Value)} {oc_cor kV_cor dc_cor pm_cor cd_cor ct_cor : Value}
    {f_cinv : Addr} {od_cinv an_cinv : Option Addr} {sl_cinv : Array (Option Value)} {oc_cinv kV_cinv dc_cinv pm_cinv cd_cinv ct_cinv : Value}
    {f_ceq : Addr} {od_ceq an_ceq : Option Addr} {sl_ceq : Array (Option Value)} {oc_ceq kV_ceq dc_ceq pm_ceq cd_ceq ct_ceq : Value}
    {f_cbool : Addr} {od_cbool an_cbool : Option Addr} {sl_cbool : Array (Option Value)} {oc_cbool kV_cbool dc_cbool pm_cbool cd_cbool ct_cbool : Value}
    {f_cevery : Addr} {od_cevery an_cevery : Option Addr} {sl_cevery : Array (Option Value)} {oc_cevery kV_cevery dc_cevery pm_cevery cd_cevery ct_cevery : Value}
    {p_cevery : Addr} {r_cevery : List Value}
    {f_czero : Addr} {od_czero an_czero : Option Addr} {sl_czero : Array (Option Value)} {oc_czero kV_czero dc_czero pm_czero cd_czero ct_czero : Value}
    {p_czero : Addr} {r_czero : List Value}
    {f_cunit : Addr} {od_cunit an_cunit : Option Addr} {sl_cunit : Array (Option Value)} {oc_cunit kV_cunit dc_cunit pm_cunit cd_cunit ct_cunit : Value}
    {p_cunit : Addr} {r_cunit : List Value}
    (a_least : PySem.W.nsIn K mainGlobals "_least_divisor" = some (some (.ref f_least))) (l_least : K.lookup f_least = some ⟨oc_least, od_least, .func (PySem.W.fnOf "_least_divisor" "_least_divisor" (defArgs s_least) (defBody s_least) (defScope s_least) .none kV_least dc_least pm_least an_least cd_least ct_least), sl_least⟩) (c_least : PySem.W.codeIn K cd_least "_least_divisor" = true) (k_least : PySem.W.keepIn K (.ref f_least) = true)
    (a_prime : PySem.W.nsIn K mainGlobals "is_prime" = some (some (.ref f_prime))) (l_prime : K.lookup f_prime = some ⟨oc_prime, od_prime, .func (PySem.W.fnOf "is_prime" "is_prime" (defArgs s_prime) (defBody s_prime) (defScope s_prime) .none kV_prime dc_prime pm_prime an_prime cd_prime ct_prime), sl_prime⟩) (c_prime : PySem.W.codeIn K cd_prime "is_prime" = true) (k_prime : PySem.W.keepIn K (.ref f_prime) = true)
    (a_divs : PySem.W.nsIn K mainGlobals "prime_divisors" = some (some (.ref f_divs))) (l_divs : K.lookup f_divs = some ⟨oc_divs, od_divs, .func (PySem.W.fnOf "prime_divisors" "prime_divisors" (defArgs s_divs) (defBody s_divs) (defScope s_divs) .none kV_divs dc_divs pm_divs an_divs cd_divs ct_divs), sl_divs⟩) (c_divs : PySem.W.codeIn K cd_divs "prime_divisors" = true) (k_divs : PySem.W.keepIn K (.ref f_divs) = true)
    (a_chkp : PySem.W.nsIn K mainGlobals "checked_prime" = some (some (.ref f_chkp))) (l_chkp : K.lookup f_chkp = some ⟨oc_chkp, od_chkp, .func (PySem.W.fnOf "checked_prime" "checked_prime" (defArgs s_chkp) (defBody s_chkp) (defScope s_chkp) .none kV_chkp dc_chkp pm_chkp an_chkp cd_chkp ct_chkp), sl_chkp⟩) (c_chkp : PySem.W.codeIn K cd_chkp "checked_prime" = true) (k_chkp : PySem.W.keepIn K (.ref f_chkp) = true)
    (a_checked : PySem.W.nsIn K mainGlobals "checked" = some (some (.ref f_checked))) (l_checked : K.lookup f_checked = some ⟨oc_checked, od_checked, .func (PySem.W.fnOf "checked" "checked" (defArgs s_checked) (defBody s_checked) (defScope s_checked) .none kV_checked dc_checked pm_checked an_checked cd_checked ct_checked), sl_checked⟩) (c_checked : PySem.W.codeIn K cd_checked "checked" = true) (k_checked : PySem.W.keepIn K (.ref f_checked) = true)
    (a_rem : PySem.W.nsIn K mainGlobals "remainder" = some (some (.ref f_rem))) (l_rem : K.lookup f_rem = some ⟨oc_rem, od_rem, .func (PySem.W.fnOf "remainder" "remainder" (defArgs s_rem) (defBody s_rem) (defScope s_rem) .none kV_rem dc_rem pm_rem an_rem cd_rem ct_rem), sl_rem⟩) (c_rem : PySem.W.codeIn K cd_rem "remainder" = true) (k_rem : PySem.W.keepIn K (.ref f_rem) = true)
    (a_zero : PySem.W.nsIn K mainGlobals "is_zero" = some (some (.ref f_zero))) (l_zero : K.lookup f_zero = some ⟨oc_zero, od_zero, .func (PySem.W.fnOf "is_zero" "is_zero" (defArgs s_zero) (defBody s_zero) (defScope s_zero) .none kV_zero dc_zero pm_zero an_zero cd_zero ct_zero), sl_zero⟩) (c_zero : PySem.W.codeIn K cd_zero "is_zero" = true) (k_zero : PySem.W.keepIn K (.ref f_zero) = true)
    (a_common : PySem.W.nsIn K mainGlobals "common" = some (some (.ref f_common))) (l_common : K.lookup f_common = some ⟨oc_common, od_common, .func (PySem.W.fnOf "common" "common" (defArgs s_common) (defBody s_common) (defScope s_common) .none kV_common dc_common pm_common an_common cd_common ct_common), sl_common⟩) (c_common : PySem.W.codeIn K cd_common "common" = true) (k_common : PySem.W.keepIn K (.ref f_common) = true)
    (a_pool : PySem.W.nsIn K mainGlobals "_law_pool" = some (some (.ref f_pool))) (l_pool : K.lookup f_pool = some ⟨oc_pool, od_pool, .func (PySem.W.fnOf "_law_pool" "_law_pool" (defArgs s_pool) (defBody s_pool) (defScope s_pool) .none kV_pool dc_pool pm_pool an_pool cd_pool ct_pool), sl_pool⟩) (c_pool : PySem.W.codeIn K cd_pool "_law_pool" = true) (k_pool : PySem.W.keepIn K (.ref f_pool) = true)
    (a_take : PySem.W.nsIn K mainGlobals "_law_take" = some (some (.ref f_take))) (l_take : K.lookup f_take = some ⟨oc_take, od_take, .func (PySem.W.fnOf "_law_take" "_law_take" (defArgs s_take) (defBody s_take) (defScope s_take) .none kV_take dc_take pm_take an_take cd_take ct_take), sl_take⟩) (c_take : PySem.W.codeIn K cd_take "_law_take" = true) (k_take : PySem.W.keepIn K (.ref f_take) = true)
    (a_cell : PySem.W.nsIn K mainGlobals "_law_cell" = some (some (.ref f_cell))) (l_cell : K.lookup f_cell = some ⟨oc_cell, od_cell, .func (PySem.W.fnOf "_law_cell" "_law_cell" (defArgs s_cell) (defBody s_cell) (defScope s_cell) .none kV_cell dc_cell pm_cell an_cell cd_cell ct_cell), sl_cell⟩) (c_cell : PySem.W.codeIn K cd_cell "_law_cell" = true) (k_cell : PySem.W.keepIn K (.ref f_cell) = true)
    (a_lprime : PySem.W.nsIn K mainGlobals "_law_is_prime" = some (some (.ref f_lprime))) (l_lprime : K.lookup f_lprime = some ⟨oc_lprime, od_lprime, .func (PySem.W.fnOf "_law_is_prime" "_law_is_prime" (defArgs s_lprime) (defBody s_lprime) (defScope s_lprime) .none kV_lprime dc_lprime pm_lprime an_lprime cd_lprime ct_lprime), sl_lprime⟩) (c_lprime : PySem.W.codeIn K cd_lprime "_law_is_prime" = true) (k_lprime : PySem.W.keepIn K (.ref f_lprime) = true)
    (a_number : PySem.W.nsIn K mainGlobals "_law_number" = some (some (.ref f_number))) (l_number : K.lookup f_number = some ⟨oc_number, od_number, .func (PySem.W.fnOf "_law_number" "_law_number" (defArgs s_number) (defBody s_number) (defScope s_number) .none kV_number dc_number pm_number an_number cd_number ct_number), sl_number⟩) (c_number : PySem.W.codeIn K cd_number "_law_number" = true) (k_number : PySem.W.keepIn K (.ref f_number) = true)
    (a_law : PySem.W.nsIn K mainGlobals "law" = some (some (.ref f_law))) (l_law : K.lookup f_law = some ⟨oc_law, od_law, .func (PySem.W.fnOf "law" "law" (defArgs s_law) (defBody s_law) (defScope s_law) .none kV_law dc_law pm_law an_law cd_law ct_law), sl_law⟩) (c_law : PySem.W.codeIn K cd_law "law" = true) (k_law : PySem.W.keepIn K (.ref f_law) = true)
    (aF : PySem.W.nsIn K mainGlobals "FieldError" = some (some (.ref CF))) (rF : PySem.W.readsIn K CF (.type "type") = true) (gF : PySem.W.specialIn K (.ref CF) "__getattribute__" = some (some (.builtin "type.__getattribute__"))) (iF : PySem.W.findCls K (.ref CF) (.type "type") "__init__" = some (.val (.builtin "ValueError.__init__")))
    (aC_ibn : PySem.W.nsIn K mainGlobals "BadNumber" = some (some (.ref C_ibn))) (xC_ibn : K.lookup C_ibn = some (excClassObj nm_ibn q_ibn C_ibn N_ibn bs_ibn [.ref CF, .type "ValueError", .type "Exception", .type "BaseException", .type "object"] true sn_ibn sb_ibn ab_ibn co_ibn dd_ibn x0_ibn x1_ibn x2_ibn x3_ibn x5_ibn "ValueError.__new__")) (sa_ibn : PySem.W.findIn K (.ref C_ibn) "__setattr__" = some (some (.builtin "object.__setattr__"))) (ga_ibn : PySem.W.findIn K (.ref C_ibn) "__getattribute__" = some (some (.builtin "BaseException.__getattribute__"))) (gg_ibn : PySem.W.findIn K (.ref C_ibn) "__getattr__" = some none) (no_ibn : PySem.W.findIn K (.ref C_ibn) "n" = some none) (ic_ibn : PySem.W.findIn K (.ref C_ibn) "__init__" = some (some (.ref f_ibn))) (ti_ibn : PySem.W.typeIn K (.ref f_ibn) = some (.type "function")) (kc_ibn : PySem.W.keepIn K (.ref C_ibn) = true) (ec_ibn : PySem.W.subIn K (.ref C_ibn) (.type "BaseException") = some true) (tc_ibn : PySem.W.typeIn K (.ref C_ibn) = some (.type "type")) (hd_ibn : PySem.W.hasDictIn K C_ibn = true) (is_ibn : PySem.W.isClsIn K C_ibn = true) (sc_ibn : PySem.W.subIn K (.ref C_ibn) (.ref C_ibn) = some true) (l_ibn : K.lookup f_ibn = some ⟨oc_ibn, od_ibn, .func (PySem.W.fnOf "__init__" "BadNumber.__init__" (defArgs s_ibn) (defBody s_ibn) (defScope s_ibn) .none kV_ibn dc_ibn pm_ibn an_ibn cd_ibn ct_ibn), sl_ibn⟩) (c_ibn : PySem.W.codeIn K cd_ibn "BadNumber.__init__" = true) (k_ibn : PySem.W.keepIn K (.ref f_ibn) = true)
    (aC_ibc : PySem.W.nsIn K mainGlobals "BadCharacteristic" = some (some (.ref C_ibc))) (xC_ibc : K.lookup C_ibc = some (excClassObj nm_ibc q_ibc C_ibc N_ibc bs_ibc [.ref CF, .type "ValueError", .type "Exception", .type "BaseException", .type "object"] true sn_ibc sb_ibc ab_ibc co_ibc dd_ibc x0_ibc x1_ibc x2_ibc x3_ibc x5_ibc "ValueError.__new__")) (sa_ibc : PySem.W.findIn K (.ref C_ibc) "__setattr__" = some (some (.builtin "object.__setattr__"))) (ga_ibc : PySem.W.findIn K (.ref C_ibc) "__getattribute__" = some (some (.builtin "BaseException.__getattribute__"))) (gg_ibc : PySem.W.findIn K (.ref C_ibc) "__getattr__" = some none) (no_ibc : PySem.W.findIn K (.ref C_ibc) "p" = some none) (ic_ibc : PySem.W.findIn K (.ref C_ibc) "__init__" = some (some (.ref f_ibc))) (ti_ibc : PySem.W.typeIn K (.ref f_ibc) = some (.type "function")) (kc_ibc : PySem.W.keepIn K (.ref C_ibc) = true) (ec_ibc : PySem.W.subIn K (.ref C_ibc) (.type "BaseException") = some true) (tc_ibc : PySem.W.typeIn K (.ref C_ibc) = some (.type "type")) (hd_ibc : PySem.W.hasDictIn K C_ibc = true) (is_ibc : PySem.W.isClsIn K C_ibc = true) (sc_ibc : PySem.W.subIn K (.ref C_ibc) (.ref C_ibc) = some true) (l_ibc : K.lookup f_ibc = some ⟨oc_ibc, od_ibc, .func (PySem.W.fnOf "__init__" "BadCharacteristic.__init__" (defArgs s_ibc) (defBody s_ibc) (defScope s_ibc) .none kV_ibc dc_ibc pm_ibc an_ibc cd_ibc ct_ibc), sl_ibc⟩) (c_ibc : PySem.W.codeIn K cd_ibc "BadCharacteristic.__init__" = true) (k_ibc : PySem.W.keepIn K (.ref f_ibc) = true)
    (K_aK : PySem.W.nsIn K mainGlobals "Chars" = some (some (.ref C_ch)))
    (K_pg : PySem.W.plainGet K C_ch Str.empty = true)
    (K_hd : PySem.W.hasDictIn K C_ch = true)
    (K_po : PySem.W.plainOver K C_ch = true)
    (K_sa : PySem.W.findIn K (.ref C_ch) "__setattr__" = some (some (.builtin "object.__setattr__")))
    (K_sf : PySem.W.selfFirst K C_ch = true)
    (K_ha : PySem.W.findIn K (.ref C_ch) "__class__" = some (some (.builtin "object.__class__")))
    (K_hn : PySem.W.specialIn K (.builtin "object.__class__") "__get__" = some (some (.builtin "getset_descriptor.__get__")))
    (K_htk : PySem.W.takesIn K (.builtin "object.__class__") = some true)
    (K_hm : PySem.W.mroIn K C_ch (.type "object") = some true)
    (K_mk : PySem.W.makesIn K C_ch = true)
    (K_kp : PySem.W.keepIn K (.ref C_ch) = true)
    (K_no_endless : PySem.W.findIn K (.ref C_ch) "endless" = some none)
    (K_no_primes : PySem.W.findIn K (.ref C_ch) "primes" = some none)
    (K_rd : PySem.W.readsIn K C_ch (.type "type") = true)
    (K_sg : PySem.W.specialIn K (.ref C_ch) "__getattribute__" = some (some (.builtin "type.__getattribute__")))
    (K_at_cinit : PySem.W.findIn K (.ref C_ch) "__init__" = some (some (.ref f_cinit)))
    (K_fn_cinit : PySem.W.isFn K (.ref f_cinit) = true)
    (K_l_cinit : K.lookup f_cinit = some ⟨oc_cinit, od_cinit, .func (PySem.W.fnOf "__init__" "Chars.__init__" (defArgs s_cinit) (defBody s_cinit) (defScope s_cinit) .none kV_cinit dc_cinit pm_cinit an_cinit cd_cinit ct_cinit), sl_cinit⟩)
    (K_c_cinit : PySem.W.codeIn K cd_cinit "Chars.__init__" = true)
    (K_k_cinit : PySem.W.keepIn K (.ref f_cinit) = true)
    (K_at_ccont : PySem.W.findIn K (.ref C_ch) "__contains__" = some (some (.ref f_ccont)))
    (K_fn_ccont : PySem.W.isFn K (.ref f_ccont) = true)
    (K_l_ccont : K.lookup f_ccont = some ⟨oc_ccont, od_ccont, .func (PySem.W.fnOf "__contains__" "Chars.__contains__" (defArgs s_ccont) (defBody s_ccont) (defScope s_ccont) .none kV_ccont dc_ccont pm_ccont an_ccont cd_ccont ct_ccont), sl_ccont⟩)
    (K_c_ccont : PySem.W.codeIn K cd_ccont "Chars.__contains__" = true)
    (K_k_ccont : PySem.W.keepIn K (.ref f_ccont) = true)
    (K_at_cand : PySem.W.findIn K (.ref C_ch) "__and__" = some (some (.ref f_cand)))
    (K_fn_cand : PySem.W.isFn K (.ref f_cand) = true)
    (K_l_cand : K.lookup f_cand = some ⟨oc_cand, od_cand, .func (PySem.W.fnOf "__and__" "Chars.__and__" (defArgs s_cand) (defBody s_cand) (defScope s_cand) .none kV_cand dc_cand pm_cand an_cand cd_cand ct_cand), sl_cand⟩)
    (K_c_cand : PySem.W.codeIn K cd_cand "Chars.__and__" = true)
    (K_k_cand : PySem.W.keepIn K (.ref f_cand) = true)
    (K_at_cor : PySem.W.findIn K (.ref C_ch) "__or__" = some (some (.ref f_cor)))
    (K_fn_cor : PySem.W.isFn K (.ref f_cor) = true)
    (K_l_cor : K.lookup f_cor = some ⟨oc_cor, od_cor, .func (PySem.W.fnOf "__or__" "Chars.__or__" (defArgs s_cor) (defBody s_cor) (defScope s_cor) .none kV_cor dc_cor pm_cor an_cor cd_cor ct_cor), sl_cor⟩)
    (K_c_cor : PySem.W.codeIn K cd_cor "Chars.__or__" = true)
    (K_k_cor : PySem.W.keepIn K (.ref f_cor) = true)
    (K_at_cinv : PySem.W.findIn K (.ref C_ch) "__invert__" = some (some (.ref f_cinv)))
    (K_fn_cinv : PySem.W.isFn K (.ref f_cinv) = true)
    (K_l_cinv : K.lookup f_cinv = some ⟨oc_cinv, od_cinv, .func (PySem.W.fnOf "__invert__" "Chars.__invert__" (defArgs s_cinv) (defBody s_cinv) (defScope s_cinv) .none kV_cinv dc_cinv pm_cinv an_cinv cd_cinv ct_cinv), sl_cinv⟩)
    (K_c_cinv : PySem.W.codeIn K cd_cinv "Chars.__invert__" = true)
    (K_k_cinv : PySem.W.keepIn K (.ref f_cinv) = true)
    (K_at_ceq : PySem.W.findIn K (.ref C_ch) "__eq__" = some (some (.ref f_ceq)))
    (K_fn_ceq : PySem.W.isFn K (.ref f_ceq) = true)
    (K_l_ceq : K.lookup f_ceq = some ⟨oc_ceq, od_ceq, .func (PySem.W.fnOf "__eq__" "Chars.__eq__" (defArgs s_ceq) (defBody s_ceq) (defScope s_ceq) .none kV_ceq dc_ceq pm_ceq an_ceq cd_ceq ct_ceq), sl_ceq⟩)
    (K_c_ceq : PySem.W.codeIn K cd_ceq "Chars.__eq__" = true)
    (K_k_ceq : PySem.W.keepIn K (.ref f_ceq) = true)
    (K_at_cbool : PySem.W.findIn K (.ref C_ch) "__bool__" = some (some (.ref f_cbool)))
    (K_fn_cbool : PySem.W.isFn K (.ref f_cbool) = true)
    (K_l_cbool : K.lookup f_cbool = some ⟨oc_cbool, od_cbool, .func (PySem.W.fnOf "__bool__" "Chars.__bool__" (defArgs s_cbool) (defBody s_cbool) (defScope s_cbool) .none kV_cbool dc_cbool pm_cbool an_cbool cd_cbool ct_cbool), sl_cbool⟩)
    (K_c_cbool : PySem.W.codeIn K cd_cbool "Chars.__bool__" = true)
    (K_k_cbool : PySem.W.keepIn K (.ref f_cbool) = true)
    (K_at_cevery : PySem.W.findCls K (.ref C_ch) (.type "type") "every" = some (.get (.builtin "classmethod.__get__") (.ref p_cevery) .none (.ref C_ch)))
    (K_rc_cevery : PySem.W.recIn K p_cevery "classmethod" = some (.ref f_cevery :: r_cevery))
    (K_fi_cevery : PySem.W.fnIn K f_cevery = true)
    (K_l_cevery : K.lookup f_cevery = some ⟨oc_cevery, od_cevery, .func (PySem.W.fnOf "every" "Chars.every" (defArgs s_cevery) (defBody s_cevery) (defScope s_cevery) .none kV_cevery dc_cevery pm_cevery an_cevery cd_cevery ct_cevery), sl_cevery⟩)
    (K_c_cevery : PySem.W.codeIn K cd_cevery "Chars.every" = true)
    (K_k_cevery : PySem.W.keepIn K (.ref f_cevery) = true)
    (K_at_czero : PySem.W.findCls K (.ref C_ch) (.type "type") "zero_of" = some (.get (.builtin "classmethod.__get__") (.ref p_czero) .none (.ref C_ch)))
    (K_rc_czero : PySem.W.recIn K p_czero "classmethod" = some (.ref f_czero :: r_czero))
    (K_fi_czero : PySem.W.fnIn K f_czero = true)
    (K_l_czero : K.lookup f_czero = some ⟨oc_czero, od_czero, .func (PySem.W.fnOf "zero_of" "Chars.zero_of" (defArgs s_czero) (defBody s_czero) (defScope s_czero) .none kV_czero dc_czero pm_czero an_czero cd_czero ct_czero), sl_czero⟩)
    (K_c_czero : PySem.W.codeIn K cd_czero "Chars.zero_of" = true)
    (K_k_czero : PySem.W.keepIn K (.ref f_czero) = true)
    (K_at_cunit : PySem.W.findCls K (.ref C_ch) (.type "type") "unit_of" = some (.get (.builtin "classmethod.__get__") (.ref p_cunit) .none (.ref C_ch)))
    (K_rc_cunit : PySem.W.recIn K p_cunit "classmethod" = some (.ref f_cunit :: r_cunit))
    (K_fi_cunit : PySem.W.fnIn K f_cunit = true)
    (K_l_cunit : K.lookup f_cunit = some ⟨oc_cunit, od_cunit, .func (PySem.W.fnOf "unit_of" "Chars.unit_of" (defArgs s_cunit) (defBody s_cunit) (defScope s_cunit) .none kV_cunit dc_cunit pm_cunit an_cunit cd_cunit ct_cunit), sl_cunit⟩)
    (K_c_cunit : PySem.W.codeIn K cd_cunit "Chars.unit_of" = true)
    (K_k_cunit : PySem.W.keepIn K (.ref f_cunit) = true)
    (z_int : PySem.W.nsIn K mainGlobals "int" = some none)
    (z_len : PySem.W.nsIn K mainGlobals "len" = some none)
    (z_abs : PySem.W.nsIn K mainGlobals "abs" = some none)
    (z_isinstance : PySem.W.nsIn K mainGlobals "isinstance" = some none)
    (z_bool : PySem.W.nsIn K mainGlobals "bool" = some none)
    (z_tuple : PySem.W.nsIn K mainGlobals "tuple" = some none)
    (z_list : PySem.W.nsIn K mainGlobals "list" = some none)
    (z_str : PySem.W.nsIn K mainGlobals "str" = some none)
    (z_range : PySem.W.nsIn K mainGlobals "range" = some none)
    (z_max : PySem.W.nsIn K mainGlobals "max" = some none)
    (z_min : PySem.W.nsIn K mainGlobals "min" = some none)
    (z_sorted : PySem.W.nsIn K mainGlobals "sorted" = some none)
    (z_set : PySem.W.nsIn K mainGlobals "set" = some none)
    (g_isqrt : PySem.W.nsIn K mainGlobals "isqrt" = some (some (.builtin "math.isqrt")))
    (g_gcd : PySem.W.nsIn K mainGlobals "gcd" = some (some (.builtin "math.gcd"))) :
    ∃ fd : FuncData, (∀ (s : Shared) (v : Value), BindsTo s fd ⟨[v], []⟩ [("_law_script", v)]) ∧ ∀ base : Heap, K.In base → base.Ns mainGlobals mg → FnOk P w K mg base CX0 9 fa fd ["_law_script"] (spLaw K) := by
  have e := hfa.symm.trans (PySem.W.mg_of X G a_law)
  cases e
  have T : Txt mg := ⟨PySem.W.mg_none_of X G z_int, PySem.W.mg_none_of X G z_len, PySem.W.mg_none_of X G z_abs, PySem.W.mg_none_of X G z_isinstance, PySem.W.mg_none_of X G z_bool, PySem.W.mg_none_of X G z_tuple, PySem.W.mg_none_of X G z_list, PySem.W.mg_none_of X G z_str, PySem.W.mg_none_of X G z_range, PySem.W.mg_none_of X G z_max, PySem.W.mg_none_of X G z_min, PySem.W.mg_none_of X G z_sorted, PySem.W.mg_none_of X G z_set⟩
  have TF : FErr K mg CF := ⟨PySem.W.mg_of X G aF, rF, gF, iF⟩
  have F_ibn := fun_mk (st := s_ibn) l_ibn c_ibn k_ibn
  have b_ibn := F_ibn.binds (ps := ["self", "n"]) fun _ _ _ _ _ _ us hl => match us, hl with | [_, _], _ => rfl
  have E_ibn : ErrC K mg "BadNumber" "n" C_ibn f_ibn := ⟨PySem.W.mg_of X G aC_ibn, ⟨⟨_, _, _, _, _, _, _, _, _, _, _, _, _, _, _, xC_ibn, rfl⟩, sa_ibn, ec_ibn, tc_ibn, kc_ibn⟩, no_ibn, ic_ibn, ti_ibn, ⟨ga_ibn, gg_ibn, ec_ibn, hd_ibn⟩, exm_me ec_ibn is_ibn tc_ibn sc_ibn⟩
  have F_ibc := fun_mk (st := s_ibc) l_ibc c_ibc k_ibc
  have b_ibc := F_ibc.binds (ps := ["self", "p"]) fun _ _ _ _ _ _ us hl => match us, hl with | [_, _], _ => rfl
  have E_ibc : ErrC K mg "BadCharacteristic" "p" C_ibc f_ibc := ⟨PySem.W.mg_of X G aC_ibc, ⟨⟨_, _, _, _, _, _, _, _, _, _, _, _, _, _, _, xC_ibc, rfl⟩, sa_ibc, ec_ibc, tc_ibc, kc_ibc⟩, no_ibc, ic_ibc, ti_ibc, ⟨ga_ibc, gg_ibc, ec_ibc, hd_ibc⟩, exm_me ec_ibc is_ibc tc_ibc sc_ibc⟩
  have TC : ChT K mg C_ch := ⟨PySem.W.mg_of X G K_aK, ⟨K_pg, K_hd, K_po, K_sa⟩, K_no_endless, K_no_primes, K_sf, ⟨⟨K_pg, K_hd, K_po, K_sa⟩, K_ha, K_hn, K_htk, K_hm, if_pos (beq_self_eq_true _)⟩⟩
  have F_cinit := fun_mk (st := s_cinit) K_l_cinit K_c_cinit K_k_cinit
  have b_cinit := F_cinit.binds (ps := ["self", "endless", "primes"]) fun _ _ _ _ _ _ us hl => match us, hl with | [_, _, _], _ => rfl
  have F_ccont := fun_mk (st := s_ccont) K_l_ccont K_c_ccont K_k_ccont
  have b_ccont := F_ccont.binds (ps := ["self", "p"]) fun _ _ _ _ _ _ us hl => match us, hl with | [_, _], _ => rfl
  have M_ccont : Meth K C_ch "__contains__" f_ccont := ⟨K_at_ccont, K_fn_ccont, K_k_ccont⟩
  have F_cand := fun_mk (st := s_cand) K_l_cand K_c_cand K_k_cand
  have b_cand := F_cand.binds (ps := ["self", "other"]) fun _ _ _ _ _ _ us hl => match us, hl with | [_, _], _ => rfl
  have M_cand : Meth K C_ch "__and__" f_cand := ⟨K_at_cand, K_fn_cand, K_k_cand⟩
  have F_cor := fun_mk (st := s_cor) K_l_cor K_c_cor K_k_cor
  have b_cor := F_cor.binds (ps := ["self", "other"]) fun _ _ _ _ _ _ us hl => match us, hl with | [_, _], _ => rfl
  have M_cor : Meth K C_ch "__or__" f_cor := ⟨K_at_cor, K_fn_cor, K_k_cor⟩
  have F_cinv := fun_mk (st := s_cinv) K_l_cinv K_c_cinv K_k_cinv
  have b_cinv := F_cinv.binds (ps := ["self"]) fun _ _ _ _ _ _ us hl => match us, hl with | [_], _ => rfl
  have M_cinv : Meth K C_ch "__invert__" f_cinv := ⟨K_at_cinv, K_fn_cinv, K_k_cinv⟩
  have F_ceq := fun_mk (st := s_ceq) K_l_ceq K_c_ceq K_k_ceq
  have b_ceq := F_ceq.binds (ps := ["self", "other"]) fun _ _ _ _ _ _ us hl => match us, hl with | [_, _], _ => rfl
  have M_ceq : Meth K C_ch "__eq__" f_ceq := ⟨K_at_ceq, K_fn_ceq, K_k_ceq⟩
  have F_cbool := fun_mk (st := s_cbool) K_l_cbool K_c_cbool K_k_cbool
  have b_cbool := F_cbool.binds (ps := ["self"]) fun _ _ _ _ _ _ us hl => match us, hl with | [_], _ => rfl
  have M_cbool : Meth K C_ch "__bool__" f_cbool := ⟨K_at_cbool, K_fn_cbool, K_k_cbool⟩
  have F_cevery := fun_mk (st := s_cevery) K_l_cevery K_c_cevery K_k_cevery
  have b_cevery := F_cevery.binds (ps := ["cls"]) fun _ _ _ _ _ _ us hl => match us, hl with | [_], _ => rfl
  have M_cevery : ClX.CMet K C_ch (.type "type") "every" p_cevery f_cevery := ⟨K_at_cevery, ⟨_, K_rc_cevery⟩, K_fi_cevery⟩
  have F_czero := fun_mk (st := s_czero) K_l_czero K_c_czero K_k_czero
  have b_czero := F_czero.binds (ps := ["cls", "n"]) fun _ _ _ _ _ _ us hl => match us, hl with | [_, _], _ => rfl
  have M_czero : ClX.CMet K C_ch (.type "type") "zero_of" p_czero f_czero := ⟨K_at_czero, ⟨_, K_rc_czero⟩, K_fi_czero⟩
  have F_cunit := fun_mk (st := s_cunit) K_l_cunit K_c_cunit K_k_cunit
  have b_cunit := F_cunit.binds (ps := ["cls", "n"]) fun _ _ _ _ _ _ us hl => match us, hl with | [_, _], _ => rfl
  have M_cunit : ClX.CMet K C_ch (.type "type") "unit_of" p_cunit f_cunit := ⟨K_at_cunit, ⟨_, K_rc_cunit⟩, K_fi_cunit⟩
  have CR : ClX.CRead K C_ch (.type "type") := ⟨K_rd, K_sg⟩
  have F_least := fun_mk (st := s_least) l_least c_least k_least
  have b_least := F_least.binds (ps := ["n"]) fun _ _ _ _ _ _ us hl => match us, hl with | [_], _ => rfl
  have F_prime := fun_mk (st := s_prime) l_prime c_prime k_prime
  have b_prime := F_prime.binds (ps := ["n"]) fun _ _ _ _ _ _ us hl => match us, hl with | [_], _ => rfl
  have F_divs := fun_mk (st := s_divs) l_divs c_divs k_divs
  have b_divs := F_divs.binds (ps := ["n"]) fun _ _ _ _ _ _ us hl => match us, hl with | [_], _ => rfl
  have F_chkp := fun_mk (st := s_chkp) l_chkp c_chkp k_chkp
  have b_chkp := F_chkp.binds (ps := ["p"]) fun _ _ _ _ _ _ us hl => match us, hl with | [_], _ => rfl
  have F_checked := fun_mk (st := s_checked) l_checked c_checked k_checked
  have b_checked := F_checked.binds (ps := ["p"]) fun _ _ _ _ _ _ us hl => match us, hl with | [_], _ => rfl
  have F_rem := fun_mk (st := s_rem) l_rem c_rem k_rem
  have b_rem := F_rem.binds (ps := ["n", "p"]) fun _ _ _ _ _ _ us hl => match us, hl with | [_, _], _ => rfl
  have F_zero := fun_mk (st := s_zero) l_zero c_zero k_zero
  have b_zero := F_zero.binds (ps := ["n", "p"]) fun _ _ _ _ _ _ us hl => match us, hl with | [_, _], _ => rfl
  have F_common := fun_mk (st := s_common) l_common c_common k_common
  have b_common := F_common.binds (ps := ["a", "b"]) fun _ _ _ _ _ _ us hl => match us, hl with | [_, _], _ => rfl
  have F_pool := fun_mk (st := s_pool) l_pool c_pool k_pool
  have b_pool := F_pool.binds (ps := ["_law_cell_here"]) fun _ _ _ _ _ _ us hl => match us, hl with | [_], _ => rfl
  have F_take := fun_mk (st := s_take) l_take c_take k_take
  have b_take := F_take.binds (ps := ["_law_pool_here", "_law_limit"]) fun _ _ _ _ _ _ us hl => match us, hl with | [_, _], _ => rfl
  have F_cell := fun_mk (st := s_cell) l_cell c_cell k_cell
  have b_cell := F_cell.binds (ps := ["_law_script", "_law_k"]) fun _ _ _ _ _ _ us hl => match us, hl with | [_, _], _ => rfl
  have F_lprime := fun_mk (st := s_lprime) l_lprime c_lprime k_lprime
  have b_lprime := F_lprime.binds (ps := ["_law_n"]) fun _ _ _ _ _ _ us hl => match us, hl with | [_], _ => rfl
  have F_number := fun_mk (st := s_number) l_number c_number k_number
  have b_number := F_number.binds (ps := ["_law_pool_here"]) fun _ _ _ _ _ _ us hl => match us, hl with | [_], _ => rfl
  have F_law := fun_mk (st := s_law) l_law c_law k_law
  have m_isqrt := PySem.W.mg_of X G g_isqrt
  have m_gcd := PySem.W.mg_of X G g_gcd
  refine ⟨PySem.W.fnOf "law" "law" (defArgs s_law) (defBody s_law) (defScope s_law) .none kV_law dc_law pm_law an_law cd_law ct_law, fun s v => .of_eq rfl, fun base _ _ => ?_⟩
  have x_ibn : Er P w K mg base "BadNumber" "n" C_ibn := ⟨_, _, _, E_ibn, ok_ibn TF E_ibn.oex E_ibn.no F_ibn, b_ibn⟩
  have x_ibc : Er P w K mg base "BadCharacteristic" "p" C_ibc := ⟨_, _, _, E_ibc, ok_ibc TF E_ibc.oex E_ibc.no F_ibc, b_ibc⟩
  have d_least : Cl P w K mg base CX0 1 "_least_divisor" spLeast := ⟨_, _, _, ok_least T m_isqrt F_least, PySem.W.mg_of X G a_least, k_least, b_least⟩
  have d_prime : Cl P w K mg base CX0 2 "is_prime" spPrime := ⟨_, _, _, ok_prime F_prime d_least, PySem.W.mg_of X G a_prime, k_prime, b_prime⟩
  have d_divs : Cl P w K mg base (L2N.CX P w) 3 "prime_divisors" (spDivs C_ibn) := ⟨_, _, _, ok_divs T F_divs d_least x_ibn, PySem.W.mg_of X G a_divs, k_divs, b_divs⟩
  have d_chkp : Cl P w K mg base (L2.CX P w) 3 "checked_prime" (spChkp C_ibc) := ⟨_, _, _, ok_chkp F_chkp d_prime x_ibc, PySem.W.mg_of X G a_chkp, k_chkp, b_chkp⟩
  have d_checked : Cl P w K mg base (L2.CX P w) 4 "checked" (spChecked C_ibc) := ⟨_, _, _, ok_checked F_checked d_chkp, PySem.W.mg_of X G a_checked, k_checked, b_checked⟩
  have d_rem : Cl P w K mg base CX0 1 "remainder" spRem0 := ⟨_, _, _, ok_rem0 F_rem, PySem.W.mg_of X G a_rem, k_rem, b_rem⟩
  have d_zero : Cl P w K mg base (L2.CX P w) 5 "is_zero" (spZero C_ibc) := ⟨_, _, _, ok_zero F_zero d_checked d_rem, PySem.W.mg_of X G a_zero, k_zero, b_zero⟩
  have d_common : Cl P w K mg base CX0 1 "common" spCommon := ⟨_, _, _, ok_common m_gcd F_common, PySem.W.mg_of X G a_common, k_common, b_common⟩
  have d_pool : Cl P w K mg base CX0 1 "_law_pool" spPool := ⟨_, _, _, ok_pool F_pool, PySem.W.mg_of X G a_pool, k_pool, b_pool⟩
  have d_take : Cl P w K mg base CX0 1 "_law_take" spTake := ⟨_, _, _, ok_take T F_take, PySem.W.mg_of X G a_take, k_take, b_take⟩
  have d_cell : Cl P w K mg base CX0 1 "_law_cell" (spCellL K) := ⟨_, _, _, ok_cell T F_cell, PySem.W.mg_of X G a_cell, k_cell, b_cell⟩
  have d_lprime : Cl P w K mg base CX0 1 "_law_is_prime" spPrime := ⟨_, _, _, ok_lprime F_lprime, PySem.W.mg_of X G a_lprime, k_lprime, b_lprime⟩
  have d_number : Cl P w K mg base CX0 3 "_law_number" spNum23 := ⟨_, _, _, ok_number T F_number d_take, PySem.W.mg_of X G a_number, k_number, b_number⟩
  have c_cit : Ma P w K mg base 3 C_ch (spCI C_ch C_ibc true K) := ⟨_, _, _, ⟨K_mk, K_at_cinit, K_fn_cinit, K_kp⟩, ok_cinit true T TC F_cinit d_prime x_ibc, b_cinit⟩
  have c_cil : Ma P w K mg base 3 C_ch (spCI C_ch C_ibc false K) := ⟨_, _, _, ⟨K_mk, K_at_cinit, K_fn_cinit, K_kp⟩, ok_cinit false T TC F_cinit d_prime x_ibc, b_cinit⟩
  have m_cont : Me P w K mg base 1 C_ch "__contains__" (spCont C_ch) := ⟨_, _, _, M_ccont, ok_ccont TC F_ccont, b_ccont⟩
  have m_inv : Me P w K mg base 5 C_ch "__invert__" (spInv C_ch) := ⟨_, _, _, M_cinv, ok_cinv TC F_cinv c_cit, b_cinv⟩
  have m_and : Me P w K mg base 5 C_ch "__and__" (spAnd C_ch and) := ⟨_, _, _, M_cand, ok_cand TC F_cand c_cit c_cil m_cont, b_cand⟩
  have m_or : Me P w K mg base 5 C_ch "__or__" (spAnd C_ch or) := ⟨_, _, _, M_cor, ok_cor TC F_cor c_cit c_cil m_cont, b_cor⟩
  have m_eq : Me P w K mg base 1 C_ch "__eq__" (spCeq C_ch) := ⟨_, _, _, M_ceq, ok_ceq T TC F_ceq, b_ceq⟩
  have m_bool : Me P w K mg base 1 C_ch "__bool__" (spCbool C_ch) := ⟨_, _, _, M_cbool, ok_cbool T TC F_cbool, b_cbool⟩
  have m_every : Cm P w K mg base 5 C_ch "every" (spCevery C_ch true) := ⟨_, _, _, _, _, CR, M_cevery, ok_cevery TC F_cevery c_cit, b_cevery⟩
  have m_zero : Cm P w K mg base 6 C_ch "zero_of" (spCzero C_ch false) := ⟨_, _, _, _, _, CR, M_czero, ok_czero TC F_czero c_cil m_every d_divs, b_czero⟩
  have m_unit : Cm P w K mg base 7 C_ch "unit_of" (spCzero C_ch true) := ⟨_, _, _, _, _, CR, M_cunit, ok_cunit F_cunit m_zero m_inv, b_cunit⟩
  exact ok_law (fI := f_ibc) (CB := C_ibc) T TC F_law d_pool d_cell d_number d_lprime d_common d_zero m_every m_zero m_unit m_cont m_and m_or m_inv m_eq m_bool
theorem walk {l : PySem.W.OpenLaw} {q : Program} {loose : List Str} {XP : (Str → Option Value) → Heap → Prop} {YP : World → Heap → Prop} {d : DefRec} {K : Params → PySem.W.Frag} (hn : l.most = some 63) (hdf : d.params.defaults = [])
    (hY : ∀ (w : World) (h : Heap), YP w h → (K w.params).In h)
    (F : ∀ (w : World) (mg : Str → Option Value) (fa : Addr) (h : Heap), (K w.params).In h → h.Ns mainGlobals mg → mg d.name = some (.ref fa) →
      ∃ fd : FuncData, (∀ (s : Shared) (u : Value), BindsTo s fd ⟨[u], []⟩ [("_law_script", u)]) ∧ ∀ base : Heap, (K w.params).In base → base.Ns mainGlobals mg → FnOk l.prog w (K w.params) mg base CX0 9 fa fd ["_law_script"] (spLaw (K w.params))) :
    PySem.W.WalkO q loose XP YP l.row.toRowW d [] (fun f vs => PySem.call f vs) :=
  L2.walk_of (n := 63) (k := 9) (x := "_law_script") (CX := fun _ => CX0) (sp := fun w => spLaw (K w.params)) hn (by decide) hdf ⟨rfl, by decide, by decide⟩ hY F (fun _ _ a ns hl _ hS => ⟨a, ns, rfl, hS, hl, fun _ => rfl⟩) fun _ _ _ _ _ z => z
end My
open PySem PySem.W PyProof.Rows
set_option maxRecDepth 100000 in
set_option maxHeartbeats 0 in
theorem PySem.Challenge.cw_everyfield_k23_characteristics_of_number_holds : PySem.Challenge.rw_everyfield_k23_characteristics_of_number.Holds := by
  w_on; o_law; k_head; (case hw => w_witness2)
  k_fill
  refine My.walk (l := PySem.Challenge.rw_everyfield_k23_characteristics_of_number) rfl rfl (fun w h Y => PySem.W.kIn_of Y) ?F
  case F =>
    intro w mg fa h KX G hmg
    refine' My.all_mk KX G hmg ?a_least ?l_least ?c_least ?k_least ?a_prime ?l_prime ?c_prime ?k_prime ?a_divs ?l_divs ?c_divs ?k_divs ?a_chkp ?l_chkp ?c_chkp ?k_chkp ?a_checked ?l_checked ?c_checked ?k_checked ?a_rem ?l_rem ?c_rem ?k_rem ?a_zero ?l_zero ?c_zero ?k_zero ?a_common ?l_common ?c_common ?k_common ?a_pool ?l_pool ?c_pool ?k_pool ?a_take ?l_take ?c_take ?k_take ?a_cell ?l_cell ?c_cell ?k_cell ?a_lprime ?l_lprime ?c_lprime ?k_lprime ?a_number ?l_number ?c_number ?k_number ?a_law ?l_law ?c_law ?k_law ?aF ?rF ?gF ?iF ?aC_ibn ?xC_ibn ?sa_ibn ?ga_ibn ?gg_ibn ?no_ibn ?ic_ibn ?ti_ibn ?kc_ibn ?ec_ibn ?tc_ibn ?hd_ibn ?is_ibn ?sc_ibn ?l_ibn ?c_ibn ?k_ibn ?aC_ibc ?xC_ibc ?sa_ibc ?ga_ibc ?gg_ibc ?no_ibc ?ic_ibc ?ti_ibc ?kc_ibc ?ec_ibc ?tc_ibc ?hd_ibc ?is_ibc ?sc_ibc ?l_ibc ?c_ibc ?k_ibc ?K_aK ?K_pg ?K_hd ?K_po ?K_sa ?K_sf ?K_ha ?K_hn ?K_htk ?K_hm ?K_mk ?K_kp ?K_no_endless ?K_no_primes ?K_rd ?K_sg ?K_at_cinit ?K_fn_cinit ?K_l_cinit ?K_c_cinit ?K_k_cinit ?K_at_ccont ?K_fn_ccont ?K_l_ccont ?K_c_ccont ?K_k_ccont ?K_at_cand ?K_fn_cand ?K_l_cand ?K_c_cand ?K_k_cand ?K_at_cor ?K_fn_cor ?K_l_cor ?K_c_cor ?K_k_cor ?K_at_cinv ?K_fn_cinv ?K_l_cinv ?K_c_cinv ?K_k_cinv ?K_at_ceq ?K_fn_ceq ?K_l_ceq ?K_c_ceq ?K_k_ceq ?K_at_cbool ?K_fn_cbool ?K_l_cbool ?K_c_cbool ?K_k_cbool ?K_at_cevery ?K_rc_cevery ?K_fi_cevery ?K_l_cevery ?K_c_cevery ?K_k_cevery ?K_at_czero ?K_rc_czero ?K_fi_czero ?K_l_czero ?K_c_czero ?K_k_czero ?K_at_cunit ?K_rc_cunit ?K_fi_cunit ?K_l_cunit ?K_c_cunit ?K_k_cunit ?z_int ?z_len ?z_abs ?z_isinstance ?z_bool ?z_tuple ?z_list ?z_str ?z_range ?z_max ?z_min ?z_sorted ?z_set ?g_isqrt ?g_gcd
    (case a_least => k_is)
    (case l_least => k_is)
    (case c_least => k_is)
    (case k_least => k_is)
    (case a_prime => k_is)
    (case l_prime => k_is)
    (case c_prime => k_is)
    (case k_prime => k_is)
    (case a_divs => k_is)
    (case l_divs => k_is)
    (case c_divs => k_is)
    (case k_divs => k_is)
    (case a_chkp => k_is)
    (case l_chkp => k_is)
    (case c_chkp => k_is)
    (case k_chkp => k_is)
    (case a_checked => k_is)
    (case l_checked => k_is)
    (case c_checked => k_is)
    (case k_checked => k_is)
    (case a_rem => k_is)
    (case l_rem => k_is)
    (case c_rem => k_is)
    (case k_rem => k_is)
    (case a_zero => k_is)
    (case l_zero => k_is)
    (case c_zero => k_is)
    (case k_zero => k_is)
    (case a_common => k_is)
    (case l_common => k_is)
    (case c_common => k_is)
    (case k_common => k_is)
    (case a_pool => k_is)
    (case l_pool => k_is)
    (case c_pool => k_is)
    (case k_pool => k_is)
    (case a_take => k_is)
    (case l_take => k_is)
    (case c_take => k_is)
    (case k_take => k_is)
    (case a_cell => k_is)
    (case l_cell => k_is)
    (case c_cell => k_is)
    (case k_cell => k_is)
    (case a_lprime => k_is)
    (case l_lprime => k_is)
    (case c_lprime => k_is)
    (case k_lprime => k_is)
    (case a_number => k_is)
    (case l_number => k_is)
    (case c_number => k_is)
    (case k_number => k_is)
    (case a_law => k_is)
    (case l_law => k_is)
    (case c_law => k_is)
    (case k_law => k_is)
    (case aF => k_is)
    (case rF => k_is)
    (case gF => k_is)
    (case iF => k_is)
    (case aC_ibn => k_is)
    (case xC_ibn => k_is)
    (case sa_ibn => k_is)
    (case ga_ibn => k_is)
    (case gg_ibn => k_is)
    (case no_ibn => k_is)
    (case ic_ibn => k_is)
    (case ti_ibn => k_is)
    (case kc_ibn => k_is)
    (case ec_ibn => k_is)
    (case tc_ibn => k_is)
    (case hd_ibn => k_is)
    (case is_ibn => k_is)
    (case sc_ibn => k_is)
    (case l_ibn => k_is)
    (case c_ibn => k_is)
    (case k_ibn => k_is)
    (case aC_ibc => k_is)
    (case xC_ibc => k_is)
    (case sa_ibc => k_is)
    (case ga_ibc => k_is)
    (case gg_ibc => k_is)
    (case no_ibc => k_is)
    (case ic_ibc => k_is)
    (case ti_ibc => k_is)
    (case kc_ibc => k_is)
    (case ec_ibc => k_is)
    (case tc_ibc => k_is)
    (case hd_ibc => k_is)
    (case is_ibc => k_is)
    (case sc_ibc => k_is)
    (case l_ibc => k_is)
    (case c_ibc => k_is)
    (case k_ibc => k_is)
    (case K_aK => k_is)
    (case K_pg => k_is)
    (case K_hd => k_is)
    (case K_po => k_is)
    (case K_sa => k_is)
    (case K_sf => k_is)
    (case K_ha => k_is)
    (case K_hn => k_is)
    (case K_htk => k_is)
    (case K_hm => k_is)
    (case K_mk => k_is)
    (case K_kp => k_is)
    (case K_no_endless => k_is)
    (case K_no_primes => k_is)
    (case K_rd => k_is)
    (case K_sg => k_is)
    (case K_at_cinit => k_is)
    (case K_fn_cinit => k_is)
    (case K_l_cinit => k_is)
    (case K_c_cinit => k_is)
    (case K_k_cinit => k_is)
    (case K_at_ccont => k_is)
    (case K_fn_ccont => k_is)
    (case K_l_ccont => k_is)
    (case K_c_ccont => k_is)
    (case K_k_ccont => k_is)
    (case K_at_cand => k_is)
    (case K_fn_cand => k_is)
    (case K_l_cand => k_is)
    (case K_c_cand => k_is)
    (case K_k_cand => k_is)
    (case K_at_cor => k_is)
    (case K_fn_cor => k_is)
    (case K_l_cor => k_is)
    (case K_c_cor => k_is)
    (case K_k_cor => k_is)
    (case K_at_cinv => k_is)
    (case K_fn_cinv => k_is)
    (case K_l_cinv => k_is)
    (case K_c_cinv => k_is)
    (case K_k_cinv => k_is)
    (case K_at_ceq => k_is)
    (case K_fn_ceq => k_is)
    (case K_l_ceq => k_is)
    (case K_c_ceq => k_is)
    (case K_k_ceq => k_is)
    (case K_at_cbool => k_is)
    (case K_fn_cbool => k_is)
    (case K_l_cbool => k_is)
    (case K_c_cbool => k_is)
    (case K_k_cbool => k_is)
    (case K_at_cevery => k_is)
    (case K_rc_cevery => k_is)
    (case K_fi_cevery => k_is)
    (case K_l_cevery => k_is)
    (case K_c_cevery => k_is)
    (case K_k_cevery => k_is)
    (case K_at_czero => k_is)
    (case K_rc_czero => k_is)
    (case K_fi_czero => k_is)
    (case K_l_czero => k_is)
    (case K_c_czero => k_is)
    (case K_k_czero => k_is)
    (case K_at_cunit => k_is)
    (case K_rc_cunit => k_is)
    (case K_fi_cunit => k_is)
    (case K_l_cunit => k_is)
    (case K_c_cunit => k_is)
    (case K_k_cunit => k_is)
    (case z_int => k_is)
    (case z_len => k_is)
    (case z_abs => k_is)
    (case z_isinstance => k_is)
    (case z_bool => k_is)
    (case z_tuple => k_is)
    (case z_list => k_is)
    (case z_str => k_is)
    (case z_range => k_is)
    (case z_max => k_is)
    (case z_min => k_is)
    (case z_sorted => k_is)
    (case z_set => k_is)
    (case g_isqrt => k_is)
    (case g_gcd => k_is)
